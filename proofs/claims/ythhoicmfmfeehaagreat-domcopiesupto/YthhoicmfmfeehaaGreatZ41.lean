/-
  What stays true: templates, shadow roots, putting in, taking out, attributes, data, gifts (pure).
  Set and Drop: both documents' tests are the same one; what the program's refuse.
  Each call does the same to both documents.
  Each call does the same to both documents: Root, Give, Make.
  The statements' own Within.
  Does: what comes ahead of each call (both documents beside a box of one's own).
-/
import Derived.Test.YthhoicmfmfeehaaGreatZ38
import Derived.Test.YthhoicmfmfeehaaGreatZ31
import Derived.Test.YthhoicmfmfeehaaGreatZ22
import Derived.Test.YthhoicmfmfeehaaGreatZ30
import Derived.Test.YthhoicmfmfeehaaGreatZ40
import Derived.Test.YthhoicmfmfeehaaGreatZ29
import Derived.Test.YthhoicmfmfeehaaGreatZ35
import Derived.Test.YthhoicmfmfeehaaGreatZ34
namespace Go.Proofs.YthhoicmfmfeehaaGreat
open Go.RowKit
set_option linter.unusedVariables false
/-- A node n, the last, has a host now; that has it. -/
theorem Core.hosts {M M' : Dm} (h : Core M) {k j : Nat} (hk : k < M.n) (hj : j < M.n) (hjk : j ≠ k) (hj0 : j ≠ 0) (e1 : M'.n = M.n) (e2 : ∀ i, i < M.n → i ≠ k → i ≠ j → M'.nd i = M.nd i) (e3 : ∀ i, (M'.pl i).up = (M.pl i).up) (hup : (M.pl j).up = -1) (hno : (M.nd j).host = -1)
    (hk1 : (M.nd k).kind = 1) (hc : ((M.nd j).kind = 4 ∧ (M.nd k).content = -1 ∧ M'.nd k = { M.nd k with content := (j : Int) } ∧ M'.nd j = { M.nd j with host := (k : Int) })) : Core M' := by
  obtain ⟨c1, c2, c3, c4⟩ := hc
  have low : ∀ i, i < M'.n → i = k ∨ i = j ∨ (i < M.n ∧ i ≠ k ∧ i ≠ j) := fun i hi => by rw [e1] at hi; omega
  have kd : ∀ i, i < M.n → (M'.nd i).kind = (M.nd i).kind := fun i hi => by
    rcases low i (by rw [e1]; exact hi) with rfl | rfl | ⟨h1, h2, h3⟩
    · rw [c3]
    · rw [c4]
    · rw [e2 i h1 h2 h3]
  have sh : ∀ i, i < M.n → (M'.nd i).shadow = (M.nd i).shadow := fun i hi => by
    rcases low i (by rw [e1]; exact hi) with rfl | rfl | ⟨h1, h2, h3⟩
    · rw [c3]
    · rw [c4]
    · rw [e2 i h1 h2 h3]
  have ho : ∀ i, i < M.n → i ≠ j → (M'.nd i).host = (M.nd i).host := fun i hi hij => by
    rcases low i (by rw [e1]; exact hi) with rfl | rfl | ⟨h1, h2, h3⟩
    · rw [c3]
    · exact absurd rfl hij
    · rw [e2 i h1 h2 h3]
  have co : ∀ i, i < M.n → i ≠ k → (M'.nd i).content = (M.nd i).content := fun i hi hij => by
    rcases low i (by rw [e1]; exact hi) with rfl | rfl | ⟨h1, h2, h3⟩
    · exact absurd rfl hij
    · rw [c4]
    · rw [e2 i h1 h2 h3]
  refine ⟨by rw [e1]; exact h.pos, fun i hi hki => ?_, fun i hi hki => ?_, fun i hi => ?_, fun i hi => ?_, fun i hi => ?_⟩
  · rw [e1] at hi
    rw [kd i hi] at hki
    have := h.el i hi hki
    rcases low i (by rw [e1]; exact hi) with rfl | rfl | ⟨h1, h2, h3⟩
    · rw [c3]; exact this
    · rw [c4]; exact this
    · rw [e2 i h1 h2 h3]; exact this
  · rw [e1] at hi
    rw [kd i hi] at hki
    have := h.oth i hi hki
    rcases low i (by rw [e1]; exact hi) with rfl | rfl | ⟨h1, h2, h3⟩
    · rw [c3]; exact this
    · rw [c4]; exact this
    · rw [e2 i h1 h2 h3]; exact this
  · rw [e1] at hi
    by_cases cj : i = j
    · subst cj
      refine .inr ⟨k, by rw [e1]; exact hk, by rw [c4], by rw [e3]; exact hup, hj0, .inr ⟨by rw [kd i hi]; exact c1, by rw [c3]⟩⟩
    · rw [ho i hi cj, kd i hi]
      rcases h.host i hi with h1 | ⟨u, hu, h1, h2, h3, h4⟩
      · exact .inl h1
      · refine .inr ⟨u, by rw [e1]; exact hu, h1, by rw [e3]; exact h2, h3, ?_⟩
        rw [sh u hu]
        rcases h4 with h4 | ⟨h4, h5⟩
        · exact .inl h4
        · by_cases cu : u = k
          · subst cu; rw [c2] at h5; omega
          · exact .inr ⟨h4, by rw [co u hu cu]; exact h5⟩
  · rw [e1] at hi
    rw [sh i hi, kd i hi]
    rcases h.shad i hi with h1 | ⟨q, hq, h1, h2, h3, h4⟩
    · exact .inl h1
    · refine .inr ⟨q, by rw [e1]; exact hq, h1, h2, by rw [kd q hq]; exact h3, ?_⟩
      by_cases cq : q = j
      · subst cq; rw [c1] at h3; omega
      · rw [ho q hq cq]; exact h4
  · rw [e1] at hi
    by_cases ck : i = k
    · subst ck
      exact .inr ⟨j, by rw [e1]; exact hj, by rw [c3], by rw [kd i hi]; exact hk1, by rw [kd j hj]; exact c1, by rw [c4]⟩
    · rw [co i hi ck, kd i hi]
      rcases h.cont i hi with h1 | ⟨q, hq, h1, h2, h3, h4⟩
      · exact .inl h1
      · refine .inr ⟨q, by rw [e1]; exact hq, h1, h2, by rw [kd q hq]; exact h3, ?_⟩
        by_cases cq : q = j
        · subst cq; rw [hno] at h4; omega
        · rw [ho q hq cq]; exact h4
theorem addT_n (M : Dm) (x : Nd) : (M.addT x).n = M.n + 2 := rfl
theorem addT_pl (M : Dm) (x : Nd) : (M.addT x).pl = ((M.add x).add frag0).pl := rfl
theorem addT_gf (M : Dm) (x : Nd) : (M.addT x).gf = ((M.add x).add frag0).gf := rfl
theorem addT_old (M : Dm) (x : Nd) {k : Nat} (h1 : k ≠ M.n) (h2 : k ≠ M.n + 1) : (M.addT x).nd k = ((M.add x).add frag0).nd k := by
  unfold Dm.addT
  rw [setN_ne _ _ h2, setN_ne _ _ h1]
theorem addT_t (M : Dm) (x : Nd) : (M.addT x).nd M.n = { ((M.add x).add frag0).nd M.n with content := ((M.n + 1 : Nat) : Int) } := by
  unfold Dm.addT
  rw [setN_ne _ _ (by omega), setN_same]
theorem addT_c (M : Dm) (x : Nd) : (M.addT x).nd (M.n + 1) = { ((M.add x).add frag0).nd (M.n + 1) with host := (M.n : Int) } := by
  unfold Dm.addT
  rw [setN_same, setN_ne _ _ (by omega)]
theorem frag_ok : MkOk frag0 := ⟨by decide, fun e => absurd e (by decide), fun _ => rfl⟩
theorem parI_eq {M M' : Dm} {k : Nat} (h1 : (M'.pl k).up = (M.pl k).up) (h2 : (M'.nd k).host = (M.nd k).host) : parI M' k = parI M k := by
  unfold parI
  rw [h1, h2]
theorem Inv.addT {M : Dm} {R G : Nat → List Nat} {rk : Nat → Nat} (h : Inv M R G rk) (x : Nd) (hx : MkOk x) (hk : x.kind = 1) : ∃ rk', Inv (M.addT x) (updR (updR R M.n []) (M.n + 1) []) (updR (updR G M.n []) (M.n + 1) []) rk' := by
  have h1 := h.add x hx hx.few
  have h2 := h1.add frag0 frag_ok (Nat.zero_le _)
  have n1 : (M.add x).n = M.n + 1 := rfl
  rw [n1] at h2
  have nt : ((M.add x).add frag0).nd M.n = x.new := by rw [add_nd_old _ _ (by rw [n1]; omega), add_nd_new]
  have nc : ((M.add x).add frag0).nd (M.n + 1) = frag0.new := add_nd_new (M.add x) frag0
  have pc : ((M.add x).add frag0).pl (M.n + 1) = Lk.nil := add_pl_new (M.add x) frag0
  have hn2 : ((M.add x).add frag0).n = M.n + 2 := rfl
  refine ⟨fun k => if k = M.n + 1 then rk M.n + 1 else rk k, ?_, ⟨h2.good.wf, ?_, ?_⟩, h2.gw⟩
  · refine h2.core.hosts (k := M.n) (j := M.n + 1) (by rw [hn2]; omega) (by rw [hn2]; omega) (by omega) (by omega) rfl (fun i hi hi1 hi2 => addT_old M x hi1 hi2) (fun i => rfl) (by rw [pc]; rfl) (by rw [nc]; rfl) (by rw [nt]; exact hk) ⟨by rw [nc]; rfl, by rw [nt]; rfl, addT_t M x, addT_c M x⟩
  · intro k hk'
    have hk2 : k < M.n + 2 := hk'
    by_cases c : k = M.n + 1
    · subst c
      refine .inr ⟨M.n, by show M.n < M.n + 2; omega, ?_, ?_⟩
      · unfold parI
        rw [addT_pl, pc, addT_c]
        rfl
      · show (if M.n = M.n + 1 then _ else rk M.n) < if M.n + 1 = M.n + 1 then rk M.n + 1 else _
        rw [if_neg (by omega), if_pos rfl]
        omega
    · have e : parI (M.addT x) k = parI ((M.add x).add frag0) k := parI_eq rfl (by
        by_cases c2 : k = M.n
        · subst c2; rw [addT_t]
        · rw [addT_old M x c2 c])
      rw [e]
      rcases h2.good.acy k hk' with h3 | ⟨m, hm, h3, h4⟩
      · exact .inl h3
      · refine .inr ⟨m, hm, h3, ?_⟩
        show (if m = M.n + 1 then _ else rk m) < if k = M.n + 1 then _ else rk k
        rw [if_neg c]
        by_cases cm : m = M.n + 1
        · exfalso
          subst cm
          -- nothing is in what was made last
          have hkk : k < M.n + 1 := by omega
          have hpar : parI ((M.add x).add frag0) k = parI (M.add x) k := add_par hkk
          rw [hpar] at h3
          rcases h1.good.acy k hkk with h5 | ⟨m', hm', h5, h6⟩
          · omega
          · have : m' < M.n + 1 := hm'
            omega
        · rw [if_neg cm]; exact h4
  · intro i hi
    have hi2 : i < M.n + 2 := hi
    have := h2.good.few i hi
    by_cases c : i = M.n + 1
    · subst c; rw [addT_c]; exact this
    · by_cases c2 : i = M.n
      · subst c2; rw [addT_t]; exact this
      · rw [addT_old M x c2 c]; exact this
theorem Inv.addR {M : Dm} {R G : Nat → List Nat} {rk : Nat → Nat} (h : Inv M R G rk) {host : Nat} (f : Fg) (hh : host < M.n) (hk : (M.nd host).kind = 1) (hs : (M.nd host).shadow = -1) : ∃ rk', Inv (M.addR host f) (updR R M.n []) (updR G M.n []) rk' := by
  have hne : host ≠ M.n := by omega
  have hn : (M.addR host f).n = M.n + 1 := rfl
  have old : ∀ i, i < M.n → i ≠ host → (M.addR host f).nd i = M.nd i := fun i hi hi2 => addR_old M host f (by omega) hi2
  have pold : ∀ i, i < M.n → ((M.addR host f).pl i) = M.pl i := fun i hi => updL_ne _ _ (by omega)
  have pnew : (M.addR host f).pl M.n = Lk.nil := updL_same _ _ _
  have hot : (M.addR host f).nd host = { M.nd host with shadow := (M.n : Int) } := addR_host M host f hne
  have new : (M.addR host f).nd M.n = { (shN f).new with host := (host : Int) } := addR_new M host f hne
  have low : ∀ i, i < (M.addR host f).n → i = M.n ∨ i = host ∨ (i < M.n ∧ i ≠ host) := fun i hi => by rw [hn] at hi; omega
  have kd : ∀ i, i < M.n → ((M.addR host f).nd i).kind = (M.nd i).kind := fun i hi => by
    by_cases c : i = host
    · subst c; rw [hot]
    · rw [old i hi c]
  have ho : ∀ i, i < M.n → ((M.addR host f).nd i).host = (M.nd i).host := fun i hi => by
    by_cases c : i = host
    · subst c; rw [hot]
    · rw [old i hi c]
  have co : ∀ i, i < M.n → ((M.addR host f).nd i).content = (M.nd i).content := fun i hi => by
    by_cases c : i = host
    · subst c; rw [hot]
    · rw [old i hi c]
  have at0 : ∀ i, i < M.n → ((M.addR host f).nd i).attrs = (M.nd i).attrs := fun i hi => by
    by_cases c : i = host
    · subst c; rw [hot]
    · rw [old i hi c]
  have nm : ∀ i, i < M.n → ((M.addR host f).nd i).name = (M.nd i).name := fun i hi => by
    by_cases c : i = host
    · subst c; rw [hot]
    · rw [old i hi c]
  have lo : ∀ i, i < (M.addR host f).n → i = M.n ∨ i < M.n := fun i hi => by rw [hn] at hi; omega
  refine ⟨fun k => if k = M.n then rk host + 1 else rk k, ⟨by rw [hn]; omega, fun i hi hki => ?_, fun i hi hki => ?_, fun i hi => ?_, fun i hi => ?_, fun i hi => ?_⟩, ⟨h.good.wf.more _ (fun k hk => updL_ne _ _ (by omega)) (updL_same _ _ _), fun k hk' => ?_, fun i hi => ?_⟩, h.gw.more _ (fun k hk => updL_ne _ _ (by omega)) (updL_same _ _ _)⟩
  · rcases lo i hi with rfl | h1
    · rw [new] at hki; cases hki
    · rw [kd i h1] at hki; rw [nm i h1, at0 i h1]; exact h.core.el i h1 hki
  · rcases lo i hi with rfl | h1
    · rw [new]; rfl
    · rw [kd i h1] at hki; rw [at0 i h1]; exact h.core.oth i h1 hki
  · rcases lo i hi with rfl | h1
    · refine .inr ⟨host, by rw [hn]; omega, by rw [new], by rw [pnew]; rfl, by have := h.core.pos; omega, .inl ⟨by rw [new]; rfl, by rw [hot]⟩⟩
    · rw [ho i h1, kd i h1, pold i h1]
      rcases h.core.host i h1 with h3 | ⟨u, hu, h3, h4, h5, h6⟩
      · exact .inl h3
      · refine .inr ⟨u, by rw [hn]; omega, h3, h4, h5, ?_⟩
        rw [co u hu]
        rcases h6 with ⟨h6, h7⟩ | h6
        · by_cases c : u = host
          · subst c; rw [hs] at h7; omega
          · exact .inl ⟨h6, by rw [old u hu c]; exact h7⟩
        · exact .inr h6
  · rcases lo i hi with rfl | h1
    · rw [new]; exact .inl rfl
    · by_cases c : i = host
      · subst c
        exact .inr ⟨M.n, by rw [hn]; omega, by rw [hot], by rw [kd i h1]; exact hk, by rw [new]; rfl, by rw [new]⟩
      · rw [old i h1 c]
        rcases h.core.shad i h1 with h3 | ⟨q, hq, h3, h4, h5, h6⟩
        · exact .inl h3
        · exact .inr ⟨q, by rw [hn]; omega, h3, h4, by rw [kd q hq]; exact h5, by rw [ho q hq]; exact h6⟩
  · rcases lo i hi with rfl | h1
    · rw [new]; exact .inl rfl
    · rw [co i h1, kd i h1]
      rcases h.core.cont i h1 with h3 | ⟨q, hq, h3, h4, h5, h6⟩
      · exact .inl h3
      · exact .inr ⟨q, by rw [hn]; omega, h3, h4, by rw [kd q hq]; exact h5, by rw [ho q hq]; exact h6⟩
  · rcases lo k hk' with rfl | h1
    · refine .inr ⟨host, by rw [hn]; omega, ?_, ?_⟩
      · unfold parI
        rw [pnew, new]
        rfl
      · show (if host = M.n then _ else rk host) < if M.n = M.n then rk host + 1 else _
        rw [if_neg hne, if_pos rfl]
        omega
    · have e : parI (M.addR host f) k = parI M k := parI_eq (by rw [pold k h1]) (ho k h1)
      rw [e]
      rcases h.good.acy k h1 with h3 | ⟨m, hm, h3, h4⟩
      · exact .inl h3
      · refine .inr ⟨m, by rw [hn]; omega, h3, ?_⟩
        show (if m = M.n then _ else rk m) < if k = M.n then _ else rk k
        rw [if_neg (by omega), if_neg (by omega)]
        exact h4
  · rcases lo i hi with rfl | h1
    · rw [new]; exact Nat.zero_le _
    · rw [at0 i h1]; exact h.good.few i h1
theorem Inv.ins {M : Dm} {R G : Nat → List Nat} {rk : Nat → Nat} (h : Inv M R G rk) {up i : Nat} {bef : Int} (hu : up < M.n) (hi : i < M.n) (hF : Fits M up i bef) : ∃ rk', Inv (M.setP (putD M R up i bef)) (putDR M R up i bef) G rk' := by
  obtain ⟨rk', hg⟩ := h.good.ins hu hi hF
  refine ⟨rk', h.core.congr rfl (fun _ _ => rfl) (fun k hk hho hup => ?_), hg, h.gw⟩
  have hmv := (h.core.move hi).1 hF.2.1
  show (putD M R up i bef k).up = -1
  unfold putD
  by_cases c : (M.nd i).kind = 4
  · rw [if_pos c]
    obtain ⟨h1, h2⟩ := puts_up up bef (R i) M.pl k
    rw [h1 (fun hm => by have := h.good.wf.up hi hm; omega)]
    exact hup
  · rw [if_neg c]
    have hki : k ≠ i := fun e => by
      subst e
      rcases h.core.host k hk with ⟨h1, -⟩ | ⟨u, -, h1, -⟩
      · exact hho h1
      · omega
    rw [put_up hki]
    exact hup
theorem Inv.out {M : Dm} {R G : Nat → List Nat} {rk : Nat → Nat} (h : Inv M R G rk) {i : Nat} (hi : i < M.n) : Inv (M.setP (outL M.pl i)) (outR M.pl R i) G rk := by
  have hup : ∀ k, k ≠ i → (outL M.pl i k).up = (M.pl k).up := fun k hk => out_upne hk
  refine ⟨h.core.congr rfl (fun _ _ => rfl) (fun k hk hho hu => ?_), ⟨h.good.wf.out hi, fun k hk => ?_, h.good.few⟩, h.gw⟩
  · show (outL M.pl i k).up = -1
    by_cases c : k = i
    · subst c; exact out_up
    · rw [hup k c]; exact hu
  · by_cases c : k = i
    · subst c
      have hp : parI (M.setP (outL M.pl k)) k = (M.nd k).host := by
        unfold parI
        rw [if_pos (show ((M.setP (outL M.pl k)).pl k).up = -1 from out_up)]
        rfl
      rw [hp]
      rcases h.core.host k hk with ⟨h1, -⟩ | ⟨u, hu, h1, h2, -⟩
      · exact .inl h1
      · have : parI M k = (u : Int) := by unfold parI; rw [if_pos h2]; exact h1
        rcases h.good.acy k hk with h3 | ⟨m, hm, h3, h4⟩
        · omega
        · exact .inr ⟨m, hm, by omega, h4⟩
    · have : parI (M.setP (outL M.pl i)) k = parI M k := parI_setP (hup k c)
      rw [this]
      exact h.good.acy k hk
/-- Attributes or data of one node change. -/
theorem Inv.setN {M : Dm} {R G : Nat → List Nat} {rk : Nat → Nat} (h : Inv M R G rk) {i : Nat} (hi : i < M.n) {x : Nd} (e1 : x.kind = (M.nd i).kind) (e2 : x.name = (M.nd i).name) (e3 : x.shadow = (M.nd i).shadow) (e4 : x.host = (M.nd i).host) (e5 : x.content = (M.nd i).content) (h1 : x.kind = 1 → soundA x.attrs = true) (h2 : x.kind ≠ 1 → x.attrs = []) : Inv (M.setN i x) R G rk := by
  have kd : ∀ k, ((M.setN i x).nd k).kind = (M.nd k).kind := fun k => by
    by_cases c : k = i
    · subst c; rw [setN_same]; exact e1
    · rw [setN_ne _ _ c]
  have sh : ∀ k, ((M.setN i x).nd k).shadow = (M.nd k).shadow := fun k => by
    by_cases c : k = i
    · subst c; rw [setN_same]; exact e3
    · rw [setN_ne _ _ c]
  have ho : ∀ k, ((M.setN i x).nd k).host = (M.nd k).host := fun k => by
    by_cases c : k = i
    · subst c; rw [setN_same]; exact e4
    · rw [setN_ne _ _ c]
  have co : ∀ k, ((M.setN i x).nd k).content = (M.nd k).content := fun k => by
    by_cases c : k = i
    · subst c; rw [setN_same]; exact e5
    · rw [setN_ne _ _ c]
  have few : x.attrs.length ≤ 1000 := by
    by_cases c : x.kind = 1
    · have := soundA_few (h1 c); omega
    · rw [h2 c]; exact Nat.zero_le _
  refine ⟨⟨h.core.pos, fun k hk hkk => ?_, fun k hk hkk => ?_, fun k hk => ?_, fun k hk => ?_, fun k hk => ?_⟩, ⟨h.good.wf, fun k hk => ?_, fun k hk => ?_⟩, h.gw⟩
  · by_cases c : k = i
    · subst c
      rw [setN_same] at hkk ⊢
      exact ⟨by rw [e2]; exact (h.core.el k hk (by rw [← e1]; exact hkk)).1, h1 hkk⟩
    · rw [setN_ne _ _ c] at hkk ⊢; exact h.core.el k hk hkk
  · by_cases c : k = i
    · subst c
      rw [setN_same] at hkk ⊢
      exact h2 hkk
    · rw [setN_ne _ _ c] at hkk ⊢; exact h.core.oth k hk hkk
  · rw [kd, ho]
    rcases h.core.host k hk with h3 | ⟨u, hu, h3, h4, h5, h6⟩
    · exact .inl h3
    · exact .inr ⟨u, hu, h3, h4, h5, by rw [sh, co]; exact h6⟩
  · rw [kd, sh]
    rcases h.core.shad k hk with h3 | ⟨q, hq, h3, h4, h5⟩
    · exact .inl h3
    · exact .inr ⟨q, hq, h3, h4, by rw [kd, ho]; exact h5⟩
  · rw [kd, co]
    rcases h.core.cont k hk with h3 | ⟨q, hq, h3, h4, h5⟩
    · exact .inl h3
    · exact .inr ⟨q, hq, h3, h4, by rw [kd, ho]; exact h5⟩
  · have : parI (M.setN i x) k = parI M k := parI_eq rfl (ho k)
    rw [this]
    exact h.good.acy k hk
  · by_cases c : k = i
    · subst c; rw [setN_same]; exact few
    · rw [setN_ne _ _ c]; exact h.good.few k hk
theorem Inv.setG {M : Dm} {R G G' : Nat → List Nat} {rk : Nat → Nat} {L : Nat → Lk} (h : Inv M R G rk) (hw : WF M.n L G') : Inv (M.setG L) R G' rk :=
  ⟨h.core.congr rfl (fun _ _ => rfl) (fun _ _ _ hu => hu), ⟨h.good.wf, h.good.acy, h.good.few⟩, hw⟩
end Go.Proofs.YthhoicmfmfeehaaGreat

namespace Go.Proofs.YthhoicmfmfeehaaGreat
open Go.RowKit
set_option linter.unusedVariables false
theorem allW_setk : ∀ (l : List Atr) (L : List (List UInt8)) (k : Nat) (h : k < l.length) (a : Atr), l[k].name = a.name → allW L l = true → allW L (l.set k a) = writP a
  | x :: r, L, 0, h, a, he, hw => by
    have he : x.name = a.name := he
    simp only [allW, Bool.and_eq_true] at hw
    simp only [List.set_cons_zero, allW]
    rw [← he, hw.2, hw.1.2]
    simp
  | x :: r, L, k + 1, h, a, he, hw => by
    simp only [allW, Bool.and_eq_true] at hw
    simp only [List.set_cons_succ, allW]
    rw [allW_setk r _ k (by simpa using h) a he hw.2, hw.1.1, hw.1.2]
    simp
theorem allW_snoc : ∀ (l : List Atr) (L : List (List UInt8)) (a : Atr), (∀ x ∈ l, x.name ≠ a.name) → ¬ a.name ∈ L → allW L l = true → allW L (l ++ [a]) = writP a
  | [], L, a, hn, hL, hw => by
    simp only [List.nil_append, allW]
    simp [hL]
  | x :: r, L, a, hn, hL, hw => by
    simp only [allW, Bool.and_eq_true] at hw
    simp only [List.cons_append, allW]
    rw [allW_snoc r _ a (fun y hy => hn y (List.mem_cons_of_mem _ hy)) (fun hm => by
      rcases List.mem_cons.1 hm with hm | hm
      · exact hn x (List.mem_cons_self ..) hm.symm
      · exact hL hm) hw.2, hw.1.1, hw.1.2]
    simp
theorem allW_less : ∀ (l : List Atr) (L L' : List (List UInt8)), (∀ n, n ∈ L' → n ∈ L) → allW L l = true → allW L' l = true
  | [], _, _, _, _ => rfl
  | x :: r, L, L', hs, hw => by
    simp only [allW, Bool.and_eq_true] at hw ⊢
    refine ⟨⟨hw.1.1, ?_⟩, allW_less r _ _ (fun n hn => ?_) hw.2⟩
    · have h2 := hw.1.2
      simp at h2 ⊢
      exact fun hm => h2 (hs _ hm)
    · rcases List.mem_cons.1 hn with hn | hn
      · exact hn ▸ List.mem_cons_self ..
      · exact List.mem_cons_of_mem _ (hs n hn)
theorem allW_erase : ∀ (l : List Atr) (L : List (List UInt8)) (k : Nat), allW L l = true → allW L (l.eraseIdx k) = true
  | [], _, _, _ => rfl
  | x :: r, L, 0, hw => by
    simp only [allW, Bool.and_eq_true] at hw
    rw [List.eraseIdx_cons_zero]
    exact allW_less r _ _ (fun n hn => List.mem_cons_of_mem _ hn) hw.2
  | x :: r, L, k + 1, hw => by
    simp only [allW, Bool.and_eq_true] at hw
    rw [List.eraseIdx_cons_succ]
    simp only [allW, Bool.and_eq_true]
    exact ⟨hw.1, allW_erase r _ k hw.2⟩
theorem soundA_erase {l : List Atr} (h : soundA l = true) (k : Nat) : soundA (l.eraseIdx k) = true := by
  unfold soundA at h ⊢
  simp only [Bool.and_eq_true, decide_eq_true_eq] at h ⊢
  exact ⟨Nat.le_trans (List.length_eraseIdx_le ..) h.1, allW_erase l [] k h.2⟩
theorem soundA_set {l : List Atr} (h : soundA l = true) (a : Atr) {z : Int} (hz : FindA l a.name z) : soundA (setA l a) = (writP a && !(decide (z = -1) && decide (50 ≤ l.length))) := by
  have hl := soundA_few h
  have hw : allW [] l = true := by
    unfold soundA at h
    simp only [Bool.and_eq_true] at h
    exact h.2
  cases hz with
  | no hn =>
    rw [setA_no l a hn]
    unfold soundA
    rw [allW_snoc l [] a hn (by simp) hw, List.length_append, List.length_singleton]
    by_cases c : 50 ≤ l.length
    · rw [decide_eq_false (by omega), decide_eq_true c]; simp
    · rw [decide_eq_true (by omega), decide_eq_false c]; simp
  | @yes k hk e ha =>
    rw [setA_at l a k hk e ha]
    unfold soundA
    rw [allW_setk l [] k hk a e hw, List.length_set, decide_eq_true hl, decide_eq_false (show ¬ ((k : Int) = -1) by omega)]
    simp
theorem soundL_el {nm : List UInt8} (hv : validP nm = true) (l : List Atr) : soundL [⟨0, 1, nm, l, []⟩] = soundA l := by
  unfold soundL
  simp [soundP, kindP, hv]
/-- What refuses: not there, or no element. -/
def elemZ (M : Dm) (i : Int) : Int := if 0 ≤ i ∧ i < (M.n : Int) then (if (M.nd i.toNat).kind = 1 then 0 else 81) else 80
theorem element_no (K : Nat → Prop) (p : Nat) (M : Dm) (i : Int) (w : World) (h : DX K w p M) (hn : M.n ≤ 1000000) (z : Int) (hz : elemZ M i = z) (h0 : z ≠ 0) :
    Calls Tryz.prog 68 #[.pointer (some ⟨p, 0, none⟩), .int .i64 i, .int .u16 81] w fun e w' => e = .returned (.tuple #[.pointer none, .int .u16 z]) ∧ w' = w := by
  obtain ⟨ga, cap, hY⟩ := h
  unfold elemZ at hz
  by_cases hi : 0 ≤ i ∧ i < (M.n : Int)
  · rw [if_pos hi] at hz
    obtain ⟨k, rfl⟩ : ∃ k : Nat, i = (k : Int) := ⟨i.toNat, by omega⟩
    rw [Int.toNat_natCast] at hz
    have hk : k < M.n := by omega
    by_cases c : (M.nd k).kind = 1
    · rw [if_pos c] at hz; exact absurd hz.symm h0
    · rw [if_neg c] at hz
      subst hz
      obtain ⟨g, rfl, -, -, -⟩ := hY.at (by omega)
      obtain ⟨aa, ac, hc, -⟩ := hY.cell hk
      exact element_other p g M.n cap k _ 81 w hY.c1 hk (by omega) c (hc 0 _ rfl)
  · rw [if_neg hi] at hz
    subst hz
    exact element_none p M.n cap ga i 81 w hY.c1 (by omega) (by omega)
set_option maxRecDepth 20000 in
theorem set_no (K : Nat → Prop) (p : Nat) (M : Dm) (i : Int) (S T : ByteArray) (w : World) (h : DX K w p M) (hn : M.n ≤ 1000000) (z : Int) (hz : elemZ M i = z) (h0 : z ≠ 0) :
    Calls Tryz.prog 26 #[.pointer (some ⟨p, 0, none⟩), .int .i64 i, .string S, .string T] w fun e w' => e = .returned (.int .u16 z) ∧ w' = w := by
  have re := element_no K p M i w h hn z hz h0
  have z0 : (z != 0) = true := by simpa using h0
  clear h hz
  go_enter Tryz.func26, Tryz.ntmps26
  go_wp2_with (go_at_call 68; refine re.mono ?_; rintro e1 w3 ⟨rfl, hw3⟩; replace hw3 := hw3.symm; subst hw3)
  go_ret
  exact ⟨rfl, rfl⟩
set_option maxRecDepth 20000 in
theorem drop_no (K : Nat → Prop) (p : Nat) (M : Dm) (i : Int) (S : ByteArray) (w : World) (h : DX K w p M) (hn : M.n ≤ 1000000) (z : Int) (hz : elemZ M i = z) (h0 : z ≠ 0) :
    Calls Tryz.prog 27 #[.pointer (some ⟨p, 0, none⟩), .int .i64 i, .string S] w fun e w' => e = .returned (.int .u16 z) ∧ w' = w := by
  have re := element_no K p M i w h hn z hz h0
  have z0 : (z != 0) = true := by simpa using h0
  clear h hz
  go_enter Tryz.func27, Tryz.ntmps27
  go_wp2_with (go_at_call 68; refine re.mono ?_; rintro e1 w3 ⟨rfl, hw3⟩; replace hw3 := hw3.symm; subst hw3)
  go_ret
  exact ⟨rfl, rfl⟩
end Go.Proofs.YthhoicmfmfeehaaGreat

namespace Go.Proofs.YthhoicmfmfeehaaGreat
open Go.RowKit
set_option linter.unusedVariables false
/-- What no call undoes. -/
structure Grows (M M' : Dm) : Prop where
  n : M.n ≤ M'.n
  limit : M'.limit = M.limit
  le : M.n ≤ M.limit → M'.n ≤ M'.limit
  kind : ∀ i, i < M.n → (M'.nd i).kind = (M.nd i).kind
  name : ∀ i, i < M.n → (M'.nd i).name = (M.nd i).name
  host : ∀ i, i < M.n → (M'.nd i).host = (M.nd i).host
  cont : ∀ i, i < M.n → (M'.nd i).content = (M.nd i).content
  shad : ∀ i, i < M.n → (M.nd i).shadow ≠ -1 → (M'.nd i).shadow = (M.nd i).shadow
theorem Grows.refl (M : Dm) : Grows M M := ⟨Nat.le_refl _, rfl, fun h => h, fun _ _ => rfl, fun _ _ => rfl, fun _ _ => rfl, fun _ _ => rfl, fun _ _ _ => rfl⟩
theorem Grows.trans {M M' M'' : Dm} (h : Grows M M') (g : Grows M' M'') : Grows M M'' := by
  have hn := h.n
  refine ⟨Nat.le_trans h.n g.n, g.limit.trans h.limit, fun hh => g.le (h.le hh), fun i hi => (g.kind i (by omega)).trans (h.kind i hi), fun i hi => (g.name i (by omega)).trans (h.name i hi), fun i hi => (g.host i (by omega)).trans (h.host i hi), fun i hi => (g.cont i (by omega)).trans (h.cont i hi), fun i hi hs => ?_⟩
  have e := h.shad i hi hs
  rw [g.shad i (by omega) (by rw [e]; exact hs), e]
theorem Grows.same {M M' : Dm} (e1 : M'.n = M.n) (e2 : M'.limit = M.limit) (e3 : ∀ i, M'.nd i = M.nd i) : Grows M M' :=
  ⟨by rw [e1]; exact Nat.le_refl _, e2, fun h => by rw [e1, e2]; exact h, fun i _ => by rw [e3], fun i _ => by rw [e3], fun i _ => by rw [e3], fun i _ => by rw [e3], fun i _ _ => by rw [e3]⟩
theorem Grows.setN {M : Dm} {i : Nat} {x : Nd} (e1 : x.kind = (M.nd i).kind) (e2 : x.name = (M.nd i).name) (e3 : x.shadow = (M.nd i).shadow) (e4 : x.host = (M.nd i).host) (e5 : x.content = (M.nd i).content) : Grows M (M.setN i x) := by
  refine ⟨Nat.le_refl _, rfl, fun h => h, fun k _ => ?_, fun k _ => ?_, fun k _ => ?_, fun k _ => ?_, fun k _ _ => ?_⟩ <;> (by_cases c : k = i)
  · subst c; rw [setN_same]; exact e1
  · rw [setN_ne _ _ c]
  · subst c; rw [setN_same]; exact e2
  · rw [setN_ne _ _ c]
  · subst c; rw [setN_same]; exact e4
  · rw [setN_ne _ _ c]
  · subst c; rw [setN_same]; exact e5
  · rw [setN_ne _ _ c]
  · subst c; rw [setN_same]; exact e3
  · rw [setN_ne _ _ c]
theorem int_nat {i : Int} {n : Nat} (h : ¬ (i < 0 ∨ (n : Int) ≤ i)) : ∃ k : Nat, k < n ∧ i = (k : Int) := ⟨i.toNat, by omega, by omega⟩
theorem Inv.hn {M : Dm} {R G : Nat → List Nat} {rk : Nat → Nat} (h : Inv M R G rk) {u : Nat} (hu : u < M.n) : (R u).length ≤ M.n := h.good.wf.len_le hu
theorem Inv.ups {M : Dm} {R G : Nat → List Nat} {rk : Nat → Nat} (h : Inv M R G rk) {i : Nat} (hi : i < M.n) : (M.pl i).up = -1 ∨ ∃ u : Nat, u < M.n ∧ (M.pl i).up = (u : Int) := by
  rcases h.good.wf.inn i hi with e | ⟨u, hu, e, -⟩
  · exact .inl e
  · exact .inr ⟨u, hu, e⟩
section
variable {M : Dm} {R G : Nat → List Nat} {rk : Nat → Nat}
theorem both_ins (hI : Inv M R G rk) (hn : M.n ≤ 100000) (up i bef : Int) : ∃ z M' R' rk', Inv M' R' G rk' ∧ Grows M M' ∧ (z = 0 ∨ (M' = M ∧ R' = R)) ∧ (0 ≤ z ∧ z ≤ 200) ∧
    (∀ K w p, DX K w p M → Calls Tryz.prog 23 #[.pointer (some ⟨p, 0, none⟩), .int .i64 up, .int .i64 i, .int .i64 bef] w fun e w' => e = .returned (.int .u16 z) ∧ DX K w' p M' ∧ Kept K w w') ∧
    (∀ K w p, RX K w p M R G → Calls Tryz.prog 40 #[.pointer (some ⟨p, 0, none⟩), .int .i64 up, .int .i64 i, .int .i64 bef] w fun e w' => e = .returned (.int .i64 z) ∧ RX K w' p M' R' G ∧ Kept K w w') := by
  by_cases hno : (up < 0 ∨ (M.n : Int) ≤ up) ∨ (i < 0 ∨ (M.n : Int) ≤ i) ∨ (bef ≠ -1 ∧ (bef < 0 ∨ (M.n : Int) ≤ bef))
  · refine ⟨80, M, R, rk, hI, .refl M, .inr ⟨rfl, rfl⟩, ⟨by decide, by decide⟩, fun K w p h => (insert_none K p M up i bef w h (by omega) hno).mono ?_, fun K w p h => (rins_none K p M R G up i bef w h hno).mono ?_⟩
    · rintro e w' ⟨rfl, rfl⟩; exact ⟨rfl, h, Kept.refl _ _⟩
    · rintro e w' ⟨rfl, rfl⟩; exact ⟨rfl, h, Kept.refl _ _⟩
  · obtain ⟨u, hu, rfl⟩ := int_nat (i := up) (n := M.n) (fun h => hno (.inl h))
    obtain ⟨k, hk, rfl⟩ := int_nat (i := i) (n := M.n) (fun h => hno (.inr (.inl h)))
    have hb : bef = -1 ∨ ∃ m : Nat, m < M.n ∧ bef = (m : Int) := by
      by_cases c : bef = -1
      · exact .inl c
      · obtain ⟨m, hm, e⟩ := int_nat (i := bef) (n := M.n) (fun h => hno (.inr (.inr ⟨c, h⟩)))
        exact .inr ⟨m, hm, e⟩
    by_cases hF : Fits M u k bef
    · obtain ⟨rk', hI'⟩ := hI.ins hu hk hF
      refine ⟨0, _, _, rk', hI', .same rfl rfl (fun _ => rfl), .inl rfl, ⟨by decide, by decide⟩, fun K w p h => (insert_in K p u k bef M R rk w h hI.good.wf hI.good.acy hu hk hb (by omega)).mono ?_, fun K w p h => (rinsert_in K p u k bef M R G rk w h hI.good.wf hI.good.acy hu hk hb (by omega) (hI.core.move hk)).mono ?_⟩
      · rintro e w' ⟨hK, ⟨-, c, -⟩ | ⟨rfl, -, hX⟩⟩
        · exact absurd hF c
        · exact ⟨rfl, hX, hK⟩
      · rintro e w' ⟨hK, ⟨-, c, -⟩ | ⟨rfl, -, hX⟩⟩
        · exact absurd hF c
        · exact ⟨rfl, hX, hK⟩
    · refine ⟨81, M, R, rk, hI, .refl M, .inr ⟨rfl, rfl⟩, ⟨by decide, by decide⟩, fun K w p h => (insert_in K p u k bef M R rk w h hI.good.wf hI.good.acy hu hk hb (by omega)).mono ?_, fun K w p h => (rinsert_in K p u k bef M R G rk w h hI.good.wf hI.good.acy hu hk hb (by omega) (hI.core.move hk)).mono ?_⟩
      · rintro e w' ⟨hK, ⟨rfl, -, hX⟩ | ⟨-, c, -⟩⟩
        · exact ⟨rfl, hX, hK⟩
        · exact absurd c hF
      · rintro e w' ⟨hK, ⟨rfl, -, hX⟩ | ⟨-, c, -⟩⟩
        · exact ⟨rfl, hX, hK⟩
        · exact absurd c hF
theorem both_rem (hI : Inv M R G rk) (hn : M.n ≤ 100000) (i : Int) : ∃ z M' R' rk', Inv M' R' G rk' ∧ Grows M M' ∧ (z = 0 ∨ (M' = M ∧ R' = R)) ∧ (0 ≤ z ∧ z ≤ 200) ∧
    (∀ K w p, DX K w p M → Calls Tryz.prog 24 #[.pointer (some ⟨p, 0, none⟩), .int .i64 i] w fun e w' => e = .returned (.int .u16 z) ∧ DX K w' p M' ∧ Kept K w w') ∧
    (∀ K w p, RX K w p M R G → Calls Tryz.prog 41 #[.pointer (some ⟨p, 0, none⟩), .int .i64 i] w fun e w' => e = .returned (.int .i64 z) ∧ RX K w' p M' R' G ∧ Kept K w w') := by
  by_cases hno : i < 0 ∨ (M.n : Int) ≤ i
  · refine ⟨80, M, R, rk, hI, .refl M, .inr ⟨rfl, rfl⟩, ⟨by decide, by decide⟩, fun K w p h => (remove_none K p M i w h hno (by omega)).mono ?_, fun K w p h => (rremove_none K p M R G i w h hno).mono ?_⟩
    · rintro e w' ⟨rfl, rfl⟩; exact ⟨rfl, h, Kept.refl _ _⟩
    · rintro e w' ⟨rfl, rfl⟩; exact ⟨rfl, h, Kept.refl _ _⟩
  · obtain ⟨k, hk, rfl⟩ := int_nat hno
    have hrl : ∀ u, u < M.n → (R u).length ≤ 1000000 := fun u hu => by have := hI.hn hu; omega
    by_cases c : (M.pl k).up = -1
    · refine ⟨81, M, R, rk, hI, .refl M, .inr ⟨rfl, rfl⟩, ⟨by decide, by decide⟩, fun K w p h => (remove_in K p k M R w h hI.good.wf hk (by omega)).mono ?_, fun K w p h => (rremove_in K p k M R G w h hk (by omega) (hI.ups hk) hrl).mono ?_⟩
      · rintro e w' ⟨hK, ⟨-, rfl, hX⟩ | ⟨c', -, -⟩⟩
        · exact ⟨rfl, hX, hK⟩
        · exact absurd c c'
      · rintro e w' ⟨hK, ⟨-, rfl, hX⟩ | ⟨c', -, -⟩⟩
        · exact ⟨rfl, hX, hK⟩
        · exact absurd c c'
    · refine ⟨0, _, _, rk, hI.out hk, .same rfl rfl (fun _ => rfl), .inl rfl, ⟨by decide, by decide⟩, fun K w p h => (remove_in K p k M R w h hI.good.wf hk (by omega)).mono ?_, fun K w p h => (rremove_in K p k M R G w h hk (by omega) (hI.ups hk) hrl).mono ?_⟩
      · rintro e w' ⟨hK, ⟨c', -, -⟩ | ⟨-, rfl, hX⟩⟩
        · exact absurd c' c
        · exact ⟨rfl, hX, hK⟩
      · rintro e w' ⟨hK, ⟨c', -, -⟩ | ⟨-, rfl, hX⟩⟩
        · exact absurd c' c
        · exact ⟨rfl, RX.out hI.good.wf hk hX, hK⟩
theorem both_write (hI : Inv M R G rk) (hn : M.n ≤ 100000) (i : Int) (S : ByteArray) : ∃ z M' rk', Inv M' R G rk' ∧ Grows M M' ∧ (z = 0 ∨ M' = M) ∧ (0 ≤ z ∧ z ≤ 200) ∧
    (∀ K w p, DX K w p M → Calls Tryz.prog 45 #[.pointer (some ⟨p, 0, none⟩), .int .i64 i, .string S] w fun e w' => e = .returned (.int .u16 z) ∧ DX K w' p M' ∧ Kept K w w') ∧
    (∀ K w p, RX K w p M R G → Calls Tryz.prog 46 #[.pointer (some ⟨p, 0, none⟩), .int .i64 i, .string S] w fun e w' => e = .returned (.int .i64 z) ∧ RX K w' p M' R G ∧ Kept K w w') := by
  by_cases hno : i < 0 ∨ (M.n : Int) ≤ i
  · refine ⟨80, M, rk, hI, .refl M, .inr rfl, ⟨by decide, by decide⟩, fun K w p h => (write_none K p M i S w h hno (by omega)).mono ?_, fun K w p h => (rwrite_none K p M R G i S w h hno).mono ?_⟩
    · rintro e w' ⟨rfl, rfl⟩; exact ⟨rfl, h, Kept.refl _ _⟩
    · rintro e w' ⟨rfl, rfl⟩; exact ⟨rfl, h, Kept.refl _ _⟩
  · obtain ⟨k, hk, rfl⟩ := int_nat hno
    by_cases c : (M.nd k).kind = 2 ∨ (M.nd k).kind = 3
    · refine ⟨0, M.setN k { M.nd k with data := S.toList }, rk, hI.setN hk rfl rfl rfl rfl rfl (fun e => (hI.core.el k hk e).2) (fun e => hI.core.oth k hk e), .setN rfl rfl rfl rfl rfl, .inl rfl, ⟨by decide, by decide⟩, fun K w p h => (write_in K p k M S w h hk (by omega)).mono ?_, fun K w p h => (rwrite_in K p k M R G S w h hk (by omega)).mono ?_⟩
      · rintro e w' ⟨hK, ⟨⟨c1, c2⟩, -, -⟩ | ⟨-, rfl, hX⟩⟩
        · rcases c with c | c
          · exact absurd c c1
          · exact absurd c c2
        · exact ⟨rfl, hX, hK⟩
      · rintro e w' ⟨hK, ⟨⟨c1, c2⟩, -, -⟩ | ⟨-, rfl, hX⟩⟩
        · rcases c with c | c
          · exact absurd c c1
          · exact absurd c c2
        · exact ⟨rfl, hX, hK⟩
    · refine ⟨81, M, rk, hI, .refl M, .inr rfl, ⟨by decide, by decide⟩, fun K w p h => (write_in K p k M S w h hk (by omega)).mono ?_, fun K w p h => (rwrite_in K p k M R G S w h hk (by omega)).mono ?_⟩
      · rintro e w' ⟨hK, ⟨-, rfl, hX⟩ | ⟨c', -, -⟩⟩
        · exact ⟨rfl, hX, hK⟩
        · exact absurd c' c
      · rintro e w' ⟨hK, ⟨-, rfl, hX⟩ | ⟨c', -, -⟩⟩
        · exact ⟨rfl, hX, hK⟩
        · exact absurd c' c
theorem elemZ_le (M : Dm) (i : Int) : 0 ≤ elemZ M i ∧ elemZ M i ≤ 200 := by
  unfold elemZ
  split
  · split <;> decide
  · decide
theorem elemZ_in {k : Nat} (hk : k < M.n) (h1 : (M.nd k).kind = 1) : elemZ M (k : Int) = 0 := by
  unfold elemZ
  rw [if_pos (by omega), Int.toNat_natCast, if_pos h1]
theorem elemZ_ok {i : Int} (h : elemZ M i = 0) : ∃ k : Nat, k < M.n ∧ i = (k : Int) ∧ (M.nd k).kind = 1 := by
  unfold elemZ at h
  by_cases c : 0 ≤ i ∧ i < (M.n : Int)
  · rw [if_pos c] at h
    refine ⟨i.toNat, by omega, by omega, ?_⟩
    by_cases c2 : (M.nd i.toNat).kind = 1
    · exact c2
    · rw [if_neg c2] at h; cases h
  · rw [if_neg c] at h; cases h
theorem both_set (hI : Inv M R G rk) (hn : M.n ≤ 100000) (i : Int) (S T : ByteArray) (hS : S.size < 1000000) (hT : T.size < 1000000) : ∃ z M' rk', Inv M' R G rk' ∧ Grows M M' ∧ (z = 0 ∨ M' = M) ∧ (0 ≤ z ∧ z ≤ 200) ∧
    (∀ K w p, DX K w p M → Calls Tryz.prog 26 #[.pointer (some ⟨p, 0, none⟩), .int .i64 i, .string S, .string T] w fun e w' => e = .returned (.int .u16 z) ∧ DX K w' p M' ∧ Kept K w w') ∧
    (∀ K w p, RX K w p M R G → Calls Tryz.prog 43 #[.pointer (some ⟨p, 0, none⟩), .int .i64 i, .string S, .string T] w fun e w' => e = .returned (.int .i64 z) ∧ RX K w' p M' R G ∧ Kept K w w') := by
  by_cases h0 : elemZ M i = 0
  · obtain ⟨k, hk, rfl, hk1⟩ := elemZ_ok h0
    obtain ⟨zf, hzf⟩ := FindA.ex (M.nd k).attrs S.toList
    have hs := (hI.core.el k hk hk1).2
    have hv := (hI.core.el k hk hk1).1
    have hfew := hI.core.few hk
    have hiff := soundA_set hs ⟨S.toList, T.toList⟩ hzf
    have hsz : ∀ x ∈ (M.nd k).attrs, x.name.length ≤ 1000000000 ∧ x.value.length ≤ 1000000000 := fun x hx => by have := hI.core.atr hk x hx; omega
    have pd := fun K w p h => set_in K p k M S T w h hk (by omega) hk1 (by omega) hsz (by omega) (by omega)
    rw [soundL_el hv] at pd
    obtain ⟨q, hq⟩ : ∃ q, writP ⟨S.toList, T.toList⟩ = q := ⟨_, rfl⟩
    rw [hq] at hiff
    by_cases hb : q = true ∧ (zf = -1 → (M.nd k).attrs.length < 50)
    · have hgood : soundA (setA (M.nd k).attrs ⟨S.toList, T.toList⟩) = true := by
        rw [hiff, hb.1]
        by_cases c : zf = -1
        · have := hb.2 c
          rw [decide_eq_false (by omega : ¬ 50 ≤ (M.nd k).attrs.length)]; simp
        · rw [decide_eq_false c]; rfl
      refine ⟨0, M.setN k { M.nd k with attrs := setA (M.nd k).attrs ⟨S.toList, T.toList⟩ }, rk, hI.setN hk rfl rfl rfl rfl rfl (fun _ => hgood) (fun e => absurd hk1 e), .setN rfl rfl rfl rfl rfl, .inl rfl, ⟨by decide, by decide⟩, fun K w p h => (pd K w p h).mono ?_, fun K w p h => (rset_good K p k M R G S T w h hk (by omega) hk1 (by omega) hS zf hzf q hq hb.1 hb.2).mono ?_⟩
      · rintro e w' ⟨⟨-, rfl, hX⟩ | ⟨c, -, -⟩, hK⟩
        · exact ⟨rfl, hX, hK⟩
        · rw [hgood] at c; cases c
      · rintro e w' ⟨rfl, hK, hX⟩
        exact ⟨rfl, hX, hK⟩
    · have hb' : q = false ∨ (zf = -1 ∧ 50 ≤ (M.nd k).attrs.length) := by
        cases q with
        | false => exact .inl rfl
        | true =>
          right
          by_cases c : zf = -1
          · exact ⟨c, Nat.le_of_not_lt fun hl => hb ⟨rfl, fun _ => hl⟩⟩
          · exact absurd ⟨rfl, fun e => absurd e c⟩ hb
      have hbad : soundA (setA (M.nd k).attrs ⟨S.toList, T.toList⟩) = false := by
        rw [hiff]
        rcases hb' with rfl | ⟨c, c2⟩
        · rfl
        · rw [decide_eq_true c, decide_eq_true c2]; simp
      refine ⟨82, M, rk, hI, .refl M, .inr rfl, ⟨by decide, by decide⟩, fun K w p h => (pd K w p h).mono ?_, fun K w p h => (rset_bad K p k M R G S T w h hk (by omega) hk1 (by omega) hS zf hzf q hq hb').mono ?_⟩
      · rintro e w' ⟨⟨c, -, -⟩ | ⟨-, rfl, hX⟩, hK⟩
        · rw [hbad] at c; cases c
        · exact ⟨rfl, hX, hK⟩
      · rintro e w' ⟨rfl, hK, hX⟩
        exact ⟨rfl, hX, hK⟩
  · refine ⟨elemZ M i, M, rk, hI, .refl M, .inr rfl, elemZ_le M i, fun K w p h => (set_no K p M i S T w h (by omega) _ rfl h0).mono ?_, fun K w p h => (rset_no K p M R G i S T w h (by omega) _ rfl h0).mono ?_⟩
    · rintro e w' ⟨rfl, rfl⟩; exact ⟨rfl, h, Kept.refl _ _⟩
    · rintro e w' ⟨rfl, rfl⟩; exact ⟨rfl, h, Kept.refl _ _⟩
theorem both_drop (hI : Inv M R G rk) (hn : M.n ≤ 100000) (i : Int) (S : ByteArray) : ∃ z M' rk', Inv M' R G rk' ∧ Grows M M' ∧ (z = 0 ∨ M' = M) ∧ (0 ≤ z ∧ z ≤ 200) ∧
    (∀ K w p, DX K w p M → Calls Tryz.prog 27 #[.pointer (some ⟨p, 0, none⟩), .int .i64 i, .string S] w fun e w' => e = .returned (.int .u16 z) ∧ DX K w' p M' ∧ Kept K w w') ∧
    (∀ K w p, RX K w p M R G → Calls Tryz.prog 44 #[.pointer (some ⟨p, 0, none⟩), .int .i64 i, .string S] w fun e w' => e = .returned (.int .i64 z) ∧ RX K w' p M' R G ∧ Kept K w w') := by
  by_cases h0 : elemZ M i = 0
  · obtain ⟨k, hk, rfl, hk1⟩ := elemZ_ok h0
    obtain ⟨zf, hzf⟩ := FindA.ex (M.nd k).attrs S.toList
    have hs := (hI.core.el k hk hk1).2
    have hfew := hI.core.few hk
    have pd := fun K w p h => drop_in K p k M S w h hk (by omega) hk1 (by omega)
    cases hzf with
    | no hno =>
      refine ⟨82, M, rk, hI, .refl M, .inr rfl, ⟨by decide, by decide⟩, fun K w p h => (pd K w p h).mono ?_, fun K w p h => (rdrop_none K p k M R G S w h hk (by omega) hk1 (by omega) hno).mono ?_⟩
      · rintro e w' ⟨⟨j, hj, e1, -⟩ | ⟨-, rfl, hX⟩, hK⟩
        · exact absurd e1 (hno _ (List.getElem_mem hj))
        · exact ⟨rfl, hX, hK⟩
      · rintro e w' ⟨rfl, rfl⟩; exact ⟨rfl, h, Kept.refl _ _⟩
    | @yes j hj e1 ha =>
      refine ⟨0, M.setN k { M.nd k with attrs := (M.nd k).attrs.eraseIdx j }, rk, hI.setN hk rfl rfl rfl rfl rfl (fun _ => soundA_erase hs j) (fun e => absurd hk1 e), .setN rfl rfl rfl rfl rfl, .inl rfl, ⟨by decide, by decide⟩, fun K w p h => (pd K w p h).mono ?_, fun K w p h => (rdrop_in K p k j M R G S w h hk (by omega) hk1 (by omega) hj (.yes hj e1 ha)).mono ?_⟩
      · rintro e w' ⟨⟨j', hj', e1', ha', rfl, hX⟩ | ⟨hno, -, -⟩, hK⟩
        · have := FindA.one (.yes hj e1 ha) (.yes hj' e1' ha')
          have : j = j' := by omega
          subst this
          exact ⟨rfl, hX, hK⟩
        · exact absurd e1 (hno _ (List.getElem_mem hj))
      · rintro e w' ⟨rfl, hK, hX⟩
        exact ⟨rfl, hX, hK⟩
  · refine ⟨elemZ M i, M, rk, hI, .refl M, .inr rfl, elemZ_le M i, fun K w p h => (drop_no K p M i S w h (by omega) _ rfl h0).mono ?_, fun K w p h => (rdrop_no K p M R G i S w h (by omega) _ rfl h0).mono ?_⟩
    · rintro e w' ⟨rfl, rfl⟩; exact ⟨rfl, h, Kept.refl _ _⟩
    · rintro e w' ⟨rfl, rfl⟩; exact ⟨rfl, h, Kept.refl _ _⟩
end
end Go.Proofs.YthhoicmfmfeehaaGreat

namespace Go.Proofs.YthhoicmfmfeehaaGreat
open Go.RowKit
set_option linter.unusedVariables false
theorem Gives.ex (M : Dm) (slot : Int) (l : List Int) : ∃ z, Gives M slot l z := by
  by_cases h1 : inN M.n slot
  · by_cases h2 : ∀ x ∈ l, inN M.n x
    · have n2 : ¬ ∃ x ∈ l, ¬ inN M.n x := fun ⟨x, hx, hn⟩ => hn (h2 x hx)
      by_cases h3 : (M.nd slot.toNat).kind = 1 ∧ (M.nd slot.toNat).name = slotN
      · by_cases h4 : ∀ x ∈ l, shows M x
        · have n4 : ¬ ∃ x ∈ l, ¬ shows M x := fun ⟨x, hx, hn⟩ => hn (h4 x hx)
          by_cases h5 : l.length ≤ 200
          · exact ⟨0, fun h => absurd h1 h, fun _ h => absurd h n2, fun _ _ h => by
              rcases h with h | h
              · exact absurd h3.1 h
              · exact absurd h3.2 h, fun _ _ _ _ h => absurd h n4, fun _ _ _ _ _ h => by omega, fun _ _ _ _ _ _ => rfl⟩
          · exact ⟨1, fun h => absurd h1 h, fun _ h => absurd h n2, fun _ _ h => by
              rcases h with h | h
              · exact absurd h3.1 h
              · exact absurd h3.2 h, fun _ _ _ _ h => absurd h n4, fun _ _ _ _ _ _ => rfl, fun _ _ _ _ _ h => absurd h h5⟩
        · exact ⟨81, fun h => absurd h1 h, fun _ h => absurd h n2, fun _ _ h => by
            rcases h with h | h
            · exact absurd h3.1 h
            · exact absurd h3.2 h, fun _ _ _ _ _ => rfl, fun _ _ _ _ h => absurd h h4, fun _ _ _ _ h => absurd h h4⟩
      · exact ⟨110, fun h => absurd h1 h, fun _ h => absurd h n2, fun _ _ _ => rfl, fun _ _ a b => absurd ⟨a, b⟩ h3, fun _ _ a b => absurd ⟨a, b⟩ h3, fun _ _ a b => absurd ⟨a, b⟩ h3⟩
    · exact ⟨80, fun _ => rfl, fun _ _ => rfl, fun _ h => absurd h h2, fun _ h => absurd h h2, fun _ h => absurd h h2, fun _ h => absurd h h2⟩
  · exact ⟨80, fun _ => rfl, fun h => absurd h h1, fun h => absurd h h1, fun h => absurd h h1, fun h => absurd h h1, fun h => absurd h h1⟩
theorem Gives.le {M : Dm} {slot : Int} {l : List Int} {z : Int} (h : Gives M slot l z) : 0 ≤ z ∧ z ≤ 200 := by
  by_cases h1 : inN M.n slot
  · by_cases h2 : ∃ x ∈ l, ¬ inN M.n x
    · rw [h.gOne h1 h2]; decide
    · have h2 : ∀ x ∈ l, inN M.n x := fun x hx => Classical.byContradiction fun c => h2 ⟨x, hx, c⟩
      by_cases h3 : (M.nd slot.toNat).kind = 1 ∧ (M.nd slot.toNat).name = slotN
      · by_cases h4 : ∃ x ∈ l, ¬ shows M x
        · rw [h.gShow h1 h2 h3.1 h3.2 h4]; decide
        · have h4 : ∀ x ∈ l, shows M x := fun x hx => Classical.byContradiction fun c => h4 ⟨x, hx, c⟩
          by_cases h5 : l.length ≤ 200
          · rw [h.gOk h1 h2 h3.1 h3.2 h4 h5]; decide
          · rw [h.gMany h1 h2 h3.1 h3.2 h4 (by omega)]; decide
      · rw [h.gSlot h1 h2 (by
          by_cases c1 : (M.nd slot.toNat).kind = 1
          · exact .inr fun c2 => h3 ⟨c1, c2⟩
          · exact .inl c1)]; decide
  · rw [h.gNone h1]; decide
theorem Gives.all {M : Dm} {slot : Int} {l : List Int} (h : Gives M slot l 0) : inN M.n slot ∧ (∀ x ∈ l, inN M.n x) ∧ l.length ≤ 200 := by
  have h1 : inN M.n slot := Classical.byContradiction fun c => by have := h.gNone c; cases this
  have h2 : ∀ x ∈ l, inN M.n x := fun x hx => Classical.byContradiction fun c => by have := h.gOne h1 ⟨x, hx, c⟩; cases this
  have h3 : (M.nd slot.toNat).kind = 1 ∧ (M.nd slot.toNat).name = slotN := Classical.byContradiction fun c => by
    have := h.gSlot h1 h2 (by
      by_cases c1 : (M.nd slot.toNat).kind = 1
      · exact .inr fun c2 => c ⟨c1, c2⟩
      · exact .inl c1)
    cases this
  have h4 : ∀ x ∈ l, shows M x := fun x hx => Classical.byContradiction fun c => by have := h.gShow h1 h2 h3.1 h3.2 ⟨x, hx, c⟩; cases this
  refine ⟨h1, h2, Nat.le_of_not_lt fun c => ?_⟩
  have := h.gMany h1 h2 h3.1 h3.2 h4 c
  cases this
set_option maxRecDepth 20000 in
theorem rgive_no (K : Nat → Prop) (p : Nat) (slot : Int) (l : List Int) (n : Nat) (hln : l.length = n) (hnl : n ≤ 1000000) (a : Option Addr) (cap : Nat) (M : Dm) (R G : Nat → List Nat) (w : World) (h : RX K w p M R G) (hn : M.n ≤ 1000000) (hr : IntsZ (fun k => k < w.heap.size) w a l) (z : Int) (hz : Gives M slot l z) (hz0 : z ≠ 0) :
    Calls Tryz.prog 47 #[.pointer (some ⟨p, 0, none⟩), .int .i64 slot, .slice a n cap] w fun e w' => e = .returned (.int .i64 z) ∧ Kept (fun k => k < w.heap.size) w w' := by
  have rm : Calls Tryz.prog 90 #[.pointer (some ⟨p, 0, none⟩), .int .i64 slot, .slice a n cap] w fun e w' => e = .returned (.int .i64 z) ∧ Kept (fun k => k < w.heap.size) w w' := by
    by_cases hs : slot < 0 ∨ (M.n : Int) ≤ slot
    · have : z = 80 := hz.gNone (by unfold inN; omega)
      subst this
      refine (rgives_none K p M R G slot a n cap w h hs).mono ?_
      rintro e w' ⟨rfl, rfl⟩
      exact ⟨rfl, Kept.refl _ _⟩
    · obtain ⟨s, hs', rfl⟩ := int_nat hs
      exact rgives_in K p s M R G l a n cap w h hs' hn hln hnl hr z hz
  have hzn : (z != 0) = true := by simpa using hz0
  clear h hr hz hln
  go_enter Tryz.func47, Tryz.ntmps47
  go_wp2_with (go_at_call 90; refine rm.mono ?_; rintro e w1 ⟨rfl, k1⟩)
  go_ret
  exact ⟨rfl, k1⟩
theorem addR_grows {M : Dm} {host : Nat} {f : Fg} (hh : host < M.n) (hs : (M.nd host).shadow = -1) (hL : M.n + 1 ≤ M.limit) : Grows M (M.addR host f) := by
  have hne : host ≠ M.n := by omega
  have old : ∀ i, i < M.n → i ≠ host → (M.addR host f).nd i = M.nd i := fun i hi c => addR_old M host f (by omega) c
  have hot := addR_host M host f hne
  refine ⟨Nat.le_succ _, rfl, fun _ => hL, fun i hi => ?_, fun i hi => ?_, fun i hi => ?_, fun i hi => ?_, fun i hi hsi => ?_⟩ <;> (by_cases c : i = host)
  · subst c; rw [hot]
  · rw [old i hi c]
  · subst c; rw [hot]
  · rw [old i hi c]
  · subst c; rw [hot]
  · rw [old i hi c]
  · subst c; rw [hot]
  · rw [old i hi c]
  · subst c; exact absurd hs hsi
  · rw [old i hi c]
theorem add_grows {M : Dm} {x : Nd} (hL : M.n + 1 ≤ M.limit) : Grows M (M.add x) := by
  have old : ∀ i, i < M.n → (M.add x).nd i = M.nd i := fun i hi => add_nd_old M x (by omega)
  exact ⟨Nat.le_succ _, rfl, fun _ => hL, fun i hi => by rw [old i hi], fun i hi => by rw [old i hi], fun i hi => by rw [old i hi], fun i hi => by rw [old i hi], fun i hi _ => by rw [old i hi]⟩
theorem addT_grows {M : Dm} {x : Nd} (hL : M.n + 2 ≤ M.limit) : Grows M (M.addT x) := by
  have old : ∀ i, i < M.n → (M.addT x).nd i = M.nd i := fun i hi => by
    rw [addT_old M x (by omega) (by omega), add_nd_old _ _ (by show i ≠ M.n + 1; omega), add_nd_old _ _ (by omega)]
  exact ⟨by show M.n ≤ M.n + 2; omega, rfl, fun _ => hL, fun i hi => by rw [old i hi], fun i hi => by rw [old i hi], fun i hi => by rw [old i hi], fun i hi => by rw [old i hi], fun i hi _ => by rw [old i hi]⟩
section
variable {M : Dm} {R G : Nat → List Nat} {rk : Nat → Nat}
theorem both_root (hI : Inv M R G rk) (hn : M.n ≤ 100000) (hL : M.limit ≤ 100000) (i : Int) (f : Fg) : ∃ v z M' R' G' rk', Inv M' R' G' rk' ∧ Grows M M' ∧ (z = 0 ∨ (M' = M ∧ R' = R ∧ G' = G)) ∧ (0 ≤ z ∧ z ≤ 200) ∧
    (∀ K w p, DX K w p M → Calls Tryz.prog 25 #[.pointer (some ⟨p, 0, none⟩), .int .i64 i, fgV f] w fun e w' => e = .returned (.tuple #[.int .i64 v, .int .u16 z]) ∧ DX K w' p M' ∧ Kept K w w') ∧
    (∀ K w p, RX K w p M R G → Calls Tryz.prog 42 #[.pointer (some ⟨p, 0, none⟩), .int .i64 i, fgV f] w fun e w' => e = .returned (.tuple #[.int .i64 v, .int .i64 z]) ∧ RX K w' p M' R' G' ∧ Kept K w w') := by
  by_cases hno : i < 0 ∨ (M.n : Int) ≤ i
  · refine ⟨0, 80, M, R, G, rk, hI, .refl M, .inr ⟨rfl, rfl, rfl⟩, ⟨by decide, by decide⟩, fun K w p h => (root_none K p M i f w h hno (by omega)).mono ?_, fun K w p h => (rroot_none K p M R G i f w h hno).mono ?_⟩
    · rintro e w' ⟨rfl, hK⟩; exact ⟨rfl, h.kept hK, hK.mono h.lt⟩
    · rintro e w' ⟨rfl, hK⟩; exact ⟨rfl, h.kept hK, hK.mono h.lt⟩
  · obtain ⟨k, hk, rfl⟩ := int_nat hno
    have pd := fun K w p h => root_in K p k M f w h hk hn hL
    have hsh : (M.nd k).shadow = -1 ∨ 0 ≤ (M.nd k).shadow := by
      rcases hI.core.shad k hk with e | ⟨q, -, e, -⟩
      · exact .inl e
      · exact .inr (by omega)
    have pr := fun K w p h => rroot_in K p k M R G f w h hk hn hL hsh
    by_cases c1 : (M.nd k).kind = 1
    · by_cases c2 : (M.nd k).shadow = -1
      · by_cases c3 : M.n + 1 ≤ M.limit
        · obtain ⟨rk', hI'⟩ := hI.addR f hk c1 c2
          refine ⟨(M.n : Int), 0, _, _, _, rk', hI', addR_grows hk c2 c3, .inl rfl, ⟨by decide, by decide⟩, fun K w p h => (pd K w p h).mono ?_, fun K w p h => (pr K w p h).mono ?_⟩
          · rintro e w' ⟨hK, hR⟩
            cases hR with
            | host a _ _ => exact absurd c1 a
            | twice _ a _ _ => exact absurd c2 a
            | full _ _ a _ _ => omega
            | made _ _ _ e hX => exact ⟨e, hX, hK⟩
          · rintro e w' ⟨hK, hR⟩
            cases hR with
            | host a _ _ => exact absurd c1 a
            | twice _ a _ _ => exact absurd c2 a
            | full _ _ a _ _ => omega
            | made _ _ _ e hX => exact ⟨e, hX, hK⟩
        · refine ⟨0, 3, M, R, G, rk, hI, .refl M, .inr ⟨rfl, rfl, rfl⟩, ⟨by decide, by decide⟩, fun K w p h => (pd K w p h).mono ?_, fun K w p h => (pr K w p h).mono ?_⟩
          · rintro e w' ⟨hK, hR⟩
            cases hR with
            | host a _ _ => exact absurd c1 a
            | twice _ a _ _ => exact absurd c2 a
            | full _ _ a e hX => exact ⟨e, hX, hK⟩
            | made _ _ a _ _ => omega
          · rintro e w' ⟨hK, hR⟩
            cases hR with
            | host a _ _ => exact absurd c1 a
            | twice _ a _ _ => exact absurd c2 a
            | full _ _ a e hX => exact ⟨e, hX, hK⟩
            | made _ _ a _ _ => omega
      · refine ⟨0, 101, M, R, G, rk, hI, .refl M, .inr ⟨rfl, rfl, rfl⟩, ⟨by decide, by decide⟩, fun K w p h => (pd K w p h).mono ?_, fun K w p h => (pr K w p h).mono ?_⟩
        · rintro e w' ⟨hK, hR⟩
          cases hR with
          | host a _ _ => exact absurd c1 a
          | twice _ a e hX => exact ⟨e, hX, hK⟩
          | full _ a _ _ _ => exact absurd a c2
          | made _ a _ _ _ => exact absurd a c2
        · rintro e w' ⟨hK, hR⟩
          cases hR with
          | host a _ _ => exact absurd c1 a
          | twice _ a e hX => exact ⟨e, hX, hK⟩
          | full _ a _ _ _ => exact absurd a c2
          | made _ a _ _ _ => exact absurd a c2
    · refine ⟨0, 100, M, R, G, rk, hI, .refl M, .inr ⟨rfl, rfl, rfl⟩, ⟨by decide, by decide⟩, fun K w p h => (pd K w p h).mono ?_, fun K w p h => (pr K w p h).mono ?_⟩
      · rintro e w' ⟨hK, hR⟩
        cases hR with
        | host a e hX => exact ⟨e, hX, hK⟩
        | twice a _ _ _ => exact absurd a c1
        | full a _ _ _ _ => exact absurd a c1
        | made a _ _ _ _ => exact absurd a c1
      · rintro e w' ⟨hK, hR⟩
        cases hR with
        | host a e hX => exact ⟨e, hX, hK⟩
        | twice a _ _ _ => exact absurd a c1
        | full a _ _ _ _ => exact absurd a c1
        | made a _ _ _ _ => exact absurd a c1
theorem both_give (hI : Inv M R G rk) (hn : M.n ≤ 100000) (slot : Int) (l : List Int) (n : Nat) (hln : l.length = n) (hnl : n ≤ 1000000) (a : Option Addr) (cap : Nat) : ∃ z M' G' rk', Inv M' R G' rk' ∧ Grows M M' ∧ (z = 0 ∨ (M' = M ∧ G' = G)) ∧ (0 ≤ z ∧ z ≤ 200) ∧
    (∀ K w p, DX K w p M → IntsZ K w a l → Calls Tryz.prog 28 #[.pointer (some ⟨p, 0, none⟩), .int .i64 slot, .slice a n cap] w fun e w' => e = .returned (.int .u16 z) ∧ DX K w' p M' ∧ Kept K w w') ∧
    (∀ K w p, RX K w p M R G → IntsZ K w a l → Calls Tryz.prog 47 #[.pointer (some ⟨p, 0, none⟩), .int .i64 slot, .slice a n cap] w fun e w' => e = .returned (.int .i64 z) ∧ RX K w' p M' R G' ∧ Kept K w w') := by
  obtain ⟨z, hz⟩ := Gives.ex M slot l
  by_cases h0 : z = 0
  · subst h0
    obtain ⟨hs, hall, hfew⟩ := hz.all
    obtain ⟨s, rfl⟩ : ∃ s : Nat, slot = (s : Int) := ⟨slot.toNat, by have := hs.1; omega⟩
    have hsn : s < M.n := by have := hs.2; omega
    obtain ⟨l', rfl⟩ : ∃ l' : List Nat, l = l'.map fun k : Nat => (k : Int) := ⟨l.map Int.toNat, by
      rw [List.map_map]
      symm
      have : ∀ x ∈ l, ((fun k : Nat => (k : Int)) ∘ Int.toNat) x = x := fun x hx => by have := (hall x hx).1; show ((x.toNat : Nat) : Int) = x; omega
      rw [List.map_congr_left this, List.map_id']⟩
    rw [List.length_map] at hln hfew
    have hl' : ∀ i ∈ l', i < M.n := fun i hi => by have := (hall (i : Int) (List.mem_map.2 ⟨i, hi, rfl⟩)).2; omega
    have hW0 := WF.outs hsn (G s) hI.gw rfl
    have hW1 := hW0.gs hsn l' hl'
    refine ⟨0, M.setG (addsL (outsL M.gf (G s)) s l'), gsR s (outsL M.gf (G s)) (updR G s []) l', rk, hI.setG hW1, .same rfl rfl (fun _ => rfl), .inl rfl, ⟨by decide, by decide⟩, fun K w p h hr => ?_, fun K w p h hr => ?_⟩
    · have hR : RowI w a l' := fun j hj => by
        obtain ⟨g, o, e, -, hc⟩ := hr j (by rw [List.length_map]; exact hj)
        rw [List.getElem_map] at hc
        exact ⟨g, o, e, hc⟩
      have hRA : ∀ g o, a = some ⟨g, o, none⟩ → l' ≠ [] → K g := fun g o e hne => by
        obtain ⟨g', o', e', hg, -⟩ := hr 0 (by rw [List.length_map]; exact List.length_pos_iff.2 hne)
        rw [e] at e'
        injection e' with e'
        injection e' with e1 e2
        rw [e1]; exact hg
      refine (give_ok2 K p s l' n hln a cap M G w h hI.gw ⟨hsn, hl', by rw [hln]; omega, hz⟩ (by omega) hR hRA).mono ?_
      rintro e w' ⟨rfl, hX, hK⟩
      exact ⟨rfl, hX, hK⟩
    · refine (rgive_ok K p s l' n hln hnl a cap M R G w h hI.gw hsn (by omega) hl' hz (fun j hj => by
        obtain ⟨g, o, e, hg, hc⟩ := hr j (by rw [List.length_map]; exact hj)
        rw [List.getElem_map] at hc
        exact ⟨g, o, e, hg, hc⟩)).mono ?_
      rintro e w' ⟨rfl, hX, hK⟩
      exact ⟨rfl, hX.congr rfl rfl (fun _ _ => rfl) (fun _ _ => rfl) (fun _ _ => rfl) (fun _ _ => rfl), hK⟩
  · refine ⟨z, M, G, rk, hI, .refl M, .inr ⟨rfl, rfl⟩, hz.le, fun K w p h hr => (give_no K p slot l n hln hnl a cap M w h (by omega) (fun j hj => by
      obtain ⟨g, o, e, hg, hc⟩ := hr j hj
      exact ⟨g, o, e, h.lt g hg, hc⟩) z hz h0).mono ?_, fun K w p h hr => (rgive_no K p slot l n hln hnl a cap M R G w h (by omega) (fun j hj => by
      obtain ⟨g, o, e, hg, hc⟩ := hr j hj
      exact ⟨g, o, e, h.lt g hg, hc⟩) z hz h0).mono ?_⟩
    · rintro e w' ⟨rfl, hK⟩; exact ⟨rfl, h.kept hK, hK.mono h.lt⟩
    · rintro e w' ⟨rfl, hK⟩; exact ⟨rfl, h.kept hK, hK.mono h.lt⟩
theorem both_make (hI : Inv M R G rk) (hn : M.n ≤ 100000) (hL : M.limit ≤ 100000) (kd : Nat) (S D : ByteArray) (l : List Atr) (n : Nat) (hln : l.length = n) (hnl : n ≤ 1000000) (hsz : ∀ x ∈ l, x.name.length < 1000000 ∧ x.value.length < 1000000) (hS : S.size < 1000000) (aa : Option Addr) (ac : Nat) (hac : n ≤ ac) : ∃ v z M' R' G' rk', Inv M' R' G' rk' ∧ Grows M M' ∧ (z = 0 ∨ (M' = M ∧ R' = R ∧ G' = G)) ∧ (0 ≤ z ∧ z ≤ 200) ∧
    (∀ K w p, DX K w p M → AtsAt (fun k => k < w.heap.size) w aa l → Calls Tryz.prog 21 #[.pointer (some ⟨p, 0, none⟩), .agg (nodeC (kd : Int) S D aa n ac)] w fun e w' => e = .returned (.tuple #[.int .i64 v, .int .u16 z]) ∧ DX K w' p M' ∧ Kept K w w') ∧
    (∀ K w p, RX K w p M R G → AtsAt (fun k => k < w.heap.size) w aa l → Calls Tryz.prog 48 #[.pointer (some ⟨p, 0, none⟩), .agg (nodeC (kd : Int) S D aa n ac)] w fun e w' => e = .returned (.tuple #[.int .i64 v, .int .i64 z]) ∧ RX K w' p M' R' G' ∧ Kept K w w') := by
  have pd : ∀ K w p, DX K w p M → AtsAt (fun k => k < w.heap.size) w aa l → Calls Tryz.prog 21 #[.pointer (some ⟨p, 0, none⟩), .agg (nodeC (kd : Int) S D aa n ac)] w fun e w' => Kept K w w' ∧ Makes K p M ⟨kd, S.toList, D.toList, l⟩ e w' := fun K w p h ha => make_any K p kd S D l aa n ac ⟨0, none, 0, 0, 0, 0, 0, ⟨false, false, false, false, false⟩⟩ w M h hn hL hln (by omega) ha (fun x hx => by have := hsz x hx; omega)
  have pr : ∀ K w p, RX K w p M R G → AtsAt (fun k => k < w.heap.size) w aa l → Calls Tryz.prog 48 #[.pointer (some ⟨p, 0, none⟩), .agg (nodeC (kd : Int) S D aa n ac)] w fun e w' => Kept K w w' ∧ RMakes K p M R G ⟨kd, S.toList, D.toList, l⟩ e w' := fun K w p h ha => rmake_any K p kd S D l aa n ac w M R G h hn hL hln hnl hac ha (fun x hx => (hsz x hx).1) hS
  cases hs : soundN ⟨kd, S.toList, D.toList, l⟩ with
  | false =>
    refine ⟨0, 1, M, R, G, rk, hI, .refl M, .inr ⟨rfl, rfl, rfl⟩, ⟨by decide, by decide⟩, fun K w p h ha => (pd K w p h ha).mono ?_, fun K w p h ha => (pr K w p h ha).mono ?_⟩
    · rintro e w' ⟨hK, hM⟩
      cases hM with
      | arg _ e hX => exact ⟨e, hX, hK⟩
      | full a => rw [hs] at a; cases a
      | two a => rw [hs] at a; cases a
      | one a => rw [hs] at a; cases a
    · rintro e w' ⟨hK, hM⟩
      cases hM with
      | arg _ e hX => exact ⟨e, hX, hK⟩
      | full a => rw [hs] at a; cases a
      | two a => rw [hs] at a; cases a
      | one a => rw [hs] at a; cases a
  | true =>
    have hok := soundN_ok hs
    by_cases ht : kd = 1 ∧ S.toList = tempN
    · by_cases hr : M.n + 2 ≤ M.limit
      · obtain ⟨rk', hI'⟩ := hI.addT (Mk.nd ⟨kd, S.toList, D.toList, l⟩) hok ht.1
        refine ⟨(M.n : Int), 0, _, _, _, rk', hI', addT_grows hr, .inl rfl, ⟨by decide, by decide⟩, fun K w p h ha => (pd K w p h ha).mono ?_, fun K w p h ha => (pr K w p h ha).mono ?_⟩
        · rintro e w' ⟨hK, hM⟩
          cases hM with
          | arg a => rw [hs] at a; cases a
          | full _ a => rw [if_pos ht] at a; omega
          | two _ _ _ e hX => exact ⟨e, hX, hK⟩
          | one _ a => exact absurd ht a
        · rintro e w' ⟨hK, hM⟩
          cases hM with
          | arg a => rw [hs] at a; cases a
          | full _ a => rw [if_pos ht] at a; omega
          | two _ _ _ e hX => exact ⟨e, hX, hK⟩
          | one _ a => exact absurd ht a
      · refine ⟨0, 3, M, R, G, rk, hI, .refl M, .inr ⟨rfl, rfl, rfl⟩, ⟨by decide, by decide⟩, fun K w p h ha => (pd K w p h ha).mono ?_, fun K w p h ha => (pr K w p h ha).mono ?_⟩
        · rintro e w' ⟨hK, hM⟩
          cases hM with
          | arg a => rw [hs] at a; cases a
          | full _ _ e hX => exact ⟨e, hX, hK⟩
          | two _ _ a => exact absurd a hr
          | one _ a => exact absurd ht a
        · rintro e w' ⟨hK, hM⟩
          cases hM with
          | arg a => rw [hs] at a; cases a
          | full _ _ e hX => exact ⟨e, hX, hK⟩
          | two _ _ a => exact absurd a hr
          | one _ a => exact absurd ht a
    · by_cases hr : M.n + 1 ≤ M.limit
      · refine ⟨(M.n : Int), 0, _, _, _, rk, hI.add (Mk.nd ⟨kd, S.toList, D.toList, l⟩) hok hok.few, add_grows hr, .inl rfl, ⟨by decide, by decide⟩, fun K w p h ha => (pd K w p h ha).mono ?_, fun K w p h ha => (pr K w p h ha).mono ?_⟩
        · rintro e w' ⟨hK, hM⟩
          cases hM with
          | arg a => rw [hs] at a; cases a
          | full _ a => rw [if_neg ht] at a; omega
          | two _ a => exact absurd a ht
          | one _ _ _ e hX => exact ⟨e, hX, hK⟩
        · rintro e w' ⟨hK, hM⟩
          cases hM with
          | arg a => rw [hs] at a; cases a
          | full _ a => rw [if_neg ht] at a; omega
          | two _ a => exact absurd a ht
          | one _ _ _ e hX => exact ⟨e, hX, hK⟩
      · refine ⟨0, 3, M, R, G, rk, hI, .refl M, .inr ⟨rfl, rfl, rfl⟩, ⟨by decide, by decide⟩, fun K w p h ha => (pd K w p h ha).mono ?_, fun K w p h ha => (pr K w p h ha).mono ?_⟩
        · rintro e w' ⟨hK, hM⟩
          cases hM with
          | arg a => rw [hs] at a; cases a
          | full _ _ e hX => exact ⟨e, hX, hK⟩
          | two _ a => exact absurd a ht
          | one _ _ a => exact absurd a hr
        · rintro e w' ⟨hK, hM⟩
          cases hM with
          | arg a => rw [hs] at a; cases a
          | full _ _ e hX => exact ⟨e, hX, hK⟩
          | two _ a => exact absurd a ht
          | one _ _ a => exact absurd a hr
end
end Go.Proofs.YthhoicmfmfeehaaGreat

namespace Go.Proofs.YthhoicmfmfeehaaGreat
open Go.RowKit
set_option linter.unusedVariables false
def insN (n : Nat) (z : Int) : Nat := z.toNat % n
/-- A call whose numbers are those of nodes. -/
def Opx.within (o : Opx) (n : Nat) : Opx := if o.inn = false then o else { o with a := (insN n o.a : Int), b := (insN n o.b : Int), c := if 0 ≤ o.c then (insN n o.c : Int) else -1, l := o.l.map fun z => (insN n z : Int) }
abbrev opV (o : Opx) (A : OpA) : Value := .agg (opC o A).toArray
theorem size37 (cs : Array Value) (h : cs.size = 17) : (Tryz.prog.info? 37).map (·.size) = some cs.size := by rw [h]; kernel_rfl
theorem opC_one (o : Opx) (A : OpA) : (opC o A).toArray.all (·.oneCell') = true := by unfold opC; kernel_rfl
abbrev zero17 : Array Value := #[.int .u8 0, .int .i64 0, .int .i64 0, .int .i64 0, .bool false, .int .u8 0, .string ⟨#[]⟩, .string ⟨#[]⟩, .slice none 0 0, .string ⟨#[]⟩, .string ⟨#[]⟩, .slice none 0 0, .bool false, .bool false, .bool false, .bool false, .bool false]
theorem heap_two (w : World) (a b : Obj) : ((w.alloc a).alloc b).heap[w.heap.size]? = some a ∧ ((w.alloc a).alloc b).heap[w.heap.size + 1]? = some b := by
  constructor
  · rw [Below.heap_alloc _ _ _ (by simp)]; exact heap_alloc_new w a
  · have := heap_alloc_new (w.alloc a) b
    simpa using this
theorem kept_two (w : World) (a b : Obj) : Kept (fun j => j < w.heap.size) w ((w.alloc a).alloc b) :=
  ((Kept.refl _ w).alloc (fun _ h => h) a).alloc (fun k h => by simp; omega) b
set_option maxRecDepth 20000 in
theorem within_out (o : Opx) (A : OpA) (n : Nat) (ho : o.inn = false) (w : World) :
    Calls Tryz.prog 19 #[opV o A, .int .i64 (n : Int)] w fun e w' => e = .returned (opV o A) ∧ Kept (fun k => k < w.heap.size) w w' := by
  obtain ⟨N, hN⟩ : ∃ N, w.heap.size = N := ⟨_, rfl⟩
  have HN : Hid (w.heap.size = N) := hN
  obtain ⟨cs, hcs⟩ : ∃ cs, (opC o A).toArray = cs := ⟨_, rfl⟩
  have hsz : cs.size = 17 := by rw [← hcs]; rfl
  have hone : cs.all (·.oneCell') = true := by rw [← hcs]; exact opC_one o A
  have h4 : cs[4]? = some (.bool false) := by rw [← hcs]; show some (Value.bool o.inn) = _; rw [ho]
  show Calls Tryz.prog 19 #[.agg (opC o A).toArray, _] w fun e w' => e = .returned (.agg (opC o A).toArray) ∧ _
  rw [hcs]
  obtain ⟨W, hW⟩ : ∃ W, (w.alloc (.cells cs 37)).alloc (.cells zero17 37) = W := ⟨_, rfl⟩
  have HW : Hid ((w.alloc (.cells cs 37)).alloc (.cells zero17 37) = W) := hW
  have hb := heap_two w (.cells cs 37) (.cells zero17 37)
  have hk := kept_two w (.cells cs 37) (.cells zero17 37)
  rw [hW, hN] at hb
  rw [hW] at hk
  have c4 : W.cell? ⟨N, 4, none⟩ = some (.bool false) := by rw [cell_block hb.1]; exact h4
  have hb0 := hb.1
  have hb1 := hb.2
  have HA : Hid ((W.setRow (N + 1) cs).heap[N + 1]? = some (.cells cs 37 (0, 0))) := setRow_heap _ _ _ _ _ _ hb1
  have HKA : Hid (Kept (fun k => k < N) w (W.setRow (N + 1) cs)) := kept_setRow (by rw [hN] at hk; exact hk) (by omega) _
  clear hW hN hb hcs hk h4 ho
  go_enter Tryz.func19, Tryz.ntmps19
  go_upto_region 1 with fail
  rw [HW.out, HN.out]
  clear HW
  go_wp2_with (first | (refine wpList_load_row rfl 37 _ rfl N rfl 37 cs (0, 0) _ hb0 Tryz.underlying37 rfl (size37 _ hsz) ?_) | (refine wpList_store_row rfl 37 _ _ rfl (N + 1) cs rfl rfl 37 _ hb1 (size37 _ hsz) (by rw [hsz]; rfl) hone ?_))
  refine bodyPost_ret (results_cell_row (p := 4) (ty := 37) rfl _ _ (N + 1) 37 _ _ _ rfl HA.out Tryz.underlying37 rfl (size37 _ hsz)) rfl ?_
  exact ⟨rfl, by rw [HN.out]; exact HKA.out⟩
theorem heap_setCell_list {w : World} {g : Nat} {l : List Value} {t : TypeId} (h : w.heap[g]? = some (.cells l.toArray t (0, 0))) (i : Nat) (v : Value) : (w.setCell ⟨g, i, none⟩ v).heap[g]? = some (.cells (l.set i v).toArray t (0, 0)) := by
  rw [heap_setCell_at h i v]
  simp
set_option maxRecDepth 20000 in
set_option maxHeartbeats 2000000 in
theorem within_in (o : Opx) (A : OpA) (n : Nat) (h1 : 1 ≤ n) (hn : n ≤ 1000000) (ho : o.inn = true) (hl : o.l.length ≤ 1000000) (w : World) (hA : IntsZ (fun k => k < w.heap.size) w A.la o.l) :
    Calls Tryz.prog 19 #[opV o A, .int .i64 (n : Int)] w fun e w' => ∃ ao c, e = .returned (opV (o.within n) { A with la := ao, lc := c }) ∧ OwnZ (fun k => k < w.heap.size) w' 3 1 ao o.l.length c (ivs (o.l.map (insN n))) ∧ Kept (fun k => k < w.heap.size) w w' := by
  obtain ⟨N, hN⟩ : ∃ N, w.heap.size = N := ⟨_, rfl⟩
  have HN : Hid (w.heap.size = N) := hN
  obtain ⟨kd, kd'⟩ : ∃ z, o.k = z := ⟨_, rfl⟩
  obtain ⟨za, za'⟩ : ∃ z, o.a = z := ⟨_, rfl⟩
  obtain ⟨zb, zb'⟩ : ∃ z, o.b = z := ⟨_, rfl⟩
  obtain ⟨zc, zc'⟩ : ∃ z, o.c = z := ⟨_, rfl⟩
  obtain ⟨ln, hln⟩ : ∃ ln, o.l.length = ln := ⟨_, rfl⟩
  obtain ⟨ro, hro⟩ : ∃ ro : List Value, [.int .u8 (o.nk : Int), .string o.nn, .string o.nd, .slice A.aa o.ats.length A.ac, .string o.s, .string o.t] = ro := ⟨_, rfl⟩
  obtain ⟨la, hla⟩ : ∃ la, A.la = la := ⟨_, rfl⟩
  obtain ⟨lc, hlc⟩ : ∃ lc, A.lc = lc := ⟨_, rfl⟩
  obtain ⟨L, hL⟩ : ∃ L, o.l = L := ⟨_, rfl⟩
  obtain ⟨ia, hia⟩ : ∃ z, insN n za = z := ⟨_, rfl⟩
  obtain ⟨ib, hib⟩ : ∃ z, insN n zb = z := ⟨_, rfl⟩
  obtain ⟨ic, hic⟩ : ∃ z, insN n zc = z := ⟨_, rfl⟩
  have ra : ∀ X, Calls Tryz.prog 29 #[.int .i64 za, .int .i64 (n : Int)] X fun e w' => e = .returned (.int .i64 (ia : Int)) ∧ w' = X := fun X => by rw [← hia]; exact inside_any za n h1 hn X
  have rb : ∀ X, Calls Tryz.prog 29 #[.int .i64 zb, .int .i64 (n : Int)] X fun e w' => e = .returned (.int .i64 (ib : Int)) ∧ w' = X := fun X => by rw [← hib]; exact inside_any zb n h1 hn X
  have rc : ∀ X, Calls Tryz.prog 29 #[.int .i64 zc, .int .i64 (n : Int)] X fun e w' => e = .returned (.int .i64 (ic : Int)) ∧ w' = X := fun X => by rw [← hic]; exact inside_any zc n h1 hn X
  have RL : Hid (∀ z X, Calls Tryz.prog 29 #[.int .i64 z, .int .i64 (n : Int)] X fun e w' => e = .returned (.int .i64 (insN n z : Int)) ∧ w' = X) := fun z X => inside_any z n h1 hn X
  obtain ⟨c2, hc2⟩ : ∃ c2 : Int, (if 0 ≤ zc then (insN n zc : Int) else -1) = c2 := ⟨_, rfl⟩
  rw [hic] at hc2
  have hw : ∀ ao c, opC (o.within n) { A with la := ao, lc := c } = [.int .u8 (kd : Int), .int .i64 (ia : Int), .int .i64 (ib : Int), .int .i64 c2, .bool true, .int .u8 (o.nk : Int), .string o.nn, .string o.nd, .slice A.aa o.ats.length A.ac, .string o.s, .string o.t, .slice ao ln c, .bool o.f.a, .bool o.f.b, .bool o.f.c, .bool o.f.d, .bool o.f.e] := fun ao c => by
    have e : o.within n = { o with a := (insN n o.a : Int), b := (insN n o.b : Int), c := if 0 ≤ o.c then (insN n o.c : Int) else -1, l := o.l.map fun z => (insN n z : Int) } := if_neg (by rw [ho]; decide)
    rw [e, ← hc2, ← hic, ← hib, ← hia, ← zc', ← zb', ← za', ← kd', ← hln]
    simp only [opC, ho, List.length_map]
  have hv : opV o A = .agg #[.int .u8 (kd : Int), .int .i64 za, .int .i64 zb, .int .i64 zc, .bool true, .int .u8 (o.nk : Int), .string o.nn, .string o.nd, .slice A.aa o.ats.length A.ac, .string o.s, .string o.t, .slice la ln lc, .bool o.f.a, .bool o.f.b, .bool o.f.c, .bool o.f.d, .bool o.f.e] := by
    rw [← zc', ← zb', ← za', ← kd', ← hln, ← hla, ← hlc]
    simp only [opV, opC, ho]
  rw [hv]
  have HWI : Hid (∀ ao c, opC (o.within n) { A with la := ao, lc := c } = [.int .u8 (kd : Int), .int .i64 (ia : Int), .int .i64 (ib : Int), .int .i64 c2, .bool true, .int .u8 (o.nk : Int), .string o.nn, .string o.nd, .slice A.aa o.ats.length A.ac, .string o.s, .string o.t, .slice ao ln c, .bool o.f.a, .bool o.f.b, .bool o.f.c, .bool o.f.d, .bool o.f.e]) := hw
  have HA : Hid (IntsZ (fun k => k < w.heap.size) w la L) := by rw [← hla, ← hL]; exact hA
  have HLN : Hid (L.length = ln) := by rw [← hL]; exact hln
  have hll : ln ≤ 1000000 := by rw [← hln]; exact hl
  rw [hln, hL]
  obtain ⟨LM, hLM⟩ : ∃ LM, L.map (insN n) = LM := ⟨_, rfl⟩
  rw [hLM]
  have HLM : Hid (L.map (insN n) = LM) := hLM
  clear hLM
  obtain ⟨nk, hnk⟩ : ∃ z, o.nk = z := ⟨_, rfl⟩
  obtain ⟨nn, hnn⟩ : ∃ z, o.nn = z := ⟨_, rfl⟩
  obtain ⟨nd, hnd⟩ : ∃ z, o.nd = z := ⟨_, rfl⟩
  obtain ⟨an, han⟩ : ∃ z, o.ats.length = z := ⟨_, rfl⟩
  obtain ⟨ss, hss⟩ : ∃ z, o.s = z := ⟨_, rfl⟩
  obtain ⟨tt, htt⟩ : ∃ z, o.t = z := ⟨_, rfl⟩
  obtain ⟨f, hf⟩ : ∃ z, o.f = z := ⟨_, rfl⟩
  rw [hnk, hnn, hnd, han, hss, htt, hf] at HWI ⊢
  clear hv hw hA hL hla hlc hro kd' za' zb' zc' hln hl hnk hnn hnd han hss htt hf ho hia hib hic
  obtain ⟨W, hW⟩ : ∃ W, (w.alloc (.cells #[.int .u8 (kd : Int), .int .i64 (ia : Int), .int .i64 (ib : Int), .int .i64 c2, .bool true, .int .u8 (nk : Int), .string nn, .string nd, .slice A.aa an A.ac, .string ss, .string tt, .slice la ln lc, .bool f.a, .bool f.b, .bool f.c, .bool f.d, .bool f.e] 37)).alloc (.cells zero17 37) = W := ⟨_, rfl⟩
  have hb := heap_two w (.cells #[.int .u8 (kd : Int), .int .i64 (ia : Int), .int .i64 (ib : Int), .int .i64 c2, .bool true, .int .u8 (nk : Int), .string nn, .string nd, .slice A.aa an A.ac, .string ss, .string tt, .slice la ln lc, .bool f.a, .bool f.b, .bool f.c, .bool f.d, .bool f.e] 37) (.cells zero17 37)
  have hk := kept_two w (.cells #[.int .u8 (kd : Int), .int .i64 (ia : Int), .int .i64 (ib : Int), .int .i64 c2, .bool true, .int .u8 (nk : Int), .string nn, .string nd, .slice A.aa an A.ac, .string ss, .string tt, .slice la ln lc, .bool f.a, .bool f.b, .bool f.c, .bool f.d, .bool f.e] 37) (.cells zero17 37)
  rw [hW, hN] at hb
  rw [hW] at hk
  have HB : Hid (W.heap[N]? = some (.cells [.int .u8 (kd : Int), .int .i64 (ia : Int), .int .i64 (ib : Int), .int .i64 c2, .bool true, .int .u8 (nk : Int), .string nn, .string nd, .slice A.aa an A.ac, .string ss, .string tt, .slice la ln lc, .bool f.a, .bool f.b, .bool f.c, .bool f.d, .bool f.e].toArray 37 (0, 0)) ∧ W.heap[N + 1]? = some (.cells zero17 37 (0, 0))) := hb
  have HKW : Hid (Kept (fun k => k < N) w W) := by rw [hN] at hk; exact hk
  have HW : Hid ((w.alloc (.cells #[.int .u8 (kd : Int), .int .i64 (ia : Int), .int .i64 (ib : Int), .int .i64 c2, .bool true, .int .u8 (nk : Int), .string nn, .string nd, .slice A.aa an A.ac, .string ss, .string tt, .slice la ln lc, .bool f.a, .bool f.b, .bool f.c, .bool f.d, .bool f.e] 37)).alloc (.cells zero17 37) = W) := hW
  have HC2 : Hid ((if 0 ≤ zc then (ic : Int) else -1) = c2) := hc2
  clear hW hb hk hN hc2
  go_enter Tryz.func19, Tryz.ntmps19
  go_upto_if 23 with (first | (go_at_call 29; with_reducible refine (ra _).mono ?_; rintro e w1 ⟨rfl, hw1⟩; replace hw1 := hw1.symm; subst hw1) | (go_at_call 29; with_reducible refine (rb _).mono ?_; rintro e w1 ⟨rfl, hw1⟩; replace hw1 := hw1.symm; subst hw1))
  go_cut [] (fun wx => wx = W)
  case first =>
    by_cases hz : 0 ≤ zc
    · have e0 : decide (zc ≥ 0) = true := decide_eq_true hz
      have e1 : decide (0 ≤ zc) = true := decide_eq_true hz
      have hc : c2 = (ic : Int) := by rw [← HC2.out, if_pos hz]
      clear HC2
      subst hc
      go_wp2_with (go_at_call 29; with_reducible refine (rc _).mono ?_; rintro e w1 ⟨rfl, hw1⟩; replace hw1 := hw1.symm; subst hw1)
      go_meet
      case rel => exact HW.out
    · have e0 : decide (zc ≥ 0) = false := decide_eq_false hz
      have e1 : decide (0 ≤ zc) = false := decide_eq_false hz
      have hc : c2 = -1 := by rw [← HC2.out, if_neg hz]
      clear HC2
      subst hc
      go_wp2
      go_meet
      case rel => exact HW.out
  case rest =>
    subst hcut
    have c11 : wc.cell? ⟨N, 11, none⟩ = some (.slice la ln lc) := by rw [cell_block HB.out.1]; rfl
    have hNl : N < wc.heap.size := lt_block HB.out.1
    obtain ⟨W, hW⟩ : ∃ W, wc = W := ⟨_, rfl⟩
    subst hW
    clear ra rb rc HC2 HW
    rw [HN.out]
    go_upto_region 10 with fail
    go_loopg [5, 6] ln (fun gh v5 v6 wr => ∃ (k : Nat) (ao : Option Addr) (c : Nat), gh = ln - k ∧ k ≤ ln ∧ v6 = .int .i64 (k : Int) ∧ v5 = .slice ao k c ∧ OwnZ (fun k => k < wc.heap.size) wr 3 1 ao k c (ivs ((L.take k).map (insN n))) ∧ Kept (fun k => k < wc.heap.size) wc wr)
    case atStart => exact ⟨0, none, 0, rfl, Nat.zero_le _, rfl, rfl, OwnZ.nil _ _ _ _, Kept.refl _ _⟩
    case round =>
      obtain ⟨k, ao, c, hgk, hk, rfl, rfl, hO, hK⟩ := hrel
      have d11 : wr.cell? ⟨N, 11, none⟩ = some (.slice la ln lc) := (hK.cell (p := ⟨N, 11, none⟩) hNl).trans c11
      by_cases hlt : k < ln
      · have hll' : k < L.length := by rw [HLN.out]; exact hlt
        obtain ⟨g1, o1, rfl, hg1, hc1⟩ := HA.out k hll'
        have d : wr.cell? ⟨g1, o1 + k, none⟩ = some (.int .i64 L[k]) := (hK.cell (p := ⟨g1, o1 + k, none⟩) (Nat.lt_of_lt_of_le hg1 HKW.out.size)).trans ((HKW.out.cell (p := ⟨g1, o1 + k, none⟩) (by rw [← HN.out]; exact hg1)).trans hc1)
        have htk : L.take (k + 1) = L.take k ++ [L[k]] := List.take_succ_eq_append_getElem hll'
        obtain ⟨z, hz⟩ : ∃ z, L[k] = z := ⟨_, rfl⟩
        rw [hz] at d htk
        have rl := RL.out z wr
        obtain ⟨iz, hiz⟩ : ∃ iz, insN n z = iz := ⟨_, rfl⟩
        rw [hiz] at rl
        obtain ⟨ao', c', w', hr', hO', hK'⟩ := appI hO (fun k hk => Nat.lt_of_lt_of_le hk hK.size) (by omega) (iz : Int)
        have HO2 : Hid (OwnZ (fun k => k < wc.heap.size) w' 3 1 ao' (k + 1) c' (ivs ((L.take (k + 1)).map (insN n)))) := by
          rw [htk, List.map_append, ivs, List.map_append, List.map_cons, List.map_nil, hiz]; exact (show Hid _ from hO')
        have HK2 : Hid (Kept (fun k => k < wc.heap.size) wc w') := hK.trans hK'
        clear hO hK hc1 hz hiz htk hO' hK'
        go_wp2_with (first | (go_at_call 29; refine rl.mono ?_; rintro e w1 ⟨rfl, hw1⟩; replace hw1 := hw1.symm; subst hw1) | (at_builtin; refine wpList_appR (w' := w') rfl (.tmp 37) (.tmp 45) 33 33 rfl _ _ (.slice ao' (k + 1) c') rfl rfl hr' ?_))
        go_roundg (ln - (k + 1))
        case rel => exact ⟨k + 1, ao', c', rfl, by omega, by go_num, rfl, HO2.out, HK2.out⟩
        case measure => omega
      · have hkn : ln = k := by omega
        subst hkn
        have hall : L.take ln = L := List.take_of_length_le (by rw [HLN.out]; exact Nat.le_refl _)
        rw [hall, HLM.out] at hO
        have hb0 : wr.heap[N]? = _ := (hK.block N hNl).trans HB.out.1
        have hb1 : wr.heap[N + 1]? = _ := (hK.block (N + 1) (lt_block HB.out.2)).trans HB.out.2
        have fz : wr.frozen? ⟨N, 11, none⟩ = false := frozen_block hb0 11
        have hs0 := heap_setCell_list hb0 11 (.slice ao ln c)
        have hne : (⟨N, 11, none⟩ : Addr).block ≠ N + 1 := by show N ≠ N + 1; omega
        obtain ⟨V, hV⟩ : ∃ V, wr.setCell ⟨N, 11, none⟩ (.slice ao ln c) = V := ⟨_, rfl⟩
        have hs1 : V.heap[N + 1]? = some (.cells zero17 37 (0, 0)) := by rw [← hV, Below.heap_setCell _ _ _ _ (fun e => by have e : N + 1 = N := e; omega)]; exact hb1
        rw [hV] at hs0
        have HV : Hid (wr.setCell ⟨N, 11, none⟩ (.slice ao ln c) = V) := hV
        obtain ⟨cs, hcs⟩ : ∃ cs : Array Value, (([.int .u8 (kd : Int), .int .i64 (ia : Int), .int .i64 (ib : Int), .int .i64 c2, .bool true, .int .u8 (nk : Int), .string nn, .string nd, .slice A.aa an A.ac, .string ss, .string tt, .slice la ln lc, .bool f.a, .bool f.b, .bool f.c, .bool f.d, .bool f.e] : List Value).set 11 (.slice ao ln c)).toArray = cs := ⟨_, rfl⟩
        rw [hcs] at hs0
        have hsz : cs.size = 17 := by rw [← hcs]; rfl
        have HCS : Hid ((opC (o.within n) { A with la := ao, lc := c }).toArray = cs) := by rw [HWI.out, ← hcs]; exact (show Hid _ from rfl)
        have hone : cs.all (·.oneCell') = true := by rw [← HCS.out]; exact opC_one _ _
        have HO : Hid (OwnZ (fun k => k < wc.heap.size) wr 3 1 ao ln c (ivs LM)) := hO
        have HK : Hid (Kept (fun k => k < wc.heap.size) wc wr) := hK
        have HANS : Hid ((V.setRow (N + 1) cs).heap[N + 1]? = some (.cells cs 37 (0, 0))) := setRow_heap _ _ _ _ _ _ hs1
        clear hO hK hV hcs hall
        go_upto_region 14 with fail
        rw [HV.out]
        go_wp2_with (first | (refine wpList_load_row rfl 37 _ rfl N rfl 37 cs (0, 0) _ hs0 Tryz.underlying37 rfl (size37 _ hsz) ?_) | (refine wpList_store_row rfl 37 _ _ rfl (N + 1) cs rfl rfl 37 _ hs1 (size37 _ hsz) (by rw [hsz]; rfl) hone ?_))
        refine bodyPost_ret (results_cell_row (p := 4) (ty := 37) rfl _ _ (N + 1) 37 _ _ _ rfl HANS.out Tryz.underlying37 rfl (size37 _ hsz)) rfl ?_
        have kV : Kept (fun k => k < N) w wr := HKW.out.trans (HK.out.mono fun k h => by omega)
        refine ⟨ao, c, by rw [opV, HCS.out], ?_, by rw [HN.out, ← HV.out]; exact kept_setRow (kV.setCell (p := ⟨N, 11, none⟩) (by show ¬ N < N; omega) _) (by omega) _⟩
        refine OwnZ.to HO.out (fun g hg hh => (HO.out.out hg).1 (by rw [HN.out] at hh; show g < wc.heap.size; omega)) (fun g hg => ?_)
        have hgn := (HO.out.out hg).1
        have hgN : g ≠ N := fun e => hgn (by rw [e]; exact hNl)
        have hgN1 : g ≠ N + 1 := fun e => hgn (by rw [e]; exact lt_block HB.out.2)
        rw [setRow_other _ _ _ _ hgN1, ← HV.out, Below.heap_setCell _ _ _ _ (fun e => hgN (by have e : g = N := e; exact e))]
end Go.Proofs.YthhoicmfmfeehaaGreat

namespace Go.Proofs.YthhoicmfmfeehaaGreat
open Go.RowKit
set_option linter.unusedVariables false
theorem Two.elt {K E : Nat → Prop} {w : World} {p r : Nat} {M : Dm} {R G : Nat → List Nat} (h : Two K E w p r M R G) : ∀ k, E k → k < w.heap.size := fun k hk => h.d.lt k (.inr hk)
/-- More is kept: what is new. -/
theorem Two.more {K K' E : Nat → Prop} {w w' : World} {p r : Nat} {M : Dm} {R G : Nat → List Nat} (h : Two K E w p r M R G) (hk : Kept (fun k => k < w.heap.size) w w') (hs : ∀ k, k < w.heap.size → K' k → K k) (hl : ∀ k, K' k → k < w'.heap.size) : Two K' E w' p r M R G := by
  refine ⟨h.d.move (fun g hg _ => hk.block g hg) (fun k hl' hh => ?_) (fun k hh => ?_), h.r.move (fun g hg _ => hk.block g hg) hk.size (fun k hl' hh => ?_) (fun k hh => ?_), fun k he hk' => ?_⟩
  · rcases hh with hh | hh
    · exact .inl (hs k hl' hh)
    · exact .inr hh
  · rcases hh with hh | hh
    · exact hl k hh
    · exact Nat.lt_of_lt_of_le (h.elt k hh) hk.size
  · rcases hh with hh | hh
    · exact .inl (hs k hl' hh)
    · exact .inr ⟨hl', hh.2⟩
  · rcases hh with hh | hh
    · exact hl k hh
    · exact hh.1
  · exact h.nk k he (hs k (h.elt k he) hk')
/-- Less is kept. -/
theorem Two.less {K K' E : Nat → Prop} {w : World} {p r : Nat} {M : Dm} {R G : Nat → List Nat} (h : Two K' E w p r M R G) (hs : ∀ k, K k → K' k) : Two K E w p r M R G :=
  ⟨h.d.more (Kept.refl _ _) (fun k hk => .inl (by
      rcases hk with hk | hk
      · exact .inl (hs k hk)
      · exact .inr hk)) (fun k hk => by
      rcases hk with hk | hk
      · exact h.lt k (hs k hk)
      · exact h.elt k hk),
    h.r.more (Kept.refl _ _) (fun k hk => .inl (by
      rcases hk with hk | hk
      · exact .inl (hs k hk)
      · exact .inr hk)) (fun k hk => by
      rcases hk with hk | hk
      · exact h.lt k (hs k hk)
      · exact hk.1), fun k he hk => h.nk k he (hs k hk)⟩
/-- A box with the call, both documents beside it. -/
structure DoesSt (K E : Nat → Prop) (w : World) (p r : Nat) (M : Dm) (R G : Nat → List Nat) (o : Opx) (N : Nat) (K1 : Nat → Prop) (A : OpA) (V : World) : Prop where
  blk : V.heap[N]? = some (.cells (opC o A).toArray 37 (0, 0))
  two : Two K1 E V p r M R G
  ats : AtsAt K1 V A.aa o.ats
  al : o.ats.length ≤ A.ac
  ints : IntsZ K1 V A.la o.l
  il : o.l.length ≤ A.lc
  kk : ∀ k, K k → K1 k
  kn : K1 N
  keep : Kept K w V
theorem step_load17 {ops : Array Oper} {o : Oper} {a : Act} {w : World} {Kn : Act → World → Prop} {Q : Exit → Act → World → Prop} {E : Prop} (hgd : o.guard = none) (x : Operand) (ho : o.op = .load 37 x)
    (g : Nat) (hx : a.eval x = .pointer (some ⟨g, 0, none⟩)) (cs : Array Value) (hg : w.heap[g]? = some (.cells cs 37)) (hc : cs.size = 17) (h : Kn (a.put o.dst (.agg cs)) w) : if Region.wanted o (yielded ops a.tmps) = true then Oper.wp Tryz.prog o a w Kn Q else E := by
  have hw : Region.wanted o (yielded ops a.tmps) = true := by simp [Region.wanted, hgd]
  rw [if_pos hw]
  exact wp_load_row 37 x ho g hx 37 cs _ _ hg Tryz.underlying37 rfl (size37 cs hc) h
theorem step_store17 {ops : Array Oper} {o : Oper} {a : Act} {w : World} {Kn : Act → World → Prop} {Q : Exit → Act → World → Prop} {E : Prop} (hgd : o.guard = none) (x y : Operand) (ho : o.op = .store 37 x y)
    (g : Nat) (cells : Array Value) (hx : a.eval x = .pointer (some ⟨g, 0, none⟩)) (hy : a.eval y = .agg cells) (old : Array Value) (hg : w.heap[g]? = some (.cells old 37 (0, 0))) (hc : cells.size = 17) (hold : old.size = 17) (h1 : cells.all (·.oneCell') = true)
    (h : Kn (a.put o.dst undef) (w.setRow g cells)) : if Region.wanted o (yielded ops a.tmps) = true then Oper.wp Tryz.prog o a w Kn Q else E := by
  have hw : Region.wanted o (yielded ops a.tmps) = true := by simp [Region.wanted, hgd]
  rw [if_pos hw]
  exact wp_store_row 37 x y ho g cells hx hy 37 old hg (size37 cells hc) (by rw [hold, hc]) h1 h
theorem enter20 (args : Array Value) (X : World) : (callFunc 20 args).run Tryz.prog X = .ok (.enter 20 args) X := entersE Tryz.func20 (by kernel_rfl) (c := _) rfl args X
theorem enter19 (args : Array Value) (X : World) : (callFunc 19 args).run Tryz.prog X = .ok (.enter 19 args) X := entersE Tryz.func19 (by kernel_rfl) (c := _) rfl args X
/-- Within, both ways. -/
theorem opWithin_any (o : Opx) (A : OpA) (n : Nat) (h1 : 1 ≤ n) (hn : n ≤ 1000000) (hl : o.l.length ≤ 1000000) (w : World) (hA : IntsZ (fun k => k < w.heap.size) w A.la o.l) (hlc : o.l.length ≤ A.lc) :
    Calls Tryz.prog 19 #[opV o A, .int .i64 (n : Int)] w fun e w' => ∃ A' : OpA, e = .returned (opV (o.within n) A') ∧ A'.aa = A.aa ∧ A'.ac = A.ac ∧ (o.within n).l.length ≤ A'.lc ∧ (A'.la = A.la ∧ (o.within n).l = o.l ∨ IntsZ (fun k => w.heap.size ≤ k ∧ k < w'.heap.size) w' A'.la (o.within n).l) ∧ Kept (fun k => k < w.heap.size) w w' := by
  cases hi : o.inn with
  | false =>
    have e : o.within n = o := if_pos hi
    refine (within_out o A n hi w).mono ?_
    rintro e1 w' ⟨rfl, hk⟩
    exact ⟨A, by rw [e], rfl, rfl, by rw [e]; exact hlc, .inl ⟨rfl, by rw [e]⟩, hk⟩
  | true =>
    have e : (o.within n).l = o.l.map fun z => (insN n z : Int) := by
      unfold Opx.within
      rw [if_neg (by rw [hi]; decide)]
    refine (within_in o A n h1 hn hi hl w hA).mono ?_
    rintro e1 w' ⟨ao, c, rfl, hO, hk⟩
    refine ⟨_, rfl, rfl, rfl, by rw [e, List.length_map]; exact hO.2.1, .inr fun j hj => ?_, hk⟩
    rw [e, List.length_map] at hj
    obtain ⟨g, he, hc⟩ := hO.cell (j := j) (u := iv (insN n o.l[j])) (by rw [ivs, List.getElem?_map, List.getElem?_map, List.getElem?_eq_getElem hj]; rfl)
    have hb : blkOf ao g := by rw [he]; rfl
    refine ⟨g, 0, he, ⟨Nat.le_of_not_lt (OwnZ.out hO hb).1, (OwnZ.out hO hb).2⟩, ?_⟩
    rw [Nat.zero_add, hc]
    congr 2
    simp only [e, List.getElem_map]
theorem within_eq (o : Opx) (n : Nat) : (o.within n).k = o.k ∧ (o.within n).inn = o.inn ∧ (o.within n).nk = o.nk ∧ (o.within n).nn = o.nn ∧ (o.within n).nd = o.nd ∧ (o.within n).ats = o.ats ∧ (o.within n).s = o.s ∧ (o.within n).t = o.t ∧ (o.within n).f = o.f ∧ (o.within n).l.length = o.l.length := by
  unfold Opx.within
  split
  · exact ⟨rfl, rfl, rfl, rfl, rfl, rfl, rfl, rfl, rfl, rfl⟩
  · exact ⟨rfl, rfl, rfl, rfl, rfl, rfl, rfl, rfl, rfl, by rw [List.length_map]⟩
end Go.Proofs.YthhoicmfmfeehaaGreat
