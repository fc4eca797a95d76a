/-
  A node is put at the end of its own row of gifts.
  What is given, in rows and in links (pure).
  What stays true of a document, whatever is called (pure).
  The document's own Give: a row of what is given grows.
-/
import Derived.Test.YthhoicmfmfeehaaGreatZ09
import Derived.Test.YthhoicmfmfeehaaGreatZ34
import Derived.Test.YthhoicmfmfeehaaGreatZ37
import Derived.Test.YthhoicmfmfeehaaGreatZ32
namespace Go.Proofs.YthhoicmfmfeehaaGreat
open Go.RowKit
set_option linter.unusedVariables false
theorem in3_self {L : Nat → Lk} {i : Nat} {P : Int} : (in3 L i i (-1) P i).prev = P := by
  unfold in3
  rw [in2_eq, if_pos rfl, updL_same, updL_same]
theorem in4_self {L : Nat → Lk} {i : Nat} {P : Int} (hP : P = -1 ∨ ∃ q : Nat, q ≠ i ∧ P = (q : Int)) : in4 L i i (-1) P = inL L i i (-1) P := by
  funext k
  unfold in4 in3 inL
  rw [in2_eq]
  have e1 : ¬ ((k : Int) = -1) := by omega
  rcases hP with rfl | ⟨q, hq, rfl⟩ <;> unfold updL
  · by_cases c : k = i
    · subst c
      simp [*]
    · simp [*]
  · have e2 : ¬ ((q : Int) = -1) := by omega
    by_cases c : k = i
    · subst c
      have : ¬ k = q := fun e => hq e.symm
      simp [*]
    · by_cases c2 : k = q
      · subst c2; simp [*]
      · have : ¬ (k : Int) = (q : Int) := by omega
        simp [*]
set_option maxRecDepth 20000 in
set_option maxHeartbeats 2000000 in
theorem putGself (K : Nat → Prop) (p g cap i : Nat) (S : Dm) (R : Nat → List Nat) (w : World) (h : DY K w p S (some ⟨g, 0, none⟩) cap) (hW : WF S.n S.gf R) (hi : i < S.n) (hn : S.n ≤ 1000000000) :
    Calls Tryz.prog 76 #[chG p, .int .i64 (i : Int), .int .i64 (i : Int), .int .i64 (-1)] w fun e w' => e = .returned (.tuple #[]) ∧ DY K w' p (S.setG (putL S.gf i i (-1))) (some ⟨g, 0, none⟩) cap ∧ Kept K w w' := by
  obtain ⟨n, hne⟩ : ∃ n, S.n = n := ⟨_, rfl⟩
  have rt := takeOutG K p g cap i S R w h hW hi hn
  have hPo := befP_or hW hi hi (bef := -1) (.inl rfl)
  obtain ⟨L, hL⟩ : ∃ L, outL S.gf i = L := ⟨_, rfl⟩
  have hput : putL S.gf i i (-1) = inL L i i (-1) (befP L i (-1)) := by rw [← hL]; rfl
  rw [hput]
  rw [hL] at rt hPo
  obtain ⟨P, hP⟩ : ∃ P, befP L i (-1) = P := ⟨_, rfl⟩
  rw [hP] at hPo ⊢
  have hP2 : P = -1 ∨ ∃ q : Nat, q ≠ i ∧ P = (q : Int) := by
    rcases hPo with hb | ⟨m, _, h2, h3⟩
    · exact .inl hb
    · exact .inr ⟨m, h2, h3⟩
  have hin4 := in4_self (L := L) hP2
  have hin3 := in3_self (L := L) (i := i) (P := P)
  rw [← hin4]
  rw [hne] at hPo hi
  have r1 := fun (j : Nat) (hj : j < n) (X : World) (hX : X.cell? ⟨p, 1, none⟩ = some (.slice (some ⟨g, 0, none⟩) n cap)) => giftOf_any p g n cap j X hX hj (by omega)
  have ri := r1 i hi
  have hgp := h.gk.2.1
  have HNE : Hid (S.n = n) := hne
  have HP : Hid (befP L i (-1) = P) := hP
  have HPO : Hid (P = -1 ∨ ∃ q : Nat, q < n ∧ q ≠ i ∧ P = (q : Int)) := hPo
  have H3 : Hid ((in3 L i i (-1) P i).prev = P) := hin3
  clear h hW hL hput hP hne hPo hP2 hin4 hin3
  go_enter Tryz.func76, Tryz.ntmps76
  go_wp2_with fail
  refine rt.mono ?_
  rintro e w1 ⟨rfl, hY1, hK1⟩
  clear rt
  have hiS : i < (S.setG L).n := by show i < S.n; rw [HNE.out]; exact hi
  have c1 : w1.cell? ⟨p, 1, none⟩ = some (.slice (some ⟨g, 0, none⟩) n cap) := by have := hY1.c1; rw [show (S.setG L).n = n from HNE.out] at this; exact this
  obtain ⟨a0, a1, a2, -, -⟩ := hY1.gcell hiS
  have f0 := hY1.fg (i * 22 + 17)
  have f2 := hY1.fg (i * 22 + 19)
  have D1 := hY1.setGup hiS (i : Int)
  have D2 := D1.1.setGnext hiS (-1)
  have e1 : updL (updL L i { L i with up := (i : Int) }) i { updL L i { L i with up := (i : Int) } i with next := -1 } = in1 L i i (-1) := by
    rw [updL_updL, updL_same]; rfl
  have D2' : DY K ((w1.setCell ⟨g, i * 22 + 17, none⟩ (.int .i64 (i : Int))).setCell ⟨g, i * 22 + 19, none⟩ (.int .i64 (-1))) p (S.setG (in1 L i i (-1))) (some ⟨g, 0, none⟩) cap := by rw [← e1]; exact D2.1
  have kk := hK1.trans (D1.2.trans D2.2)
  obtain ⟨W1, hW1⟩ : ∃ W1, ((w1.setCell ⟨g, i * 22 + 17, none⟩ (.int .i64 (i : Int))).setCell ⟨g, i * 22 + 19, none⟩ (.int .i64 (-1))) = W1 := ⟨_, rfl⟩
  rw [hW1] at D2' kk
  have HW1 : Hid (((w1.setCell ⟨g, i * 22 + 17, none⟩ (.int .i64 (i : Int))).setCell ⟨g, i * 22 + 19, none⟩ (.int .i64 (-1))) = W1) := hW1
  have HY2 : Hid (DY K W1 p (S.setG (in1 L i i (-1))) (some ⟨g, 0, none⟩) cap) := D2'
  have HK2 : Hid (Kept K w W1) := kk
  clear hY1 hK1 D1 D2 D2' e1 hW1 kk
  go_upto_if 24 with (go_at_call 104; refine (ri _ ?_).mono ?_; exact c1; rintro e w2 ⟨rfl, rfl⟩)
  rw [HW1.out]
  clear HW1 a0 a1 a2 f0 f2 c1
  have c1 : W1.cell? ⟨p, 1, none⟩ = some (.slice (some ⟨g, 0, none⟩) n cap) := by have := HY2.out.c1; rw [show (S.setG (in1 L i i (-1))).n = n from HNE.out] at this; exact this
  go_cut [] (fun wx => DY K wx p (S.setG (in3 L i i (-1) P)) (some ⟨g, 0, none⟩) cap ∧ Kept K w wx)
  case first =>
    have eP : (in1 L i i (-1) i).last = P := by
      unfold in1
      rw [updL_same, ← HP.out]; rfl
    obtain ⟨-, -, -, -, t4⟩ := HY2.out.gcell (i := i) hiS
    replace t4 : W1.cell? ⟨g, i * 22 + 21, none⟩ = some (.int .i64 P) := by rw [← eP]; exact t4
    obtain ⟨-, t1, -, -, -⟩ := HY2.out.gcell (i := i) hiS
    have D1 := HY2.out.setGprev (i := i) hiS P
    have f1 := HY2.out.fg (i * 22 + 18)
    have f2 := D1.1.fg (i * 22 + 21)
    have D2 := D1.1.setGlast (i := i) hiS (i : Int)
    obtain ⟨-, -, -, -, t5⟩ := D1.1.gcell (i := i) hiS
    have c2 : (W1.setCell ⟨g, i * 22 + 18, none⟩ (.int .i64 P)).cell? ⟨p, 1, none⟩ = some (.slice (some ⟨g, 0, none⟩) n cap) := by
      rw [World.cell?_setCell_other _ _ _ _ (fun e => by injection e with e1; exact hgp e1)]; exact c1
    have HD : Hid (DY K ((W1.setCell ⟨g, i * 22 + 18, none⟩ (.int .i64 P)).setCell ⟨g, i * 22 + 21, none⟩ (.int .i64 (i : Int))) p (S.setG (in3 L i i (-1) P)) (some ⟨g, 0, none⟩) cap) := D2.1
    have HK : Hid (Kept K w ((W1.setCell ⟨g, i * 22 + 18, none⟩ (.int .i64 P)).setCell ⟨g, i * 22 + 21, none⟩ (.int .i64 (i : Int)))) := HK2.out.trans (D1.2.trans D2.2)
    clear D1 D2 eP HP HPO H3 HNE
    go_wp2_with (first | (go_at_call 104; refine (ri _ ?_).mono ?_; exact c1; rintro e w2 ⟨rfl, hw2⟩; subst hw2) | (go_at_call 104; refine (ri _ ?_).mono ?_; exact c2; rintro e w2 ⟨rfl, hw2⟩; subst hw2))
    go_meet
    case rel => exact ⟨HD.out, HK.out⟩
  case rest =>
    obtain ⟨hY3, hK3⟩ := hcut
    clear c1 HY2 HK2
    have c1 : wc.cell? ⟨p, 1, none⟩ = some (.slice (some ⟨g, 0, none⟩) n cap) := by have := hY3.c1; rw [show (S.setG (in3 L i i (-1) P)).n = n from HNE.out] at this; exact this
    obtain ⟨-, t1, -, -, -⟩ := hY3.gcell (i := i) hiS
    replace t1 : wc.cell? ⟨g, i * 22 + 18, none⟩ = some (.int .i64 P) := by
      rw [show (S.setG (in3 L i i (-1) P)).gf i = in3 L i i (-1) P i from rfl, H3.out] at t1
      exact t1
    by_cases hP1 : P = -1
    · subst hP1
      obtain ⟨-, -, -, t3, -⟩ := hY3.gcell (i := i) hiS
      have f3 := hY3.fg (i * 22 + 20)
      have D := hY3.setGfirst (i := i) hiS (i : Int)
      have HD : Hid (DY K (wc.setCell ⟨g, i * 22 + 20, none⟩ (.int .i64 (i : Int))) p (S.setG (in4 L i i (-1) (-1))) (some ⟨g, 0, none⟩) cap) := D.1
      have HK : Hid (Kept K w (wc.setCell ⟨g, i * 22 + 20, none⟩ (.int .i64 (i : Int)))) := hK3.trans D.2
      clear D hY3 hK3 HP HPO H3 HNE
      go_wp2_with (go_at_call 104; refine (ri _ ?_).mono ?_; exact c1; rintro e w2 ⟨rfl, hw2⟩; subst hw2)
      go_end0
      exact ⟨rfl, HD.out, HK.out⟩
    · rcases HPO.out with e0 | ⟨q, hq, hqi, e0⟩
      · exact absurd e0 hP1
      subst e0
      have eb : ¬ ((q : Int) = -1) := hP1
      have hqS : q < (S.setG L).n := by show q < S.n; rw [HNE.out]; exact hq
      obtain ⟨-, -, t3, -, -⟩ := hY3.gcell (i := q) hqS
      have f3 := hY3.fg (q * 22 + 19)
      have D := hY3.setGnext (i := q) hqS (i : Int)
      have e4 : in4 L i i (-1) (q : Int) = updL (in3 L i i (-1) (q : Int)) q { in3 L i i (-1) (q : Int) q with next := (i : Int) } := by
        unfold in4
        rw [if_neg eb, Int.toNat_natCast]
      have HD : Hid (DY K (wc.setCell ⟨g, q * 22 + 19, none⟩ (.int .i64 (i : Int))) p (S.setG (in4 L i i (-1) (q : Int))) (some ⟨g, 0, none⟩) cap) := by rw [e4]; exact D.1
      have HK : Hid (Kept K w (wc.setCell ⟨g, q * 22 + 19, none⟩ (.int .i64 (i : Int)))) := hK3.trans D.2
      have hq0 : ((q : Int) == -1) = false := by simp
      have rq := r1 q hq
      clear D hY3 hK3 HP HPO H3 HNE e4 hP1
      go_wp2_with (go_at_call 104; refine (rq _ ?_).mono ?_; exact c1; rintro e w2 ⟨rfl, hw2⟩; subst hw2)
      go_end0
      exact ⟨rfl, HD.out, HK.out⟩
end Go.Proofs.YthhoicmfmfeehaaGreat

namespace Go.Proofs.YthhoicmfmfeehaaGreat
open Go.RowKit
set_option linter.unusedVariables false
theorem updR_updR (R : Nat → List Nat) (u : Nat) (a b : List Nat) : updR (updR R u a) u b = updR R u b := by
  funext k
  unfold updR
  by_cases c : k = u
  · rw [if_pos c, if_pos c]
  · rw [if_neg c, if_neg c, if_neg c]
theorem updR_self (R : Nat → List Nat) (u : Nat) (a : List Nat) (h : R u = a) : updR R u a = R := by
  funext k
  unfold updR
  by_cases c : k = u
  · rw [if_pos c, c, h]
  · rw [if_neg c]
theorem WF.outs {n : Nat} {slot : Nat} (hs : slot < n) : ∀ (Q : List Nat) {L : Nat → Lk} {G : Nat → List Nat}, WF n L G → G slot = Q → WF n (outsL L Q) (updR G slot [])
  | [], L, G, h, e => by rw [updR_self G slot [] e]; exact h
  | q :: r, L, G, h, e => by
    have hq : q ∈ G slot := by rw [e]; exact List.mem_cons_self ..
    have hu := h.up hs hq
    have h1 := h.out (h.lt slot hs q hq)
    have e1 : outR L G q = updR G slot r := by
      unfold outR
      rw [if_neg (by omega), hu, Int.toNat_natCast, e, List.erase_cons_head]
    rw [e1] at h1
    have := WF.outs hs r h1 (updR_same _ _ _)
    rw [updR_updR] at this
    exact this
/-- The rows, when those are given one by one. -/
def gsR (slot : Nat) : (Nat → Lk) → (Nat → List Nat) → List Nat → Nat → List Nat
  | _, G, [] => G
  | L, G, x :: r => gsR slot (if (L x).up = (slot : Int) then L else putL L slot x (-1)) (if (L x).up = (slot : Int) then G else updR (outR L G x) slot (outR L G x slot ++ [x])) r
theorem gsR_snoc (slot x : Nat) : ∀ (a : List Nat) (L : Nat → Lk) (G : Nat → List Nat), gsR slot L G (a ++ [x]) = if (addsL L slot a x).up = (slot : Int) then gsR slot L G a else updR (outR (addsL L slot a) (gsR slot L G a) x) slot (outR (addsL L slot a) (gsR slot L G a) x slot ++ [x])
  | [], L, G => rfl
  | y :: r, L, G => gsR_snoc slot x r _ _
theorem WF.gs {n : Nat} {slot : Nat} (hs : slot < n) : ∀ (l : List Nat) {L : Nat → Lk} {G : Nat → List Nat}, WF n L G → (∀ i ∈ l, i < n) → WF n (addsL L slot l) (gsR slot L G l)
  | [], L, G, h, _ => h
  | x :: r, L, G, h, hl => by
    refine WF.gs hs r (L := if (L x).up = (slot : Int) then L else putL L slot x (-1)) (G := if (L x).up = (slot : Int) then G else updR (outR L G x) slot (outR L G x slot ++ [x])) ?_ (fun i hi => hl i (List.mem_cons_of_mem _ hi))
    by_cases c : (L x).up = (slot : Int)
    · rw [if_pos c, if_pos c]; exact h
    · rw [if_neg c, if_neg c]
      exact h.putOk hs (hl x (List.mem_cons_self ..)) (.last rfl)
/-- To which slot something is given. -/
theorem WF.slotA {n : Nat} {L : Nat → Lk} {G : Nat → List Nat} (h : WF n L G) {x : Nat} (hx : x < n) : SlotA n G (x : Int) (L x).up := by
  have mem : ∀ t, (x : Int) ∈ (G t).map (fun k : Nat => (k : Int)) ↔ x ∈ G t := fun t => by
    constructor
    · intro hm
      obtain ⟨y, hy, e⟩ := List.mem_map.1 hm
      have : y = x := by omega
      exact this ▸ hy
    · exact fun hm => List.mem_map.2 ⟨x, hm, rfl⟩
  rcases h.inn x hx with e | ⟨u, hu, e, hm⟩
  · rw [e]
    refine .no fun t ht hm => ?_
    have := h.up ht ((mem t).1 hm)
    omega
  · rw [e]
    refine .yes hu ((mem u).2 hm) fun t ht hm' => ?_
    have := h.one hu (by omega) hm ((mem t).1 hm')
    omega
theorem SlotA.one {n : Nat} {G : Nat → List Nat} {x z z' : Int} (h : SlotA n G x z) (h' : SlotA n G x z') : z = z' := by
  cases h with
  | no hn =>
    cases h' with
    | no _ => rfl
    | yes hs hm _ => exact absurd hm (hn _ hs)
  | @yes s hs hm ha =>
    cases h' with
    | no hn => exact absurd hm (hn _ hs)
    | @yes s' hs' hm' ha' =>
      rcases Nat.lt_trichotomy s s' with c | c | c
      · exact absurd hm (ha' _ c)
      · rw [c]
      · exact absurd hm' (ha _ c)
theorem erase_filter {l : List Nat} (h : l.Nodup) (x : Nat) : l.filter (fun y => decide (y ≠ x)) = l.erase x := by
  rw [h.erase_eq_filter x]
  congr 1
  funext y
  simp [bne]
  by_cases c : y = x <;> simp [c]
end Go.Proofs.YthhoicmfmfeehaaGreat

namespace Go.Proofs.YthhoicmfmfeehaaGreat
open Go.RowKit
set_option linter.unusedVariables false
/-- What is true of the nodes. -/
structure Core (M : Dm) : Prop where
  pos : 0 < M.n
  el : ∀ i, i < M.n → (M.nd i).kind = 1 → validP (M.nd i).name = true ∧ soundA (M.nd i).attrs = true
  oth : ∀ i, i < M.n → (M.nd i).kind ≠ 1 → (M.nd i).attrs = []
  host : ∀ i, i < M.n → ((M.nd i).host = -1 ∧ (M.nd i).kind ≠ 5) ∨ ∃ h : Nat, h < M.n ∧ (M.nd i).host = (h : Int) ∧ (M.pl i).up = -1 ∧ i ≠ 0 ∧ (((M.nd i).kind = 5 ∧ (M.nd h).shadow = (i : Int)) ∨ ((M.nd i).kind = 4 ∧ (M.nd h).content = (i : Int)))
  shad : ∀ i, i < M.n → (M.nd i).shadow = -1 ∨ ∃ k : Nat, k < M.n ∧ (M.nd i).shadow = (k : Int) ∧ (M.nd i).kind = 1 ∧ (M.nd k).kind = 5 ∧ (M.nd k).host = (i : Int)
  cont : ∀ i, i < M.n → (M.nd i).content = -1 ∨ ∃ k : Nat, k < M.n ∧ (M.nd i).content = (k : Int) ∧ (M.nd i).kind = 1 ∧ (M.nd k).kind = 4 ∧ (M.nd k).host = (i : Int)
theorem Core.move {M : Dm} (h : Core M) {i : Nat} (hi : i < M.n) : moveB M i = true ↔ i ≠ 0 ∧ (M.nd i).host < 0 := by
  unfold moveB
  rcases h.host i hi with ⟨h1, h2⟩ | ⟨u, hu, h1, -, h0, h3⟩
  · rw [h1]
    simp [h2]
  · rw [h1]
    rcases h3 with ⟨h3, -⟩ | ⟨h3, -⟩
    · simp [h3]
    · simp [h3]
theorem soundA_few {l : List Atr} (h : soundA l = true) : l.length ≤ 50 := by
  unfold soundA at h
  simp at h
  exact h.1
theorem Core.few {M : Dm} (h : Core M) {i : Nat} (hi : i < M.n) : (M.nd i).attrs.length ≤ 50 := by
  by_cases c : (M.nd i).kind = 1
  · exact soundA_few (h.el i hi c).2
  · rw [h.oth i hi c]; exact Nat.zero_le _
theorem allW_writ : ∀ (l : List Atr) (L : List (List UInt8)), allW L l = true → ∀ x ∈ l, writP x = true
  | [], _, _, x, hx => by cases hx
  | a :: r, L, h, x, hx => by
    simp only [allW, Bool.and_eq_true] at h
    rcases List.mem_cons.1 hx with rfl | hx
    · exact h.1.1
    · exact allW_writ r _ h.2 x hx
theorem writ_size {a : Atr} (h : writP a = true) : 1 ≤ a.name.length ∧ a.name.length ≤ 60 ∧ a.value.length ≤ 2000 := by
  unfold writP at h
  simp at h
  exact ⟨h.1.1.1, h.1.1.2, h.2⟩
theorem Core.atr {M : Dm} (h : Core M) {i : Nat} (hi : i < M.n) : ∀ x ∈ (M.nd i).attrs, x.name.length ≤ 60 ∧ x.value.length ≤ 2000 := by
  intro x hx
  by_cases c : (M.nd i).kind = 1
  · have hs := (h.el i hi c).2
    unfold soundA at hs
    simp at hs
    exact (writ_size (allW_writ _ _ hs.2 x hx)).2
  · rw [h.oth i hi c] at hx; cases hx
/-- All of it. -/
structure Inv (M : Dm) (R G : Nat → List Nat) (rk : Nat → Nat) : Prop where
  core : Core M
  good : Good M R rk
  gw : WF M.n M.gf G
theorem Core.congr {M M' : Dm} (h : Core M) (e1 : M'.n = M.n) (e2 : ∀ i, i < M.n → M'.nd i = M.nd i) (e3 : ∀ i, i < M.n → (M.nd i).host ≠ -1 → (M.pl i).up = -1 → (M'.pl i).up = -1) : Core M' := by
  refine ⟨by rw [e1]; exact h.pos, fun i hi => ?_, fun i hi => ?_, fun i hi => ?_, fun i hi => ?_, fun i hi => ?_⟩ <;> rw [e1] at hi
  · rw [e2 i hi]; exact h.el i hi
  · rw [e2 i hi]; exact h.oth i hi
  · rw [e2 i hi]
    rcases h.host i hi with h1 | ⟨u, hu, h1, h2, h3, h4⟩
    · exact .inl h1
    · exact .inr ⟨u, by rw [e1]; exact hu, h1, e3 i hi (by omega) h2, h3, by rw [e2 u hu]; exact h4⟩
  · rw [e2 i hi]
    rcases h.shad i hi with h1 | ⟨k, hk, h1, h2, h3⟩
    · exact .inl h1
    · exact .inr ⟨k, by rw [e1]; exact hk, h1, h2, by rw [e2 k hk]; exact h3⟩
  · rw [e2 i hi]
    rcases h.cont i hi with h1 | ⟨k, hk, h1, h2, h3⟩
    · exact .inl h1
    · exact .inr ⟨k, by rw [e1]; exact hk, h1, h2, by rw [e2 k hk]; exact h3⟩
theorem new_nd (limit k : Nat) (hk : k < 1) : (Dm.new limit).nd k = frag0.new := if_pos (by show k = 0; omega)
theorem Inv.new (limit : Nat) : Inv (Dm.new limit) (fun _ => []) (fun _ => []) (fun _ => 0) := by
  have hgf : ∀ k, ((Dm.new limit).gf k) = Lk.nil := fun k => by
    show updL (fun _ => Lk.nil) 0 Lk.nil k = Lk.nil
    unfold updL
    split <;> rfl
  refine ⟨⟨Nat.zero_lt_one, fun i hi h => ?_, fun i hi h => ?_, fun i hi => ?_, fun i hi => ?_, fun i hi => ?_⟩, Good.new limit, ⟨fun u hu => by rw [hgf]; rfl, fun u hu => by rw [hgf]; rfl, fun u hu => trivial, fun u hu => List.nodup_nil, fun u hu i hi => (by cases hi), fun i hi => .inl (by rw [hgf]; rfl)⟩⟩
  · rw [new_nd _ _ hi] at h; cases h
  · rw [new_nd _ _ hi]; rfl
  · rw [new_nd _ _ hi]; exact .inl ⟨rfl, by decide⟩
  · rw [new_nd _ _ hi]; exact .inl rfl
  · rw [new_nd _ _ hi]; exact .inl rfl
/-- A node that may be made. -/
structure MkOk (x : Nd) : Prop where
  k5 : x.kind ≠ 5
  el : x.kind = 1 → validP x.name = true ∧ soundA x.attrs = true
  oth : x.kind ≠ 1 → x.attrs = []
theorem soundN_ok {x : Mk} (h : soundN x = true) : MkOk x.nd := by
  obtain ⟨kd, nm, dt, at0⟩ := x
  by_cases k4 : kd = 4
  · subst k4
    rw [soundN_4] at h
    simp at h
    exact ⟨by show (4 : Nat) ≠ 5; decide, fun e => absurd e (by show ¬ (4 : Nat) = 1; decide), fun _ => h.2⟩
  by_cases k2 : kd = 2
  · subst k2
    rw [soundN_2] at h
    simp at h
    exact ⟨by show (2 : Nat) ≠ 5; decide, fun e => absurd e (by show ¬ (2 : Nat) = 1; decide), fun _ => h.2⟩
  rw [soundN_o kd k4 k2] at h
  have hk : kindP ⟨0, kd, nm, at0, dt⟩ true = true := by
    simp only [soundL, soundP, Bool.and_eq_true] at h
    exact h.2.1.2
  unfold kindP at hk
  by_cases k1 : kd = 1
  · subst k1
    rw [if_pos rfl] at hk
    simp only [Bool.and_eq_true] at hk
    exact ⟨by show (1 : Nat) ≠ 5; decide, fun _ => ⟨hk.1.1, hk.2⟩, fun e => absurd rfl e⟩
  rw [if_neg k1, if_neg k2] at hk
  by_cases k3 : kd = 3
  · subst k3
    rw [if_pos rfl] at hk
    simp at hk
    exact ⟨by show (3 : Nat) ≠ 5; decide, fun e => absurd e (by show ¬ (3 : Nat) = 1; decide), fun _ => hk.2⟩
  rw [if_neg k3] at hk
  by_cases k6 : kd = 6
  · subst k6
    rw [if_pos rfl] at hk
    simp at hk
    exact ⟨by show (6 : Nat) ≠ 5; decide, fun e => absurd e (by show ¬ (6 : Nat) = 1; decide), fun _ => hk.2⟩
  rw [if_neg k6] at hk
  cases hk
theorem add_nd_old (M : Dm) (x : Nd) {k : Nat} (h : k ≠ M.n) : (M.add x).nd k = M.nd k := if_neg h
theorem add_nd_new (M : Dm) (x : Nd) : (M.add x).nd M.n = x.new := if_pos rfl
theorem add_pl_old (M : Dm) (x : Nd) {k : Nat} (h : k ≠ M.n) : (M.add x).pl k = M.pl k := updL_ne _ _ h
theorem add_pl_new (M : Dm) (x : Nd) : (M.add x).pl M.n = Lk.nil := updL_same _ _ _
theorem Core.add {M : Dm} (h : Core M) (x : Nd) (hx : MkOk x) : Core (M.add x) := by
  have low : ∀ i, i < (M.add x).n → i = M.n ∨ (i < M.n ∧ i ≠ M.n) := fun i hi => by
    have : i < M.n + 1 := hi
    omega
  refine ⟨Nat.succ_pos _, fun i hi => ?_, fun i hi => ?_, fun i hi => ?_, fun i hi => ?_, fun i hi => ?_⟩
  · rcases low i hi with rfl | ⟨h1, h2⟩
    · rw [add_nd_new]; exact hx.el
    · rw [add_nd_old _ _ h2]; exact h.el i h1
  · rcases low i hi with rfl | ⟨h1, h2⟩
    · rw [add_nd_new]; exact hx.oth
    · rw [add_nd_old _ _ h2]; exact h.oth i h1
  · rcases low i hi with rfl | ⟨h1, h2⟩
    · rw [add_nd_new]; exact .inl ⟨rfl, hx.k5⟩
    · rw [add_nd_old _ _ h2, add_pl_old _ _ h2]
      rcases h.host i h1 with h3 | ⟨u, hu, h3, h4, h5, h6⟩
      · exact .inl h3
      · exact .inr ⟨u, by show u < M.n + 1; omega, h3, h4, h5, by rw [add_nd_old _ _ (by omega : u ≠ M.n)]; exact h6⟩
  · rcases low i hi with rfl | ⟨h1, h2⟩
    · rw [add_nd_new]; exact .inl rfl
    · rw [add_nd_old _ _ h2]
      rcases h.shad i h1 with h3 | ⟨k, hk, h3, h4, h5⟩
      · exact .inl h3
      · exact .inr ⟨k, by show k < M.n + 1; omega, h3, h4, by rw [add_nd_old _ _ (by omega : k ≠ M.n)]; exact h5⟩
  · rcases low i hi with rfl | ⟨h1, h2⟩
    · rw [add_nd_new]; exact .inl rfl
    · rw [add_nd_old _ _ h2]
      rcases h.cont i h1 with h3 | ⟨k, hk, h3, h4, h5⟩
      · exact .inl h3
      · exact .inr ⟨k, by show k < M.n + 1; omega, h3, h4, by rw [add_nd_old _ _ (by omega : k ≠ M.n)]; exact h5⟩
theorem Inv.add {M : Dm} {R G : Nat → List Nat} {rk : Nat → Nat} (h : Inv M R G rk) (x : Nd) (hx : MkOk x) (hl : x.attrs.length ≤ 1000) : Inv (M.add x) (updR R M.n []) (updR G M.n []) rk :=
  ⟨h.core.add x hx, h.good.add x hl, h.gw.more _ (fun k hk => updL_ne _ _ (by omega)) (updL_same _ _ _)⟩
theorem MkOk.few {x : Nd} (h : MkOk x) : x.attrs.length ≤ 1000 := by
  by_cases c : x.kind = 1
  · have := soundA_few (h.el c).2; omega
  · rw [h.oth c]; exact Nat.zero_le _
end Go.Proofs.YthhoicmfmfeehaaGreat

namespace Go.Proofs.YthhoicmfmfeehaaGreat
open Go.RowKit Go.Sort
set_option linter.unusedVariables false
theorem RY.appG {K : Nat → Prop} {w0 w : World} {p : Nat} {M : Dm} {R G : Nat → List Nat} {A : RA} (h : RY K w0 p M R G A) (hk : Kept (fun k => k < w0.heap.size) w0 w) {i q : Nat} (hqa : A.qa = some ⟨q, 0, none⟩) (hi : i < M.n) (hl : (G i).length ≤ 1000000) (x : Nat) :
    ∃ ga' gc' w', (Builtin.append_ #[33, 33] 33 #[.slice (A.ga i) (G i).length (A.gc i), .slice (some ⟨w.heap.size, 0, none⟩) 1 1]).run Tryz.prog (w.alloc (.cells #[.int .i64 (x : Int)] 3)) = .ok (.slice ga' ((G i).length + 1) gc') w' ∧ w'.cell? ⟨p, 2, none⟩ = some (.slice A.qa M.n A.qc) ∧ w'.cell? ⟨q, i, none⟩ = some (.slice (A.ga i) (G i).length (A.gc i)) ∧ w'.frozen? ⟨q, i, none⟩ = false ∧
      RX K (w'.setCell ⟨q, i, none⟩ (.slice ga' ((G i).length + 1) gc')) p M R (updR G i (G i ++ [x])) ∧ Kept K w0 (w'.setCell ⟨q, i, none⟩ (.slice ga' ((G i).length + 1) gc')) := by
  have hY := h.kept hk
  have hg := hY.gown i hi
  have hO : OwnZ (fun k => k < w.heap.size ∧ ¬ blkOf (A.ga i) k) w 3 1 (A.ga i) (G i).length (A.gc i) (ivs (G i)) := OwnZ.to hg (fun g hg hh => hh.2 hg) (fun _ _ => rfl)
  obtain ⟨ga', gc', w', hr, hO', hK'⟩ := appI hO (fun k hk => hk.1) (by omega) (x : Int)
  have hp : p < w.heap.size ∧ ¬ blkOf (A.ga i) p := ⟨hY.plt, fun hb => (hg.out hb).1 (.inr (.inl rfl))⟩
  have hqb : blkOf A.qa q := by rw [hqa]; rfl
  obtain ⟨ys, hq, hy⟩ := hY.qown
  have hqq : q < w.heap.size ∧ ¬ blkOf (A.ga i) q := ⟨(hq.out hqb).2, fun hb => (hg.out hb).1 (.inr (.inr (.inr hqb)))⟩
  have e : (G i).length + 1 = (G i ++ [x]).length := by simp
  have hk2 : Kept (fun k => k < w0.heap.size ∧ ¬ blkOf (A.ga i) k) w0 w' := (hk.mono fun k h => h.1).trans (hK'.mono fun k h => ⟨Nat.lt_of_lt_of_le h.1 hk.size, h.2⟩)
  have hO2 : OwnZ (fun k => k < w.heap.size ∧ ¬ blkOf (A.ga i) k) w' 3 1 ga' (G i ++ [x]).length gc' (ivs (G i ++ [x])) := by
    rw [← e, ivs, List.map_append]; exact hO'
  have hnew : ∀ g, blkOf ga' g → blkOf (A.ga i) g ∨ w0.heap.size ≤ g := fun g hg' => by
    by_cases c : blkOf (A.ga i) g
    · exact .inl c
    · exact .inr (Nat.le_trans hk.size (Nat.le_of_not_lt fun hl => (OwnZ.out hO' hg').1 ⟨hl, c⟩))
  obtain ⟨hY2, hK2⟩ := h.setG hk2 hqa hi (G i ++ [x]) ga' gc' hO2 hnew
  rw [← e] at hY2 hK2
  exact ⟨ga', gc', w', hr, (hK'.cell (p := ⟨p, 2, none⟩) hp).trans hY.c2, (hK'.cell (p := ⟨q, i, none⟩) hqq).trans (hY.qcell hqa hi), (hK'.frozen (p := ⟨q, i, none⟩) hqq).trans (hY.qfg hqa i), ⟨_, hY2⟩, hK2⟩
end Go.Proofs.YthhoicmfmfeehaaGreat
