/-
  A node is put into a row, in memory (chain.put), for the chain of places.
-/
import Derived.Test.YthhoicmfmfeehaaGreatZ02
namespace Go.Proofs.YthhoicmfmfeehaaGreat
open Go.RowKit
set_option linter.unusedVariables false

def putL (L : Nat → Lk) (up i : Nat) (bef : Int) : Nat → Lk := inL (outL L i) up i bef (befP (outL L i) up bef)
/-- Where i may be put in up's row. -/
def BefOk (n : Nat) (L : Nat → Lk) (up i : Nat) (bef : Int) : Prop := bef = -1 ∨ ∃ m : Nat, m < n ∧ m ≠ i ∧ bef = (m : Int) ∧ (L m).up = (up : Int)
theorem out_upne {L : Nat → Lk} {i k : Nat} (h : k ≠ i) : (outL L i k).up = (L k).up := by
  unfold outL
  by_cases c : (L i).up = -1
  · rw [if_pos c]
  · rw [if_neg c]; dsimp only; rw [if_neg h]
theorem put_at {n : Nat} {L : Nat → Lk} {R : Nat → List Nat} (h : WF n L R) {up i : Nat} (hu : up < n) (hi : i < n) {bef : Int} (hb : BefOk n L up i bef) : ∃ a b, At (outR L R i up) bef a b := by
  rcases hb with hb | ⟨m, hm, hmi, rfl, hmu⟩
  · exact ⟨_, _, .last hb⟩
  · rcases (h.out hi).inn m hm with h0 | ⟨v, hv, h1, h2⟩
    · rw [out_upne hmi] at h0; omega
    · rw [out_upne hmi] at h1
      have : v = up := by omega
      subst this
      obtain ⟨a, b, e⟩ := mem_split h2
      exact ⟨a, m :: b, .mid rfl e⟩
theorem WF.putOk {n : Nat} {L : Nat → Lk} {R : Nat → List Nat} (h : WF n L R) {up i : Nat} (hu : up < n) (hi : i < n) {bef : Int} {a b : List Nat} (ha : At (outR L R i up) bef a b) : WF n (putL L up i bef) (updR (outR L R i) up (a ++ i :: b)) :=
  (h.out hi).put hu hi out_up ha
/-- What stands ahead of the place. -/
theorem befP_or {n : Nat} {L : Nat → Lk} {R : Nat → List Nat} (h : WF n L R) {up i : Nat} (hu : up < n) (hi : i < n) {bef : Int} (hb : BefOk n L up i bef) : befP (outL L i) up bef = -1 ∨ ∃ q : Nat, q < n ∧ q ≠ i ∧ befP (outL L i) up bef = (q : Int) := by
  obtain ⟨a, b, ha⟩ := put_at h hu hi hb
  rw [befP_at (h.out hi) hu ha]
  rcases lsD_or a with ⟨-, e⟩ | ⟨m, m1, e⟩
  · exact .inl e
  · have hm : m ∈ outR L R i up := by rw [ha.eq]; exact List.mem_append_left _ m1
    exact .inr ⟨m, (h.out hi).lt up hu m hm, fun e' => outR_notin h hi hu (e' ▸ hm), e⟩
def in1 (L : Nat → Lk) (up i : Nat) (bef : Int) : Nat → Lk := updL L i { L i with up := (up : Int), next := bef }
def in2 (L : Nat → Lk) (up i : Nat) (bef P : Int) : Nat → Lk := updL (in1 L up i bef) i { in1 L up i bef i with prev := P }
def in3 (L : Nat → Lk) (up i : Nat) (bef P : Int) : Nat → Lk := if bef = -1 then updL (in2 L up i bef P) up { in2 L up i bef P up with last := (i : Int) } else updL (in2 L up i bef P) bef.toNat { in2 L up i bef P bef.toNat with prev := (i : Int) }
def in4 (L : Nat → Lk) (up i : Nat) (bef P : Int) : Nat → Lk := if P = -1 then updL (in3 L up i bef P) up { in3 L up i bef P up with first := (i : Int) } else updL (in3 L up i bef P) P.toNat { in3 L up i bef P P.toNat with next := (i : Int) }
theorem in2_eq (L : Nat → Lk) (up i : Nat) (bef P : Int) : in2 L up i bef P = updL L i ⟨(up : Int), P, bef, (L i).first, (L i).last⟩ := by
  unfold in2 in1
  rw [updL_updL, updL_same]
theorem in3_at {L : Nat → Lk} {up i : Nat} {bef P : Int} (hui : up ≠ i) (hb : bef = -1 ∨ ∃ m : Nat, m ≠ i ∧ bef = (m : Int)) : in3 L up i bef P i = ⟨(up : Int), P, bef, (L i).first, (L i).last⟩ := by
  unfold in3
  rw [in2_eq]
  rcases hb with hb | ⟨m, hm, rfl⟩
  · rw [if_pos hb, updL_ne _ _ (fun e => hui e.symm), updL_same]
  · rw [if_neg (by omega), Int.toNat_natCast, updL_ne _ _ (fun e => hm e.symm), updL_same]
theorem in4_eq {L : Nat → Lk} {up i : Nat} {bef P : Int} (hui : up ≠ i) (hb : bef = -1 ∨ ∃ m : Nat, m ≠ i ∧ bef = (m : Int)) (hP : P = -1 ∨ ∃ q : Nat, q ≠ i ∧ P = (q : Int)) : in4 L up i bef P = inL L up i bef P := by
  funext k
  unfold in4 in3 inL
  rw [in2_eq]
  have e1 : ¬ ((k : Int) = -1) := by omega
  rcases hb with rfl | ⟨m, hm, rfl⟩ <;> rcases hP with rfl | ⟨q, hq, rfl⟩ <;> unfold updL
  · by_cases c : k = i
    · subst c
      have : ¬ k = up := fun e => hui e.symm
      simp [*]
    · by_cases c' : k = up
      · subst c'; simp [*]
      · simp [*]
  · have e2 : ¬ ((q : Int) = -1) := by omega
    by_cases c : k = i
    · subst c
      have : ¬ k = up := fun e => hui e.symm
      have : ¬ k = q := fun e => hq e.symm
      simp [*]
    · by_cases c' : k = up
      · subst c'
        by_cases c2 : k = q
        · subst c2; simp [*]
        · have : ¬ (k : Int) = (q : Int) := by omega
          simp [*]
      · by_cases c2 : k = q
        · subst c2; simp [*]
        · have : ¬ (k : Int) = (q : Int) := by omega
          simp [*]
  · have e2 : ¬ ((m : Int) = -1) := by omega
    by_cases c : k = i
    · subst c
      have : ¬ k = up := fun e => hui e.symm
      have : ¬ k = m := fun e => hm e.symm
      simp [*]
    · by_cases c' : k = up
      · subst c'
        by_cases c2 : k = m
        · subst c2; simp [*]
        · have : ¬ (k : Int) = (m : Int) := by omega
          simp [*]
      · by_cases c2 : k = m
        · subst c2; simp [*]
        · have : ¬ (k : Int) = (m : Int) := by omega
          simp [*]
  · have e2 : ¬ ((m : Int) = -1) := by omega
    have e3 : ¬ ((q : Int) = -1) := by omega
    by_cases c : k = i
    · subst c
      have : ¬ k = q := fun e => hq e.symm
      have : ¬ k = m := fun e => hm e.symm
      simp [*]
    · by_cases c' : k = q
      · subst c'
        by_cases c2 : k = m
        · subst c2; simp [*]
        · have : ¬ (k : Int) = (m : Int) := by omega
          simp [*]
      · have : ¬ (k : Int) = (q : Int) := by omega
        by_cases c2 : k = m
        · subst c2; simp [*]
        · have : ¬ (k : Int) = (m : Int) := by omega
          simp [*]

set_option maxRecDepth 20000 in
set_option maxHeartbeats 2000000 in
theorem putP (K : Nat → Prop) (p g cap up i : Nat) (bef : Int) (S : Dm) (R : Nat → List Nat) (w : World) (h : DY K w p S (some ⟨g, 0, none⟩) cap) (hW : WF S.n S.pl R) (hu : up < S.n) (hi : i < S.n) (hui : up ≠ i) (hb : BefOk S.n S.pl up i bef) (hn : S.n ≤ 1000000000) :
    Calls Tryz.prog 76 #[chP p, .int .i64 (up : Int), .int .i64 (i : Int), .int .i64 bef] w fun e w' => e = .returned (.tuple #[]) ∧ DY K w' p (S.setP (putL S.pl up i bef)) (some ⟨g, 0, none⟩) cap ∧ Kept K w w' := by
  obtain ⟨n, hne⟩ : ∃ n, S.n = n := ⟨_, rfl⟩
  have rt := takeOutP K p g cap i S R w h hW hi hn
  have hPo := befP_or hW hu hi hb
  obtain ⟨L, hL⟩ : ∃ L, outL S.pl i = L := ⟨_, rfl⟩
  have hput : putL S.pl up i bef = inL L up i bef (befP L up bef) := by rw [← hL]; rfl
  rw [hput]
  rw [hL] at rt hPo
  obtain ⟨P, hP⟩ : ∃ P, befP L up bef = P := ⟨_, rfl⟩
  rw [hP] at hPo ⊢
  have hb' : bef = -1 ∨ ∃ m : Nat, m < n ∧ m ≠ i ∧ bef = (m : Int) := by
    rw [← hne]
    rcases hb with hb | ⟨m, h1, h2, h3, _⟩
    · exact .inl hb
    · exact .inr ⟨m, h1, h2, h3⟩
  have hb2 : bef = -1 ∨ ∃ m : Nat, m ≠ i ∧ bef = (m : Int) := by
    rcases hb' with hb | ⟨m, _, h2, h3⟩
    · exact .inl hb
    · exact .inr ⟨m, h2, h3⟩
  have hP2 : P = -1 ∨ ∃ q : Nat, q ≠ i ∧ P = (q : Int) := by
    rcases hPo with hb | ⟨m, _, h2, h3⟩
    · exact .inl hb
    · exact .inr ⟨m, h2, h3⟩
  have hin4 := in4_eq (L := L) hui hb2 hP2
  have hin3 := in3_at (L := L) (P := P) hui hb2
  rw [← hin4]
  rw [hne] at hPo hu hi
  have r1 := fun (j : Nat) (hj : j < n) (X : World) (hX : X.cell? ⟨p, 1, none⟩ = some (.slice (some ⟨g, 0, none⟩) n cap)) => placeOf_any p g n cap j X hX hj (by omega)
  have ri := r1 i hi
  have ru := r1 up hu
  have hgp := h.gk.2.1
  have HNE : Hid (S.n = n) := hne
  have HP : Hid (befP L up bef = P) := hP
  have HPO : Hid (P = -1 ∨ ∃ q : Nat, q < n ∧ q ≠ i ∧ P = (q : Int)) := hPo
  have HB : Hid (bef = -1 ∨ ∃ m : Nat, m < n ∧ m ≠ i ∧ bef = (m : Int)) := hb'
  have H3 : Hid (in3 L up i bef P i = ⟨(up : Int), P, bef, (L i).first, (L i).last⟩) := hin3
  clear h hW hL hput hP hne hPo hb' hb hb2 hP2 hin4 hin3
  go_enter Tryz.func76, Tryz.ntmps76
  go_wp2_with fail
  refine rt.mono ?_
  rintro e w1 ⟨rfl, hY1, hK1⟩
  clear rt
  have hiS : i < (S.setP L).n := by show i < S.n; rw [HNE.out]; exact hi
  have huS : up < (S.setP L).n := by show up < S.n; rw [HNE.out]; exact hu
  have c1 : w1.cell? ⟨p, 1, none⟩ = some (.slice (some ⟨g, 0, none⟩) n cap) := by have := hY1.c1; rw [show (S.setP L).n = n from HNE.out] at this; exact this
  obtain ⟨a0, a1, a2, -, -⟩ := hY1.pcell hiS
  have f0 := hY1.fg (i * 22 + 12)
  have f2 := hY1.fg (i * 22 + 14)
  have D1 := hY1.setPup hiS (up : Int)
  have D2 := D1.1.setPnext hiS bef
  have e1 : updL (updL L i { L i with up := (up : Int) }) i { updL L i { L i with up := (up : Int) } i with next := bef } = in1 L up i bef := by
    rw [updL_updL, updL_same]; rfl
  have D2' : DY K ((w1.setCell ⟨g, i * 22 + 12, none⟩ (.int .i64 (up : Int))).setCell ⟨g, i * 22 + 14, none⟩ (.int .i64 bef)) p (S.setP (in1 L up i bef)) (some ⟨g, 0, none⟩) cap := by rw [← e1]; exact D2.1
  have kk := hK1.trans (D1.2.trans D2.2)
  obtain ⟨W1, hW1⟩ : ∃ W1, ((w1.setCell ⟨g, i * 22 + 12, none⟩ (.int .i64 (up : Int))).setCell ⟨g, i * 22 + 14, none⟩ (.int .i64 bef)) = W1 := ⟨_, rfl⟩
  rw [hW1] at D2' kk
  have HW1 : Hid (((w1.setCell ⟨g, i * 22 + 12, none⟩ (.int .i64 (up : Int))).setCell ⟨g, i * 22 + 14, none⟩ (.int .i64 bef)) = W1) := hW1
  have HY2 : Hid (DY K W1 p (S.setP (in1 L up i bef)) (some ⟨g, 0, none⟩) cap) := D2'
  have HK2 : Hid (Kept K w W1) := kk
  clear hY1 hK1 D1 D2 D2' e1 hW1 kk
  go_upto_if 24 with (go_at_call 93; refine (ri _ ?_).mono ?_; exact c1; rintro e w2 ⟨rfl, rfl⟩)
  rw [HW1.out]
  clear HW1 a0 a1 a2 f0 f2 c1
  have c1 : W1.cell? ⟨p, 1, none⟩ = some (.slice (some ⟨g, 0, none⟩) n cap) := by have := HY2.out.c1; rw [show (S.setP (in1 L up i bef)).n = n from HNE.out] at this; exact this
  go_cut [] (fun wx => DY K wx p (S.setP (in3 L up i bef P)) (some ⟨g, 0, none⟩) cap ∧ Kept K w wx)
  case first =>
    by_cases hb1 : bef = -1
    · subst hb1
      have eP : (in1 L up i (-1) up).last = P := by
        unfold in1
        rw [updL_ne _ _ hui, ← HP.out]; rfl
      obtain ⟨-, -, -, -, t4⟩ := HY2.out.pcell (i := up) huS
      replace t4 : W1.cell? ⟨g, up * 22 + 16, none⟩ = some (.int .i64 P) := by rw [← eP]; exact t4
      obtain ⟨-, t1, -, -, -⟩ := HY2.out.pcell (i := i) hiS
      have D1 := HY2.out.setPprev (i := i) hiS P
      have f1 := HY2.out.fg (i * 22 + 13)
      have f2 := D1.1.fg (up * 22 + 16)
      have D2 := D1.1.setPlast (i := up) huS (i : Int)
      obtain ⟨-, -, -, -, t5⟩ := D1.1.pcell (i := up) huS
      have c2 : (W1.setCell ⟨g, i * 22 + 13, none⟩ (.int .i64 P)).cell? ⟨p, 1, none⟩ = some (.slice (some ⟨g, 0, none⟩) n cap) := by
        rw [World.cell?_setCell_other _ _ _ _ (fun e => by injection e with e1; exact hgp e1)]; exact c1
      have HD : Hid (DY K ((W1.setCell ⟨g, i * 22 + 13, none⟩ (.int .i64 P)).setCell ⟨g, up * 22 + 16, none⟩ (.int .i64 (i : Int))) p (S.setP (in3 L up i (-1) P)) (some ⟨g, 0, none⟩) cap) := D2.1
      have HK : Hid (Kept K w ((W1.setCell ⟨g, i * 22 + 13, none⟩ (.int .i64 P)).setCell ⟨g, up * 22 + 16, none⟩ (.int .i64 (i : Int)))) := HK2.out.trans (D1.2.trans D2.2)
      clear D1 D2 eP HP HPO HB H3 HNE
      go_wp2_with (first | (go_at_call 93; refine (ru _ ?_).mono ?_; exact c1; rintro e w2 ⟨rfl, hw2⟩; subst hw2) | (go_at_call 93; refine (ru _ ?_).mono ?_; exact c2; rintro e w2 ⟨rfl, hw2⟩; subst hw2))
      go_meet
      case rel => exact ⟨HD.out, HK.out⟩
    · rcases HB.out with e0 | ⟨m, hm, hmi, e0⟩
      · exact absurd e0 hb1
      subst e0
      have eb : ¬ ((m : Int) = -1) := hb1
      have hmS : m < (S.setP L).n := by show m < S.n; rw [HNE.out]; exact hm
      have eP : (in1 L up i (m : Int) m).prev = P := by
        unfold in1
        rw [updL_ne _ _ hmi, ← HP.out]
        unfold befP
        rw [if_neg eb, Int.toNat_natCast]
      obtain ⟨-, t4, -, -, -⟩ := HY2.out.pcell (i := m) hmS
      replace t4 : W1.cell? ⟨g, m * 22 + 13, none⟩ = some (.int .i64 P) := by rw [← eP]; exact t4
      obtain ⟨-, t1, -, -, -⟩ := HY2.out.pcell (i := i) hiS
      have D1 := HY2.out.setPprev (i := i) hiS P
      have f1 := HY2.out.fg (i * 22 + 13)
      have f2 := D1.1.fg (m * 22 + 13)
      have D2 := D1.1.setPprev (i := m) hmS (i : Int)
      obtain ⟨-, t5, -, -, -⟩ := D1.1.pcell (i := m) hmS
      have c2 : (W1.setCell ⟨g, i * 22 + 13, none⟩ (.int .i64 P)).cell? ⟨p, 1, none⟩ = some (.slice (some ⟨g, 0, none⟩) n cap) := by
        rw [World.cell?_setCell_other _ _ _ _ (fun e => by injection e with e1; exact hgp e1)]; exact c1
      have e3 : in3 L up i (m : Int) P = updL (in2 L up i (m : Int) P) m { in2 L up i (m : Int) P m with prev := (i : Int) } := by
        unfold in3
        rw [if_neg eb, Int.toNat_natCast]
      have HD : Hid (DY K ((W1.setCell ⟨g, i * 22 + 13, none⟩ (.int .i64 P)).setCell ⟨g, m * 22 + 13, none⟩ (.int .i64 (i : Int))) p (S.setP (in3 L up i (m : Int) P)) (some ⟨g, 0, none⟩) cap) := by rw [e3]; exact D2.1
      have HK : Hid (Kept K w ((W1.setCell ⟨g, i * 22 + 13, none⟩ (.int .i64 P)).setCell ⟨g, m * 22 + 13, none⟩ (.int .i64 (i : Int)))) := HK2.out.trans (D1.2.trans D2.2)
      have hm0 : ((m : Int) == -1) = false := by simp
      have rm := r1 m hm
      clear D1 D2 eP HP HPO HB H3 HNE e3 hb1
      go_wp2_with (first | (go_at_call 93; refine (rm _ ?_).mono ?_; exact c1; rintro e w2 ⟨rfl, hw2⟩; subst hw2) | (go_at_call 93; refine (rm _ ?_).mono ?_; exact c2; rintro e w2 ⟨rfl, hw2⟩; subst hw2))
      go_meet
      case rel => exact ⟨HD.out, HK.out⟩
  case rest =>
    obtain ⟨hY3, hK3⟩ := hcut
    clear c1 HY2 HK2
    have c1 : wc.cell? ⟨p, 1, none⟩ = some (.slice (some ⟨g, 0, none⟩) n cap) := by have := hY3.c1; rw [show (S.setP (in3 L up i bef P)).n = n from HNE.out] at this; exact this
    obtain ⟨-, t1, -, -, -⟩ := hY3.pcell (i := i) hiS
    replace t1 : wc.cell? ⟨g, i * 22 + 13, none⟩ = some (.int .i64 P) := by
      rw [show (S.setP (in3 L up i bef P)).pl i = in3 L up i bef P i from rfl, H3.out] at t1
      exact t1
    by_cases hP1 : P = -1
    · subst hP1
      obtain ⟨-, -, -, t3, -⟩ := hY3.pcell (i := up) huS
      have f3 := hY3.fg (up * 22 + 15)
      have D := hY3.setPfirst (i := up) huS (i : Int)
      have HD : Hid (DY K (wc.setCell ⟨g, up * 22 + 15, none⟩ (.int .i64 (i : Int))) p (S.setP (in4 L up i bef (-1))) (some ⟨g, 0, none⟩) cap) := D.1
      have HK : Hid (Kept K w (wc.setCell ⟨g, up * 22 + 15, none⟩ (.int .i64 (i : Int)))) := hK3.trans D.2
      clear D hY3 hK3 HP HPO HB H3 HNE
      go_wp2_with (go_at_call 93; refine (ru _ ?_).mono ?_; exact c1; rintro e w2 ⟨rfl, hw2⟩; subst hw2)
      go_end0
      exact ⟨rfl, HD.out, HK.out⟩
    · rcases HPO.out with e0 | ⟨q, hq, hqi, e0⟩
      · exact absurd e0 hP1
      subst e0
      have eb : ¬ ((q : Int) = -1) := hP1
      have hqS : q < (S.setP L).n := by show q < S.n; rw [HNE.out]; exact hq
      obtain ⟨-, -, t3, -, -⟩ := hY3.pcell (i := q) hqS
      have f3 := hY3.fg (q * 22 + 14)
      have D := hY3.setPnext (i := q) hqS (i : Int)
      have e4 : in4 L up i bef (q : Int) = updL (in3 L up i bef (q : Int)) q { in3 L up i bef (q : Int) q with next := (i : Int) } := by
        unfold in4
        rw [if_neg eb, Int.toNat_natCast]
      have HD : Hid (DY K (wc.setCell ⟨g, q * 22 + 14, none⟩ (.int .i64 (i : Int))) p (S.setP (in4 L up i bef (q : Int))) (some ⟨g, 0, none⟩) cap) := by rw [e4]; exact D.1
      have HK : Hid (Kept K w (wc.setCell ⟨g, q * 22 + 14, none⟩ (.int .i64 (i : Int)))) := hK3.trans D.2
      have hq0 : ((q : Int) == -1) = false := by simp
      have rq := r1 q hq
      clear D hY3 hK3 HP HPO HB H3 HNE e4 hP1
      go_wp2_with (go_at_call 93; refine (rq _ ?_).mono ?_; exact c1; rintro e w2 ⟨rfl, hw2⟩; subst hw2)
      go_end0
      exact ⟨rfl, HD.out, HK.out⟩
end Go.Proofs.YthhoicmfmfeehaaGreat
