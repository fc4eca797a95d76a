/-
  Set and Drop: both documents' tests are the same one; what the program's refuse.
  Each call does the same to both documents.
-/
import Derived.Test.YtbhfnbplbkncmaaGreatYT33
import Derived.Test.YtbhfnbplbkncmaaGreatZ16
import Derived.Test.YtbhfnbplbkncmaaGreatZ25
import Derived.Test.YtbhfnbplbkncmaaGreatZ27
import Derived.Test.YtbhfnbplbkncmaaGreatYT32
import Derived.Test.YtbhfnbplbkncmaaGreatZ23
namespace Go.Proofs.YtbhfnbplbkncmaaGreat
open Go.RowKit
set_option linter.unusedVariables false
theorem allW_setk : ∀ (l : List Atr) (L : List (List UInt8)) (k : Nat) (h : k < l.length) (a : Atr), l[k].name = a.name → allW L l = true → allW L (l.set k a) = writP a
  | x :: r, L, 0, h, a, he, hw => by
    have he : x.name = a.name := he
    simp only [allW, Bool.and_eq_true] at hw
    simp only [List.set_cons_zero, allW]
    rw [← he, hw.2, hw.1.2]
    simp
  | x :: r, L, k + 1, h, a, he, hw => by
    simp only [allW, Bool.and_eq_true] at hw
    simp only [List.set_cons_succ, allW]
    rw [allW_setk r _ k (by simpa using h) a he hw.2, hw.1.1, hw.1.2]
    simp
theorem allW_snoc : ∀ (l : List Atr) (L : List (List UInt8)) (a : Atr), (∀ x ∈ l, x.name ≠ a.name) → ¬ a.name ∈ L → allW L l = true → allW L (l ++ [a]) = writP a
  | [], L, a, hn, hL, hw => by
    simp only [List.nil_append, allW]
    simp [hL]
  | x :: r, L, a, hn, hL, hw => by
    simp only [allW, Bool.and_eq_true] at hw
    simp only [List.cons_append, allW]
    rw [allW_snoc r _ a (fun y hy => hn y (List.mem_cons_of_mem _ hy)) (fun hm => by
      rcases List.mem_cons.1 hm with hm | hm
      · exact hn x (List.mem_cons_self ..) hm.symm
      · exact hL hm) hw.2, hw.1.1, hw.1.2]
    simp
theorem allW_less : ∀ (l : List Atr) (L L' : List (List UInt8)), (∀ n, n ∈ L' → n ∈ L) → allW L l = true → allW L' l = true
  | [], _, _, _, _ => rfl
  | x :: r, L, L', hs, hw => by
    simp only [allW, Bool.and_eq_true] at hw ⊢
    refine ⟨⟨hw.1.1, ?_⟩, allW_less r _ _ (fun n hn => ?_) hw.2⟩
    · have h2 := hw.1.2
      simp at h2 ⊢
      exact fun hm => h2 (hs _ hm)
    · rcases List.mem_cons.1 hn with hn | hn
      · exact hn ▸ List.mem_cons_self ..
      · exact List.mem_cons_of_mem _ (hs n hn)
theorem allW_erase : ∀ (l : List Atr) (L : List (List UInt8)) (k : Nat), allW L l = true → allW L (l.eraseIdx k) = true
  | [], _, _, _ => rfl
  | x :: r, L, 0, hw => by
    simp only [allW, Bool.and_eq_true] at hw
    rw [List.eraseIdx_cons_zero]
    exact allW_less r _ _ (fun n hn => List.mem_cons_of_mem _ hn) hw.2
  | x :: r, L, k + 1, hw => by
    simp only [allW, Bool.and_eq_true] at hw
    rw [List.eraseIdx_cons_succ]
    simp only [allW, Bool.and_eq_true]
    exact ⟨hw.1, allW_erase r _ k hw.2⟩
theorem soundA_erase {l : List Atr} (h : soundA l = true) (k : Nat) : soundA (l.eraseIdx k) = true := by
  unfold soundA at h ⊢
  simp only [Bool.and_eq_true, decide_eq_true_eq] at h ⊢
  exact ⟨Nat.le_trans (List.length_eraseIdx_le ..) h.1, allW_erase l [] k h.2⟩
theorem soundA_set {l : List Atr} (h : soundA l = true) (a : Atr) {z : Int} (hz : FindA l a.name z) : soundA (setA l a) = (writP a && !(decide (z = -1) && decide (50 ≤ l.length))) := by
  have hl := soundA_few h
  have hw : allW [] l = true := by
    unfold soundA at h
    simp only [Bool.and_eq_true] at h
    exact h.2
  cases hz with
  | no hn =>
    rw [setA_no l a hn]
    unfold soundA
    rw [allW_snoc l [] a hn (by simp) hw, List.length_append, List.length_singleton]
    by_cases c : 50 ≤ l.length
    · rw [decide_eq_false (by omega), decide_eq_true c]; simp
    · rw [decide_eq_true (by omega), decide_eq_false c]; simp
  | @yes k hk e ha =>
    rw [setA_at l a k hk e ha]
    unfold soundA
    rw [allW_setk l [] k hk a e hw, List.length_set, decide_eq_true hl, decide_eq_false (show ¬ ((k : Int) = -1) by omega)]
    simp
theorem soundL_el {nm : List UInt8} (hv : validP nm = true) (l : List Atr) : soundL [⟨0, 1, nm, l, []⟩] = soundA l := by
  unfold soundL
  simp [soundP, kindP, hv]
/-- What refuses: not there, or no element. -/
def elemZ (M : Dm) (i : Int) : Int := if 0 ≤ i ∧ i < (M.n : Int) then (if (M.nd i.toNat).kind = 1 then 0 else 81) else 80
theorem element_no (K : Nat → Prop) (p : Nat) (M : Dm) (i : Int) (w : World) (h : DX K w p M) (hn : M.n ≤ 1000000) (z : Int) (hz : elemZ M i = z) (h0 : z ≠ 0) :
    Calls Tryz.prog 154 #[.pointer (some ⟨p, 0, none⟩), .int .i64 i, .int .u16 81] w fun e w' => e = .returned (.tuple #[.pointer none, .int .u16 z]) ∧ w' = w := by
  obtain ⟨ga, cap, hY⟩ := h
  unfold elemZ at hz
  by_cases hi : 0 ≤ i ∧ i < (M.n : Int)
  · rw [if_pos hi] at hz
    obtain ⟨k, rfl⟩ : ∃ k : Nat, i = (k : Int) := ⟨i.toNat, by omega⟩
    rw [Int.toNat_natCast] at hz
    have hk : k < M.n := by omega
    by_cases c : (M.nd k).kind = 1
    · rw [if_pos c] at hz; exact absurd hz.symm h0
    · rw [if_neg c] at hz
      subst hz
      obtain ⟨g, rfl, -, -, -⟩ := hY.at (by omega)
      obtain ⟨aa, ac, hc, -⟩ := hY.cell hk
      exact element_other p g M.n cap k _ 81 w hY.c1 hk (by omega) c (hc 0 _ rfl)
  · rw [if_neg hi] at hz
    subst hz
    exact element_none p M.n cap ga i 81 w hY.c1 (by omega) (by omega)
set_option maxRecDepth 20000 in
theorem set_no (K : Nat → Prop) (p : Nat) (M : Dm) (i : Int) (S T : ByteArray) (w : World) (h : DX K w p M) (hn : M.n ≤ 1000000) (z : Int) (hz : elemZ M i = z) (h0 : z ≠ 0) :
    Calls Tryz.prog 93 #[.pointer (some ⟨p, 0, none⟩), .int .i64 i, .string S, .string T] w fun e w' => e = .returned (.int .u16 z) ∧ w' = w := by
  have re := element_no K p M i w h hn z hz h0
  have z0 : (z != 0) = true := by simpa using h0
  clear h hz
  go_enter Tryz.func93, Tryz.ntmps93
  go_wp2_with (go_at_call 154; refine re.mono ?_; rintro e1 w3 ⟨rfl, hw3⟩; replace hw3 := hw3.symm; subst hw3)
  go_ret
  exact ⟨rfl, rfl⟩
set_option maxRecDepth 20000 in
theorem drop_no (K : Nat → Prop) (p : Nat) (M : Dm) (i : Int) (S : ByteArray) (w : World) (h : DX K w p M) (hn : M.n ≤ 1000000) (z : Int) (hz : elemZ M i = z) (h0 : z ≠ 0) :
    Calls Tryz.prog 95 #[.pointer (some ⟨p, 0, none⟩), .int .i64 i, .string S] w fun e w' => e = .returned (.int .u16 z) ∧ w' = w := by
  have re := element_no K p M i w h hn z hz h0
  have z0 : (z != 0) = true := by simpa using h0
  clear h hz
  go_enter Tryz.func95, Tryz.ntmps95
  go_wp2_with (go_at_call 154; refine re.mono ?_; rintro e1 w3 ⟨rfl, hw3⟩; replace hw3 := hw3.symm; subst hw3)
  go_ret
  exact ⟨rfl, rfl⟩
end Go.Proofs.YtbhfnbplbkncmaaGreat

namespace Go.Proofs.YtbhfnbplbkncmaaGreat
open Go.RowKit
set_option linter.unusedVariables false
/-- What no call undoes. -/
structure Grows (M M' : Dm) : Prop where
  n : M.n ≤ M'.n
  limit : M'.limit = M.limit
  le : M.n ≤ M.limit → M'.n ≤ M'.limit
  kind : ∀ i, i < M.n → (M'.nd i).kind = (M.nd i).kind
  name : ∀ i, i < M.n → (M'.nd i).name = (M.nd i).name
  host : ∀ i, i < M.n → (M'.nd i).host = (M.nd i).host
  cont : ∀ i, i < M.n → (M'.nd i).content = (M.nd i).content
  shad : ∀ i, i < M.n → (M.nd i).shadow ≠ -1 → (M'.nd i).shadow = (M.nd i).shadow
theorem Grows.refl (M : Dm) : Grows M M := ⟨Nat.le_refl _, rfl, fun h => h, fun _ _ => rfl, fun _ _ => rfl, fun _ _ => rfl, fun _ _ => rfl, fun _ _ _ => rfl⟩
theorem Grows.trans {M M' M'' : Dm} (h : Grows M M') (g : Grows M' M'') : Grows M M'' := by
  have hn := h.n
  refine ⟨Nat.le_trans h.n g.n, g.limit.trans h.limit, fun hh => g.le (h.le hh), fun i hi => (g.kind i (by omega)).trans (h.kind i hi), fun i hi => (g.name i (by omega)).trans (h.name i hi), fun i hi => (g.host i (by omega)).trans (h.host i hi), fun i hi => (g.cont i (by omega)).trans (h.cont i hi), fun i hi hs => ?_⟩
  have e := h.shad i hi hs
  rw [g.shad i (by omega) (by rw [e]; exact hs), e]
theorem Grows.same {M M' : Dm} (e1 : M'.n = M.n) (e2 : M'.limit = M.limit) (e3 : ∀ i, M'.nd i = M.nd i) : Grows M M' :=
  ⟨by rw [e1]; exact Nat.le_refl _, e2, fun h => by rw [e1, e2]; exact h, fun i _ => by rw [e3], fun i _ => by rw [e3], fun i _ => by rw [e3], fun i _ => by rw [e3], fun i _ _ => by rw [e3]⟩
theorem Grows.setN {M : Dm} {i : Nat} {x : Nd} (e1 : x.kind = (M.nd i).kind) (e2 : x.name = (M.nd i).name) (e3 : x.shadow = (M.nd i).shadow) (e4 : x.host = (M.nd i).host) (e5 : x.content = (M.nd i).content) : Grows M (M.setN i x) := by
  refine ⟨Nat.le_refl _, rfl, fun h => h, fun k _ => ?_, fun k _ => ?_, fun k _ => ?_, fun k _ => ?_, fun k _ _ => ?_⟩ <;> (by_cases c : k = i)
  · subst c; rw [setN_same]; exact e1
  · rw [setN_ne _ _ c]
  · subst c; rw [setN_same]; exact e2
  · rw [setN_ne _ _ c]
  · subst c; rw [setN_same]; exact e4
  · rw [setN_ne _ _ c]
  · subst c; rw [setN_same]; exact e5
  · rw [setN_ne _ _ c]
  · subst c; rw [setN_same]; exact e3
  · rw [setN_ne _ _ c]
theorem int_nat {i : Int} {n : Nat} (h : ¬ (i < 0 ∨ (n : Int) ≤ i)) : ∃ k : Nat, k < n ∧ i = (k : Int) := ⟨i.toNat, by omega, by omega⟩
theorem Inv.hn {M : Dm} {R G : Nat → List Nat} {rk : Nat → Nat} (h : Inv M R G rk) {u : Nat} (hu : u < M.n) : (R u).length ≤ M.n := h.good.wf.len_le hu
theorem Inv.ups {M : Dm} {R G : Nat → List Nat} {rk : Nat → Nat} (h : Inv M R G rk) {i : Nat} (hi : i < M.n) : (M.pl i).up = -1 ∨ ∃ u : Nat, u < M.n ∧ (M.pl i).up = (u : Int) := by
  rcases h.good.wf.inn i hi with e | ⟨u, hu, e, -⟩
  · exact .inl e
  · exact .inr ⟨u, hu, e⟩
section
variable {M : Dm} {R G : Nat → List Nat} {rk : Nat → Nat}
theorem both_ins (hI : Inv M R G rk) (hn : M.n ≤ 100000) (up i bef : Int) : ∃ z M' R' rk', Inv M' R' G rk' ∧ Grows M M' ∧ (z = 0 ∨ (M' = M ∧ R' = R)) ∧ (0 ≤ z ∧ z ≤ 200) ∧
    (∀ K w p, DX K w p M → Calls Tryz.prog 36 #[.pointer (some ⟨p, 0, none⟩), .int .i64 up, .int .i64 i, .int .i64 bef] w fun e w' => e = .returned (.int .u16 z) ∧ DX K w' p M' ∧ Kept K w w') ∧
    (∀ K w p, RX K w p M R G → Calls Tryz.prog 89 #[.pointer (some ⟨p, 0, none⟩), .int .i64 up, .int .i64 i, .int .i64 bef] w fun e w' => e = .returned (.int .i64 z) ∧ RX K w' p M' R' G ∧ Kept K w w') := by
  by_cases hno : (up < 0 ∨ (M.n : Int) ≤ up) ∨ (i < 0 ∨ (M.n : Int) ≤ i) ∨ (bef ≠ -1 ∧ (bef < 0 ∨ (M.n : Int) ≤ bef))
  · refine ⟨80, M, R, rk, hI, .refl M, .inr ⟨rfl, rfl⟩, ⟨by decide, by decide⟩, fun K w p h => (insert_none K p M up i bef w h (by omega) hno).mono ?_, fun K w p h => (rins_none K p M R G up i bef w h hno).mono ?_⟩
    · rintro e w' ⟨rfl, rfl⟩; exact ⟨rfl, h, Kept.refl _ _⟩
    · rintro e w' ⟨rfl, rfl⟩; exact ⟨rfl, h, Kept.refl _ _⟩
  · obtain ⟨u, hu, rfl⟩ := int_nat (i := up) (n := M.n) (fun h => hno (.inl h))
    obtain ⟨k, hk, rfl⟩ := int_nat (i := i) (n := M.n) (fun h => hno (.inr (.inl h)))
    have hb : bef = -1 ∨ ∃ m : Nat, m < M.n ∧ bef = (m : Int) := by
      by_cases c : bef = -1
      · exact .inl c
      · obtain ⟨m, hm, e⟩ := int_nat (i := bef) (n := M.n) (fun h => hno (.inr (.inr ⟨c, h⟩)))
        exact .inr ⟨m, hm, e⟩
    by_cases hF : Fits M u k bef
    · obtain ⟨rk', hI'⟩ := hI.ins hu hk hF
      refine ⟨0, _, _, rk', hI', .same rfl rfl (fun _ => rfl), .inl rfl, ⟨by decide, by decide⟩, fun K w p h => (insert_in K p u k bef M R rk w h hI.good.wf hI.good.acy hu hk hb (by omega)).mono ?_, fun K w p h => (rinsert_in K p u k bef M R G rk w h hI.good.wf hI.good.acy hu hk hb (by omega) (hI.core.move hk)).mono ?_⟩
      · rintro e w' ⟨hK, ⟨-, c, -⟩ | ⟨rfl, -, hX⟩⟩
        · exact absurd hF c
        · exact ⟨rfl, hX, hK⟩
      · rintro e w' ⟨hK, ⟨-, c, -⟩ | ⟨rfl, -, hX⟩⟩
        · exact absurd hF c
        · exact ⟨rfl, hX, hK⟩
    · refine ⟨81, M, R, rk, hI, .refl M, .inr ⟨rfl, rfl⟩, ⟨by decide, by decide⟩, fun K w p h => (insert_in K p u k bef M R rk w h hI.good.wf hI.good.acy hu hk hb (by omega)).mono ?_, fun K w p h => (rinsert_in K p u k bef M R G rk w h hI.good.wf hI.good.acy hu hk hb (by omega) (hI.core.move hk)).mono ?_⟩
      · rintro e w' ⟨hK, ⟨rfl, -, hX⟩ | ⟨-, c, -⟩⟩
        · exact ⟨rfl, hX, hK⟩
        · exact absurd c hF
      · rintro e w' ⟨hK, ⟨rfl, -, hX⟩ | ⟨-, c, -⟩⟩
        · exact ⟨rfl, hX, hK⟩
        · exact absurd c hF
theorem both_rem (hI : Inv M R G rk) (hn : M.n ≤ 100000) (i : Int) : ∃ z M' R' rk', Inv M' R' G rk' ∧ Grows M M' ∧ (z = 0 ∨ (M' = M ∧ R' = R)) ∧ (0 ≤ z ∧ z ≤ 200) ∧
    (∀ K w p, DX K w p M → Calls Tryz.prog 43 #[.pointer (some ⟨p, 0, none⟩), .int .i64 i] w fun e w' => e = .returned (.int .u16 z) ∧ DX K w' p M' ∧ Kept K w w') ∧
    (∀ K w p, RX K w p M R G → Calls Tryz.prog 90 #[.pointer (some ⟨p, 0, none⟩), .int .i64 i] w fun e w' => e = .returned (.int .i64 z) ∧ RX K w' p M' R' G ∧ Kept K w w') := by
  by_cases hno : i < 0 ∨ (M.n : Int) ≤ i
  · refine ⟨80, M, R, rk, hI, .refl M, .inr ⟨rfl, rfl⟩, ⟨by decide, by decide⟩, fun K w p h => (remove_none K p M i w h hno (by omega)).mono ?_, fun K w p h => (rremove_none K p M R G i w h hno).mono ?_⟩
    · rintro e w' ⟨rfl, rfl⟩; exact ⟨rfl, h, Kept.refl _ _⟩
    · rintro e w' ⟨rfl, rfl⟩; exact ⟨rfl, h, Kept.refl _ _⟩
  · obtain ⟨k, hk, rfl⟩ := int_nat hno
    have hrl : ∀ u, u < M.n → (R u).length ≤ 1000000 := fun u hu => by have := hI.hn hu; omega
    by_cases c : (M.pl k).up = -1
    · refine ⟨81, M, R, rk, hI, .refl M, .inr ⟨rfl, rfl⟩, ⟨by decide, by decide⟩, fun K w p h => (remove_in K p k M R w h hI.good.wf hk (by omega)).mono ?_, fun K w p h => (rremove_in K p k M R G w h hk (by omega) (hI.ups hk) hrl).mono ?_⟩
      · rintro e w' ⟨hK, ⟨-, rfl, hX⟩ | ⟨c', -, -⟩⟩
        · exact ⟨rfl, hX, hK⟩
        · exact absurd c c'
      · rintro e w' ⟨hK, ⟨-, rfl, hX⟩ | ⟨c', -, -⟩⟩
        · exact ⟨rfl, hX, hK⟩
        · exact absurd c c'
    · refine ⟨0, _, _, rk, hI.out hk, .same rfl rfl (fun _ => rfl), .inl rfl, ⟨by decide, by decide⟩, fun K w p h => (remove_in K p k M R w h hI.good.wf hk (by omega)).mono ?_, fun K w p h => (rremove_in K p k M R G w h hk (by omega) (hI.ups hk) hrl).mono ?_⟩
      · rintro e w' ⟨hK, ⟨c', -, -⟩ | ⟨-, rfl, hX⟩⟩
        · exact absurd c' c
        · exact ⟨rfl, hX, hK⟩
      · rintro e w' ⟨hK, ⟨c', -, -⟩ | ⟨-, rfl, hX⟩⟩
        · exact absurd c' c
        · exact ⟨rfl, RX.out hI.good.wf hk hX, hK⟩
theorem both_write (hI : Inv M R G rk) (hn : M.n ≤ 100000) (i : Int) (S : ByteArray) : ∃ z M' rk', Inv M' R G rk' ∧ Grows M M' ∧ (z = 0 ∨ M' = M) ∧ (0 ≤ z ∧ z ≤ 200) ∧
    (∀ K w p, DX K w p M → Calls Tryz.prog 97 #[.pointer (some ⟨p, 0, none⟩), .int .i64 i, .string S] w fun e w' => e = .returned (.int .u16 z) ∧ DX K w' p M' ∧ Kept K w w') ∧
    (∀ K w p, RX K w p M R G → Calls Tryz.prog 98 #[.pointer (some ⟨p, 0, none⟩), .int .i64 i, .string S] w fun e w' => e = .returned (.int .i64 z) ∧ RX K w' p M' R G ∧ Kept K w w') := by
  by_cases hno : i < 0 ∨ (M.n : Int) ≤ i
  · refine ⟨80, M, rk, hI, .refl M, .inr rfl, ⟨by decide, by decide⟩, fun K w p h => (write_none K p M i S w h hno (by omega)).mono ?_, fun K w p h => (rwrite_none K p M R G i S w h hno).mono ?_⟩
    · rintro e w' ⟨rfl, rfl⟩; exact ⟨rfl, h, Kept.refl _ _⟩
    · rintro e w' ⟨rfl, rfl⟩; exact ⟨rfl, h, Kept.refl _ _⟩
  · obtain ⟨k, hk, rfl⟩ := int_nat hno
    by_cases c : (M.nd k).kind = 2 ∨ (M.nd k).kind = 3
    · refine ⟨0, M.setN k { M.nd k with data := S.toList }, rk, hI.setN hk rfl rfl rfl rfl rfl (fun e => (hI.core.el k hk e).2) (fun e => hI.core.oth k hk e), .setN rfl rfl rfl rfl rfl, .inl rfl, ⟨by decide, by decide⟩, fun K w p h => (write_in K p k M S w h hk (by omega)).mono ?_, fun K w p h => (rwrite_in K p k M R G S w h hk (by omega)).mono ?_⟩
      · rintro e w' ⟨hK, ⟨⟨c1, c2⟩, -, -⟩ | ⟨-, rfl, hX⟩⟩
        · rcases c with c | c
          · exact absurd c c1
          · exact absurd c c2
        · exact ⟨rfl, hX, hK⟩
      · rintro e w' ⟨hK, ⟨⟨c1, c2⟩, -, -⟩ | ⟨-, rfl, hX⟩⟩
        · rcases c with c | c
          · exact absurd c c1
          · exact absurd c c2
        · exact ⟨rfl, hX, hK⟩
    · refine ⟨81, M, rk, hI, .refl M, .inr rfl, ⟨by decide, by decide⟩, fun K w p h => (write_in K p k M S w h hk (by omega)).mono ?_, fun K w p h => (rwrite_in K p k M R G S w h hk (by omega)).mono ?_⟩
      · rintro e w' ⟨hK, ⟨-, rfl, hX⟩ | ⟨c', -, -⟩⟩
        · exact ⟨rfl, hX, hK⟩
        · exact absurd c' c
      · rintro e w' ⟨hK, ⟨-, rfl, hX⟩ | ⟨c', -, -⟩⟩
        · exact ⟨rfl, hX, hK⟩
        · exact absurd c' c
theorem elemZ_le (M : Dm) (i : Int) : 0 ≤ elemZ M i ∧ elemZ M i ≤ 200 := by
  unfold elemZ
  split
  · split <;> decide
  · decide
theorem elemZ_ok {i : Int} (h : elemZ M i = 0) : ∃ k : Nat, k < M.n ∧ i = (k : Int) ∧ (M.nd k).kind = 1 := by
  unfold elemZ at h
  by_cases c : 0 ≤ i ∧ i < (M.n : Int)
  · rw [if_pos c] at h
    refine ⟨i.toNat, by omega, by omega, ?_⟩
    by_cases c2 : (M.nd i.toNat).kind = 1
    · exact c2
    · rw [if_neg c2] at h; cases h
  · rw [if_neg c] at h; cases h
theorem both_set (hI : Inv M R G rk) (hn : M.n ≤ 100000) (i : Int) (S T : ByteArray) (hS : S.size < 1000000) (hT : T.size < 1000000) : ∃ z M' rk', Inv M' R G rk' ∧ Grows M M' ∧ (z = 0 ∨ M' = M) ∧ (0 ≤ z ∧ z ≤ 200) ∧
    (∀ K w p, DX K w p M → Calls Tryz.prog 93 #[.pointer (some ⟨p, 0, none⟩), .int .i64 i, .string S, .string T] w fun e w' => e = .returned (.int .u16 z) ∧ DX K w' p M' ∧ Kept K w w') ∧
    (∀ K w p, RX K w p M R G → Calls Tryz.prog 94 #[.pointer (some ⟨p, 0, none⟩), .int .i64 i, .string S, .string T] w fun e w' => e = .returned (.int .i64 z) ∧ RX K w' p M' R G ∧ Kept K w w') := by
  by_cases h0 : elemZ M i = 0
  · obtain ⟨k, hk, rfl, hk1⟩ := elemZ_ok h0
    obtain ⟨zf, hzf⟩ := FindA.ex (M.nd k).attrs S.toList
    have hs := (hI.core.el k hk hk1).2
    have hv := (hI.core.el k hk hk1).1
    have hfew := hI.core.few hk
    have hiff := soundA_set hs ⟨S.toList, T.toList⟩ hzf
    have hsz : ∀ x ∈ (M.nd k).attrs, x.name.length ≤ 1000000000 ∧ x.value.length ≤ 1000000000 := fun x hx => by have := hI.core.atr hk x hx; omega
    have pd := fun K w p h => set_in K p k M S T w h hk (by omega) hk1 (by omega) hsz (by omega) (by omega)
    rw [soundL_el hv] at pd
    obtain ⟨q, hq⟩ : ∃ q, writP ⟨S.toList, T.toList⟩ = q := ⟨_, rfl⟩
    rw [hq] at hiff
    by_cases hb : q = true ∧ (zf = -1 → (M.nd k).attrs.length < 50)
    · have hgood : soundA (setA (M.nd k).attrs ⟨S.toList, T.toList⟩) = true := by
        rw [hiff, hb.1]
        by_cases c : zf = -1
        · have := hb.2 c
          rw [decide_eq_false (by omega : ¬ 50 ≤ (M.nd k).attrs.length)]; simp
        · rw [decide_eq_false c]; rfl
      refine ⟨0, M.setN k { M.nd k with attrs := setA (M.nd k).attrs ⟨S.toList, T.toList⟩ }, rk, hI.setN hk rfl rfl rfl rfl rfl (fun _ => hgood) (fun e => absurd hk1 e), .setN rfl rfl rfl rfl rfl, .inl rfl, ⟨by decide, by decide⟩, fun K w p h => (pd K w p h).mono ?_, fun K w p h => (rset_good K p k M R G S T w h hk (by omega) hk1 (by omega) hS zf hzf q hq hb.1 hb.2).mono ?_⟩
      · rintro e w' ⟨⟨-, rfl, hX⟩ | ⟨c, -, -⟩, hK⟩
        · exact ⟨rfl, hX, hK⟩
        · rw [hgood] at c; cases c
      · rintro e w' ⟨rfl, hK, hX⟩
        exact ⟨rfl, hX, hK⟩
    · have hb' : q = false ∨ (zf = -1 ∧ 50 ≤ (M.nd k).attrs.length) := by
        cases q with
        | false => exact .inl rfl
        | true =>
          right
          by_cases c : zf = -1
          · exact ⟨c, Nat.le_of_not_lt fun hl => hb ⟨rfl, fun _ => hl⟩⟩
          · exact absurd ⟨rfl, fun e => absurd e c⟩ hb
      have hbad : soundA (setA (M.nd k).attrs ⟨S.toList, T.toList⟩) = false := by
        rw [hiff]
        rcases hb' with rfl | ⟨c, c2⟩
        · rfl
        · rw [decide_eq_true c, decide_eq_true c2]; simp
      refine ⟨82, M, rk, hI, .refl M, .inr rfl, ⟨by decide, by decide⟩, fun K w p h => (pd K w p h).mono ?_, fun K w p h => (rset_bad K p k M R G S T w h hk (by omega) hk1 (by omega) hS zf hzf q hq hb').mono ?_⟩
      · rintro e w' ⟨⟨c, -, -⟩ | ⟨-, rfl, hX⟩, hK⟩
        · rw [hbad] at c; cases c
        · exact ⟨rfl, hX, hK⟩
      · rintro e w' ⟨rfl, hK, hX⟩
        exact ⟨rfl, hX, hK⟩
  · refine ⟨elemZ M i, M, rk, hI, .refl M, .inr rfl, elemZ_le M i, fun K w p h => (set_no K p M i S T w h (by omega) _ rfl h0).mono ?_, fun K w p h => (rset_no K p M R G i S T w h (by omega) _ rfl h0).mono ?_⟩
    · rintro e w' ⟨rfl, rfl⟩; exact ⟨rfl, h, Kept.refl _ _⟩
    · rintro e w' ⟨rfl, rfl⟩; exact ⟨rfl, h, Kept.refl _ _⟩
theorem both_drop (hI : Inv M R G rk) (hn : M.n ≤ 100000) (i : Int) (S : ByteArray) : ∃ z M' rk', Inv M' R G rk' ∧ Grows M M' ∧ (z = 0 ∨ M' = M) ∧ (0 ≤ z ∧ z ≤ 200) ∧
    (∀ K w p, DX K w p M → Calls Tryz.prog 95 #[.pointer (some ⟨p, 0, none⟩), .int .i64 i, .string S] w fun e w' => e = .returned (.int .u16 z) ∧ DX K w' p M' ∧ Kept K w w') ∧
    (∀ K w p, RX K w p M R G → Calls Tryz.prog 96 #[.pointer (some ⟨p, 0, none⟩), .int .i64 i, .string S] w fun e w' => e = .returned (.int .i64 z) ∧ RX K w' p M' R G ∧ Kept K w w') := by
  by_cases h0 : elemZ M i = 0
  · obtain ⟨k, hk, rfl, hk1⟩ := elemZ_ok h0
    obtain ⟨zf, hzf⟩ := FindA.ex (M.nd k).attrs S.toList
    have hs := (hI.core.el k hk hk1).2
    have hfew := hI.core.few hk
    have pd := fun K w p h => drop_in K p k M S w h hk (by omega) hk1 (by omega)
    cases hzf with
    | no hno =>
      refine ⟨82, M, rk, hI, .refl M, .inr rfl, ⟨by decide, by decide⟩, fun K w p h => (pd K w p h).mono ?_, fun K w p h => (rdrop_none K p k M R G S w h hk (by omega) hk1 (by omega) hno).mono ?_⟩
      · rintro e w' ⟨⟨j, hj, e1, -⟩ | ⟨-, rfl, hX⟩, hK⟩
        · exact absurd e1 (hno _ (List.getElem_mem hj))
        · exact ⟨rfl, hX, hK⟩
      · rintro e w' ⟨rfl, rfl⟩; exact ⟨rfl, h, Kept.refl _ _⟩
    | @yes j hj e1 ha =>
      refine ⟨0, M.setN k { M.nd k with attrs := (M.nd k).attrs.eraseIdx j }, rk, hI.setN hk rfl rfl rfl rfl rfl (fun _ => soundA_erase hs j) (fun e => absurd hk1 e), .setN rfl rfl rfl rfl rfl, .inl rfl, ⟨by decide, by decide⟩, fun K w p h => (pd K w p h).mono ?_, fun K w p h => (rdrop_in K p k j M R G S w h hk (by omega) hk1 (by omega) hj (.yes hj e1 ha)).mono ?_⟩
      · rintro e w' ⟨⟨j', hj', e1', ha', rfl, hX⟩ | ⟨hno, -, -⟩, hK⟩
        · have := FindA.one (.yes hj e1 ha) (.yes hj' e1' ha')
          have : j = j' := by omega
          subst this
          exact ⟨rfl, hX, hK⟩
        · exact absurd e1 (hno _ (List.getElem_mem hj))
      · rintro e w' ⟨rfl, hK, hX⟩
        exact ⟨rfl, hX, hK⟩
  · refine ⟨elemZ M i, M, rk, hI, .refl M, .inr rfl, elemZ_le M i, fun K w p h => (drop_no K p M i S w h (by omega) _ rfl h0).mono ?_, fun K w p h => (rdrop_no K p M R G i S w h (by omega) _ rfl h0).mono ?_⟩
    · rintro e w' ⟨rfl, rfl⟩; exact ⟨rfl, h, Kept.refl _ _⟩
    · rintro e w' ⟨rfl, rfl⟩; exact ⟨rfl, h, Kept.refl _ _⟩
end
end Go.Proofs.YtbhfnbplbkncmaaGreat
