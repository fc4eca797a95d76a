/-
  The walk of CloneRefuses.
-/
import Derived.Test.YtkngpgkldkohgaaGreatDf
import Derived.Test.YtkngpgkldkohgaaGreatUg
namespace Go.Proofs.YtkngpgkldkohgaaGreat
open Go.RowKit Go.Sort
set_option linter.unusedVariables false
set_option maxRecDepth 100000
set_option maxHeartbeats 8000000
theorem crefuse_go (l : List Opx) (n : Nat) (hln : l.length = n) (hnn : n ≤ 60) (a : Option Addr) (c : Nat) (hok : ∀ o ∈ l, OpOk o) (hb : opsH l ≤ 6000) (w : World) (h : OpsAt (fun k => k < w.heap.size) w a l) (z : Int) (deep : Bool) :
    Calls Tryz.prog 12 #[.slice a n c, .int .i64 z, .bool deep] w fun e w' => e = .returned (.bool true) ∧ Kept (fun k => k < w.heap.size) w w' := by
  have rh := heavy15_any l n hln hnn a c (by omega) w h
  rw [decide_eq_false (by omega : ¬ 6000 < opsH l)] at rh
  have RG : Hid (∀ X, Kept (fun k => k < w.heap.size) w X → Calls Tryz.prog 54 #[.slice a n c] X fun e w' => ∃ p r E M R G rk, e = .returned (.tuple #[.pointer (some ⟨p, 0, none⟩), .pointer (some ⟨r, 0, none⟩)]) ∧ Grown (fun k => k < X.heap.size) E w' p r M R G rk 300 ∧ Kept (fun k => k < X.heap.size) X w') := fun X hX => grown15 l n hln (by omega) a c hok (by omega) X (h.kept hX fun k hk => Nat.lt_of_lt_of_le hk hX.size)
  clear hln hok hb h
  go_enter Tryz.func12, Tryz.ntmps12
  go_wp2_with fail
  refine rh.mono ?_
  rintro e w1 ⟨rfl, k1⟩
  have rk0 := cknown_any w1
  clear rh
  go_wp2_with fail
  refine rk0.mono ?_
  rintro e w2 ⟨rfl, k2⟩
  have k12 : Kept (fun k => k < w.heap.size) w w2 := k1.trans (k2.mono fun k h => Nat.lt_of_lt_of_le h k1.size)
  have rg := RG.out w2 k12
  have HK12 : Hid (Kept (fun k => k < w.heap.size) w w2) := k12
  clear rk0 k1 k2 k12 RG
  go_wp2_with fail
  refine rg.mono ?_
  rintro e W ⟨p, r, E, M, R, G, rk, rfl, hG, hK⟩
  have HKW : Hid (Kept (fun k => k < w.heap.size) w W) := HK12.out.trans (hK.mono fun k h => Nat.lt_of_lt_of_le h HK12.out.size)
  have hle : M.n ≤ 300 := by have := hG.le; rw [hG.lim] at this; exact this
  have HG : Hid (Grown (fun k => k < w2.heap.size) E W p r M R G rk 300) := hG
  have two : Hid (∀ X, Kept (TK (fun k => k < w2.heap.size) E) W X → DX (TK (fun k => k < w2.heap.size) E) X p M → Two (fun k => k < w2.heap.size) E X p r M R G ∧ Kept (fun k => k < w.heap.size) w X) := fun X hX hd => by
    obtain ⟨h1, h2, h3⟩ := HG.out.two.byD hX hd
    exact ⟨⟨h1, h2, HG.out.two.nk⟩, HKW.out.trans (h3.mono fun k hk => Nat.lt_of_lt_of_le hk HK12.out.size)⟩
  clear rg hK hG
  by_cases hz : z < 0 ∨ (M.n : Int) ≤ z
  · have rc := clone_none _ p M z deep W HG.out.two.d hz (by omega)
    go_wp2_with fail
    refine rc.mono ?_
    rintro e X ⟨rfl, hKX⟩
    obtain ⟨hT, hKw⟩ := two.out X (hKX.mono fun k hk => HG.out.two.d.lt k hk) (HG.out.two.d.kept hKX)
    have rs := same_any _ E X p r M R G rk hT HG.out.inv (by omega)
    have HT : Hid (Two (fun k => k < w2.heap.size) E X p r M R G) := hT
    have HKX : Hid (Kept (fun k => k < w.heap.size) w X) := hKw
    clear rc hKX hT hKw two
    go_wp2_with fail
    refine rs.mono ?_
    rintro e Y ⟨rfl, hKY⟩
    have HKY : Hid (Kept (fun k => k < w.heap.size) w Y) := HKX.out.trans (hKY.mono fun k h => Nat.lt_of_lt_of_le h HKX.out.size)
    have rl := rlen_any _ r M R G Y (HT.out.kept hKY).r
    clear rs hKY
    by_cases h0 : z < 0
    · have h0' : decide (z < 0) = true := decide_eq_true h0
      clear rl hz
      go_wp2
      go_ret
      exact ⟨rfl, HKY.out⟩
    · have h0' : decide (z < 0) = false := decide_eq_false h0
      obtain ⟨m, hm⟩ : ∃ m, M.n = m := ⟨_, rfl⟩
      have h1 : decide ((m : Int) ≤ z) = true := decide_eq_true (by omega)
      have h1' : (m : Int) ≤ z := by omega
      rw [hm] at rl
      clear hz hm hle
      go_wp2_with fail
      refine rl.mono ?_
      rintro e Z ⟨rfl, hw⟩
      replace hw := hw.symm
      subst hw
      clear rl
      go_wp2
      go_ret
      exact ⟨rfl, HKY.out⟩
  · obtain ⟨i, hi, rfl⟩ := int_nat hz
    have rc := clone_in HG.out.inv (by rw [HG.out.lim]; decide) HG.out.le (dn M.n rk i + 1) i (Nat.lt_succ_self _) hi deep W HG.out.two.d
    clear hz hi
    go_wp2_with fail
    refine rc.mono ?_
    rintro e X ⟨hKX, hC⟩
    cases hC with
    | shadow _ he hd =>
      subst he
      obtain ⟨hT, hKw⟩ := two.out X hKX hd
      have rs := same_any _ E X p r M R G rk hT HG.out.inv (by omega)
      have HKX : Hid (Kept (fun k => k < w.heap.size) w X) := hKw
      clear rc hKX hd hT hKw two
      go_wp2_with fail
      refine rs.mono ?_
      rintro e Y ⟨rfl, hKY⟩
      have HKY : Hid (Kept (fun k => k < w.heap.size) w Y) := HKX.out.trans (hKY.mono fun k h => Nat.lt_of_lt_of_le h HKX.out.size)
      clear rs hKY
      go_wp2
      go_ret
      exact ⟨rfl, HKY.out⟩
    | full _ _ he hd =>
      subst he
      obtain ⟨hT, hKw⟩ := two.out X hKX hd
      have rs := same_any _ E X p r M R G rk hT HG.out.inv (by omega)
      have HKX : Hid (Kept (fun k => k < w.heap.size) w X) := hKw
      clear rc hKX hd hT hKw two
      go_wp2_with fail
      refine rs.mono ?_
      rintro e Y ⟨rfl, hKY⟩
      have HKY : Hid (Kept (fun k => k < w.heap.size) w Y) := HKX.out.trans (hKY.mono fun k h => Nat.lt_of_lt_of_le h HKX.out.size)
      clear rs hKY
      go_wp2
      go_ret
      exact ⟨rfl, HKY.out⟩
    | made _ _ he hd =>
      subst he
      have HKX : Hid (Kept (fun k => k < w.heap.size) w X) := HKW.out.trans (hKX.mono fun k hk => .inl (Nat.lt_of_lt_of_le hk HK12.out.size))
      clear rc hKX hd two
      go_wp2
      go_ret
      exact ⟨rfl, HKX.out⟩
theorem crefuse_no (a : Option Addr) (n c : Nat) (w : World) (z : Int) (deep : Bool) (rh : Calls Tryz.prog 52 #[.slice a n c] w fun e w' => e = .returned (.bool true) ∧ Kept (fun k => k < w.heap.size) w w') :
    Calls Tryz.prog 12 #[.slice a n c, .int .i64 z, .bool deep] w fun e w' => e = .returned (.bool true) ∧ Kept (fun k => k < w.heap.size) w w' := by
  go_enter Tryz.func12, Tryz.ntmps12
  go_wp2_with fail
  refine rh.mono ?_
  rintro e w1 ⟨rfl, k1⟩
  have rk0 := cknown_any w1
  clear rh
  go_wp2_with (go_at_call 53; refine rk0.mono ?_; rintro e w2 ⟨rfl, k2⟩)
  go_ret
  exact ⟨rfl, k1.trans (k2.mono fun k h => Nat.lt_of_lt_of_le h k1.size)⟩
end Go.Proofs.YtkngpgkldkohgaaGreat
