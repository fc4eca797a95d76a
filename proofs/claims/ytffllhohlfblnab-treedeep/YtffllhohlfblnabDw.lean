/-
  TreeDeep: the walk, name by name.
-/
import Derived.Test.YtffllhohlfblnabDp
import Derived.Test.YtffllhohlfblnabTl
import Derived.Test.YtffllhohlfblnabED
namespace Go.Proofs.Ytffllhohlfblnab
open Go.RowKit Go.Sort

set_option maxRecDepth 20000 in
set_option maxHeartbeats 1000000 in
theorem deep0 (a0 a1 : Int) (m : Nat) (hm : a0.tmod 150 = (m : Int)) (hm1 : m < 150) (hr : a1.tmod 5 = 0) (w : World) :
    Calls Try.prog 4 #[.int .u8 a0, .int .u8 a1] w fun e w' => e = .returned (.bool true) ∧ Kept (fun k => k < w.heap.size) w w' := by
  obtain ⟨V, hV⟩ : ∃ V, w.alloc (.cells #[.string ⟨#[100, 105, 118]⟩, .string ⟨#[115, 112, 97, 110]⟩, .string ⟨#[115, 101, 99, 116, 105, 111, 110]⟩, .string ⟨#[98]⟩, .string ⟨#[120, 45, 97]⟩] 9) = V := ⟨_, rfl⟩
  have HV : Hid (w.alloc (.cells #[.string ⟨#[100, 105, 118]⟩, .string ⟨#[115, 112, 97, 110]⟩, .string ⟨#[115, 101, 99, 116, 105, 111, 110]⟩, .string ⟨#[98]⟩, .string ⟨#[120, 45, 97]⟩] 9) = V) := hV
  have HKV : Hid (Kept (fun k => k < w.heap.size) w V) := by show Kept _ _ _; rw [← hV]; exact (Kept.refl _ w).alloc (fun _ h => h) _
  have hb := deep_build mild_div m (by omega)
  have hlen := deepB_len [100, 105, 118] m
  have HB : Hid (buildL (dT [100, 105, 118] m ++ [⟨3, [], [], false, [120], 0⟩]) = some (deepB [100, 105, 118] m)) := hb
  have HLEN : Hid ((deepB [100, 105, 118] m).items.length = m + 1) := hlen
  clear hV hb hlen
  go_enter Try.func4, Try.ntmps4
  go_upto_region 5 with fail
  rw [HV.out]
  clear HV
  go_loopg [8, 7] m (fun g v x wr => ∃ (k : Nat) (la : Option Addr) (cap : Nat), g = m - k ∧ k ≤ m ∧ v = .int .i64 k ∧ x = .slice la k cap ∧ TOwn V wr la k cap (dT [100, 105, 118] k))
  case atStart => exact ⟨0, none, 0, rfl, Nat.zero_le _, rfl, rfl, TOwn.nil V⟩
  case round =>
    obtain ⟨k, la, cap, hgk, hk, rfl, rfl, hT⟩ := hrel
    by_cases hlt : k < m
    · obtain ⟨la', cap', w', hrun, hT'⟩ := hT.app (by omega) 1 (by decide) (by decide) [⟨1, [100, 105, 118], [], false, [], 0⟩] rfl (by simp) #[.int .u8 1, .string ⟨#[100, 105, 118]⟩, .slice none 0 0, .bool false, .string ⟨#[]⟩, .int .i64 0] rfl
      have hT2 : TOwn V w' la' (k + 1) cap' (dT [100, 105, 118] (k + 1)) := by
        have e : dT [100, 105, 118] (k + 1) = dT [100, 105, 118] k ++ [⟨1, [100, 105, 118], [], false, [], 0⟩] := List.replicate_succ'
        rw [e]
        exact hT'
      have HT2 : Hid (TOwn V w' la' (k + 1) cap' (dT [100, 105, 118] (k + 1))) := hT2
      have ht : decide ((k : Int) < (m : Int)) = true := decide_eq_true (by omega)
      clear hT hT' hT2
      go_wp2_with (at_builtin; refine wpList_appR (w' := w') rfl (.tmp 26) (.tmp 29) 29 29 rfl _ _ (.slice la' (k + 1) cap') rfl rfl hrun ?_)
      go_roundg (m - (k + 1))
      case rel => exact ⟨k + 1, la', cap', rfl, by omega, by go_num, rfl, HT2.out⟩
      case measure => omega
    · have hkk : k = m := by omega
      subst hkk
      obtain ⟨la', cap', w', hrun, hT'⟩ := hT.app (by omega) 1 (by decide) (by decide) [⟨3, [], [], false, [120], 0⟩] rfl (by simp) #[.int .u8 3, .string ⟨#[]⟩, .slice none 0 0, .bool false, .string ⟨#[120]⟩, .int .i64 0] rfl
      have HT' : Hid (TOwn V w' la' (k + 1) cap' (dT [100, 105, 118] k ++ [⟨3, [], [], false, [120], 0⟩])) := hT'
      have r := HT'.out.build (by omega) HB.out (k + 1) 0 HLEN.out rfl
      have ht : decide ((k : Int) < (k : Int)) = false := decide_eq_false (by omega)
      clear hT hT'
      go_upto_region 9 with (at_builtin; refine wpList_appR (w' := w') rfl (.tmp 31) (.tmp 33) 29 29 rfl _ _ (.slice la' (k + 1) cap') rfl rfl hrun ?_)
      go_wp2_with fail
      refine r.mono ?_
      rintro e w2 ⟨⟨ia, ic, fa, fc, rfl, hI, -⟩, k2⟩
      have HI : Hid (ItsIn w2 ia (deepB [100, 105, 118] k).items) := hI
      have HK2 : Hid (Kept (fun k => k < w.heap.size) w w2) := HKV.out.trans (k2.mono fun x hx => Nat.lt_of_lt_of_le hx HKV.out.size)
      clear r hI k2 hrun
      go_upto_region 13 with fail
      go_loopg [12] (k + 1) (fun g v wx => ∃ j : Nat, g = k + 1 - j ∧ j ≤ k + 1 ∧ v = .int .i64 j ∧ wx = w2)
      case atStart => exact ⟨0, rfl, Nat.zero_le _, rfl, rfl⟩
      case round =>
        obtain ⟨j, hgj, hj, rfl, hwx⟩ := hrel
        subst hwx
        by_cases hjl : j < k + 1
        · have hjI : j < (deepB [100, 105, 118] k).items.length := by rw [HLEN.out]; exact hjl
          obtain ⟨g, aa, ac, hg, -, -, -, hc⟩ := HI.out j hjI
          subst hg
          have c0 := hc 0 _ rfl
          rw [deepB_get [100, 105, 118] k j hjI, Nat.add_zero] at c0
          have ht2 : decide ((j : Int) < (k : Int) + 1) = true := decide_eq_true (by omega)
          clear hc hjI
          by_cases h100 : j ≤ 100
          · rw [Nat.min_eq_left h100] at c0
            have hmn : (min (j : Int) 100) = (j : Int) := by omega
            have hmd : decide ((j : Int) ≤ 100) = true := decide_eq_true (by omega)
            have hmd' : (j : Int) ≤ 100 := by omega
            go_wp2
            go_roundg (k + 1 - (j + 1))
            case rel => exact ⟨j + 1, rfl, by omega, by go_num, rfl⟩
            case measure => omega
          · rw [Nat.min_eq_right (by omega)] at c0
            have hmn : (min (j : Int) 100) = 100 := by omega
            have hmd : decide ((j : Int) ≤ 100) = false := decide_eq_false (by omega)
            have hmd' : ¬ (j : Int) ≤ 100 := by omega
            go_wp2
            go_roundg (k + 1 - (j + 1))
            case rel => exact ⟨j + 1, rfl, by omega, by go_num, rfl⟩
            case measure => omega
        · have ht2 : decide ((j : Int) < (k : Int) + 1) = false := decide_eq_false (by omega)
          have rk := fun X => known_any X
          clear HI
          go_wp2_with fail
          refine (rk _).mono ?_
          rintro e w3 ⟨rfl, k3⟩
          have HK3 := HK2.out.trans (k3.mono fun x hx => Nat.lt_of_lt_of_le hx HK2.out.size)
          clear rk k3
          go_wp2
          go_ret
          exact ⟨rfl, HK3⟩

set_option maxRecDepth 20000 in
set_option maxHeartbeats 1000000 in
theorem deep1 (a0 a1 : Int) (m : Nat) (hm : a0.tmod 150 = (m : Int)) (hm1 : m < 150) (hr : a1.tmod 5 = 1) (w : World) :
    Calls Try.prog 4 #[.int .u8 a0, .int .u8 a1] w fun e w' => e = .returned (.bool true) ∧ Kept (fun k => k < w.heap.size) w w' := by
  obtain ⟨V, hV⟩ : ∃ V, w.alloc (.cells #[.string ⟨#[100, 105, 118]⟩, .string ⟨#[115, 112, 97, 110]⟩, .string ⟨#[115, 101, 99, 116, 105, 111, 110]⟩, .string ⟨#[98]⟩, .string ⟨#[120, 45, 97]⟩] 9) = V := ⟨_, rfl⟩
  have HV : Hid (w.alloc (.cells #[.string ⟨#[100, 105, 118]⟩, .string ⟨#[115, 112, 97, 110]⟩, .string ⟨#[115, 101, 99, 116, 105, 111, 110]⟩, .string ⟨#[98]⟩, .string ⟨#[120, 45, 97]⟩] 9) = V) := hV
  have HKV : Hid (Kept (fun k => k < w.heap.size) w V) := by show Kept _ _ _; rw [← hV]; exact (Kept.refl _ w).alloc (fun _ h => h) _
  have hb := deep_build mild_span m (by omega)
  have hlen := deepB_len [115, 112, 97, 110] m
  have HB : Hid (buildL (dT [115, 112, 97, 110] m ++ [⟨3, [], [], false, [120], 0⟩]) = some (deepB [115, 112, 97, 110] m)) := hb
  have HLEN : Hid ((deepB [115, 112, 97, 110] m).items.length = m + 1) := hlen
  clear hV hb hlen
  go_enter Try.func4, Try.ntmps4
  go_upto_region 5 with fail
  rw [HV.out]
  clear HV
  go_loopg [8, 7] m (fun g v x wr => ∃ (k : Nat) (la : Option Addr) (cap : Nat), g = m - k ∧ k ≤ m ∧ v = .int .i64 k ∧ x = .slice la k cap ∧ TOwn V wr la k cap (dT [115, 112, 97, 110] k))
  case atStart => exact ⟨0, none, 0, rfl, Nat.zero_le _, rfl, rfl, TOwn.nil V⟩
  case round =>
    obtain ⟨k, la, cap, hgk, hk, rfl, rfl, hT⟩ := hrel
    by_cases hlt : k < m
    · obtain ⟨la', cap', w', hrun, hT'⟩ := hT.app (by omega) 1 (by decide) (by decide) [⟨1, [115, 112, 97, 110], [], false, [], 0⟩] rfl (by simp) #[.int .u8 1, .string ⟨#[115, 112, 97, 110]⟩, .slice none 0 0, .bool false, .string ⟨#[]⟩, .int .i64 0] rfl
      have hT2 : TOwn V w' la' (k + 1) cap' (dT [115, 112, 97, 110] (k + 1)) := by
        have e : dT [115, 112, 97, 110] (k + 1) = dT [115, 112, 97, 110] k ++ [⟨1, [115, 112, 97, 110], [], false, [], 0⟩] := List.replicate_succ'
        rw [e]
        exact hT'
      have HT2 : Hid (TOwn V w' la' (k + 1) cap' (dT [115, 112, 97, 110] (k + 1))) := hT2
      have ht : decide ((k : Int) < (m : Int)) = true := decide_eq_true (by omega)
      clear hT hT' hT2
      go_wp2_with (at_builtin; refine wpList_appR (w' := w') rfl (.tmp 26) (.tmp 29) 29 29 rfl _ _ (.slice la' (k + 1) cap') rfl rfl hrun ?_)
      go_roundg (m - (k + 1))
      case rel => exact ⟨k + 1, la', cap', rfl, by omega, by go_num, rfl, HT2.out⟩
      case measure => omega
    · have hkk : k = m := by omega
      subst hkk
      obtain ⟨la', cap', w', hrun, hT'⟩ := hT.app (by omega) 1 (by decide) (by decide) [⟨3, [], [], false, [120], 0⟩] rfl (by simp) #[.int .u8 3, .string ⟨#[]⟩, .slice none 0 0, .bool false, .string ⟨#[120]⟩, .int .i64 0] rfl
      have HT' : Hid (TOwn V w' la' (k + 1) cap' (dT [115, 112, 97, 110] k ++ [⟨3, [], [], false, [120], 0⟩])) := hT'
      have r := HT'.out.build (by omega) HB.out (k + 1) 0 HLEN.out rfl
      have ht : decide ((k : Int) < (k : Int)) = false := decide_eq_false (by omega)
      clear hT hT'
      go_upto_region 9 with (at_builtin; refine wpList_appR (w' := w') rfl (.tmp 31) (.tmp 33) 29 29 rfl _ _ (.slice la' (k + 1) cap') rfl rfl hrun ?_)
      go_wp2_with fail
      refine r.mono ?_
      rintro e w2 ⟨⟨ia, ic, fa, fc, rfl, hI, -⟩, k2⟩
      have HI : Hid (ItsIn w2 ia (deepB [115, 112, 97, 110] k).items) := hI
      have HK2 : Hid (Kept (fun k => k < w.heap.size) w w2) := HKV.out.trans (k2.mono fun x hx => Nat.lt_of_lt_of_le hx HKV.out.size)
      clear r hI k2 hrun
      go_upto_region 13 with fail
      go_loopg [12] (k + 1) (fun g v wx => ∃ j : Nat, g = k + 1 - j ∧ j ≤ k + 1 ∧ v = .int .i64 j ∧ wx = w2)
      case atStart => exact ⟨0, rfl, Nat.zero_le _, rfl, rfl⟩
      case round =>
        obtain ⟨j, hgj, hj, rfl, hwx⟩ := hrel
        subst hwx
        by_cases hjl : j < k + 1
        · have hjI : j < (deepB [115, 112, 97, 110] k).items.length := by rw [HLEN.out]; exact hjl
          obtain ⟨g, aa, ac, hg, -, -, -, hc⟩ := HI.out j hjI
          subst hg
          have c0 := hc 0 _ rfl
          rw [deepB_get [115, 112, 97, 110] k j hjI, Nat.add_zero] at c0
          have ht2 : decide ((j : Int) < (k : Int) + 1) = true := decide_eq_true (by omega)
          clear hc hjI
          by_cases h100 : j ≤ 100
          · rw [Nat.min_eq_left h100] at c0
            have hmn : (min (j : Int) 100) = (j : Int) := by omega
            have hmd : decide ((j : Int) ≤ 100) = true := decide_eq_true (by omega)
            have hmd' : (j : Int) ≤ 100 := by omega
            go_wp2
            go_roundg (k + 1 - (j + 1))
            case rel => exact ⟨j + 1, rfl, by omega, by go_num, rfl⟩
            case measure => omega
          · rw [Nat.min_eq_right (by omega)] at c0
            have hmn : (min (j : Int) 100) = 100 := by omega
            have hmd : decide ((j : Int) ≤ 100) = false := decide_eq_false (by omega)
            have hmd' : ¬ (j : Int) ≤ 100 := by omega
            go_wp2
            go_roundg (k + 1 - (j + 1))
            case rel => exact ⟨j + 1, rfl, by omega, by go_num, rfl⟩
            case measure => omega
        · have ht2 : decide ((j : Int) < (k : Int) + 1) = false := decide_eq_false (by omega)
          have rk := fun X => known_any X
          clear HI
          go_wp2_with fail
          refine (rk _).mono ?_
          rintro e w3 ⟨rfl, k3⟩
          have HK3 := HK2.out.trans (k3.mono fun x hx => Nat.lt_of_lt_of_le hx HK2.out.size)
          clear rk k3
          go_wp2
          go_ret
          exact ⟨rfl, HK3⟩

set_option maxRecDepth 20000 in
set_option maxHeartbeats 1000000 in
theorem deep2 (a0 a1 : Int) (m : Nat) (hm : a0.tmod 150 = (m : Int)) (hm1 : m < 150) (hr : a1.tmod 5 = 2) (w : World) :
    Calls Try.prog 4 #[.int .u8 a0, .int .u8 a1] w fun e w' => e = .returned (.bool true) ∧ Kept (fun k => k < w.heap.size) w w' := by
  obtain ⟨V, hV⟩ : ∃ V, w.alloc (.cells #[.string ⟨#[100, 105, 118]⟩, .string ⟨#[115, 112, 97, 110]⟩, .string ⟨#[115, 101, 99, 116, 105, 111, 110]⟩, .string ⟨#[98]⟩, .string ⟨#[120, 45, 97]⟩] 9) = V := ⟨_, rfl⟩
  have HV : Hid (w.alloc (.cells #[.string ⟨#[100, 105, 118]⟩, .string ⟨#[115, 112, 97, 110]⟩, .string ⟨#[115, 101, 99, 116, 105, 111, 110]⟩, .string ⟨#[98]⟩, .string ⟨#[120, 45, 97]⟩] 9) = V) := hV
  have HKV : Hid (Kept (fun k => k < w.heap.size) w V) := by show Kept _ _ _; rw [← hV]; exact (Kept.refl _ w).alloc (fun _ h => h) _
  have hb := deep_build mild_section m (by omega)
  have hlen := deepB_len [115, 101, 99, 116, 105, 111, 110] m
  have HB : Hid (buildL (dT [115, 101, 99, 116, 105, 111, 110] m ++ [⟨3, [], [], false, [120], 0⟩]) = some (deepB [115, 101, 99, 116, 105, 111, 110] m)) := hb
  have HLEN : Hid ((deepB [115, 101, 99, 116, 105, 111, 110] m).items.length = m + 1) := hlen
  clear hV hb hlen
  go_enter Try.func4, Try.ntmps4
  go_upto_region 5 with fail
  rw [HV.out]
  clear HV
  go_loopg [8, 7] m (fun g v x wr => ∃ (k : Nat) (la : Option Addr) (cap : Nat), g = m - k ∧ k ≤ m ∧ v = .int .i64 k ∧ x = .slice la k cap ∧ TOwn V wr la k cap (dT [115, 101, 99, 116, 105, 111, 110] k))
  case atStart => exact ⟨0, none, 0, rfl, Nat.zero_le _, rfl, rfl, TOwn.nil V⟩
  case round =>
    obtain ⟨k, la, cap, hgk, hk, rfl, rfl, hT⟩ := hrel
    by_cases hlt : k < m
    · obtain ⟨la', cap', w', hrun, hT'⟩ := hT.app (by omega) 1 (by decide) (by decide) [⟨1, [115, 101, 99, 116, 105, 111, 110], [], false, [], 0⟩] rfl (by simp) #[.int .u8 1, .string ⟨#[115, 101, 99, 116, 105, 111, 110]⟩, .slice none 0 0, .bool false, .string ⟨#[]⟩, .int .i64 0] rfl
      have hT2 : TOwn V w' la' (k + 1) cap' (dT [115, 101, 99, 116, 105, 111, 110] (k + 1)) := by
        have e : dT [115, 101, 99, 116, 105, 111, 110] (k + 1) = dT [115, 101, 99, 116, 105, 111, 110] k ++ [⟨1, [115, 101, 99, 116, 105, 111, 110], [], false, [], 0⟩] := List.replicate_succ'
        rw [e]
        exact hT'
      have HT2 : Hid (TOwn V w' la' (k + 1) cap' (dT [115, 101, 99, 116, 105, 111, 110] (k + 1))) := hT2
      have ht : decide ((k : Int) < (m : Int)) = true := decide_eq_true (by omega)
      clear hT hT' hT2
      go_wp2_with (at_builtin; refine wpList_appR (w' := w') rfl (.tmp 26) (.tmp 29) 29 29 rfl _ _ (.slice la' (k + 1) cap') rfl rfl hrun ?_)
      go_roundg (m - (k + 1))
      case rel => exact ⟨k + 1, la', cap', rfl, by omega, by go_num, rfl, HT2.out⟩
      case measure => omega
    · have hkk : k = m := by omega
      subst hkk
      obtain ⟨la', cap', w', hrun, hT'⟩ := hT.app (by omega) 1 (by decide) (by decide) [⟨3, [], [], false, [120], 0⟩] rfl (by simp) #[.int .u8 3, .string ⟨#[]⟩, .slice none 0 0, .bool false, .string ⟨#[120]⟩, .int .i64 0] rfl
      have HT' : Hid (TOwn V w' la' (k + 1) cap' (dT [115, 101, 99, 116, 105, 111, 110] k ++ [⟨3, [], [], false, [120], 0⟩])) := hT'
      have r := HT'.out.build (by omega) HB.out (k + 1) 0 HLEN.out rfl
      have ht : decide ((k : Int) < (k : Int)) = false := decide_eq_false (by omega)
      clear hT hT'
      go_upto_region 9 with (at_builtin; refine wpList_appR (w' := w') rfl (.tmp 31) (.tmp 33) 29 29 rfl _ _ (.slice la' (k + 1) cap') rfl rfl hrun ?_)
      go_wp2_with fail
      refine r.mono ?_
      rintro e w2 ⟨⟨ia, ic, fa, fc, rfl, hI, -⟩, k2⟩
      have HI : Hid (ItsIn w2 ia (deepB [115, 101, 99, 116, 105, 111, 110] k).items) := hI
      have HK2 : Hid (Kept (fun k => k < w.heap.size) w w2) := HKV.out.trans (k2.mono fun x hx => Nat.lt_of_lt_of_le hx HKV.out.size)
      clear r hI k2 hrun
      go_upto_region 13 with fail
      go_loopg [12] (k + 1) (fun g v wx => ∃ j : Nat, g = k + 1 - j ∧ j ≤ k + 1 ∧ v = .int .i64 j ∧ wx = w2)
      case atStart => exact ⟨0, rfl, Nat.zero_le _, rfl, rfl⟩
      case round =>
        obtain ⟨j, hgj, hj, rfl, hwx⟩ := hrel
        subst hwx
        by_cases hjl : j < k + 1
        · have hjI : j < (deepB [115, 101, 99, 116, 105, 111, 110] k).items.length := by rw [HLEN.out]; exact hjl
          obtain ⟨g, aa, ac, hg, -, -, -, hc⟩ := HI.out j hjI
          subst hg
          have c0 := hc 0 _ rfl
          rw [deepB_get [115, 101, 99, 116, 105, 111, 110] k j hjI, Nat.add_zero] at c0
          have ht2 : decide ((j : Int) < (k : Int) + 1) = true := decide_eq_true (by omega)
          clear hc hjI
          by_cases h100 : j ≤ 100
          · rw [Nat.min_eq_left h100] at c0
            have hmn : (min (j : Int) 100) = (j : Int) := by omega
            have hmd : decide ((j : Int) ≤ 100) = true := decide_eq_true (by omega)
            have hmd' : (j : Int) ≤ 100 := by omega
            go_wp2
            go_roundg (k + 1 - (j + 1))
            case rel => exact ⟨j + 1, rfl, by omega, by go_num, rfl⟩
            case measure => omega
          · rw [Nat.min_eq_right (by omega)] at c0
            have hmn : (min (j : Int) 100) = 100 := by omega
            have hmd : decide ((j : Int) ≤ 100) = false := decide_eq_false (by omega)
            have hmd' : ¬ (j : Int) ≤ 100 := by omega
            go_wp2
            go_roundg (k + 1 - (j + 1))
            case rel => exact ⟨j + 1, rfl, by omega, by go_num, rfl⟩
            case measure => omega
        · have ht2 : decide ((j : Int) < (k : Int) + 1) = false := decide_eq_false (by omega)
          have rk := fun X => known_any X
          clear HI
          go_wp2_with fail
          refine (rk _).mono ?_
          rintro e w3 ⟨rfl, k3⟩
          have HK3 := HK2.out.trans (k3.mono fun x hx => Nat.lt_of_lt_of_le hx HK2.out.size)
          clear rk k3
          go_wp2
          go_ret
          exact ⟨rfl, HK3⟩

set_option maxRecDepth 20000 in
set_option maxHeartbeats 1000000 in
theorem deep3 (a0 a1 : Int) (m : Nat) (hm : a0.tmod 150 = (m : Int)) (hm1 : m < 150) (hr : a1.tmod 5 = 3) (w : World) :
    Calls Try.prog 4 #[.int .u8 a0, .int .u8 a1] w fun e w' => e = .returned (.bool true) ∧ Kept (fun k => k < w.heap.size) w w' := by
  obtain ⟨V, hV⟩ : ∃ V, w.alloc (.cells #[.string ⟨#[100, 105, 118]⟩, .string ⟨#[115, 112, 97, 110]⟩, .string ⟨#[115, 101, 99, 116, 105, 111, 110]⟩, .string ⟨#[98]⟩, .string ⟨#[120, 45, 97]⟩] 9) = V := ⟨_, rfl⟩
  have HV : Hid (w.alloc (.cells #[.string ⟨#[100, 105, 118]⟩, .string ⟨#[115, 112, 97, 110]⟩, .string ⟨#[115, 101, 99, 116, 105, 111, 110]⟩, .string ⟨#[98]⟩, .string ⟨#[120, 45, 97]⟩] 9) = V) := hV
  have HKV : Hid (Kept (fun k => k < w.heap.size) w V) := by show Kept _ _ _; rw [← hV]; exact (Kept.refl _ w).alloc (fun _ h => h) _
  have hb := deep_build mild_b m (by omega)
  have hlen := deepB_len [98] m
  have HB : Hid (buildL (dT [98] m ++ [⟨3, [], [], false, [120], 0⟩]) = some (deepB [98] m)) := hb
  have HLEN : Hid ((deepB [98] m).items.length = m + 1) := hlen
  clear hV hb hlen
  go_enter Try.func4, Try.ntmps4
  go_upto_region 5 with fail
  rw [HV.out]
  clear HV
  go_loopg [8, 7] m (fun g v x wr => ∃ (k : Nat) (la : Option Addr) (cap : Nat), g = m - k ∧ k ≤ m ∧ v = .int .i64 k ∧ x = .slice la k cap ∧ TOwn V wr la k cap (dT [98] k))
  case atStart => exact ⟨0, none, 0, rfl, Nat.zero_le _, rfl, rfl, TOwn.nil V⟩
  case round =>
    obtain ⟨k, la, cap, hgk, hk, rfl, rfl, hT⟩ := hrel
    by_cases hlt : k < m
    · obtain ⟨la', cap', w', hrun, hT'⟩ := hT.app (by omega) 1 (by decide) (by decide) [⟨1, [98], [], false, [], 0⟩] rfl (by simp) #[.int .u8 1, .string ⟨#[98]⟩, .slice none 0 0, .bool false, .string ⟨#[]⟩, .int .i64 0] rfl
      have hT2 : TOwn V w' la' (k + 1) cap' (dT [98] (k + 1)) := by
        have e : dT [98] (k + 1) = dT [98] k ++ [⟨1, [98], [], false, [], 0⟩] := List.replicate_succ'
        rw [e]
        exact hT'
      have HT2 : Hid (TOwn V w' la' (k + 1) cap' (dT [98] (k + 1))) := hT2
      have ht : decide ((k : Int) < (m : Int)) = true := decide_eq_true (by omega)
      clear hT hT' hT2
      go_wp2_with (at_builtin; refine wpList_appR (w' := w') rfl (.tmp 26) (.tmp 29) 29 29 rfl _ _ (.slice la' (k + 1) cap') rfl rfl hrun ?_)
      go_roundg (m - (k + 1))
      case rel => exact ⟨k + 1, la', cap', rfl, by omega, by go_num, rfl, HT2.out⟩
      case measure => omega
    · have hkk : k = m := by omega
      subst hkk
      obtain ⟨la', cap', w', hrun, hT'⟩ := hT.app (by omega) 1 (by decide) (by decide) [⟨3, [], [], false, [120], 0⟩] rfl (by simp) #[.int .u8 3, .string ⟨#[]⟩, .slice none 0 0, .bool false, .string ⟨#[120]⟩, .int .i64 0] rfl
      have HT' : Hid (TOwn V w' la' (k + 1) cap' (dT [98] k ++ [⟨3, [], [], false, [120], 0⟩])) := hT'
      have r := HT'.out.build (by omega) HB.out (k + 1) 0 HLEN.out rfl
      have ht : decide ((k : Int) < (k : Int)) = false := decide_eq_false (by omega)
      clear hT hT'
      go_upto_region 9 with (at_builtin; refine wpList_appR (w' := w') rfl (.tmp 31) (.tmp 33) 29 29 rfl _ _ (.slice la' (k + 1) cap') rfl rfl hrun ?_)
      go_wp2_with fail
      refine r.mono ?_
      rintro e w2 ⟨⟨ia, ic, fa, fc, rfl, hI, -⟩, k2⟩
      have HI : Hid (ItsIn w2 ia (deepB [98] k).items) := hI
      have HK2 : Hid (Kept (fun k => k < w.heap.size) w w2) := HKV.out.trans (k2.mono fun x hx => Nat.lt_of_lt_of_le hx HKV.out.size)
      clear r hI k2 hrun
      go_upto_region 13 with fail
      go_loopg [12] (k + 1) (fun g v wx => ∃ j : Nat, g = k + 1 - j ∧ j ≤ k + 1 ∧ v = .int .i64 j ∧ wx = w2)
      case atStart => exact ⟨0, rfl, Nat.zero_le _, rfl, rfl⟩
      case round =>
        obtain ⟨j, hgj, hj, rfl, hwx⟩ := hrel
        subst hwx
        by_cases hjl : j < k + 1
        · have hjI : j < (deepB [98] k).items.length := by rw [HLEN.out]; exact hjl
          obtain ⟨g, aa, ac, hg, -, -, -, hc⟩ := HI.out j hjI
          subst hg
          have c0 := hc 0 _ rfl
          rw [deepB_get [98] k j hjI, Nat.add_zero] at c0
          have ht2 : decide ((j : Int) < (k : Int) + 1) = true := decide_eq_true (by omega)
          clear hc hjI
          by_cases h100 : j ≤ 100
          · rw [Nat.min_eq_left h100] at c0
            have hmn : (min (j : Int) 100) = (j : Int) := by omega
            have hmd : decide ((j : Int) ≤ 100) = true := decide_eq_true (by omega)
            have hmd' : (j : Int) ≤ 100 := by omega
            go_wp2
            go_roundg (k + 1 - (j + 1))
            case rel => exact ⟨j + 1, rfl, by omega, by go_num, rfl⟩
            case measure => omega
          · rw [Nat.min_eq_right (by omega)] at c0
            have hmn : (min (j : Int) 100) = 100 := by omega
            have hmd : decide ((j : Int) ≤ 100) = false := decide_eq_false (by omega)
            have hmd' : ¬ (j : Int) ≤ 100 := by omega
            go_wp2
            go_roundg (k + 1 - (j + 1))
            case rel => exact ⟨j + 1, rfl, by omega, by go_num, rfl⟩
            case measure => omega
        · have ht2 : decide ((j : Int) < (k : Int) + 1) = false := decide_eq_false (by omega)
          have rk := fun X => known_any X
          clear HI
          go_wp2_with fail
          refine (rk _).mono ?_
          rintro e w3 ⟨rfl, k3⟩
          have HK3 := HK2.out.trans (k3.mono fun x hx => Nat.lt_of_lt_of_le hx HK2.out.size)
          clear rk k3
          go_wp2
          go_ret
          exact ⟨rfl, HK3⟩

set_option maxRecDepth 20000 in
set_option maxHeartbeats 1000000 in
theorem deep4 (a0 a1 : Int) (m : Nat) (hm : a0.tmod 150 = (m : Int)) (hm1 : m < 150) (hr : a1.tmod 5 = 4) (w : World) :
    Calls Try.prog 4 #[.int .u8 a0, .int .u8 a1] w fun e w' => e = .returned (.bool true) ∧ Kept (fun k => k < w.heap.size) w w' := by
  obtain ⟨V, hV⟩ : ∃ V, w.alloc (.cells #[.string ⟨#[100, 105, 118]⟩, .string ⟨#[115, 112, 97, 110]⟩, .string ⟨#[115, 101, 99, 116, 105, 111, 110]⟩, .string ⟨#[98]⟩, .string ⟨#[120, 45, 97]⟩] 9) = V := ⟨_, rfl⟩
  have HV : Hid (w.alloc (.cells #[.string ⟨#[100, 105, 118]⟩, .string ⟨#[115, 112, 97, 110]⟩, .string ⟨#[115, 101, 99, 116, 105, 111, 110]⟩, .string ⟨#[98]⟩, .string ⟨#[120, 45, 97]⟩] 9) = V) := hV
  have HKV : Hid (Kept (fun k => k < w.heap.size) w V) := by show Kept _ _ _; rw [← hV]; exact (Kept.refl _ w).alloc (fun _ h => h) _
  have hb := deep_build mild_xa m (by omega)
  have hlen := deepB_len [120, 45, 97] m
  have HB : Hid (buildL (dT [120, 45, 97] m ++ [⟨3, [], [], false, [120], 0⟩]) = some (deepB [120, 45, 97] m)) := hb
  have HLEN : Hid ((deepB [120, 45, 97] m).items.length = m + 1) := hlen
  clear hV hb hlen
  go_enter Try.func4, Try.ntmps4
  go_upto_region 5 with fail
  rw [HV.out]
  clear HV
  go_loopg [8, 7] m (fun g v x wr => ∃ (k : Nat) (la : Option Addr) (cap : Nat), g = m - k ∧ k ≤ m ∧ v = .int .i64 k ∧ x = .slice la k cap ∧ TOwn V wr la k cap (dT [120, 45, 97] k))
  case atStart => exact ⟨0, none, 0, rfl, Nat.zero_le _, rfl, rfl, TOwn.nil V⟩
  case round =>
    obtain ⟨k, la, cap, hgk, hk, rfl, rfl, hT⟩ := hrel
    by_cases hlt : k < m
    · obtain ⟨la', cap', w', hrun, hT'⟩ := hT.app (by omega) 1 (by decide) (by decide) [⟨1, [120, 45, 97], [], false, [], 0⟩] rfl (by simp) #[.int .u8 1, .string ⟨#[120, 45, 97]⟩, .slice none 0 0, .bool false, .string ⟨#[]⟩, .int .i64 0] rfl
      have hT2 : TOwn V w' la' (k + 1) cap' (dT [120, 45, 97] (k + 1)) := by
        have e : dT [120, 45, 97] (k + 1) = dT [120, 45, 97] k ++ [⟨1, [120, 45, 97], [], false, [], 0⟩] := List.replicate_succ'
        rw [e]
        exact hT'
      have HT2 : Hid (TOwn V w' la' (k + 1) cap' (dT [120, 45, 97] (k + 1))) := hT2
      have ht : decide ((k : Int) < (m : Int)) = true := decide_eq_true (by omega)
      clear hT hT' hT2
      go_wp2_with (at_builtin; refine wpList_appR (w' := w') rfl (.tmp 26) (.tmp 29) 29 29 rfl _ _ (.slice la' (k + 1) cap') rfl rfl hrun ?_)
      go_roundg (m - (k + 1))
      case rel => exact ⟨k + 1, la', cap', rfl, by omega, by go_num, rfl, HT2.out⟩
      case measure => omega
    · have hkk : k = m := by omega
      subst hkk
      obtain ⟨la', cap', w', hrun, hT'⟩ := hT.app (by omega) 1 (by decide) (by decide) [⟨3, [], [], false, [120], 0⟩] rfl (by simp) #[.int .u8 3, .string ⟨#[]⟩, .slice none 0 0, .bool false, .string ⟨#[120]⟩, .int .i64 0] rfl
      have HT' : Hid (TOwn V w' la' (k + 1) cap' (dT [120, 45, 97] k ++ [⟨3, [], [], false, [120], 0⟩])) := hT'
      have r := HT'.out.build (by omega) HB.out (k + 1) 0 HLEN.out rfl
      have ht : decide ((k : Int) < (k : Int)) = false := decide_eq_false (by omega)
      clear hT hT'
      go_upto_region 9 with (at_builtin; refine wpList_appR (w' := w') rfl (.tmp 31) (.tmp 33) 29 29 rfl _ _ (.slice la' (k + 1) cap') rfl rfl hrun ?_)
      go_wp2_with fail
      refine r.mono ?_
      rintro e w2 ⟨⟨ia, ic, fa, fc, rfl, hI, -⟩, k2⟩
      have HI : Hid (ItsIn w2 ia (deepB [120, 45, 97] k).items) := hI
      have HK2 : Hid (Kept (fun k => k < w.heap.size) w w2) := HKV.out.trans (k2.mono fun x hx => Nat.lt_of_lt_of_le hx HKV.out.size)
      clear r hI k2 hrun
      go_upto_region 13 with fail
      go_loopg [12] (k + 1) (fun g v wx => ∃ j : Nat, g = k + 1 - j ∧ j ≤ k + 1 ∧ v = .int .i64 j ∧ wx = w2)
      case atStart => exact ⟨0, rfl, Nat.zero_le _, rfl, rfl⟩
      case round =>
        obtain ⟨j, hgj, hj, rfl, hwx⟩ := hrel
        subst hwx
        by_cases hjl : j < k + 1
        · have hjI : j < (deepB [120, 45, 97] k).items.length := by rw [HLEN.out]; exact hjl
          obtain ⟨g, aa, ac, hg, -, -, -, hc⟩ := HI.out j hjI
          subst hg
          have c0 := hc 0 _ rfl
          rw [deepB_get [120, 45, 97] k j hjI, Nat.add_zero] at c0
          have ht2 : decide ((j : Int) < (k : Int) + 1) = true := decide_eq_true (by omega)
          clear hc hjI
          by_cases h100 : j ≤ 100
          · rw [Nat.min_eq_left h100] at c0
            have hmn : (min (j : Int) 100) = (j : Int) := by omega
            have hmd : decide ((j : Int) ≤ 100) = true := decide_eq_true (by omega)
            have hmd' : (j : Int) ≤ 100 := by omega
            go_wp2
            go_roundg (k + 1 - (j + 1))
            case rel => exact ⟨j + 1, rfl, by omega, by go_num, rfl⟩
            case measure => omega
          · rw [Nat.min_eq_right (by omega)] at c0
            have hmn : (min (j : Int) 100) = 100 := by omega
            have hmd : decide ((j : Int) ≤ 100) = false := decide_eq_false (by omega)
            have hmd' : ¬ (j : Int) ≤ 100 := by omega
            go_wp2
            go_roundg (k + 1 - (j + 1))
            case rel => exact ⟨j + 1, rfl, by omega, by go_num, rfl⟩
            case measure => omega
        · have ht2 : decide ((j : Int) < (k : Int) + 1) = false := decide_eq_false (by omega)
          have rk := fun X => known_any X
          clear HI
          go_wp2_with fail
          refine (rk _).mono ?_
          rintro e w3 ⟨rfl, k3⟩
          have HK3 := HK2.out.trans (k3.mono fun x hx => Nat.lt_of_lt_of_le hx HK2.out.size)
          clear rk k3
          go_wp2
          go_ret
          exact ⟨rfl, HK3⟩

end Go.Proofs.Ytffllhohlfblnab
