/-
  The walk of the statement InputMark: it returns true for every text.
-/
import Derived.Test.YtnfallgpnoofiaaConv
namespace Go.Proofs.Ytnfallgpnoofiaa
open Go.RowKit

theorem ba_size2 (a : Array UInt8) (l : List UInt8) : ((⟨a⟩ : ByteArray) ++ ⟨l.toArray⟩).size = a.size + l.length := by
  rw [ByteArray.size_append]
  rfl

set_option maxHeartbeats 1000000 in
theorem mark_walk (s : ByteArray) (w : World) (hs : s.size ≤ maxLen) :
    Calls Try.prog 4 #[.string s] w fun e w' => e = .returned (.bool true) ∧ Kept (fun k => k < w.heap.size) w w' := by
  unfold maxLen at hs
  have hkn := known_any (K := fun k => k < w.heap.size) (w := w) (fun _ h => h)
  by_cases hlen : 500 < s.size
  · have hl' : (500 : Int) < (s.size : Int) := by omega
    go_enter Try.func4, Try.ntmps4
    go_wp2_with (go_at_call 9; refine hkn.mono ?_; rintro e w1 ⟨rfl, hk1⟩)
    go_ret
    exact ⟨rfl, hk1⟩
  · have hl' : ¬ (500 : Int) < (s.size : Int) := by omega
    have hcv := fun (X : World) (n : Int) => conv_new X n X.heap.size rfl
    go_enter Try.func4, Try.ntmps4
    go_wp2_with (go_at_call 9; refine hkn.mono ?_; rintro e w1 ⟨rfl, hk1⟩)
    clear hkn
    go_loopw [3, 4] (fun t i wr => ∃ k : Nat, k ≤ s.size ∧ i = .int .i64 k ∧ t = .string ⟨(prL (s.data.toList.take k)).toArray⟩ ∧ Kept (fun k => k < w.heap.size) w wr) (fun _ i _ => s.size - (intOf i).toNat)
    case atStart => exact ⟨0, Nat.zero_le _, rfl, rfl, hk1⟩
    case round =>
      clear hk1
      obtain ⟨k, hk, rfl, rfl, hkp⟩ := hrel
      have hpl : (prL (s.data.toList.take k)).length ≤ 500 := by simp [prL]; omega
      obtain ⟨tl, htl⟩ : ∃ tl, tl = prL (s.data.toList.take k) := ⟨_, rfl⟩
      rw [← htl] at hpl
      rw [← htl]
      have HT : Hid (tl = prL (s.data.toList.take k)) := htl
      clear htl
      by_cases hlt : k < s.size
      · have HS : Hid (prL (s.data.toList.take (k + 1)) = tl ++ [UInt8.ofNat (s[k].toNat % 95) + 32]) := by
          have h1 : k < s.data.toList.length := by simpa using hlt
          rw [List.take_succ_eq_append_getElem h1, prL_snoc, ← HT.out, prB_eq]
          rfl
        go_wp2
        go_roundw
        case rel =>
          refine ⟨k + 1, by omega, by go_num, ?_, hkp.alloc (fun k hk => Nat.lt_of_lt_of_le hk hkp.size) _⟩
          rw [HS.out]
          exact congrArg Value.string (ByteArray.mk_append_mk tl [_])
        case measure => simp [intOf]; omega
      · have hks : s.data.toList.take k = s.data.toList := List.take_of_length_le (by simp; omega)
        have ht : tl = prL s.data.toList := by rw [HT.out, hks]
        have hcb := conv_bytes
        have m1 := mark1 s.data.toList
        have m2 := mark2 s.data.toList
        have m3 := mark3 s.data.toList
        rw [← ht] at m1 m2 m3
        have d1 := fun X N n c hN hn => decode_str X (⟨#[239, 187, 191]⟩ ++ ⟨tl.toArray⟩) ⟨tl.toArray⟩ N n c hN hn (by rw [ba_size2]; simp; omega) (by simpa [markB] using m1)
        have d2 := fun X N n c hN hn => decode_str X (⟨#[239, 187, 191, 239, 187, 191]⟩ ++ ⟨tl.toArray⟩) (⟨#[239, 187, 191]⟩ ++ ⟨tl.toArray⟩) N n c hN hn (by rw [ba_size2]; simp; omega) (by simpa [markB] using m2)
        have d3 := fun X N n c hN hn => decode_str X (⟨#[120, 239, 187, 191]⟩ ++ ⟨tl.toArray⟩) (⟨#[120, 239, 187, 191]⟩ ++ ⟨tl.toArray⟩) N n c hN hn (by rw [ba_size2]; simp; omega) (by simpa [markB] using m3)
        clear m1 m2 m3 ht HT hks
        go_wp2_with fail
        refine (d1 _ _ _ _ rfl (ba_size2 _ _).symm).mono ?_
        rintro e w2 ⟨rfl, hk2⟩
        have hkp2 := hkp.trans (hk2.mono fun k hk => Nat.lt_of_lt_of_le hk hkp.size)
        clear hk2 hkp d1
        go_wp2_with fail
        refine (d2 _ _ _ _ rfl (ba_size2 _ _).symm).mono ?_
        rintro e w3 ⟨rfl, hk3⟩
        have hkp3 := hkp2.trans (hk3.mono fun k hk => Nat.lt_of_lt_of_le hk hkp2.size)
        clear hk3 hkp2 d2
        go_wp2_with fail
        refine (d3 _ _ _ _ rfl (ba_size2 _ _).symm).mono ?_
        rintro e w4 ⟨rfl, hk4⟩
        have hkp4 := hkp3.trans (hk4.mono fun k hk => Nat.lt_of_lt_of_le hk hkp3.size)
        clear hk4 hkp3 d3
        go_wp2
        go_ret
        exact ⟨rfl, hkp4⟩
end Go.Proofs.Ytnfallgpnoofiaa
