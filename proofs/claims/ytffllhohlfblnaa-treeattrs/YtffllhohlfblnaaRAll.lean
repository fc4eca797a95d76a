/-
  What the document's All answers.
-/
import Derived.Test.YtffllhohlfblnaaRTake
namespace Go.Proofs.Ytffllhohlfblnaa
open Go.RowKit

theorem mk_app (o : List UInt8) (t : ByteArray) : (⟨o.toArray⟩ : ByteArray) ++ t = ⟨(o ++ t.data.toList).toArray⟩ := by
  apply ByteArray.ext
  rw [ByteArray.data_append]
  simp

set_option maxRecDepth 20000 in
set_option maxHeartbeats 1000000 in
theorem rall_any (s : ByteArray) (attr : Bool) (K : Nat → Prop) (w : World) (hK : ∀ k, K k → k < w.heap.size) (hs : s.size < 1000000) :
    Calls Try.prog 79 #[.string s, .bool attr] w fun e w' => e = .returned (.string ⟨(allL attr s.data.toList).toArray⟩) ∧ Kept K w w' := by
  have hl0 : s.data.toList.length = s.size := rfl
  obtain ⟨A, hA⟩ : ∃ A, allL attr s.data.toList = A := ⟨_, rfl⟩
  rw [hA]
  have HA : Hid ([] ++ allL attr (s.data.toList.drop 0) = A) := hA
  clear hA
  go_enter Try.func79, Try.ntmps79
  go_wp2_with fail
  go_loopg [5, 6] s.size (fun g o i wr => ∃ (k : Nat) (out : List UInt8), g = s.size - k ∧ k ≤ s.size ∧ i = .int .i64 k ∧ o = .string ⟨out.toArray⟩ ∧ out ++ allL attr (s.data.toList.drop k) = A ∧ out.length ≤ 4 * k ∧ Kept K w wr)
  case atStart => exact ⟨0, [], rfl, Nat.zero_le _, rfl, rfl, HA.out, Nat.zero_le _, Kept.refl _ _⟩
  case round =>
    clear HA
    obtain ⟨k, out, hgk, hk, rfl, rfl, HO, hol, hkp⟩ := hrel
    have HO : Hid (out ++ allL attr (s.data.toList.drop k) = A) := HO
    have hKr : ∀ k, K k → k < wr.heap.size := fun k hk => Nat.lt_of_lt_of_le (hK k hk) hkp.size
    by_cases hlt : k < s.size
    · have htk := rtake_any s k attr K wr hKr hs
      rw [takeS_at hlt attr] at htk
      have hn := takeL_n (s.data.toList.drop k) attr
      rw [List.length_drop, hl0] at hn
      have htx := text_le (s.data.toList.drop k) attr
      have hfl := fault_le (s.data.toList.drop k) attr
      have HN : Hid ((takeL (s.data.toList.drop k) attr).n = 0 → allL attr (s.data.toList.drop k) = s[k] :: allL attr (s.data.toList.drop (k + 1))) := by
        intro h
        rw [drop_cons hlt] at h ⊢
        exact allL_none h
      have HY : Hid ((takeL (s.data.toList.drop k) attr).n ≠ 0 → allL attr (s.data.toList.drop k) = (takeL (s.data.toList.drop k) attr).text.data.toList ++ allL attr (s.data.toList.drop (k + (takeL (s.data.toList.drop k) attr).n))) := by
        intro h
        rw [← List.drop_drop]
        exact allL_some h
      obtain ⟨R, hR⟩ : ∃ R, takeL (s.data.toList.drop k) attr = R := ⟨_, rfl⟩
      rw [hR] at htk hn htx hfl HN HY
      clear hR
      obtain ⟨tx, n, fl⟩ := R
      dsimp only at htk hn htx hfl HN HY
      have hos : (⟨out.toArray⟩ : ByteArray).size = out.length := by show out.toArray.size = _; simp
      have HM : Hid (∀ t : ByteArray, (⟨out.toArray⟩ : ByteArray) ++ t = ⟨(out ++ t.data.toList).toArray⟩) := fun t => mk_app out t
      obtain ⟨O, hO⟩ : ∃ O, (⟨out.toArray⟩ : ByteArray) = O := ⟨_, rfl⟩
      rw [hO] at hos HM ⊢
      clear hO
      by_cases hn0 : n = 0
      · subst hn0
        have HE : Hid ((out ++ [s[k]]) ++ allL attr (s.data.toList.drop (k + 1)) = A) := by
          have := HO.out
          rw [HN.out rfl] at this
          show (out ++ [s[k]]) ++ _ = A
          simpa using this
        have hone : (s.extract k (k + 1)).data.toList = [s[k]] := by
          rw [extract_list, List.drop_take, Nat.add_sub_cancel_left, drop_cons hlt]
          rfl
        have hosz : (s.extract k (k + 1)).size = 1 := congrArg List.length hone
        have HM2 : Hid (O ++ s.extract k (k + 1) = ⟨(out ++ [s[k]]).toArray⟩) := by rw [← hone]; exact HM.out _
        clear HO HN HY hn hone HM
        go_wp2_with fail
        refine htk.mono ?_
        rintro e w1 ⟨rfl, hk1⟩
        clear htk
        go_wp2
        go_roundg (s.size - (k + 1))
        case rel => exact ⟨k + 1, out ++ [s[k]], rfl, by omega, by go_num, by rw [HM2.out], HE.out, by rw [List.length_append]; simp; omega, hkp.trans hk1⟩
        case measure => omega
      · have HE : Hid ((out ++ tx.data.toList) ++ allL attr (s.data.toList.drop (k + n)) = A) := by
          have := HO.out
          rw [HY.out hn0] at this
          show (out ++ tx.data.toList) ++ _ = A
          simpa using this
        have HM2 : Hid (O ++ tx = ⟨(out ++ tx.data.toList).toArray⟩) := HM.out _
        have en : decide ((n : Int) > 0) = true := by simp; omega
        clear HO HN HY HM
        go_wp2_with fail
        refine htk.mono ?_
        rintro e w1 ⟨rfl, hk1⟩
        have hsz : tx.data.toList.length = tx.size := rfl
        clear htk
        go_wp2
        go_roundg (s.size - (k + n))
        case rel => exact ⟨k + n, out ++ tx.data.toList, rfl, by omega, by go_num, by rw [HM2.out], HE.out, by rw [List.length_append, hsz]; omega, hkp.trans hk1⟩
        case measure => omega
    · have hAe : out = A := by
        have := HO.out
        rw [List.drop_eq_nil_of_le (by omega), allL_nil, List.append_nil] at this
        exact this
      subst hAe
      clear HO hol
      go_wp2
      go_ret
      exact ⟨rfl, hkp⟩
end Go.Proofs.Ytffllhohlfblnaa
