/-
  What the program's All answers.
-/
import Derived.Test.YtncfgahnjakeiaaDoorTake
import Derived.Test.YtncfgahnjakeiaaDoorBld
namespace Go.Proofs.YtncfgahnjakeiaaDoor
open Go.RowKit

theorem takeS_at {s : ByteArray} {k : Nat} (h : k < s.size) (attr : Bool) : takeS s k attr = takeL (s.data.toList.drop k) attr := by
  unfold takeS
  rw [if_pos (by omega), Int.toNat_natCast]
theorem Bld.kept {K : Nat → Prop} {w w' : World} {b : Nat} {l : List UInt8} (h : Bld K w b l) (hk : ∀ g, ¬ K g → g < w.heap.size → w'.heap[g]? = w.heap[g]?) : Bld K w' b l := by
  obtain ⟨h1, p, ao, cap, h2, h3, h4⟩ := h
  exact ⟨h1, p, ao, cap, by rw [hk b h1 (lt_block h2)]; exact h2, h3, h4.of fun g hg hl => hk g (fun h => hg (.inl h)) hl⟩

set_option maxRecDepth 20000 in
set_option maxHeartbeats 1000000 in
theorem all_any (s : ByteArray) (attr : Bool) (K : Nat → Prop) (w : World) (hK : ∀ k, K k → k < w.heap.size) (hs : s.size < 1000000) (hT : Tab w) (h0 : K 0) (h1 : K 1) :
    Calls Tryd.prog 92 #[.string s, .bool attr] w fun e w' => e = .returned (.string ⟨(allL attr s.data.toList).toArray⟩) ∧ Kept K w w' := by
  have hl0 : s.data.toList.length = s.size := rfl
  obtain ⟨A, hA⟩ : ∃ A, allL attr s.data.toList = A := ⟨_, rfl⟩
  rw [hA]
  have HA : Hid ([] ++ allL attr (s.data.toList.drop 0) = A) := hA
  clear hA
  obtain ⟨B, hB⟩ : ∃ B, w.heap.size = B := ⟨_, rfl⟩
  have hKB : ¬ K B := fun h => by have := hK B h; omega
  go_enter Tryd.func92, Tryd.ntmps92
  go_wp2_with fail
  go_loopw [6, 7, 8, 9, 10, 11, 12, 13, 14, 15, 16, 17, 18, 19, 20, 21, 22, 23, 24, 25, 26, 27, 28, 29, 30, 31, 32, 33] (fun i _ _ _ _ _ _ _ _ _ _ _ _ _ _ _ _ _ _ _ _ _ _ _ _ _ _ _ wr => ∃ (k : Nat) (out : List UInt8), k ≤ s.size ∧ i = .int .i64 k ∧ out ++ allL attr (s.data.toList.drop k) = A ∧ out.length ≤ 4 * k ∧ Bld K wr B out ∧ Kept K w wr) (fun i _ _ _ _ _ _ _ _ _ _ _ _ _ _ _ _ _ _ _ _ _ _ _ _ _ _ _ _ => s.size - (intOf i).toNat)
  case atStart =>
    refine ⟨0, [], Nat.zero_le _, rfl, HA.out, Nat.zero_le _, ⟨hKB, none, none, 0, ?_, .inl rfl, Own.nil _ _ _⟩, (Kept.refl K w).alloc hK _⟩
    rw [← hB]
    exact heap_alloc_new w _
  case round =>
    clear HA
    obtain ⟨k, out, hk, rfl, HO, hol, hbl, hkp⟩ := hrel
    have HO : Hid (out ++ allL attr (s.data.toList.drop k) = A) := HO
    have hKr : ∀ k, K k → k < wr.heap.size := fun k hk => Nat.lt_of_lt_of_le (hK k hk) hkp.size
    have hTr := hT.kept hkp h0 h1
    by_cases hlt : k < s.size
    · have htk := take_any s k attr (fun j => j < wr.heap.size) wr (fun _ h => h) hs hTr
      rw [takeS_at hlt attr] at htk
      have hn := takeL_n (s.data.toList.drop k) attr
      rw [List.length_drop, hl0] at hn
      have htx := text_le (s.data.toList.drop k) attr
      have hfl := fault_le (s.data.toList.drop k) attr
      have HN : Hid ((takeL (s.data.toList.drop k) attr).n = 0 → allL attr (s.data.toList.drop k) = s[k] :: allL attr (s.data.toList.drop (k + 1))) := by
        intro h
        rw [drop_cons hlt] at h ⊢
        exact allL_none h
      have HY : Hid ((takeL (s.data.toList.drop k) attr).n ≠ 0 → allL attr (s.data.toList.drop k) = (takeL (s.data.toList.drop k) attr).text.data.toList ++ allL attr (s.data.toList.drop (k + (takeL (s.data.toList.drop k) attr).n))) := by
        intro h
        rw [← List.drop_drop]
        exact allL_some h
      obtain ⟨R, hR⟩ : ∃ R, takeL (s.data.toList.drop k) attr = R := ⟨_, rfl⟩
      rw [hR] at htk hn htx hfl HN HY
      clear hR
      obtain ⟨tx, n, fl⟩ := R
      dsimp only at htk hn htx hfl HN HY
      have hKs : ∀ j, K j → j < wr.heap.size := hKr
      by_cases hn0 : n = 0
      · subst hn0
        have HE : Hid ((out ++ [s[k]]) ++ allL attr (s.data.toList.drop (k + 1)) = A) := by
          have := HO.out
          rw [HN.out rfl] at this
          show (out ++ [s[k]]) ++ _ = A
          simpa using this
        have hone : (s.extract k (k + 1)).data.toList = [s[k]] := by
          rw [extract_list, List.drop_take, Nat.add_sub_cancel_left, drop_cons hlt]
          rfl
        have hosz : (s.extract k (k + 1)).size = 1 := congrArg List.length hone
        have hwr := fun X hX hX1 => write_any K B out (s.extract k (k + 1)) X hX hX1 (by omega)
        clear HO HN HY hn hosz
        go_wp2_with fail
        refine htk.mono ?_
        rintro e w1 ⟨rfl, hk1⟩
        have hb1 : Bld K w1 B out := hbl.kept fun g _ hg => hk1.block g hg
        have hk2 := hkp.trans (hk1.mono hKs)
        clear hk1 htk
        go_wp2_with fail
        refine (hwr _ hb1 (fun k hk => Nat.lt_of_lt_of_le (hK k hk) hk2.size)).mono ?_
        rintro e w2 ⟨rfl, hb2, hk3⟩
        have hk4 := hk2.trans hk3
        rw [hone] at hb2
        clear hwr hb1 hk2 hk3 hone
        go_wp2
        go_roundw
        case rel => exact ⟨k + 1, _, by omega, by go_num, HE.out, by rw [List.length_append]; simp; omega, hb2, hk4⟩
        case measure => simp [intOf]; omega
      · have HE : Hid ((out ++ tx.data.toList) ++ allL attr (s.data.toList.drop (k + n)) = A) := by
          have := HO.out
          rw [HY.out hn0] at this
          show (out ++ tx.data.toList) ++ _ = A
          simpa using this
        have hwr := fun X hX hX1 => write_any K B out tx X hX hX1 (by omega)
        have en : ((n : Int) == 0) = false := by simp; omega
        clear HO HN HY
        go_wp2_with fail
        refine htk.mono ?_
        rintro e w1 ⟨rfl, hk1⟩
        have hb1 : Bld K w1 B out := hbl.kept fun g _ hg => hk1.block g hg
        have hk2 := hkp.trans (hk1.mono hKs)
        clear hk1 htk
        go_wp2_with fail
        refine (hwr _ hb1 (fun k hk => Nat.lt_of_lt_of_le (hK k hk) hk2.size)).mono ?_
        rintro e w2 ⟨rfl, hb2, hk3⟩
        have hk4 := hk2.trans hk3
        have hsz : tx.data.toList.length = tx.size := rfl
        clear hwr hb1 hk2 hk3
        go_wp2
        go_roundw
        case rel => exact ⟨k + n, _, by omega, by go_num, HE.out, by rw [List.length_append, hsz]; omega, hb2, hk4⟩
        case measure => simp [intOf]; omega
    · have hst := string_any K B out wr hbl hKr (by omega)
      have hAe : out = A := by
        have := HO.out
        rw [List.drop_eq_nil_of_le (by omega), allL_nil, List.append_nil] at this
        exact this
      subst hAe
      clear HO hol hbl
      go_wp2_with fail
      refine hst.mono ?_
      rintro e w1 ⟨rfl, hk1⟩
      go_wp2
      go_ret
      exact ⟨rfl, hkp.trans hk1⟩
end Go.Proofs.YtncfgahnjakeiaaDoor
