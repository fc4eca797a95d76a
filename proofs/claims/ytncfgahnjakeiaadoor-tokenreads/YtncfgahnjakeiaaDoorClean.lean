/-
  What WriteByte, clean and small answer.
-/
import Derived.Test.YtncfgahnjakeiaaDoorTkA
import Derived.Test.YtncfgahnjakeiaaDoorBld
import Derived.Test.YtncfgahnjakeiaaDoorLower
import Derived.Test.YtncfgahnjakeiaaDoorAll
import Derived.Deep.LoopGhost
namespace Go.Proofs.YtncfgahnjakeiaaDoor
open Go.RowKit

set_option maxRecDepth 20000 in
set_option maxHeartbeats 1000000 in
theorem writeB_any (K : Nat → Prop) (b : Nat) (l : List UInt8) (c : UInt8) (w : World) (h : Bld K w b l) (hK : ∀ k, K k → k < w.heap.size) (hl : l.length ≤ 1099511627776) :
    Calls Tryd.prog 103 #[.pointer (some ⟨b, 0, none⟩), .int .u8 c.toNat] w fun e w' => e = .returned .nilIface ∧ Bld K w' b (l ++ [c]) ∧ Kept K w w' := by
  obtain ⟨i0, hi, hz0, hz1, hz2⟩ := info_parts infoY
  have hz3 : i0.bytes ≤ 64 := by omega
  have hcc := cc_any K b l w h
  have hKb : ¬ K b := h.1
  clear h
  go_enter Tryd.func103, Tryd.ntmps103
  go_wp2_with fail
  refine hcc.mono ?_
  rintro e w1 ⟨rfl, ⟨ao, cap, hb, hown⟩, hk1⟩
  have c1 : w1.cell? ⟨b, 1, none⟩ = some (.slice ao l.length cap) := by rw [cell_block hb]; rfl
  have hK1 : ∀ k, (K k ∨ k = b) → k < w1.heap.size := by
    rintro k (hk | rfl)
    · exact Nat.lt_of_lt_of_le (hK k hk) hk1.size
    · exact lt_block hb
  obtain ⟨K', hK'⟩ : ∃ K' : Nat → Prop, (fun k => K k ∨ k = b) = K' := ⟨_, rfl⟩
  have hKK : ∀ k, K k → K' k := fun k hk => by rw [← hK']; exact .inl hk
  have hKb' : K' b := by rw [← hK']; exact .inr rfl
  have HKe : Hid ((fun k => K k ∨ k = b) = K') := hK'
  rw [hK'] at hown
  have hK2 : ∀ k, K' k → k < w1.heap.size := fun k hk => hK1 k (by rw [← hK'] at hk; exact hk)
  clear hcc hK' hK1
  obtain ⟨n, hn⟩ : ∃ n, l.length = n := ⟨_, rfl⟩
  rw [hn] at hl c1 hown hb
  go_wp2_with (at_builtin; refine wpList_app1 (K := K') rfl (.tmp 11) (.tmp 13) 34 5 rfl i0 (.int .u8 0) Tryd.underlying34 hi hz0 hz1 rfl hz3 ao n cap (bvs l) rfl (bv c) rfl w1.heap.size rfl hl hown hK2 rfl ?_)
  intro ao2 cap2 w2 own2 kept2
  have hb2 : w2.heap[b]? = some (.cells #[.pointer (some ⟨b, 0, none⟩), .slice ao n cap] 45 (0, 0)) := by rw [kept2.block b hKb']; exact hb
  have d1 : w2.cell? ⟨b, 1, none⟩ = some (.slice ao n cap) := by rw [cell_block hb2]; rfl
  have f1 : w2.frozen? ⟨b, 1, none⟩ = false := frozen_block hb2 1
  clear c1
  go_wp2
  go_ret
  refine ⟨rfl, ⟨hKb, some ⟨b, 0, none⟩, ao2, cap2, ?_, .inr rfl, ?_⟩, ?_⟩
  · rw [heap_setCell_at hb2, List.length_append, hn]
    rfl
  · rw [HKe.out]
    refine Own.setCell (p := ⟨b, 1, none⟩) ?_ hKb' _
    refine own2.cast ?_ ?_
    · rw [List.length_append, hn]; rfl
    · rw [bvs_append]; rfl
  · exact (hk1.trans (kept2.mono hKK)).setCell (p := ⟨b, 1, none⟩) hKb _

theorem cleanL_length : ∀ l : List UInt8, (cleanL l).length ≤ 3 * l.length
  | [] => Nat.le_refl _
  | c :: r => by
    have := cleanL_length r
    have e : cleanL (c :: r) = cleanB c ++ cleanL r := rfl
    rw [e, List.length_append, List.length_cons]
    unfold cleanB
    split <;> simp only [List.length_cons, List.length_nil] <;> omega
theorem cleanL_append (a b : List UInt8) : cleanL (a ++ b) = cleanL a ++ cleanL b := by simp [cleanL]

theorem Low.at' {w : World} {N : Nat} {s : ByteArray} (h : Low w N s 0) {k : Nat} (hk : k < s.size) : w.cell? ⟨N, k, none⟩ = some (bv s[k]) := by
  have := (h.2 k hk).1
  rwa [if_neg (Nat.not_lt_zero _)] at this

set_option maxRecDepth 20000 in
set_option maxHeartbeats 1000000 in
theorem clean_any (s : List UInt8) (K : Nat → Prop) (w : World) (hK : ∀ k, K k → k < w.heap.size) (hs : s.length < 10000000) :
    Calls Tryd.prog 87 #[sv s] w fun e w' => e = .returned (sv (cleanL s)) ∧ Kept K w w' := by
  obtain ⟨B, hB⟩ : ∃ B, w.heap.size = B := ⟨_, rfl⟩
  have hKB : ¬ K B := fun h => by have := hK B h; omega
  obtain ⟨S, hS⟩ : ∃ S : ByteArray, (⟨s.toArray⟩ : ByteArray) = S := ⟨_, rfl⟩
  have hSz : S.size = s.length := by rw [← hS]; exact sv_size s
  have hSg : ∀ k (h : k < S.size), S[k] = s[k]'(by omega) := by
    subst hS
    intro k h
    rfl
  obtain ⟨W0, hW0⟩ : ∃ W0, w.alloc (.cells #[.pointer none, .slice none 0 0] 45) = W0 := ⟨_, rfl⟩
  have hk0 : Kept K w W0 := by rw [← hW0]; exact (Kept.refl K w).alloc hK _
  have hb0 : Bld K W0 B [] := by
    rw [← hW0, ← hB]
    exact ⟨by rw [hB]; exact hKB, none, none, 0, heap_alloc_new w _, .inl rfl, Own.nil _ _ _⟩
  have hK0 : ∀ k, K k → k < W0.heap.size := fun k hk => Nat.lt_of_lt_of_le (hK k hk) hk0.size
  have hcv := conv_bytes W0 S
  have hrow := bobj_row W0 S
  obtain ⟨K', hK'⟩ : ∃ K' : Nat → Prop, (fun k => K k ∨ k = W0.heap.size) = K' := ⟨_, rfl⟩
  obtain ⟨cap, hcap⟩ : ∃ c, bcap W0 S = c := ⟨_, rfl⟩
  rw [hcap] at hcv
  obtain ⟨X, hX⟩ : ∃ X, (W0.alloc (bobj W0 S)).drew = X := ⟨_, rfl⟩
  have hkX : Kept K w X := by rw [← hX]; exact (hk0.alloc hK0 _).drew
  have hNB : B ≠ W0.heap.size := by
    have := lt_block hb0.2.choose_spec.choose_spec.choose_spec.1
    omega
  have hbX : Bld K' X B [] := by
    rw [← hX, ← hK']
    refine ⟨?_, none, none, 0, ?_, .inl rfl, Own.nil _ _ _⟩
    · rintro (hh | hh)
      · exact hKB hh
      · exact hNB hh
    · show (W0.alloc (bobj W0 S)).heap[B]? = _
      refine heap_alloc_past ?_ _
      rw [← hW0, ← hB]
      exact heap_alloc_new w _
  have hKX : ∀ k, K' k → k < X.heap.size := by
    intro k hk
    rw [← hK'] at hk
    rw [← hX]
    rcases hk with hk | rfl
    · have := hK0 k hk
      simp
      omega
    · simp
  have hKN : K' W0.heap.size := by rw [← hK']; exact .inr rfl
  have hKK : ∀ k, K k → K' k := fun k hk => by rw [← hK']; exact .inl hk
  rw [hX] at hcv hrow
  have HR : Hid (∀ wr, Kept K' X wr → ∀ k (h : k < S.size), wr.cell? ⟨W0.heap.size, k, none⟩ = some (bv S[k])) := by
    intro wr hk k h
    rw [hk.cell (p := ⟨W0.heap.size, k, none⟩) hKN]
    exact (hrow.at' h)
  clear hX hcap hrow hK' hb0 hk0
  obtain ⟨N, hN⟩ : ∃ N, W0.heap.size = N := ⟨_, rfl⟩
  rw [hN] at hcv HR hKN
  rw [← hW0] at hcv
  have HA : Hid (cleanL (s.take s.length) = cleanL s) := by show cleanL _ = _; rw [List.take_length]
  show Calls Tryd.prog 87 #[.string ⟨s.toArray⟩] w _
  rw [hS]
  clear hNB hN hW0 hS
  go_enter Tryd.func87, Tryd.ntmps87
  go_wp2_with fail
  go_loopg [9] s.length (fun gm i wr => ∃ k : Nat, gm = s.length - k ∧ k ≤ s.length ∧ i = .int .i64 k ∧ Bld K' wr B (cleanL (s.take k)) ∧ Kept K' X wr)
  case atStart => exact ⟨0, rfl, Nat.zero_le _, rfl, hbX, Kept.refl _ _⟩
  case round =>
    obtain ⟨k, hgk, hk, rfl, hb, hkp⟩ := hrel
    have hKr : ∀ k, K' k → k < wr.heap.size := fun k hk => Nat.lt_of_lt_of_le (hKX k hk) hkp.size
    have hcl := cleanL_length (s.take k)
    rw [List.length_take, Nat.min_eq_left hk] at hcl
    by_cases hlt : k < s.length
    · have hck := HR.out wr hkp k (by omega)
      rw [hSg k (by omega)] at hck
      have HS : Hid (cleanL (s.take (k + 1)) = cleanL (s.take k) ++ cleanB s[k]) := by
        show cleanL _ = _
        rw [List.take_succ_eq_append_getElem hlt, cleanL_append]
        simp [cleanL]
      have hlt' : k < S.size := by omega
      obtain ⟨c, hc⟩ : ∃ c, s[k] = c := ⟨_, rfl⟩
      rw [hc] at hck HS
      clear hc hbX
      by_cases h0 : c = 0
      · subst h0
        have hck : wr.cell? ⟨N, k, none⟩ = some (.int .u8 0) := hck
        have hw := write_any K' B (cleanL (s.take k)) ⟨#[239, 191, 189]⟩ wr hb hKr (by have : (⟨#[239, 191, 189]⟩ : ByteArray).size = 3 := rfl; omega)
        clear hb
        go_wp2_with fail
        refine hw.mono ?_
        rintro e w1 ⟨rfl, hb1, hk1⟩
        go_wp2
        go_roundg (s.length - (k + 1))
        case rel => exact ⟨k + 1, rfl, by omega, by go_num, by rw [HS.out]; exact hb1, hkp.trans hk1⟩
        case measure => omega
      · have hw := writeB_any K' B (cleanL (s.take k)) c wr hb hKr (by omega)
        have e0 : ((c.toNat : Int) == 0) = false := by
          simp
          intro e
          exact h0 (UInt8.toNat_inj.1 e)
        have HS : Hid (cleanL (s.take (k + 1)) = cleanL (s.take k) ++ [c]) := by
          show cleanL _ = _
          rw [HS.out]
          unfold cleanB
          rw [if_neg h0]
        clear hb h0
        go_wp2_with fail
        refine hw.mono ?_
        rintro e w1 ⟨rfl, hb1, hk1⟩
        go_wp2
        go_roundg (s.length - (k + 1))
        case rel => exact ⟨k + 1, rfl, by omega, by go_num, by rw [HS.out]; exact hb1, hkp.trans hk1⟩
        case measure => omega
    · have hkk : k = s.length := by omega
      subst hkk
      rw [HA.out] at hb hcl
      have hst := string_any K' B (cleanL s) wr hb hKr (by omega)
      clear hb
      go_wp2_with fail
      refine hst.mono ?_
      rintro e w1 ⟨rfl, hk1⟩
      go_wp2
      go_ret
      exact ⟨rfl, (hkX.trans ((hkp.trans hk1).mono hKK))⟩

theorem lowL_length (l : List UInt8) : (lowL l).length = l.length := by simp [lowL]
theorem small_any (s : List UInt8) (K : Nat → Prop) (w : World) (hK : ∀ k, K k → k < w.heap.size) (hs : s.length < 1000000) :
    Calls Tryd.prog 69 #[sv s] w fun e w' => e = .returned (sv (nmL s)) ∧ Kept K w w' := by
  have h1 : Calls Tryd.prog 77 #[sv s] w fun e w' => e = .returned (sv (lowL s)) ∧ Kept K w w' := lower_any ⟨s.toArray⟩ K w hK (by rw [sv_size]; exact hs)
  have h2 := fun X hX => clean_any (lowL s) K X hX (by rw [lowL_length]; omega)
  go_enter Tryd.func69, Tryd.ntmps69
  go_wp2_with fail
  refine h1.mono ?_
  rintro e w1 ⟨rfl, hk1⟩
  go_wp2_with fail
  refine (h2 w1 (fun k hk => Nat.lt_of_lt_of_le (hK k hk) hk1.size)).mono ?_
  rintro e w2 ⟨rfl, hk2⟩
  go_wp2
  go_ret
  exact ⟨rfl, hk1.trans hk2⟩
end Go.Proofs.YtncfgahnjakeiaaDoor
