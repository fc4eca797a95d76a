/-
  What Finish, New and Decode answer, for every decoder and every row of bytes.
-/
import Derived.Test.YtnfallgpnoofiaaFeed
namespace Go.Proofs.Ytnfallgpnoofiaa
open Go.RowKit
abbrev strV (l : List UInt8) : Value := .string ⟨l.toArray⟩
set_option maxHeartbeats 1000000 in
theorem finish_dec {K : Nat → Prop} {w : World} {b : Nat} {s : St} (h : Dec K w b s) (hl : s.text.length ≤ 1099511627776) :
    Calls Try.prog 12 #[dptr b] w fun e w' => e = .returned (strV s.finish) ∧ w' = w.drew := by
  obtain ⟨ao, cap, h1, h2⟩ := h.blk
  have c0 := cell_block h1 0
  have c1 := cell_block h1 1
  have c2 := cell_block h1 2
  have own : Own (fun k => K k ∨ k = b) w 5 ao s.settled cap (bvs (s.text.take s.settled)) := (h2.take s.settled h.ok).cast rfl (bvs_take _ _).symm
  have hcv := run_string_own (P := Try.prog) w.drew 23 9 5 Try.underlying23 Try.underlying5 Try.underlying9 own.drew
  have hcap : s.text.length ≤ cap := h2.2.1
  have hok := h.ok
  have q1 : (0 : Int) ≤ (s.settled : Int) := by omega
  have q2 : (s.settled : Int) ≤ (cap : Int) := by omega
  simp [decCells] at c0 c1 c2
  have hlen : (s.text.take s.settled).length ≤ 1099511627776 := by simp; omega
  unfold St.finish
  obtain ⟨l, hlx⟩ : ∃ l, l = s.text.take s.settled := ⟨_, rfl⟩
  rw [← hlx] at hcv hlen ⊢
  clear hlx
  by_cases hc : 0 < s.count
  · have hc' : (0 : Int) < (s.count : Int) := by omega
    rw [if_pos hc]
    go_enter Try.func12, Try.ntmps12
    go_wp2
    go_region_held3 (fun w' => w'.cell? ⟨b, 0, none⟩ = some (.slice ao s.text.length cap) ∧ w'.cell? ⟨b, 1, none⟩ = some (.int .i64 s.settled) ∧ (convert 23 9 (.slice ao s.settled cap)).run Try.prog w' = .ok (.string ⟨l.toArray⟩) w') (go_keep) (fail)
    go_wp2
    go_ret
    exact ⟨congrArg (fun x => Ending.returned (.string x)) (ByteArray.mk_append_mk l [239, 191, 189]), rfl⟩
  · have hc' : ¬ (0 : Int) < (s.count : Int) := by omega
    rw [if_neg hc]
    go_enter Try.func12, Try.ntmps12
    go_wp2
    go_region_held3 (fun w' => w'.cell? ⟨b, 0, none⟩ = some (.slice ao s.text.length cap) ∧ w'.cell? ⟨b, 1, none⟩ = some (.int .i64 s.settled) ∧ (convert 23 9 (.slice ao s.settled cap)).run Try.prog w' = .ok (.string ⟨l.toArray⟩) w') (go_keep) (fail)
    go_wp2
    go_ret
    exact ⟨by rw [List.append_nil]; rfl, rfl⟩

theorem new_any (w : World) : Calls Try.prog 10 #[] w fun e w' => e = .returned (dptr w.heap.size) ∧ w' = w.alloc (.cells (decCells none 0 St.new) 39) := by
  go_enter Try.func10, Try.ntmps10
  go_wp2
  go_ret
  exact ⟨rfl, rfl⟩

theorem Dec.fresh (w : World) (K : Nat → Prop) (hK : ∀ k, K k → k < w.heap.size) : Dec K (w.alloc (.cells (decCells none 0 St.new) 39)) w.heap.size St.new :=
  ⟨fun h => Nat.lt_irrefl _ (hK _ h), fun k hk => by have := hK k hk; simp; omega, Nat.le_refl _, none, 0, heap_alloc_new w _, Own.nil _ _ _⟩

theorem RowB.kept {K : Nat → Prop} {w w' : World} {ao : Option Addr} {bs : List UInt8} (h : RowB K w ao bs) (hk : Kept K w w') : RowB K w' ao bs := by
  rcases h with h | ⟨g, o, h1, h2, h3⟩
  · exact .inl h
  · exact .inr ⟨g, o, h1, h2, fun j hj => (hk.cell h2).trans (h3 j hj)⟩
theorem RowB.mono {K K' : Nat → Prop} {w : World} {ao : Option Addr} {bs : List UInt8} (h : RowB K w ao bs) (hk : ∀ k, K k → K' k) : RowB K' w ao bs := by
  rcases h with h | ⟨g, o, h1, h2, h3⟩
  · exact .inl h
  · exact .inr ⟨g, o, h1, hk g h2, h3⟩

set_option maxHeartbeats 400000 in
theorem decode_any {K : Nat → Prop} {w : World} (hK : ∀ k, K k → k < w.heap.size) (bs : List UInt8) (ao : Option Addr) (cap : Nat) (hrow : RowB K w ao bs) (hl : bs.length ≤ 100000000000) :
    Calls Try.prog 13 #[.slice ao bs.length cap] w fun e w' => e = .returned (strV (decS bs)) ∧ Kept K w w' := by
  have hd := Dec.fresh w K hK
  have hk0 := (Kept.refl K w).alloc hK (.cells (decCells none 0 St.new) 39)
  have hfeed := feed_dec hd St.Ok.new bs ao cap (hrow.kept hk0) (by simp [St.new]; omega)
  have hok := St.feed_ok St.Ok.new bs
  have hnl : St.new.text.length = 0 := rfl
  have hnew := new_any w
  unfold decS
  go_enter Try.func13, Try.ntmps13
  go_wp2_with (first | (go_at_call 10; refine hnew.mono ?_; rintro e w1 ⟨rfl, rfl⟩) | (go_at_call 11; refine hfeed.mono ?_; rintro e w2 ⟨rfl, hd2, hk2⟩) | (go_at_call 12; refine (finish_dec hd2 (by omega)).mono ?_; rintro e w3 ⟨rfl, rfl⟩))
  go_ret
  exact ⟨rfl, (hk0.trans hk2).drew⟩
end Go.Proofs.Ytnfallgpnoofiaa
