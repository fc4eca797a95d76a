/-
  What the chapter's example asks, known, answers true.
-/
import Derived.Test.YtnfallgpnoofiaaDecode
namespace Go.Proofs.Ytnfallgpnoofiaa
open Go.RowKit

theorem Own.all {K : Nat → Prop} {w w' : World} {e : TypeId} {ao : Option Addr} {n cap : Nat} {xs : List Value} (h : Own K w e ao n cap xs) (hk : Kept (fun k => k < w.heap.size) w w') : Own K w' e ao n cap xs :=
  h.of fun g _ hg => hk.block g hg
theorem Dec.all {K : Nat → Prop} {w w' : World} {b : Nat} {s : St} (h : Dec K w b s) (hk : Kept (fun k => k < w.heap.size) w w') : Dec K w' b s := by
  obtain ⟨ao, cap, h1, h2⟩ := h.blk
  exact ⟨h.nb, fun k hkk => Nat.lt_of_lt_of_le (h.lt k hkk) hk.size, h.ok, ao, cap, (hk.block b (lt_block h1)).trans h1, h2.all hk⟩

/-- Decode of a row that has just been laid. -/
theorem decode_new (X : World) (bs : List UInt8) (cur : Array Value) (e : TypeId) (N cap : Nat) (hN : N = X.heap.size) (hcur : cur.toList.take bs.length = bvs bs) (hl : bs.length ≤ 100000000000) (n : Nat) (hn : n = bs.length) :
    Calls Try.prog 13 #[.slice (some ⟨N, 0, none⟩) n cap] (X.alloc (.cells cur e)) fun e w' => e = .returned (strV (decS bs)) ∧ Kept (fun k => k < X.heap.size) X w' := by
  subst hN
  subst hn
  refine (decode_any (K := fun k => k < X.heap.size + 1) (by simp) bs _ cap (.inr ⟨X.heap.size, 0, rfl, Nat.lt_succ_self _, fun j hj => ?_⟩) hl).mono ?_
  · rw [cell_block (heap_alloc_new X _), Nat.zero_add]
    have : (cur.toList.take bs.length)[j]? = (bvs bs)[j]? := by rw [hcur]
    rw [List.getElem?_take, if_pos hj, Array.getElem?_toList] at this
    rw [this]
    simp [bvs, hj]
  · rintro e w' ⟨rfl, hk⟩
    exact ⟨rfl, ((Kept.refl _ X).alloc (fun _ h => h) _).trans (hk.mono fun k hk => Nat.lt_succ_of_lt hk)⟩

set_option maxHeartbeats 1000000 in
theorem known_any {K : Nat → Prop} {w : World} (hK : ∀ k, K k → k < w.heap.size) :
    Calls Try.prog 9 #[] w fun e w' => e = .returned (.bool true) ∧ Kept K w w' := by
  have hd := Dec.fresh w K hK
  have hk0 := (Kept.refl K w).alloc hK (.cells (decCells none 0 St.new) 39)
  have hnew := new_any w
  have e1 : decS [97, 195, 98, 13, 10] = [97, 239, 191, 189, 98, 10] := by decide
  have e2 : decS [239, 187, 191, 120] = [120] := by decide
  have e3 : St.new.finish = [] := by decide
  have hn1 := fun (X : World) (cur : Array Value) (N : Nat) hN hcur => decode_new X [97, 195, 98, 13, 10] cur 5 N 5 hN hcur (by decide) 5 rfl
  have hn2 := fun (X : World) (cur : Array Value) (N : Nat) hN hcur => decode_new X [239, 187, 191, 120] cur 5 N 4 hN hcur (by decide) 4 rfl
  rw [e1] at hn1
  rw [e2] at hn2
  have hfin : ∀ X, Dec K X w.heap.size St.new → Calls Try.prog 12 #[dptr w.heap.size] X fun e w' => e = .returned (strV []) ∧ w' = X.drew := fun X h => by
    rw [← e3]; exact finish_dec h (by decide)
  clear e1 e2 e3
  go_enter Try.func9, Try.ntmps9
  go_wp2_with (go_at_call 10; refine hnew.mono ?_; rintro e w1 ⟨rfl, rfl⟩)
  refine (hn1 _ _ _ (by simp) rfl).mono ?_
  rintro e w2 ⟨rfl, hk2⟩
  have hd2 := hd.all hk2
  have hkk2 := hk0.trans (hk2.mono fun k hk => by have := hK k hk; simp; omega)
  clear hk2 hk0 hd hn1 hnew
  go_wp2_with fail
  refine (hn2 _ _ _ rfl rfl).mono ?_
  rintro e w3 ⟨rfl, hk3⟩
  have hd3 := hd2.all hk3
  have hkk3 := hkk2.trans (hk3.mono fun k hk => Nat.lt_of_lt_of_le (hK k hk) hkk2.size)
  clear hk3 hkk2 hd2 hn2
  go_wp2_with fail
  refine (hfin _ hd3).mono ?_
  rintro e w4 ⟨rfl, rfl⟩
  go_wp2
  go_ret
  exact ⟨rfl, hkk3.drew⟩
end Go.Proofs.Ytnfallgpnoofiaa
