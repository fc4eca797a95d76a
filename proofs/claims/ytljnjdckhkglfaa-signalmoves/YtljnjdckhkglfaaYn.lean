/-
  What the statements' own name and place answer.
-/
import Derived.Test.YtljnjdckhkglfaaYb
import Derived.Deep.LoopGhost
import Derived.Deep.Cut
import Derived.Deep.DeepCutAuto
namespace Go.Proofs.Ytljnjdckhkglfaa
open Go.RowKit
set_option linter.unusedVariables false
def nmB (t : Nat) : ByteArray := if t = 0 then ⟨#[]⟩ else if t = 1 then ⟨#[97]⟩ else if t = 2 then ⟨#[98]⟩ else ⟨#[99]⟩
set_option maxRecDepth 20000 in
set_option maxHeartbeats 1000000 in
theorem name_any (y : Int) (t : Nat) (h0 : 0 ≤ y) (h1 : y ≤ 255) (ht : (y.tdiv 5).tmod 4 = (t : Int)) (w : World) : Calls Try.prog 11 #[.int .u8 y] w fun e w' => e = .returned (.string (nmB t)) ∧ Kept (fun k => k < w.heap.size) w w' := by
  have hkA : ∀ ob, Kept (fun k => k < w.heap.size) w (w.alloc ob) := fun ob => (Kept.refl (fun k => k < w.heap.size) w).alloc (fun _ h => h) ob
  obtain ⟨q, hq⟩ : ∃ q, y.tdiv 5 = q := ⟨_, rfl⟩
  have hq0 : 0 ≤ q ∧ q ≤ 51 := by rw [← hq, Int.tdiv_eq_ediv_of_nonneg h0]; omega
  obtain ⟨q0, q1⟩ := hq0
  rw [hq] at ht
  have ht4 : t < 4 := by rw [Int.tmod_eq_emod_of_nonneg q0] at ht; omega
  rcases (show t = 0 ∨ t = 1 ∨ t = 2 ∨ t = 3 by omega) with rfl | rfl | rfl | rfl
  all_goals
    go_enter Try.func11, Try.ntmps11
    go_wp2
    go_ret
    exact ⟨rfl, hkA _⟩
/-- The first of a number. -/
def plcT : List Nat → Nat → Int
  | [], _ => -1
  | a :: r, t => if a = t then 3 else if plcT r t = -1 then -1 else plcT r t + 1
theorem plcT_at (t : Nat) : ∀ (S : List Nat) (i : Nat) (h : i < S.length), S[i] = t → (∀ x ∈ S.take i, x ≠ t) → plcT S t = 3 + (i : Int)
  | a :: r, 0, _, e, _ => by unfold plcT; rw [if_pos (show a = t from e)]; rfl
  | a :: r, i + 1, h, e, hn => by
    unfold plcT
    rw [if_neg (hn a (by simp)), plcT_at t r i (by simpa using h) e fun x hx => hn x (by rw [List.take_succ_cons]; exact List.mem_cons_of_mem _ hx), if_neg (by omega)]
    omega
theorem plcT_no (t : Nat) : ∀ (S : List Nat), (∀ x ∈ S, x ≠ t) → plcT S t = -1
  | [], _ => rfl
  | a :: r, hn => by
    unfold plcT
    rw [if_neg (hn a (List.mem_cons_self ..)), plcT_no t r fun x hx => hn x (List.mem_cons_of_mem _ hx), if_pos rfl]
/-- The numbers of the names that came in. -/
def tOf (c : UInt8) : Nat := c.toNat / 5 % 4
theorem tOf_eq (c : UInt8) : (((c.toNat : Int)).tdiv 5).tmod 4 = (tOf c : Int) := by
  rw [Int.tdiv_eq_ediv_of_nonneg (by omega), Int.tmod_eq_emod_of_nonneg (by omega)]
  unfold tOf; omega
theorem tOf_lt (c : UInt8) : tOf c < 4 := by unfold tOf; omega
/-- A row of bytes that came in. -/
def RowB (w : World) (a : Option Addr) (S : List UInt8) : Prop := ∀ j (h : j < S.length), ∃ b o, a = some ⟨b, o, none⟩ ∧ b < w.heap.size ∧ w.cell? ⟨b, o + j, none⟩ = some (.int .u8 (S[j].toNat : Int))
theorem RowB.kept {w w' : World} {a : Option Addr} {S : List UInt8} (h : RowB w a S) (hk : Kept (fun k => k < w.heap.size) w w') : RowB w' a S := fun j hj => by
  obtain ⟨b, o, e, hb, hc⟩ := h j hj
  exact ⟨b, o, e, Nat.lt_of_lt_of_le hb hk.size, (hk.cell (p := ⟨b, o + j, none⟩) hb).trans hc⟩
theorem nmB_ne {a b : Nat} (ha : a < 4) (hb : b < 4) (h : a ≠ b) : nmB a ≠ nmB b := by
  rcases (show a = 0 ∨ a = 1 ∨ a = 2 ∨ a = 3 by omega) with rfl | rfl | rfl | rfl <;> rcases (show b = 0 ∨ b = 1 ∨ b = 2 ∨ b = 3 by omega) with rfl | rfl | rfl | rfl <;> first | exact absurd rfl h | (intro e; revert e; decide)
set_option maxRecDepth 20000 in
set_option maxHeartbeats 1000000 in
theorem place_any (a : Option Addr) (cap : Nat) (S : List UInt8) (len : Nat) (hlen : S.length = len) (hl : len ≤ 1000) (t : Nat) (ht : t < 4) (w : World) (hr : RowB w a S) : Calls Try.prog 13 #[.slice a len cap, .string (nmB t)] w fun e w' => e = .returned (.int .i64 (plcT (S.map tOf) t)) ∧ Kept (fun k => k < w.heap.size) w w' := by
  have HR : Hid (RowB w a S) := hr
  have HL : Hid (S.length = len) := hlen
  obtain ⟨s2, hs2⟩ : ∃ s, nmB t = s := ⟨_, rfl⟩
  have HS2 : Hid (nmB t = s2) := hs2
  rw [hs2]
  clear hr hlen hs2
  go_enter Try.func13, Try.ntmps13
  go_upto_region 2 with fail
  go_loopg [5] len (fun gh v wr => ∃ j : Nat, gh = len - j ∧ j ≤ len ∧ v = .int .i64 (j : Int) ∧ (∀ x ∈ (S.map tOf).take j, x ≠ t) ∧ Kept (fun k => k < w.heap.size) w wr)
  case atStart => exact ⟨0, rfl, Nat.zero_le _, rfl, fun x hx => by simp at hx, Kept.refl _ _⟩
  case round =>
    obtain ⟨j, hgj, hj, rfl, hno, hK⟩ := hrel
    have HNO : Hid (∀ x ∈ (S.map tOf).take j, x ≠ t) := hno
    have HK : Hid (Kept (fun k => k < w.heap.size) w wr) := hK
    by_cases hlt : j < len
    · have hjS : j < S.length := by rw [HL.out]; exact hlt
      obtain ⟨b, o, rfl, hb, hc⟩ := (HR.out.kept hK) j hjS
      obtain ⟨c, hcc⟩ : ∃ c, S[j] = c := ⟨_, rfl⟩
      rw [hcc] at hc
      have hy := c.toNat_lt
      have rn := name_any (c.toNat : Int) (tOf c) (by omega) (by omega) (tOf_eq c) wr
      have h4 := tOf_lt c
      have HC : Hid (∀ h : j < (S.map tOf).length, (S.map tOf)[j] = tOf c) := fun h => by rw [List.getElem_map, hcc]
      obtain ⟨y, hyy⟩ : ∃ y, (c.toNat : Int) = y := ⟨_, rfl⟩
      obtain ⟨tc, htc⟩ : ∃ tc, tOf c = tc := ⟨_, rfl⟩
      rw [hyy] at hc rn
      rw [htc] at rn h4 HC
      clear hno hK hcc hy hyy htc
      go_wp2_with fail
      refine rn.mono ?_
      rintro e w1 ⟨rfl, hk1⟩
      have HK1 : Hid (Kept (fun k => k < w.heap.size) w w1) := HK.out.trans (hk1.mono fun k h => Nat.lt_of_lt_of_le h HK.out.size)
      clear rn hk1 hc HK
      by_cases hct : tc = t
      · subst hct
        rw [HS2.out]
        go_wp2
        go_ret
        exact ⟨by rw [plcT_at tc _ j (by rw [List.length_map]; exact hjS) (HC.out _) HNO.out]; rfl, HK1.out⟩
      · have hne := nmB_ne h4 ht hct
        have hne2 : ((nmB tc).toList == (nmB t).toList) = false := by
          rw [beq_eq_false_iff_ne]
          intro e
          exact hne (ByteArray.ext (by rw [ByteArray.toList_eq, ByteArray.toList_eq] at e; exact Array.toList_inj.1 e))
        clear hne
        obtain ⟨s1, hs1⟩ : ∃ s, nmB tc = s := ⟨_, rfl⟩
        rw [hs1, HS2.out] at hne2
        rw [hs1]
        clear hs1
        go_wp2
        go_roundg (len - (j + 1))
        case rel => exact ⟨j + 1, rfl, by omega, by go_num, fun x hx => by
          rw [List.take_succ_eq_append_getElem (by rw [List.length_map]; exact hjS)] at hx
          rcases List.mem_append.1 hx with hx | hx
          · exact HNO.out x hx
          · rw [HC.out] at hx; simp at hx; rw [hx]; exact hct, HK1.out⟩
        case measure => omega
    · have hin : j = len := by omega
      subst hin
      clear hno hK
      go_wp2
      go_ret
      exact ⟨by rw [plcT_no t _ (fun x hx => HNO.out x (by rw [List.take_of_length_le (by rw [List.length_map, HL.out]; exact Nat.le_refl _)]; exact hx))]; rfl, HK.out⟩
end Go.Proofs.Ytljnjdckhkglfaa
