/-
  The walks of DomLimit.
-/
import Derived.Test.YtbbknbipppaemaaCQ
namespace Go.Proofs.Ytbbknbipppaemaa
open Go.RowKit
set_option linter.unusedVariables false

set_option maxRecDepth 20000 in
set_option maxHeartbeats 1000000 in
theorem limit1 (a0 : Int) (L : Nat) (hL0 : 1 + a0 % 300 = (L : Int)) (hL1 : 1 ≤ L) (hL2 : L ≤ 300) (ha : a0.tmod 300 = a0 % 300) (hm0 : 0 ≤ a0 % 300) (hm1 : a0 % 300 < 300) (w : World) :
    Calls Try.prog 5 #[.int .u16 a0, .bool false] w fun e w' => e = .returned (.bool true) ∧ Kept (fun k => k < w.heap.size) w w' := by
  have r0 := new_yes L w hL1 (by omega)
  have hs : soundN ⟨1, [100, 105, 118], [], []⟩ = true := by kernel_rfl
  have hSl : (divB : ByteArray).toList = [100, 105, 118] := by rw [ByteArray.toList_eq]
  have HMK : Hid (∀ (K : Nat → Prop) (p : Nat) (M : Dm) (X : World), DX K X p M → M.n ≤ 1000 → M.limit = L → Calls Try.prog 13 #[.pointer (some ⟨p, 0, none⟩), plainV 1 divB ⟨#[]⟩] X fun e w' => Kept K X w' ∧ ((M.n + 1 ≤ L ∧ e = .returned (.tuple #[.int .i64 (M.n : Int), .int .u16 0]) ∧ DX K w' p (M.add (Mk.nd ⟨1, [100, 105, 118], [], []⟩))) ∨ (L < M.n + 1 ∧ e = .returned (.tuple #[.int .i64 0, .int .u16 3]) ∧ DX K w' p M))) := fun K p M X hX hn hl => (make_plain K p M X 1 1 divB ⟨#[]⟩ rfl hX (by omega) (by omega)).mono fun e w' h => by
    obtain ⟨hK, hM⟩ := h
    rw [hSl, empB_list] at hM
    refine ⟨hK, ?_⟩
    cases hM with
    | arg h1 => rw [hs] at h1; cases h1
    | full h1 h2 h3 h4 =>
      rw [if_neg (by decide), hl] at h2
      exact .inr ⟨h2, h3, h4⟩
    | two h1 h2 h3 h4 h5 => exact absurd h2 (by decide)
    | one h1 h2 h3 h4 h5 => exact .inl ⟨by rw [← hl]; exact h3, h4, h5⟩
  have hL64 : (1 : Int) + a0 % 300 = (L : Int) := hL0
  obtain ⟨z, hz⟩ : ∃ z, a0 % 300 = z := ⟨_, rfl⟩
  rw [hz] at ha hm0 hm1 hL0 hL64
  have hzL : z = (L : Int) - 1 := by omega
  subst hzL
  clear hs hSl hL64 hL0 hz
  have e1 : (1 : Int) + ((L : Int) - 1) = (L : Int) := by omega
  go_enter Try.func5, Try.ntmps5
  go_wp2_with fail
  try rw [e1]
  refine r0.mono ?_
  rintro e w1 ⟨p, rfl, hp, hX1, hK1⟩
  have HX1 : Hid (DX (fun k => k < w.heap.size) w1 p (Dm.new L)) := hX1
  have HK1 : Hid (Kept (fun k => k < w.heap.size) w w1) := hK1
  clear r0 hX1 hK1
  go_upto_region 11 with fail
  go_loopg [9] L (fun gh v wr => ∃ M : Dm, gh = L + 1 - M.n ∧ M.limit = L ∧ M.n ≤ L ∧ v = .int .i64 (M.n : Int) ∧ DX (fun k => k < w.heap.size) wr p M ∧ Kept (fun k => k < w.heap.size) w wr)
  case atStart => exact ⟨Dm.new L, by show L = L + 1 - 1; omega, rfl, hL1, rfl, HX1.out, HK1.out⟩
  case round =>
    clear HX1 HK1
    obtain ⟨M, hgM, hlim, hMn, rfl, hX, hK⟩ := hrel
    have rm := HMK.out _ p M wr hX (by omega) hlim
    have HRM : Hid (Calls Try.prog 13 #[.pointer (some ⟨p, 0, none⟩), plainV 1 divB ⟨#[]⟩] wr fun e w' => Kept (fun k => k < w.heap.size) wr w' ∧ ((M.n + 1 ≤ L ∧ e = .returned (.tuple #[.int .i64 (M.n : Int), .int .u16 0]) ∧ DX (fun k => k < w.heap.size) w' p (M.add (Mk.nd ⟨1, [100, 105, 118], [], []⟩))) ∨ (L < M.n + 1 ∧ e = .returned (.tuple #[.int .i64 0, .int .u16 3]) ∧ DX (fun k => k < w.heap.size) w' p M))) := rm
    have HK : Hid (Kept (fun k => k < w.heap.size) w wr) := hK
    have HLI : Hid (M.limit = L) := hlim
    clear rm hX hK hlim
    go_wp2_with fail
    refine HRM.out.mono ?_
    rintro e w2 ⟨hK2, ⟨hr, rfl, hX2⟩ | ⟨hr, rfl, hX2⟩⟩
    · have HK2 : Hid (Kept (fun k => k < w.heap.size) w w2) := HK.out.trans hK2
      have HX2 : Hid (DX (fun k => k < w.heap.size) w2 p (M.add (Mk.nd ⟨1, [100, 105, 118], [], []⟩))) := hX2
      obtain ⟨ga, cap, hY⟩ := hX2
      have c1 : w2.cell? ⟨p, 1, none⟩ = some (.slice ga (M.n + 1) cap) := hY.c1
      have rl := len_any p (M.n + 1) cap ga w2 c1
      obtain ⟨q, hq⟩ : ∃ q, M.n = q := ⟨_, rfl⟩
      rw [hq] at rl hgM hMn hr ⊢
      have HQ : Hid (M.n = q) := hq
      clear HRM hK2 hY c1 hq
      go_wp2_with (first | (go_at_call 17; refine rl.mono ?_; rintro e wa ⟨rfl, hwa⟩; replace hwa := hwa.symm; subst hwa))
      go_roundg (L + 1 - (q + 1))
      case rel => exact ⟨M.add (Mk.nd ⟨1, [100, 105, 118], [], []⟩), by show _ = L + 1 - (M.n + 1); rw [HQ.out], HLI.out, by show M.n + 1 ≤ L; rw [HQ.out]; exact hr, by show _ = Value.int .i64 ((M.n + 1 : Nat) : Int); rw [HQ.out]; go_num, HX2.out, HK2.out⟩
      case measure => omega
    · have HK2 : Hid (Kept (fun k => k < w.heap.size) w w2) := HK.out.trans hK2
      obtain ⟨ga, cap, hY⟩ := hX2
      have HY : Hid (DY (fun k => k < w.heap.size) w2 p M ga cap) := hY
      have rk := known_any w2
      clear HRM hK2 hY
      go_wp2_with fail
      refine rk.mono ?_
      rintro e w3 ⟨rfl, k3⟩
      have hY3 := HY.out.kept k3
      have c1 := hY3.c1
      have HK3 : Hid (Kept (fun k => k < w.heap.size) w w3) := HK2.out.trans (k3.mono fun k h => Nat.lt_of_lt_of_le h HK2.out.size)
      obtain ⟨q, hq⟩ : ∃ q, M.n = q := ⟨_, rfl⟩
      rw [hq] at c1 hgM hMn hr ⊢
      have rl := len_any p q cap ga w3 c1
      clear rk k3 hY3 hq c1
      go_wp2_with (first | (go_at_call 17; refine rl.mono ?_; rintro e wa ⟨rfl, hwa⟩; replace hwa := hwa.symm; subst hwa))
      go_ret
      exact ⟨by simp, HK3.out⟩

set_option maxRecDepth 20000 in
set_option maxHeartbeats 1000000 in
theorem limit2 (a0 : Int) (L : Nat) (hL0 : 1 + a0 % 300 = (L : Int)) (hL1 : 1 ≤ L) (hL2 : L ≤ 300) (ha : a0.tmod 300 = a0 % 300) (hm0 : 0 ≤ a0 % 300) (hm1 : a0 % 300 < 300) (w : World) :
    Calls Try.prog 5 #[.int .u16 a0, .bool true] w fun e w' => e = .returned (.bool true) ∧ Kept (fun k => k < w.heap.size) w w' := by
  have r0 := new_yes L w hL1 (by omega)
  have hs : soundN ⟨1, [116, 101, 109, 112, 108, 97, 116, 101], [], []⟩ = true := by kernel_rfl
  have hSl : (⟨#[116, 101, 109, 112, 108, 97, 116, 101]⟩ : ByteArray).toList = [116, 101, 109, 112, 108, 97, 116, 101] := by rw [ByteArray.toList_eq]
  have HMK : Hid (∀ (K : Nat → Prop) (p : Nat) (M : Dm) (X : World), DX K X p M → M.n ≤ 1000 → M.limit = L → Calls Try.prog 13 #[.pointer (some ⟨p, 0, none⟩), plainV 1 ⟨#[116, 101, 109, 112, 108, 97, 116, 101]⟩ ⟨#[]⟩] X fun e w' => Kept K X w' ∧ ((M.n + 2 ≤ L ∧ e = .returned (.tuple #[.int .i64 (M.n : Int), .int .u16 0]) ∧ DX K w' p (M.addT (Mk.nd ⟨1, [116, 101, 109, 112, 108, 97, 116, 101], [], []⟩))) ∨ (L < M.n + 2 ∧ e = .returned (.tuple #[.int .i64 0, .int .u16 3]) ∧ DX K w' p M))) := fun K p M X hX hn hl => (make_plain K p M X 1 1 ⟨#[116, 101, 109, 112, 108, 97, 116, 101]⟩ ⟨#[]⟩ rfl hX (by omega) (by omega)).mono fun e w' h => by
    obtain ⟨hK, hM⟩ := h
    rw [hSl, empB_list] at hM
    refine ⟨hK, ?_⟩
    cases hM with
    | arg h1 => rw [hs] at h1; cases h1
    | full h1 h2 h3 h4 =>
      rw [if_pos ⟨rfl, rfl⟩, hl] at h2
      exact .inr ⟨h2, h3, h4⟩
    | two h1 h2 h3 h4 h5 => exact .inl ⟨by rw [← hl]; exact h3, h4, h5⟩
    | one h1 h2 h3 h4 h5 => exact absurd ⟨rfl, rfl⟩ h2
  have hL64 : (1 : Int) + a0 % 300 = (L : Int) := hL0
  obtain ⟨z, hz⟩ : ∃ z, a0 % 300 = z := ⟨_, rfl⟩
  rw [hz] at ha hm0 hm1 hL0 hL64
  have hzL : z = (L : Int) - 1 := by omega
  subst hzL
  clear hs hSl hL64 hL0 hz
  have e1 : (1 : Int) + ((L : Int) - 1) = (L : Int) := by omega
  go_enter Try.func5, Try.ntmps5
  go_wp2_with fail
  try rw [e1]
  refine r0.mono ?_
  rintro e w1 ⟨p, rfl, hp, hX1, hK1⟩
  have HX1 : Hid (DX (fun k => k < w.heap.size) w1 p (Dm.new L)) := hX1
  have HK1 : Hid (Kept (fun k => k < w.heap.size) w w1) := hK1
  clear r0 hX1 hK1
  go_upto_region 11 with fail
  go_loopg [9] L (fun gh v wr => ∃ M : Dm, gh = L + 1 - M.n ∧ M.limit = L ∧ M.n ≤ L ∧ v = .int .i64 (M.n : Int) ∧ DX (fun k => k < w.heap.size) wr p M ∧ Kept (fun k => k < w.heap.size) w wr)
  case atStart => exact ⟨Dm.new L, by show L = L + 1 - 1; omega, rfl, hL1, rfl, HX1.out, HK1.out⟩
  case round =>
    clear HX1 HK1
    obtain ⟨M, hgM, hlim, hMn, rfl, hX, hK⟩ := hrel
    have rm := HMK.out _ p M wr hX (by omega) hlim
    have HRM : Hid (Calls Try.prog 13 #[.pointer (some ⟨p, 0, none⟩), plainV 1 ⟨#[116, 101, 109, 112, 108, 97, 116, 101]⟩ ⟨#[]⟩] wr fun e w' => Kept (fun k => k < w.heap.size) wr w' ∧ ((M.n + 2 ≤ L ∧ e = .returned (.tuple #[.int .i64 (M.n : Int), .int .u16 0]) ∧ DX (fun k => k < w.heap.size) w' p (M.addT (Mk.nd ⟨1, [116, 101, 109, 112, 108, 97, 116, 101], [], []⟩))) ∨ (L < M.n + 2 ∧ e = .returned (.tuple #[.int .i64 0, .int .u16 3]) ∧ DX (fun k => k < w.heap.size) w' p M))) := rm
    have HK : Hid (Kept (fun k => k < w.heap.size) w wr) := hK
    have HLI : Hid (M.limit = L) := hlim
    clear rm hX hK hlim
    go_wp2_with fail
    refine HRM.out.mono ?_
    rintro e w2 ⟨hK2, ⟨hr, rfl, hX2⟩ | ⟨hr, rfl, hX2⟩⟩
    · have HK2 : Hid (Kept (fun k => k < w.heap.size) w w2) := HK.out.trans hK2
      have HX2 : Hid (DX (fun k => k < w.heap.size) w2 p (M.addT (Mk.nd ⟨1, [116, 101, 109, 112, 108, 97, 116, 101], [], []⟩))) := hX2
      obtain ⟨ga, cap, hY⟩ := hX2
      have c1 : w2.cell? ⟨p, 1, none⟩ = some (.slice ga (M.n + 2) cap) := hY.c1
      have rl := len_any p (M.n + 2) cap ga w2 c1
      obtain ⟨q, hq⟩ : ∃ q, M.n = q := ⟨_, rfl⟩
      rw [hq] at rl hgM hMn hr ⊢
      have HQ : Hid (M.n = q) := hq
      clear HRM hK2 hY c1 hq
      go_wp2_with (first | (go_at_call 17; refine rl.mono ?_; rintro e wa ⟨rfl, hwa⟩; replace hwa := hwa.symm; subst hwa))
      go_roundg (L + 1 - (q + 2))
      case rel => exact ⟨M.addT (Mk.nd ⟨1, [116, 101, 109, 112, 108, 97, 116, 101], [], []⟩), by show _ = L + 1 - (M.n + 2); rw [HQ.out], HLI.out, by show M.n + 2 ≤ L; rw [HQ.out]; exact hr, by show _ = Value.int .i64 ((M.n + 2 : Nat) : Int); rw [HQ.out]; go_num, HX2.out, HK2.out⟩
      case measure => omega
    · have HK2 : Hid (Kept (fun k => k < w.heap.size) w w2) := HK.out.trans hK2
      obtain ⟨ga, cap, hY⟩ := hX2
      have HY : Hid (DY (fun k => k < w.heap.size) w2 p M ga cap) := hY
      have rk := known_any w2
      clear HRM hK2 hY
      go_wp2_with fail
      refine rk.mono ?_
      rintro e w3 ⟨rfl, k3⟩
      have hY3 := HY.out.kept k3
      have c1 := hY3.c1
      have HK3 : Hid (Kept (fun k => k < w.heap.size) w w3) := HK2.out.trans (k3.mono fun k h => Nat.lt_of_lt_of_le h HK2.out.size)
      obtain ⟨q, hq⟩ : ∃ q, M.n = q := ⟨_, rfl⟩
      rw [hq] at c1 hgM hMn hr ⊢
      have rl := len_any p q cap ga w3 c1
      clear rk k3 hY3 hq c1
      go_wp2_with (first | (go_at_call 17; refine rl.mono ?_; rintro e wa ⟨rfl, hwa⟩; replace hwa := hwa.symm; subst hwa))
      go_ret
      exact ⟨by simp, HK3.out⟩

theorem limit_any (a0 : Int) (a1 : Bool) (hw : 0 ≤ a0) (w : World) : Calls Try.prog 5 #[.int .u16 a0, .bool a1] w fun e w' => e = .returned (.bool true) ∧ Kept (fun k => k < w.heap.size) w w' := by
  have ht : a0.tmod 300 = a0 % 300 := Int.tmod_eq_emod_of_nonneg hw
  have h1 : 0 ≤ a0 % 300 := Int.emod_nonneg _ (by decide)
  have h2 : a0 % 300 < 300 := Int.emod_lt_of_pos _ (by decide)
  cases a1 with
  | false => exact limit1 a0 (1 + a0 % 300).toNat (by omega) (by omega) (by omega) ht h1 h2 w
  | true => exact limit2 a0 (1 + a0 % 300).toNat (by omega) (by omega) (by omega) ht h1 h2 w
end Go.Proofs.Ytbbknbipppaemaa
