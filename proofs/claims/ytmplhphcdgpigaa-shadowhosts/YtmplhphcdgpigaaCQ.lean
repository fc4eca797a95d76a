/-
  The chapter's example holds (known).
-/
import Derived.Test.YtmplhphcdgpigaaCP
namespace Go.Proofs.Ytmplhphcdgpigaa
open Go.RowKit
set_option linter.unusedVariables false

def rest0 : Rest := ⟨0, none, 0, 0, 0, 0, 0, ⟨false, false, false, false, false⟩⟩
/-- A node that is made of a kind, a name and data. -/
abbrev plainV (kz : Int) (S D : ByteArray) : Value := .agg #[.int .u8 kz, .string S, .string D, .slice none 0 0, .int .i64 0, .slice none 0 0, .int .i64 0, .int .i64 0, .int .i64 0, .bool false, .bool false, .bool false, .bool false, .bool false]
theorem make_plain (K : Nat → Prop) (p : Nat) (M : Dm) (w : World) (kz : Int) (kd : Nat) (S D : ByteArray) (hkz : kz = (kd : Int)) (hX : DX K w p M) (hMn : M.n ≤ 100000) (hML : M.limit ≤ 100000) :
    Calls Try.prog 7 #[.pointer (some ⟨p, 0, none⟩), plainV kz S D] w fun e w' => Kept K w w' ∧ Makes K p M ⟨kd, S.toList, D.toList, []⟩ e w' := by
  subst hkz
  exact make_any K p kd S D [] none 0 0 rest0 w M hX hMn hML rfl (Nat.zero_le _) (AtsAt.nil _ _ _) (fun x hx => by cases hx)
theorem make1 (K : Nat → Prop) (p : Nat) (M : Dm) (w : World) (kz : Int) (kd : Nat) (S D : ByteArray) (nm dt : List UInt8) (hkz : kz = (kd : Int)) (hS : S.toList = nm) (hD : D.toList = dt) (hX : DX K w p M) (hMn : M.n ≤ 100000) (hML : M.limit ≤ 100000) (hs : soundN ⟨kd, nm, dt, []⟩ = true) (ht : ¬ (kd = 1 ∧ nm = [116, 101, 109, 112, 108, 97, 116, 101])) (hr : M.n + 1 ≤ M.limit) :
    Calls Try.prog 7 #[.pointer (some ⟨p, 0, none⟩), plainV kz S D] w fun e w' => e = .returned (.tuple #[.int .i64 (M.n : Int), .int .u16 0]) ∧ DX K w' p (M.add (Mk.nd ⟨kd, nm, dt, []⟩)) ∧ Kept K w w' := by
  refine (make_plain K p M w kz kd S D hkz hX hMn hML).mono ?_
  rintro e w' ⟨hK, hM⟩
  rw [hS, hD] at hM
  cases hM with
  | arg h1 => rw [hs] at h1; cases h1
  | full h1 h2 h3 h4 => rw [if_neg ht] at h2; omega
  | two h1 h2 => exact absurd h2 ht
  | one h1 h2 h3 h4 h5 => exact ⟨h4, h5, hK⟩
def divN : Nd := Mk.nd ⟨1, [100, 105, 118], [], []⟩
def txtN : Nd := Mk.nd ⟨2, [], [120], []⟩
theorem sound_div : soundN ⟨1, [100, 105, 118], [], []⟩ = true := by kernel_rfl
theorem sound_txt : soundN ⟨2, [], [120], []⟩ = true := by kernel_rfl
abbrev divB : ByteArray := ⟨#[100, 105, 118]⟩
theorem divB_list : divB.toList = [100, 105, 118] := by rw [ByteArray.toList_eq]
theorem empB_list : (⟨#[]⟩ : ByteArray).toList = [] := by rw [ByteArray.toList_eq]
theorem xB_list : (⟨#[120]⟩ : ByteArray).toList = [120] := by rw [ByteArray.toList_eq]
def kM2 : Dm := ((Dm.new 9).add divN).add txtN
def kR2 : Nat → List Nat := updR (updR (fun _ => []) 1 []) 2 []
def kM3 : Dm := kM2.setP (putD kM2 kR2 0 1 (-1))
def kR3 : Nat → List Nat := putDR kM2 kR2 0 1 (-1)
def kM4 : Dm := kM3.setP (putD kM3 kR3 1 2 (-1))
def kR4 : Nat → List Nat := putDR kM3 kR3 1 2 (-1)
theorem kG2 : Good kM2 kR2 (fun _ => 0) := ((Good.new 9).add divN (Nat.zero_le _)).add txtN (Nat.zero_le _)
theorem kF2 : Fits kM2 0 1 (-1) := ⟨by kernel_rfl, by kernel_rfl, Wi.none (by decide) (by kernel_rfl), .inl rfl⟩
theorem kF3 : Fits kM3 1 2 (-1) := ⟨by kernel_rfl, by kernel_rfl, fun h => by
  have h1 : parI kM3 1 = ((0 : Nat) : Int) := by kernel_rfl
  have h0 : parI kM3 0 = -1 := by kernel_rfl
  rw [Wi.step (by decide) h1] at h
  exact Wi.none (by decide) h0 h, .inl rfl⟩
theorem kF4 : ¬ Fits kM4 2 1 (-1) := fun h => by
  have : holdB (kM4.nd 2) = false := by kernel_rfl
  rw [h.1] at this
  cases this
theorem kN4 : (kM4.pl 1).up = 0 := by kernel_rfl
theorem kK4 : kR4 1 = [2] := by kernel_rfl
theorem kS4 : (kM4.nd 1).shadow = -1 := by kernel_rfl
theorem kn4 : kM4.n = 3 := rfl


end Go.Proofs.Ytmplhphcdgpigaa
