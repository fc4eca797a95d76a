/-
  The chapter's example holds (known).
  A document of elements side by side (plain).
-/
import Derived.Test.YtbhfnbplbkncmaaGreatZ11
namespace Go.Proofs.YtbhfnbplbkncmaaGreat
open Go.RowKit
set_option linter.unusedVariables false

def rest0 : Rest := ⟨0, none, 0, 0, 0, 0, 0, ⟨false, false, false, false, false⟩⟩
/-- A node that is made of a kind, a name and data. -/
abbrev plainV (kz : Int) (S D : ByteArray) : Value := .agg #[.int .u8 kz, .string S, .string D, .slice none 0 0, .int .i64 0, .slice none 0 0, .int .i64 0, .int .i64 0, .int .i64 0, .bool false, .bool false, .bool false, .bool false, .bool false]
theorem make_plain (K : Nat → Prop) (p : Nat) (M : Dm) (w : World) (kz : Int) (kd : Nat) (S D : ByteArray) (hkz : kz = (kd : Int)) (hX : DX K w p M) (hMn : M.n ≤ 100000) (hML : M.limit ≤ 100000) :
    Calls Tryz.prog 75 #[.pointer (some ⟨p, 0, none⟩), plainV kz S D] w fun e w' => Kept K w w' ∧ Makes K p M ⟨kd, S.toList, D.toList, []⟩ e w' := by
  subst hkz
  exact make_any K p kd S D [] none 0 0 rest0 w M hX hMn hML rfl (Nat.zero_le _) (AtsAt.nil _ _ _) (fun x hx => by cases hx)
theorem make1 (K : Nat → Prop) (p : Nat) (M : Dm) (w : World) (kz : Int) (kd : Nat) (S D : ByteArray) (nm dt : List UInt8) (hkz : kz = (kd : Int)) (hS : S.toList = nm) (hD : D.toList = dt) (hX : DX K w p M) (hMn : M.n ≤ 100000) (hML : M.limit ≤ 100000) (hs : soundN ⟨kd, nm, dt, []⟩ = true) (ht : ¬ (kd = 1 ∧ nm = [116, 101, 109, 112, 108, 97, 116, 101])) (hr : M.n + 1 ≤ M.limit) :
    Calls Tryz.prog 75 #[.pointer (some ⟨p, 0, none⟩), plainV kz S D] w fun e w' => e = .returned (.tuple #[.int .i64 (M.n : Int), .int .u16 0]) ∧ DX K w' p (M.add (Mk.nd ⟨kd, nm, dt, []⟩)) ∧ Kept K w w' := by
  refine (make_plain K p M w kz kd S D hkz hX hMn hML).mono ?_
  rintro e w' ⟨hK, hM⟩
  rw [hS, hD] at hM
  cases hM with
  | arg h1 => rw [hs] at h1; cases h1
  | full h1 h2 h3 h4 => rw [if_neg ht] at h2; omega
  | two h1 h2 => exact absurd h2 ht
  | one h1 h2 h3 h4 h5 => exact ⟨h4, h5, hK⟩
def divN : Nd := Mk.nd ⟨1, [100, 105, 118], [], []⟩
def txtN : Nd := Mk.nd ⟨2, [], [120], []⟩
theorem sound_div : soundN ⟨1, [100, 105, 118], [], []⟩ = true := by kernel_rfl
theorem sound_txt : soundN ⟨2, [], [120], []⟩ = true := by kernel_rfl
abbrev divB : ByteArray := ⟨#[100, 105, 118]⟩
theorem divB_list : divB.toList = [100, 105, 118] := by rw [ByteArray.toList_eq]
theorem empB_list : (⟨#[]⟩ : ByteArray).toList = [] := by rw [ByteArray.toList_eq]
theorem xB_list : (⟨#[120]⟩ : ByteArray).toList = [120] := by rw [ByteArray.toList_eq]
def kM2 : Dm := ((Dm.new 9).add divN).add txtN
def kR2 : Nat → List Nat := updR (updR (fun _ => []) 1 []) 2 []
def kM3 : Dm := kM2.setP (putD kM2 kR2 0 1 (-1))
def kR3 : Nat → List Nat := putDR kM2 kR2 0 1 (-1)
def kM4 : Dm := kM3.setP (putD kM3 kR3 1 2 (-1))
def kR4 : Nat → List Nat := putDR kM3 kR3 1 2 (-1)
theorem kG2 : Good kM2 kR2 (fun _ => 0) := ((Good.new 9).add divN (Nat.zero_le _)).add txtN (Nat.zero_le _)
theorem kF2 : Fits kM2 0 1 (-1) := ⟨by kernel_rfl, by kernel_rfl, Wi.none (by decide) (by kernel_rfl), .inl rfl⟩
theorem kF3 : Fits kM3 1 2 (-1) := ⟨by kernel_rfl, by kernel_rfl, fun h => by
  have h1 : parI kM3 1 = ((0 : Nat) : Int) := by kernel_rfl
  have h0 : parI kM3 0 = -1 := by kernel_rfl
  rw [Wi.step (by decide) h1] at h
  exact Wi.none (by decide) h0 h, .inl rfl⟩
theorem kF4 : ¬ Fits kM4 2 1 (-1) := fun h => by
  have : holdB (kM4.nd 2) = false := by kernel_rfl
  rw [h.1] at this
  cases this
theorem kN4 : (kM4.pl 1).up = 0 := by kernel_rfl
theorem kK4 : kR4 1 = [2] := by kernel_rfl
theorem kS4 : (kM4.nd 1).shadow = -1 := by kernel_rfl
theorem kn4 : kM4.n = 3 := rfl


end Go.Proofs.YtbhfnbplbkncmaaGreat

namespace Go.Proofs.YtbhfnbplbkncmaaGreat
open Go.RowKit
set_option linter.unusedVariables false

theorem insB_end (l : List Nat) (i : Nat) : insB l i (-1) = l ++ [i] := by
  unfold insB
  have : ∀ l : List Nat, l.takeWhile (fun k : Nat => decide ((k : Int) ≠ -1)) = l ∧ l.dropWhile (fun k : Nat => decide ((k : Int) ≠ -1)) = [] := by
    intro l
    induction l with
    | nil => exact ⟨rfl, rfl⟩
    | cons x r ih =>
      have e : decide ((x : Int) ≠ -1) = true := decide_eq_true (by omega)
      rw [List.takeWhile_cons, List.dropWhile_cons, e, if_pos rfl, if_pos rfl, ih.1]
      exact ⟨rfl, ih.2⟩
  rw [(this l).1, (this l).2]
theorem putR_free {L : Nat → Lk} {R : Nat → List Nat} {up i : Nat} (h : (L i).up = -1) : putR L R up i (-1) = updR R up (R up ++ [i]) := by
  unfold YtbhfnbplbkncmaaGreat.putR outR
  rw [if_pos h, insB_end]
/-- Nodes: the Fragment 0, and elements. -/
structure Divs (M : Dm) (n : Nat) : Prop where
  len : M.n = n + 1
  lim : M.limit = 300
  zero : M.nd 0 = frag0.new
  divs : ∀ k, 0 < k → k < n + 1 → M.nd k = divN.new
theorem Divs.setP {M : Dm} {n : Nat} (h : Divs M n) (L : Nat → Lk) : Divs (M.setP L) n := ⟨h.len, h.lim, h.zero, h.divs⟩
theorem Divs.add {M : Dm} {n : Nat} (h : Divs M n) : Divs (M.add divN) (n + 1) := by
  refine ⟨by show M.n + 1 = _; rw [h.len], h.lim, ?_, fun k h0 hk => ?_⟩
  · show (if 0 = M.n then divN.new else M.nd 0) = _
    rw [if_neg (by rw [h.len]; omega)]; exact h.zero
  · show (if k = M.n then divN.new else M.nd k) = _
    by_cases c : k = M.n
    · rw [if_pos c]
    · rw [if_neg c]; exact h.divs k h0 (by rw [h.len] at c; omega)
theorem Divs.new : Divs (Dm.new 300) 0 := ⟨rfl, rfl, rfl, fun k h0 hk => by omega⟩
theorem hold_div : holdB divN.new = true := by kernel_rfl
theorem hold_frag : holdB frag0.new = true := by kernel_rfl
theorem Divs.hold {M : Dm} {n : Nat} (h : Divs M n) {k : Nat} (hk : k < n + 1) : holdB (M.nd k) = true := by
  by_cases c : k = 0
  · subst c; rw [h.zero]; exact hold_frag
  · rw [h.divs k (by omega) hk]; exact hold_div
theorem Divs.move {M : Dm} {n : Nat} (h : Divs M n) {k : Nat} (h0 : 0 < k) (hk : k < n + 1) : moveB M k = true := by
  unfold moveB
  rw [h.divs k h0 hk, decide_eq_true (show k ≠ 0 by omega)]
  rfl
theorem Divs.kind {M : Dm} {n : Nat} (h : Divs M n) {k : Nat} (h0 : 0 < k) (hk : k < n + 1) : (M.nd k).kind ≠ 4 := by
  rw [h.divs k h0 hk]
  show (1 : Nat) ≠ 4
  decide
/-- The rows: so many in the Fragment, none in them. -/
structure Side (M : Dm) (R : Nat → List Nat) (n : Nat) : Prop where
  row : R 0 = (List.range n).map (· + 1)
  none : ∀ k, 0 < k → R k = []
  top : (M.pl 0).up = -1
theorem Side.next {M : Dm} {R : Nat → List Nat} {n : Nat} (hD : Divs M n) (hS : Side M R n) (x : Nd) :
    Side ((M.add x).setP (putL (M.add x).pl 0 (n + 1) (-1))) (putR (M.add x).pl (updR R M.n []) 0 (n + 1) (-1)) (n + 1) := by
  have hfree : ((M.add x).pl (n + 1)).up = -1 := by
    show (updL M.pl M.n Lk.nil (n + 1)).up = -1
    rw [hD.len, updL_same]; rfl
  rw [putR_free hfree]
  refine ⟨?_, fun k hk => ?_, ?_⟩
  · rw [updR_same, updR_ne _ _ (by rw [hD.len]; omega), hS.row, List.range_succ, List.map_append]
    rfl
  · rw [updR_ne _ _ (by omega)]
    by_cases c : k = M.n
    · rw [c, updR_same]
    · rw [updR_ne _ _ c]; exact hS.none k hk
  · show (putL (M.add x).pl 0 (n + 1) (-1) 0).up = -1
    rw [put_up (by omega)]
    show (updL M.pl M.n Lk.nil 0).up = -1
    rw [updL_ne _ _ (by rw [hD.len]; omega)]
    exact hS.top


end Go.Proofs.YtbhfnbplbkncmaaGreat
