/-
 The chapter's example holds (known).; A document of elements side by side (plain).; Leaves of Doc.Give: Slot, mayShow, the two questions, IndexFunc, ContainsFunc, mayGive where all may be given.; Doc.Give of nodes that may be given.
-/
import Derived.Test.YtojbjiopilkbgaaP10
import Derived.Test.YtojbjiopilkbgaaP11
import Derived.Test.YtojbjiopilkbgaaP08
import Derived.Laws.EntriesVeiled
namespace Go.Proofs.Ytojbjiopilkbgaa
set_option linter.unusedVariables false
set_option maxRecDepth 100000
set_option maxHeartbeats 8000000
section
open Go.RowKit
def rest0 : Rest := ⟨0, none, 0, 0, 0, 0, 0, ⟨false, false, false, false, false⟩⟩
abbrev plainV (kz : Int) (S D : ByteArray) : Value := .agg #[.int .u8 kz, .string S, .string D, .slice none 0 0, .int .i64 0, .slice none 0 0, .int .i64 0, .int .i64 0, .int .i64 0, .bool false, .bool false, .bool false, .bool false, .bool false]
theorem make_plain (K : Nat -> Prop) (p : Nat) (M : Dm) (w : World) (kz : Int) (kd : Nat) (S D : ByteArray) (hkz : kz = (kd : Int)) (hX : DX K w p M) (hMn : M.n <= 100000) (hML : M.limit <= 100000) :
  Calls Try.prog 7 #[.pointer (some ⟨p, 0, none⟩), plainV kz S D] w fun e w' => Kept K w w' /\ Makes K p M ⟨kd, S.toList, D.toList, []⟩ e w' := by
 subst hkz
 exact make_any K p kd S D [] none 0 0 rest0 w M hX hMn hML rfl (Nat.zero_le _) (AtsAt.nil _ _ _) (fun x hx => by cases hx)
theorem make1 (K : Nat -> Prop) (p : Nat) (M : Dm) (w : World) (kz : Int) (kd : Nat) (S D : ByteArray) (nm dt : List UInt8) (hkz : kz = (kd : Int)) (hS : S.toList = nm) (hD : D.toList = dt) (hX : DX K w p M) (hMn : M.n <= 100000) (hML : M.limit <= 100000) (hs : soundN ⟨kd, nm, dt, []⟩ = true) (ht : ¬ (kd = 1 /\ nm = [116, 101, 109, 112, 108, 97, 116, 101])) (hr : M.n + 1 <= M.limit) :
  Calls Try.prog 7 #[.pointer (some ⟨p, 0, none⟩), plainV kz S D] w fun e w' => e = .returned (.tuple #[.int .i64 (M.n : Int), .int .u16 0]) /\ DX K w' p (M.add (Mk.nd ⟨kd, nm, dt, []⟩)) /\ Kept K w w' := by
 refine (make_plain K p M w kz kd S D hkz hX hMn hML).mono ?_
 rintro e w' ⟨hK, hM⟩
 rw [hS, hD] at hM
 cases hM with
 | arg h1 => rw [hs] at h1; cases h1
 | full h1 h2 h3 h4 => rw [if_neg ht] at h2; omega
 | two h1 h2 => exact absurd h2 ht
 | one h1 h2 h3 h4 h5 => exact ⟨h4, h5, hK⟩
def divN : Nd := Mk.nd ⟨1, [100, 105, 118], [], []⟩
theorem sound_div : soundN ⟨1, [100, 105, 118], [], []⟩ = true := by kernel_rfl
theorem sound_txt : soundN ⟨2, [], [120], []⟩ = true := by kernel_rfl
abbrev divB : ByteArray := ⟨#[100, 105, 118]⟩
theorem divB_list : divB.toList = [100, 105, 118] := by rw [ByteArray.toList_eq]
theorem empB_list : (⟨#[]⟩ : ByteArray).toList = [] := by rw [ByteArray.toList_eq]
theorem xB_list : (⟨#[120]⟩ : ByteArray).toList = [120] := by rw [ByteArray.toList_eq]
end
section
open Go.RowKit
theorem insB_end (l : List Nat) (i : Nat) : insB l i (-1) = l ++ [i] := by
 unfold insB
 have : ∀ l : List Nat, l.takeWhile (fun k : Nat => decide ((k : Int) ≠ -1)) = l /\ l.dropWhile (fun k : Nat => decide ((k : Int) ≠ -1)) = [] := by
  intro l
  induction l with
  | nil => exact ⟨rfl, rfl⟩
  | cons x r ih =>
   have e : decide ((x : Int) ≠ -1) = true := decide_eq_true (by omega)
   rw [List.takeWhile_cons, List.dropWhile_cons, e, if_pos rfl, if_pos rfl, ih.1]
   exact ⟨rfl, ih.2⟩
 rw [(this l).1, (this l).2]
theorem putR_free {L : Nat -> Lk} {R : Nat -> List Nat} {up i : Nat} (h : (L i).up = -1) : putR L R up i (-1) = updR R up (R up ++ [i]) := by
 unfold Ytojbjiopilkbgaa.putR outR
 rw [if_pos h, insB_end]
structure Divs (M : Dm) (n : Nat) : Prop where
 len : M.n = n + 1
 lim : M.limit = 300
 zero : M.nd 0 = frag0.new
 divs : ∀ k, 0 < k -> k < n + 1 -> M.nd k = divN.new
theorem Divs.setP {M : Dm} {n : Nat} (h : Divs M n) (L : Nat -> Lk) : Divs (M.setP L) n := ⟨h.len, h.lim, h.zero, h.divs⟩
theorem Divs.add {M : Dm} {n : Nat} (h : Divs M n) : Divs (M.add divN) (n + 1) := by
 refine ⟨by show M.n + 1 = _; rw [h.len], h.lim, ?_, fun k h0 hk => ?_⟩
 ·show (if 0 = M.n then divN.new else M.nd 0) = _
  rw [if_neg (by rw [h.len]; omega)]; exact h.zero
 ·show (if k = M.n then divN.new else M.nd k) = _
  by_cases c : k = M.n
  ·rw [if_pos c]
  ·rw [if_neg c]; exact h.divs k h0 (by rw [h.len] at c; omega)
theorem Divs.new : Divs (Dm.new 300) 0 := ⟨rfl, rfl, rfl, fun k h0 hk => by omega⟩
theorem Divs.move {M : Dm} {n : Nat} (h : Divs M n) {k : Nat} (h0 : 0 < k) (hk : k < n + 1) : moveB M k = true := by
 unfold moveB
 rw [h.divs k h0 hk, decide_eq_true (show k ≠ 0 by omega)]
 rfl
theorem Divs.kind {M : Dm} {n : Nat} (h : Divs M n) {k : Nat} (h0 : 0 < k) (hk : k < n + 1) : (M.nd k).kind ≠ 4 := by
 rw [h.divs k h0 hk]
 show (1 : Nat) ≠ 4
 decide
structure Side (M : Dm) (R : Nat -> List Nat) (n : Nat) : Prop where
 row : R 0 = (List.range n).map (· + 1)
 none : ∀ k, 0 < k -> R k = []
 top : (M.pl 0).up = -1
theorem Side.next {M : Dm} {R : Nat -> List Nat} {n : Nat} (hD : Divs M n) (hS : Side M R n) (x : Nd) :
  Side ((M.add x).setP (putL (M.add x).pl 0 (n + 1) (-1))) (putR (M.add x).pl (updR R M.n []) 0 (n + 1) (-1)) (n + 1) := by
 have hfree : ((M.add x).pl (n + 1)).up = -1 := by
  show (updL M.pl M.n Lk.nil (n + 1)).up = -1
  rw [hD.len, updL_same]; rfl
 rw [putR_free hfree]
 refine ⟨?_, fun k hk => ?_, ?_⟩
 ·rw [updR_same, updR_ne _ _ (by rw [hD.len]; omega), hS.row, List.range_succ, List.map_append]
  rfl
 ·rw [updR_ne _ _ (by omega)]
  by_cases c : k = M.n
  ·rw [c, updR_same]
  ·rw [updR_ne _ _ c]; exact hS.none k hk
 ·show (putL (M.add x).pl 0 (n + 1) (-1) 0).up = -1
  rw [put_up (by omega)]
  show (updL M.pl M.n Lk.nil 0).up = -1
  rw [updL_ne _ _ (by rw [hD.len]; omega)]
  exact hS.top
end
section
open Go.RowKit

def showB (x : Nd) : Bool := decide (x.kind = 1) || decide (x.kind = 2)



def RowI (w : World) (a : Option Addr) (l : List Nat) : Prop := ∀ j (h : j < l.length), ∃ g o, a = some ⟨g, o, none⟩ /\ w.cell? ⟨g, o + j, none⟩ = some (.int .i64 (l[j] : Int))
end
section
open Go.RowKit


abbrev slotN : List UInt8 := [115, 108, 111, 116]
theorem slotB_list : (⟨#[115, 108, 111, 116]⟩ : ByteArray).toList = slotN := by rw [ByteArray.toList_eq]
def outsL (L : Nat -> Lk) : List Nat -> Nat -> Lk
 | [] => L
 | q :: r => outsL (outL L q) r
def addsL (L : Nat -> Lk) (slot : Nat) : List Nat -> Nat -> Lk
 | [] => L
 | i :: r => addsL (if (L i).up = (slot : Int) then L else putL L slot i (-1)) slot r
theorem outsL_append (L : Nat -> Lk) (a b : List Nat) : outsL L (a ++ b) = outsL (outsL L a) b := by
 induction a generalizing L with
 | nil => rfl
 | cons x r ih => exact ih _
theorem addsL_append (L : Nat -> Lk) (slot : Nat) (a b : List Nat) : addsL L slot (a ++ b) = addsL (addsL L slot a) slot b := by
 induction a generalizing L with
 | nil => rfl
 | cons x r ih => exact ih _
def WFx (n : Nat) (L : Nat -> Lk) : Prop := ∃ R, WF n L R
theorem WFx.outs {n : Nat} (Q : List Nat) : ∀ {L : Nat -> Lk}, WFx n L -> (∀ q ∈ Q, q < n) -> WFx n (outsL L Q) := by
 induction Q with
 | nil => exact fun h _ => h
 | cons q r ih =>
  intro L ⟨R, h⟩ hq
  exact ih ⟨_, h.out (hq q (List.mem_cons_self ..))⟩ (fun x hx => hq x (List.mem_cons_of_mem _ hx))
theorem WFx.adds {n : Nat} {slot : Nat} (hs : slot < n) (l : List Nat) : ∀ {L : Nat -> Lk}, WFx n L -> (∀ i ∈ l, i < n) -> WFx n (addsL L slot l) := by
 induction l with
 | nil => exact fun h _ => h
 | cons i r ih =>
  intro L ⟨R, h⟩ hi
  refine ih ?_ (fun x hx => hi x (List.mem_cons_of_mem _ hx))
  by_cases c : (L i).up = (slot : Int)
  ·rw [if_pos c]; exact ⟨R, h⟩
  ·rw [if_neg c]; exact ⟨_, h.putR hs (hi i (List.mem_cons_self ..)) (.inl rfl)⟩
end
end Go.Proofs.Ytojbjiopilkbgaa
