/-
 The chapter's example holds (known).; A document of elements side by side (plain).; Leaves of Doc.Give: Slot, mayShow, the two questions, IndexFunc, ContainsFunc, mayGive where all may be given.; Doc.Give of nodes that may be given.
-/
import Derived.Test.YtljnjdckhkglfaaP10
import Derived.Test.YtljnjdckhkglfaaP11
import Derived.Test.YtljnjdckhkglfaaP08
import Derived.Laws.EntriesVeiled
namespace Go.Proofs.Ytljnjdckhkglfaa
set_option linter.unusedVariables false
set_option maxRecDepth 100000
set_option maxHeartbeats 8000000
section
open Go.RowKit
def rest0 : Rest := ⟨0, none, 0, 0, 0, 0, 0, ⟨false, false, false, false, false⟩⟩
abbrev plainV (kz : Int) (S D : ByteArray) : Value := .agg #[.int .u8 kz, .string S, .string D, .slice none 0 0, .int .i64 0, .slice none 0 0, .int .i64 0, .int .i64 0, .int .i64 0, .bool false, .bool false, .bool false, .bool false, .bool false]
theorem make_plain (K : Nat -> Prop) (p : Nat) (M : Dm) (w : World) (kz : Int) (kd : Nat) (S D : ByteArray) (hkz : kz = (kd : Int)) (hX : DX K w p M) (hMn : M.n <= 100000) (hML : M.limit <= 100000) :
  Calls Try.prog 16 #[.pointer (some ⟨p, 0, none⟩), plainV kz S D] w fun e w' => Kept K w w' /\ Makes K p M ⟨kd, S.toList, D.toList, []⟩ e w' := by
 subst hkz
 exact make_any K p kd S D [] none 0 0 rest0 w M hX hMn hML rfl (Nat.zero_le _) (AtsAt.nil _ _ _) (fun x hx => by cases hx)
theorem make1 (K : Nat -> Prop) (p : Nat) (M : Dm) (w : World) (kz : Int) (kd : Nat) (S D : ByteArray) (nm dt : List UInt8) (hkz : kz = (kd : Int)) (hS : S.toList = nm) (hD : D.toList = dt) (hX : DX K w p M) (hMn : M.n <= 100000) (hML : M.limit <= 100000) (hs : soundN ⟨kd, nm, dt, []⟩ = true) (ht : ¬ (kd = 1 /\ nm = [116, 101, 109, 112, 108, 97, 116, 101])) (hr : M.n + 1 <= M.limit) :
  Calls Try.prog 16 #[.pointer (some ⟨p, 0, none⟩), plainV kz S D] w fun e w' => e = .returned (.tuple #[.int .i64 (M.n : Int), .int .u16 0]) /\ DX K w' p (M.add (Mk.nd ⟨kd, nm, dt, []⟩)) /\ Kept K w w' := by
 refine (make_plain K p M w kz kd S D hkz hX hMn hML).mono ?_
 rintro e w' ⟨hK, hM⟩
 rw [hS, hD] at hM
 cases hM with
 | arg h1 => rw [hs] at h1; cases h1
 | full h1 h2 h3 h4 => rw [if_neg ht] at h2; omega
 | two h1 h2 => exact absurd h2 ht
 | one h1 h2 h3 h4 h5 => exact ⟨h4, h5, hK⟩
def divN : Nd := Mk.nd ⟨1, [100, 105, 118], [], []⟩
theorem sound_div : soundN ⟨1, [100, 105, 118], [], []⟩ = true := by kernel_rfl
theorem sound_txt : soundN ⟨2, [], [120], []⟩ = true := by kernel_rfl
abbrev divB : ByteArray := ⟨#[100, 105, 118]⟩
theorem divB_list : divB.toList = [100, 105, 118] := by rw [ByteArray.toList_eq]
theorem empB_list : (⟨#[]⟩ : ByteArray).toList = [] := by rw [ByteArray.toList_eq]
theorem xB_list : (⟨#[120]⟩ : ByteArray).toList = [120] := by rw [ByteArray.toList_eq]
end
section
open Go.RowKit
theorem insB_end (l : List Nat) (i : Nat) : insB l i (-1) = l ++ [i] := by
 unfold insB
 have : ∀ l : List Nat, l.takeWhile (fun k : Nat => decide ((k : Int) ≠ -1)) = l /\ l.dropWhile (fun k : Nat => decide ((k : Int) ≠ -1)) = [] := by
  intro l
  induction l with
  | nil => exact ⟨rfl, rfl⟩
  | cons x r ih =>
   have e : decide ((x : Int) ≠ -1) = true := decide_eq_true (by omega)
   rw [List.takeWhile_cons, List.dropWhile_cons, e, if_pos rfl, if_pos rfl, ih.1]
   exact ⟨rfl, ih.2⟩
 rw [(this l).1, (this l).2]
theorem putR_free {L : Nat -> Lk} {R : Nat -> List Nat} {up i : Nat} (h : (L i).up = -1) : putR L R up i (-1) = updR R up (R up ++ [i]) := by
 unfold Ytljnjdckhkglfaa.putR outR
 rw [if_pos h, insB_end]
structure Divs (M : Dm) (n : Nat) : Prop where
 len : M.n = n + 1
 lim : M.limit = 300
 zero : M.nd 0 = frag0.new
 divs : ∀ k, 0 < k -> k < n + 1 -> M.nd k = divN.new
theorem Divs.setP {M : Dm} {n : Nat} (h : Divs M n) (L : Nat -> Lk) : Divs (M.setP L) n := ⟨h.len, h.lim, h.zero, h.divs⟩
theorem Divs.add {M : Dm} {n : Nat} (h : Divs M n) : Divs (M.add divN) (n + 1) := by
 refine ⟨by show M.n + 1 = _; rw [h.len], h.lim, ?_, fun k h0 hk => ?_⟩
 ·show (if 0 = M.n then divN.new else M.nd 0) = _
  rw [if_neg (by rw [h.len]; omega)]; exact h.zero
 ·show (if k = M.n then divN.new else M.nd k) = _
  by_cases c : k = M.n
  ·rw [if_pos c]
  ·rw [if_neg c]; exact h.divs k h0 (by rw [h.len] at c; omega)
theorem Divs.new : Divs (Dm.new 300) 0 := ⟨rfl, rfl, rfl, fun k h0 hk => by omega⟩
theorem Divs.move {M : Dm} {n : Nat} (h : Divs M n) {k : Nat} (h0 : 0 < k) (hk : k < n + 1) : moveB M k = true := by
 unfold moveB
 rw [h.divs k h0 hk, decide_eq_true (show k ≠ 0 by omega)]
 rfl
theorem Divs.kind {M : Dm} {n : Nat} (h : Divs M n) {k : Nat} (h0 : 0 < k) (hk : k < n + 1) : (M.nd k).kind ≠ 4 := by
 rw [h.divs k h0 hk]
 show (1 : Nat) ≠ 4
 decide
structure Side (M : Dm) (R : Nat -> List Nat) (n : Nat) : Prop where
 row : R 0 = (List.range n).map (· + 1)
 none : ∀ k, 0 < k -> R k = []
 top : (M.pl 0).up = -1
theorem Side.next {M : Dm} {R : Nat -> List Nat} {n : Nat} (hD : Divs M n) (hS : Side M R n) (x : Nd) :
  Side ((M.add x).setP (putL (M.add x).pl 0 (n + 1) (-1))) (putR (M.add x).pl (updR R M.n []) 0 (n + 1) (-1)) (n + 1) := by
 have hfree : ((M.add x).pl (n + 1)).up = -1 := by
  show (updL M.pl M.n Lk.nil (n + 1)).up = -1
  rw [hD.len, updL_same]; rfl
 rw [putR_free hfree]
 refine ⟨?_, fun k hk => ?_, ?_⟩
 ·rw [updR_same, updR_ne _ _ (by rw [hD.len]; omega), hS.row, List.range_succ, List.map_append]
  rfl
 ·rw [updR_ne _ _ (by omega)]
  by_cases c : k = M.n
  ·rw [c, updR_same]
  ·rw [updR_ne _ _ c]; exact hS.none k hk
 ·show (putL (M.add x).pl 0 (n + 1) (-1) 0).up = -1
  rw [put_up (by omega)]
  show (updL M.pl M.n Lk.nil 0).up = -1
  rw [updL_ne _ _ (by rw [hD.len]; omega)]
  exact hS.top
end
section
open Go.RowKit
theorem slot_in (K : Nat -> Prop) (p i : Nat) (S : Dm) (w : World) (h : DX K w p S) (hi : i < S.n) (hn : S.n <= 1000000000) :
  Calls Try.prog 62 #[.pointer (some ⟨p, 0, none⟩), .int .i64 (i : Int)] w fun e w' => e = .returned (.int .i64 (S.gf i).up) /\ w' = w := by
 obtain ⟨ga, cap, hY⟩ := h
 obtain ⟨g, rfl, -, -, -⟩ := hY.at (by omega)
 have r := at_yes p g S.n cap i w hY.c1 hi hn
 obtain ⟨c0, -, -, -, -⟩ := hY.gcell hi
 clear hY
 go_enter Try.func62, Try.ntmps62
 go_wp2_with (go_at_call 50; refine r.mono ?_; rintro e w2 ⟨rfl, hw2⟩; replace hw2 := hw2.symm; subst hw2)
 go_ret
 exact ⟨rfl, rfl⟩
def showB (x : Nd) : Bool := decide (x.kind = 1) || decide (x.kind = 2)
theorem mayShow_any (b o : Nat) (x : Nd) (w : World) (h0 : w.cell? ⟨b, o, none⟩ = some (.int .u8 (x.kind : Int))) :
  Calls Try.prog 93 #[.pointer (some ⟨b, o, none⟩)] w fun e w' => e = .returned (.bool (showB x)) /\ w' = w := by
 unfold showB
 obtain ⟨kd, hk⟩ : ∃ k, x.kind = k := ⟨_, rfl⟩
 rw [hk] at h0 ⊢
 clear hk
 by_cases c1 : kd = 1
 ·subst c1
  go_enter Try.func93, Try.ntmps93
  go_wp2
  go_ret
  exact ⟨rfl, rfl⟩
 ·have e1 : ((kd : Int) == 1) = false := by
   have : (kd : Int) ≠ 1 := by omega
   simpa using this
  rw [decide_eq_false c1]
  by_cases c2 : kd = 2
  ·subst c2
   go_enter Try.func93, Try.ntmps93
   go_wp2
   go_ret
   exact ⟨rfl, rfl⟩
  ·have e2 : ((kd : Int) == 2) = false := by
    have : (kd : Int) ≠ 2 := by omega
    simpa using this
   rw [decide_eq_false c2]
   clear c1 c2
   go_enter Try.func93, Try.ntmps93
   go_wp2
   go_ret
   exact ⟨rfl, rfl⟩
theorem miss_in (p b g n cap i : Nat) (w : World) (hb : w.cell? ⟨b, 0, none⟩ = some (.pointer (some ⟨p, 0, none⟩))) (hc : w.cell? ⟨p, 1, none⟩ = some (.slice (some ⟨g, 0, none⟩) n cap)) (hi : i < n) (hn : n <= 1000000000) :
  Calls Try.prog 91 #[.int .i64 (i : Int), .pointer (some ⟨b, 0, none⟩)] w fun e w' => e = .returned (.bool false) /\ w' = w := by
 have r := at_yes p g n cap i w hc hi hn
 go_enter Try.func91, Try.ntmps91
 go_wp2_with (go_at_call 50; refine r.mono ?_; rintro e w2 ⟨rfl, hw2⟩; replace hw2 := hw2.symm; subst hw2)
 go_ret
 exact ⟨rfl, rfl⟩
theorem hide_in (p b g n cap i : Nat) (x : Nd) (w : World) (hb : w.cell? ⟨b, 0, none⟩ = some (.pointer (some ⟨p, 0, none⟩))) (hc : w.cell? ⟨p, 1, none⟩ = some (.slice (some ⟨g, 0, none⟩) n cap)) (h0 : w.cell? ⟨g, i * 22, none⟩ = some (.int .u8 (x.kind : Int))) (hi : i < n) (hn : n <= 1000000000) :
  Calls Try.prog 92 #[.int .i64 (i : Int), .pointer (some ⟨b, 0, none⟩)] w fun e w' => e = .returned (.bool (!showB x)) /\ w' = w := by
 have r := mayShow_any g (i * 22) x w h0
 obtain ⟨q, hq⟩ : ∃ q, showB x = q := ⟨_, rfl⟩
 rw [hq] at r ⊢
 clear hq
 go_enter Try.func92, Try.ntmps92
 go_wp2_with (go_at_call 93; refine r.mono ?_; rintro e w2 ⟨rfl, hw2⟩; replace hw2 := hw2.symm; subst hw2)
 go_ret
 exact ⟨rfl, rfl⟩
def RowI (w : World) (a : Option Addr) (l : List Nat) : Prop := ∀ j (h : j < l.length), ∃ g o, a = some ⟨g, o, none⟩ /\ w.cell? ⟨g, o + j, none⟩ = some (.int .i64 (l[j] : Int))
end
section
open Go.RowKit
theorem enter91 (args : Array Value) (X : World) : (callFunc 91 args).run Try.prog X = .ok (.enter 91 args) X := entersE Try.func91 (by kernel_rfl) (c := _) rfl args X
theorem enter92 (args : Array Value) (X : World) : (callFunc 92 args).run Try.prog X = .ok (.enter 92 args) X := entersE Try.func92 (by kernel_rfl) (c := _) rfl args X
abbrev slotN : List UInt8 := [115, 108, 111, 116]
theorem slotB_list : (⟨#[115, 108, 111, 116]⟩ : ByteArray).toList = slotN := by rw [ByteArray.toList_eq]
def outsL (L : Nat -> Lk) : List Nat -> Nat -> Lk
 | [] => L
 | q :: r => outsL (outL L q) r
def addsL (L : Nat -> Lk) (slot : Nat) : List Nat -> Nat -> Lk
 | [] => L
 | i :: r => addsL (if (L i).up = (slot : Int) then L else putL L slot i (-1)) slot r
theorem outsL_append (L : Nat -> Lk) (a b : List Nat) : outsL L (a ++ b) = outsL (outsL L a) b := by
 induction a generalizing L with
 | nil => rfl
 | cons x r ih => exact ih _
theorem addsL_append (L : Nat -> Lk) (slot : Nat) (a b : List Nat) : addsL L slot (a ++ b) = addsL (addsL L slot a) slot b := by
 induction a generalizing L with
 | nil => rfl
 | cons x r ih => exact ih _
def WFx (n : Nat) (L : Nat -> Lk) : Prop := ∃ R, WF n L R
theorem WFx.outs {n : Nat} (Q : List Nat) : ∀ {L : Nat -> Lk}, WFx n L -> (∀ q ∈ Q, q < n) -> WFx n (outsL L Q) := by
 induction Q with
 | nil => exact fun h _ => h
 | cons q r ih =>
  intro L ⟨R, h⟩ hq
  exact ih ⟨_, h.out (hq q (List.mem_cons_self ..))⟩ (fun x hx => hq x (List.mem_cons_of_mem _ hx))
theorem WFx.adds {n : Nat} {slot : Nat} (hs : slot < n) (l : List Nat) : ∀ {L : Nat -> Lk}, WFx n L -> (∀ i ∈ l, i < n) -> WFx n (addsL L slot l) := by
 induction l with
 | nil => exact fun h _ => h
 | cons i r ih =>
  intro L ⟨R, h⟩ hi
  refine ih ?_ (fun x hx => hi x (List.mem_cons_of_mem _ hx))
  by_cases c : (L i).up = (slot : Int)
  ·rw [if_pos c]; exact ⟨R, h⟩
  ·rw [if_neg c]; exact ⟨_, h.putR hs (hi i (List.mem_cons_self ..)) (.inl rfl)⟩
end
end Go.Proofs.Ytljnjdckhkglfaa
