/-
 Kinds of names, as plain functions on lists of bytes.; The tree's builder as plain functions on lists (of no program).; What names.Void, Raw, Soft, Block and isTaken answer.; What names.Soft and names.Valid answer, with the functions that Valid calls.; Steps through a region that draws its order (of
-/
import Derived.Test.YtojbjiopilkbgaaP02
import Derived.Test.YtojbjiopilkbgaaProg
import Derived.Test.YtojbjiopilkbgaaP01
import Derived.WalkKit
import Derived.Deep.QuietTactic
import Derived.BigQuiet
import Derived.Deep.RegionHeld3
namespace Go.Proofs.Ytojbjiopilkbgaa
set_option linter.unusedVariables false
set_option maxRecDepth 100000
set_option maxHeartbeats 8000000
section
def voidL : List (List UInt8) := [[97, 114, 101, 97], [98, 97, 115, 101], [98, 114], [99, 111, 108], [101, 109, 98, 101, 100], [104, 114], [105, 109, 103], [105, 110, 112, 117, 116], [108, 105, 110, 107], [109, 101, 116, 97], [115, 111, 117, 114, 99, 101], [116, 114, 97, 99, 107], [119, 98, 114]]
def blockL : List (List UInt8) := [[97, 100, 100, 114, 101, 115, 115], [97, 114, 116, 105, 99, 108, 101], [97, 115, 105, 100, 101], [98, 108, 111, 99, 107, 113, 117, 111, 116, 101], [100, 101, 116, 97, 105, 108, 115], [100, 105, 97, 108, 111, 103], [100, 105, 118], [100, 108], [102, 105, 101, 108, 100, 115, 101, 116], [102, 105, 103, 99, 97, 112, 116, 105, 111, 110], [102, 105, 103, 117, 114, 101], [102, 111, 111, 116, 101, 114], [102, 111, 114, 109], [104, 49], [104, 50], [104, 51], [104, 52], [104, 53], [104, 54], [104, 101, 97, 100, 101, 114], [104, 103, 114, 111, 117, 112], [104, 114], [109, 97, 105, 110], [109, 101, 110, 117], [110, 97, 118], [111, 108], [112], [112, 114, 101], [115, 101, 97, 114, 99, 104], [115, 101, 99, 116, 105, 111, 110], [115, 117, 109, 109, 97, 114, 121], [116, 97, 98, 108, 101], [117, 108]]
def voidP (l : List UInt8) : Bool := voidL.any (l == ·)
def blockP (l : List UInt8) : Bool := blockL.any (l == ·)
def smallP (c : UInt8) : Bool := decide (97 <= c.toNat) && decide (c.toNat <= 122)
def innerP (c : UInt8) : Bool := (decide (48 <= c.toNat) && decide (c.toNat <= 57)) || c.toNat == 45 || c.toNat == 46 || c.toNat == 95
def fineP (c : UInt8) : Bool := smallP c || innerP c
def fitP : List UInt8 -> Bool
 | [] => true
 | c :: r => smallP c && r.all fineP
def validP (l : List UInt8) : Bool := decide (1 <= l.length) && decide (l.length <= 60) && fitP l
end
section
structure It where
 deep : Nat
 kind : Nat
 name : List UInt8
 attrs : List Atr
 data : List UInt8
structure BS where
 items : List It
 flts : List Fl
 opn : List (List UInt8)
def isIn (L : List (List UInt8)) (n : List UInt8) : Bool := L.any (n == ·)
def seekR (so ba : List UInt8 -> Bool) : List (List UInt8) -> Option Nat
 | [] => none
 | x :: r => if so x = true then some r.length else if ba x = true then none else seekR so ba r
def seek (so ba : List UInt8 -> Bool) (l : List (List UInt8)) : Option Nat := seekR so ba l.reverse
def boundL : List (List UInt8) := [[116, 101, 109, 112, 108, 97, 116, 101], [98, 117, 116, 116, 111, 110], [111, 98, 106, 101, 99, 116]]
def headL : List (List UInt8) := [[104, 49], [104, 50], [104, 51], [104, 52], [104, 53], [104, 54]]
def looseL : List (List UInt8) := [[108, 105], [100, 100], [100, 116], [111, 112, 116, 105, 111, 110], [111, 112, 116, 103, 114, 111, 117, 112], [112]]
def BS.flt (b : BS) (k a : Nat) : BS := { b with flts := b.flts ++ [⟨k, a⟩] }
def BS.endTo (b : BS) : Option Nat -> BS
 | none => b
 | some k => { b with opn := b.opn.take k }
def BS.fin (b : BS) (so ba : List UInt8 -> Bool) : BS := b.endTo (seek so ba b.opn)
def BS.finF (b : BS) (so ba : List UInt8 -> Bool) (a : Nat) : BS := if (seek so ba b.opn).isSome = true then (b.fin so ba).flt 9 a else b
def anyN (_ : List UInt8) : Bool := true
def BS.first (b : BS) (n : List UInt8) (a : Nat) : BS :=
 if n = [108, 105] then b.fin (isIn [[108, 105]]) (isIn ([117, 108] :: [111, 108] :: boundL))
 else if n = [100, 100] \/ n = [100, 116] then b.fin (isIn [[100, 100], [100, 116]]) (isIn ([100, 108] :: boundL))
 else if n = [111, 112, 116, 105, 111, 110] then b.fin (isIn [[111, 112, 116, 105, 111, 110]]) anyN
 else if n = [111, 112, 116, 103, 114, 111, 117, 112] then (b.fin (isIn [[111, 112, 116, 105, 111, 110]]) anyN).fin (isIn [[111, 112, 116, 103, 114, 111, 117, 112]]) anyN
 else if isIn headL n = true then b.finF (isIn headL) anyN a
 else if n = [97] \/ n = [98, 117, 116, 116, 111, 110] then b.finF (isIn [n]) (isIn [[116, 101, 109, 112, 108, 97, 116, 101]]) a
 else b
def BS.para (b : BS) (n : List UInt8) : BS := if (blockP n || isIn [[108, 105], [100, 100], [100, 116]] n) = true then b.fin (isIn [[112]]) (isIn boundL) else b
def barB (c : UInt8) : Bool := (decide (65 <= c.toNat) && decide (c.toNat <= 90)) || [0, 9, 10, 12, 32, 47, 62, 61].contains c
def writP (a : Atr) : Bool := decide (1 <= a.name.length) && decide (a.name.length <= 60) && (a.name.all fun c => !barB c) && decide (a.value.length <= 2000)
def keepA : List (List UInt8) -> List Atr -> List Atr
 | _, [] => []
 | ahead, a :: r => if (writP a && !ahead.contains a.name) = true then a :: keepA (a.name :: ahead) r else keepA (a.name :: ahead) r
def BS.item (b : BS) (kind : Nat) (name : List UInt8) (attrs : List Atr) (data : List UInt8) : BS := { b with items := b.items ++ [⟨b.opn.length, kind, name, attrs, data⟩] }
def BS.flts' (b : BS) (n k a : Nat) : BS := { b with flts := b.flts ++ List.replicate n ⟨k, a⟩ }
def BS.open1 (b : BS) (n : List UInt8) : BS := if voidP n = false /\ b.opn.length < 100 then { b with opn := b.opn ++ [n] } else b
def BS.start (b : BS) (n : List UInt8) (l : List Atr) (a : Nat) : BS :=
 if validP n = true then ((((b.first n a).para n).flts' (l.length - (keepA [] l).length) 5 a).item 1 n (keepA [] l) []).open1 n else b.flt 4 a
def soughtBy (n : List UInt8) : List UInt8 -> Bool := if isIn headL n = true then isIn headL else isIn [n]
def barredBy (n : List UInt8) : List UInt8 -> Bool := if n = [112] then isIn boundL else isIn [[116, 101, 109, 112, 108, 97, 116, 101]]
def BS.stop (b : BS) (n : List UInt8) (a : Nat) : BS :=
 match seek (soughtBy n) (barredBy n) b.opn with
 | none => (if n = [98, 114] \/ n = [112] then b.item 1 n [] [] else b).flt 8 a
 | some k => let c := { b with opn := b.opn.take k }; if ((b.opn.drop k).head? == some n && ((b.opn.drop k).drop 1).all (isIn looseL)) = true then c else c.flt 9 a
def BS.take (b : BS) (t : Tk) : BS :=
 if t.kind = 1 then b.start t.name t.attrs t.pl
 else if t.kind = 2 then b.stop t.name t.pl
 else if t.kind = 3 then (if t.data = [] then b else b.item 2 [] [] t.data)
 else if t.kind = 4 then b.item 3 [] [] t.data
 else if t.kind = 5 then (if b.items = [] then b.item 6 t.name [] [] else b.flt 8 t.pl)
 else b
def lastA (l : List It) : Nat := match l.getLast? with
 | none => 0
 | some x => x.attrs.length
def BS.full (b : BS) : Bool := decide (b.items.length > 5000) || decide (lastA b.items > 50)
def BS.new : BS := ⟨[], [], []⟩
end
section
open Go.RowKit
theorem void_any (s : ByteArray) (K : Nat -> Prop) (w : World) :
  Calls Try.prog 44 #[.string s] w fun e w' => e = .returned (.bool (voidP s.toList)) /\ Kept K w w' := by
 go_enter Try.func44, Try.ntmps44
 go_wp2
 all_goals first | (simp_all; done) | (go_ret; exact ⟨by simp [voidP, voidL, *], Kept.refl _ _⟩)
end
section
open Go.RowKit
theorem small_any (c : UInt8) (K : Nat -> Prop) (w : World) :
  Calls Try.prog 61 #[.int .u8 c.toNat] w fun e w' => e = .returned (.bool (smallP c)) /\ Kept K w w' := by
 go_enter Try.func61, Try.ntmps61
 go_wp2
 all_goals go_ret
 all_goals refine ⟨congrArg (fun b => Ending.returned (.bool b)) ?_, Kept.refl _ _⟩
 all_goals unfold smallP
 ·rename_i h
  have h' : 97 <= c.toNat := by omega
  simp [h']
  omega
 ·rename_i h
  have h' : ¬ 97 <= c.toNat := by omega
  simp [h']
theorem inner_any (c : UInt8) (K : Nat -> Prop) (w : World) :
  Calls Try.prog 62 #[.int .u8 c.toNat] w fun e w' => e = .returned (.bool (innerP c)) /\ Kept K w w' := by
 go_enter Try.func62, Try.ntmps62
 go_wp2
 all_goals go_ret
 all_goals refine ⟨congrArg (fun b => Ending.returned (.bool b)) ?_, Kept.refl _ _⟩
 all_goals unfold innerP
 all_goals rw [Bool.eq_iff_iff]
 all_goals simp
 all_goals omega
def barP (s : ByteArray) (i : Nat) : Bool := if h : i < s.size then !smallP s[i] && (i == 0 || !innerP s[i]) else true
theorem bar_any (s : ByteArray) (i b : Nat) (K : Nat -> Prop) (w : World) (hc : w.cell? ⟨b, 0, none⟩ = some (.string s)) (hi : i < s.size) :
  Calls Try.prog 60 #[.int .i64 i, .pointer (some ⟨b, 0, none⟩)] w fun e w' => e = .returned (.bool (barP s i)) /\ Kept K w w' := by
 have hb : barP s i = (!smallP s[i] && (i == 0 || !innerP s[i])) := by unfold barP; rw [dif_pos hi]
 rw [hb]
 have h1 := fun X => small_any s[i] K X
 have h2 := fun X => inner_any s[i] K X
 clear hb
 obtain ⟨a, ha⟩ : ∃ a, smallP s[i] = a := ⟨_, rfl⟩
 rw [ha] at h1 ⊢
 obtain ⟨n, hn⟩ : ∃ a, innerP s[i] = a := ⟨_, rfl⟩
 rw [hn] at h2 ⊢
 clear ha hn
 cases a with
 | true =>
  go_enter Try.func60, Try.ntmps60
  go_wp2_with fail
  refine (h1 _).mono ?_
  rintro e w1 ⟨rfl, hk1⟩
  go_wp2
  go_ret
  exact ⟨by simp, hk1⟩
 | false =>
  by_cases h0 : i = 0
  ·subst h0
   go_enter Try.func60, Try.ntmps60
   go_wp2_with fail
   refine (h1 _).mono ?_
   rintro e w1 ⟨rfl, hk1⟩
   go_wp2
   go_ret
   exact ⟨by simp, hk1⟩
  ·have e0 : ((i : Int) == 0) = false := by simp; omega
   have e1 : (i == 0) = false := by simp; omega
   rw [e1]
   go_enter Try.func60, Try.ntmps60
   go_wp2_with fail
   refine (h1 _).mono ?_
   rintro e w1 ⟨rfl, hk1⟩
   go_wp2_with fail
   refine (h2 _).mono ?_
   rintro e w2 ⟨rfl, hk2⟩
   go_wp2
   go_ret
   exact ⟨by simp, hk1.trans hk2⟩
theorem barP_at (s : ByteArray) (i : Nat) : barP s i = match s.data.toList[i]? with
  | some c => !smallP c && (i == 0 || !innerP c)
  | none => true := by
 unfold barP
 by_cases h : i < s.size
 ·have h' : i < s.data.toList.length := by simpa using h
  rw [dif_pos h, List.getElem?_eq_getElem h']
  rfl
 ·have h' : s.data.toList.length <= i := by
   have : ¬ i < s.data.toList.length := by simpa using h
   omega
  rw [dif_neg h, List.getElem?_eq_none h']
theorem bar_none_fit (s : ByteArray) (h : ∀ i, i < s.size -> barP s i = false) : fitP s.toList = true := by
 rw [ByteArray.toList_eq]
 have h' : ∀ i, i < s.data.toList.length -> barP s i = false := fun i hi => h i (by simpa using hi)
 clear h
 simp only [barP_at] at h'
 generalize s.data.toList = l at h'
 cases l with
 | nil => rfl
 | cons c r =>
  have h0 := h' 0 (by simp)
  simp at h0
  simp only [fitP, h0, Bool.true_and, List.all_eq_true]
  intro x hx
  obtain ⟨j, hj, rfl⟩ := List.mem_iff_getElem.1 hx
  have hj1 := h' (j + 1) (by simpa using hj)
  rw [List.getElem?_cons_succ, List.getElem?_eq_getElem hj] at hj1
  simp only [fineP]
  cases hs : smallP r[j] <;> cases hi : innerP r[j] <;> simp [hs, hi] at hj1 ⊢
theorem bar_fit (s : ByteArray) (i : Nat) (hi : i < s.size) (h : barP s i = true) : fitP s.toList = false := by
 rw [ByteArray.toList_eq]
 have hi' : i < s.data.toList.length := by simpa using hi
 simp only [barP_at] at h
 generalize s.data.toList = l at h hi'
 cases l with
 | nil => simp at hi'
 | cons c r =>
  cases i with
  | zero =>
   simp at h
   simp [fitP, h]
  | succ j =>
   have hj : j < r.length := by simpa using hi'
   rw [List.getElem?_cons_succ, List.getElem?_eq_getElem hj] at h
   simp at h
   simp only [fitP, Bool.and_eq_false_iff, List.all_eq_false]
   refine .inr ⟨r[j], List.getElem_mem hj, ?_⟩
   simp [fineP, h]
theorem valid_any (s : ByteArray) (K : Nat -> Prop) (w : World) (hK : ∀ k, K k -> k < w.heap.size) :
  Calls Try.prog 55 #[.string s] w fun e w' => e = .returned (.bool (validP s.toList)) /\ Kept K w w' := by
 have hmf : ∀ (fn : Fn) (first cap : Array Value) (w : World), (Instr.makeFunc fn first cap).run Try.prog w = .ok (.func fn first cap) w := fun _ _ _ _ => rfl
 have kk : ∀ o, Kept K w (w.alloc o) := fun o => (Kept.refl K w).alloc hK o
 have hl : s.toList.length = s.size := by rw [ByteArray.toList_eq]; rfl
 by_cases g0 : s.size = 0
 ·have e0 : (s.toList == []) = true := by
   simpa using List.eq_nil_of_length_eq_zero (hl.trans g0)
  have hv : validP s.toList = false := by
   unfold validP
   rw [hl, g0]
   rfl
  rw [hv]
  clear hv hl
  go_enter Try.func55, Try.ntmps55
  go_wp2
  go_ret
  exact ⟨rfl, kk _⟩
 ·have e0 : (s.toList == []) = false := by
   rw [Bool.eq_false_iff]
   intro h
   have : s.toList = [] := by simpa using h
   rw [this] at hl
   exact g0 hl.symm
  by_cases g1 : s.size <= 60
  ·have e1 : decide ((s.size : Int) > 60) = false := by simp; omega
   have hv : validP s.toList = fitP s.toList := by
    unfold validP
    rw [hl, decide_eq_true g1, decide_eq_true (show 1 <= s.size by omega)]
    rfl
   rw [hv]
   clear hv hl
   go_enter Try.func55, Try.ntmps55
   go_wp2_with fail
   go_loopw [15, 4, 16, 17, 18, 19, 20, 21] (fun i _ _ _ _ _ _ _ wr => ∃ k : Nat, k <= s.size /\ i = .int .i64 k /\ Kept K w wr /\ wr.cell? ⟨w.heap.size, 0, none⟩ = some (.string s) /\ w.heap.size < wr.heap.size /\ ∀ j, j < k -> barP s j = false) (fun i _ _ _ _ _ _ _ _ => s.size - (intOf i).toNat)
   case atStart => exact ⟨0, Nat.zero_le _, rfl, kk _, by simp, by simp, fun j hj => absurd hj (Nat.not_lt_zero _)⟩
   case round =>
    obtain ⟨k, hk, rfl, hkp, hcell, hsz, hj⟩ := hrel
    by_cases hlt : k < s.size
    ·have hbar := bar_any s k w.heap.size (fun k => K k \/ k = w.heap.size) wr hcell hlt
     by_cases hbk : barP s k = true
     ·have hv : Hid (fitP s.toList = false) := bar_fit s k hlt hbk
      rw [hbk] at hbar
      clear hbk
      go_wp2_with fail
      refine hbar.mono ?_
      rintro e w1 ⟨rfl, hk1⟩
      go_wp2
      go_ret
      exact ⟨by rw [hv.out]; rfl, hkp.trans (hk1.mono fun _ h => .inl h)⟩
     ·have hbk : barP s k = false := by simpa using hbk
      rw [hbk] at hbar
      go_wp2_with fail
      refine hbar.mono ?_
      rintro e w1 ⟨rfl, hk1⟩
      go_wp2
      go_roundw
      case rel =>
       refine ⟨k + 1, by omega, by go_num, hkp.trans (hk1.mono fun _ h => .inl h), ?_, Nat.lt_of_lt_of_le hsz hk1.size, ?_⟩
       ·rw [hk1.cell (.inr rfl)]
        exact hcell
       ·intro j hj'
        rcases Nat.lt_succ_iff_lt_or_eq.1 hj' with h | rfl
        ·exact hj j h
        ·exact hbk
      case measure => simp [intOf]; omega
    ·have hv : Hid (fitP s.toList = true) := bar_none_fit s fun i hi => hj i (by omega)
     go_wp2
     go_ret
     exact ⟨by rw [hv.out]; rfl, hkp⟩
  ·have e1 : decide ((s.size : Int) > 60) = true := by simp; omega
   have hv : validP s.toList = false := by
    unfold validP
    rw [hl, decide_eq_false g1]
    simp
   rw [hv]
   clear hv hl
   go_enter Try.func55, Try.ntmps55
   go_wp2
   go_ret
   exact ⟨rfl, kk _⟩
end
section
theorem sA {α : Type} {xs : List α} {i : Nat} {v : α} : xs.toArray.setIfInBounds i v = (xs.set i v).toArray := List.setIfInBounds_toArray ..
theorem s0 {α : Type} {a b : α} {l : List α} : (a :: l).set 0 b = b :: l := List.set_cons_zero ..
theorem s1 {α : Type} {a b : α} {l : List α} {n : Nat} : (a :: l).set (n + 1) b = a :: l.set n b := List.set_cons_succ ..
section
variable {P : Program} {ops : Array Oper} {Q : Exit -> Act -> World -> Prop} {md : Region.Mode} {S : World -> Prop} {fuel : Nat} {listed : Array Bool} {a : Act} {w : World}
theorem tkH (i d : Nat) (v : Value) {o : Oper} (hi : ops[i]? = some o) (hd : o.dst = some d) (h3 : (Region.noSelect ops && Region.free md ops listed i && (Region.ready md ops listed).contains i) = true)
  (hw : Region.wanted o (yielded ops a.tmps) = true) (hy : ∀ X, S X -> (execOp a.eval o).run P X = .ok (.value v) X) (hQ : ∀ c a w, Q (.panic c) (a.put o.dst v) w -> Q (.panic c) a w) (hS : S w)
  (h : wpAnyH P md ops Q S fuel (listed.setIfInBounds i true) (a.put (some d) v) w) : wpAnyH P md ops Q S (fuel + 1) listed a w := by
 simp only [Bool.and_eq_true] at h3
 exact wpAnyH_take hi h3.1.1 h3.1.2 h3.2 hQ (Or.inl ⟨hw, hy⟩) hS (by rw [hd]; exact h)
theorem tkU (i d : Nat) {o : Oper} (hi : ops[i]? = some o) (hd : o.dst = some d) (h3 : (Region.noSelect ops && Region.free md ops listed i && (Region.ready md ops listed).contains i) = true)
  (hw : Region.wanted o (yielded ops a.tmps) = false) (hQ : ∀ c a w, Q (.panic c) (a.put o.dst undef) w -> Q (.panic c) a w) (hS : S w)
  (h : wpAnyH P md ops Q S fuel (listed.setIfInBounds i true) (a.put (some d) undef) w) : wpAnyH P md ops Q S (fuel + 1) listed a w := by
 simp only [Bool.and_eq_true] at h3
 exact wpAnyH_take hi h3.1.1 h3.1.2 h3.2 hQ (Or.inr ⟨hw, rfl⟩) hS (by rw [hd]; exact h)
theorem clH (i d : Nat) (f : FuncId) (vs : Array Value) {o : Oper} {args : Array Operand} {tys : Array TypeId} (hi : ops[i]? = some o) (hd : o.dst = some d) (hr : Region.ready md ops listed = [i]) (hw : Region.wanted o (yielded ops a.tmps) = true)
  (ho : o.op = .call { callee := .value (.func f), args := args, argTypes := tys }) (hv : args.map a.eval = vs) (hE : (callFunc f vs).run P w = .ok (.enter f vs) w) {R : Ending -> World -> Prop} (hc : Calls P f vs w R)
  (h : ∀ e w', R e w' -> ∃ v, e = .returned v /\ S w' /\ (S w' -> wpAnyH P md ops Q S fuel (listed.setIfInBounds i true) (a.put (some d) v) w')) : wpAnyH P md ops Q S (fuel + 1) listed a w := by
 refine wpAnyH_ready hr (by simp) (AllReadyH.cons hi (fun Kx hK => ?_) AllReadyH.nil)
 rw [if_pos hw]
 have e : (execOp a.eval o).run P w = .ok (.enter f vs) w := by
  simp [execOp, ho, resolve, Deferred.ofValue, Act.eval, invoke, hv, hE]
 unfold Oper.wp
 rw [e, Oper.upon_enter]
 refine hc.mono ?_
 intro e w' hR
 obtain ⟨v, rfl, hs, hk⟩ := h e w' hR
 exact hK.out _ _ hs (by rw [hd]; exact hk)
end
end
end Go.Proofs.Ytojbjiopilkbgaa
