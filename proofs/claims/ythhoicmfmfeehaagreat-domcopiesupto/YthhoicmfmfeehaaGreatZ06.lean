/-
  Kinds of names, as plain functions on lists of bytes.
  The tree's builder as plain functions on lists (of no program).
  What names.Void, Raw, Soft, Block and isTaken answer.
  Leaves of the document that only read: room, Len, isElement, isContent, mayHold, mayMove, within, fits.
  What names.Soft and names.Valid answer, with the functions that Valid calls.
-/
import Derived.WalkKit
import Derived.Test.YthhoicmfmfeehaaGreatZ01
import Derived.Test.YthhoicmfmfeehaaGreatProg
import Derived.Test.YthhoicmfmfeehaaGreatZ05
import Derived.Deep.QuietTactic
import Derived.BigQuiet
namespace Go.Proofs.YthhoicmfmfeehaaGreat

def voidL : List (List UInt8) := [[97, 114, 101, 97], [98, 97, 115, 101], [98, 114], [99, 111, 108], [101, 109, 98, 101, 100], [104, 114], [105, 109, 103], [105, 110, 112, 117, 116], [108, 105, 110, 107], [109, 101, 116, 97], [115, 111, 117, 114, 99, 101], [116, 114, 97, 99, 107], [119, 98, 114]]


def blockL : List (List UInt8) := [[97, 100, 100, 114, 101, 115, 115], [97, 114, 116, 105, 99, 108, 101], [97, 115, 105, 100, 101], [98, 108, 111, 99, 107, 113, 117, 111, 116, 101], [100, 101, 116, 97, 105, 108, 115], [100, 105, 97, 108, 111, 103], [100, 105, 118], [100, 108], [102, 105, 101, 108, 100, 115, 101, 116], [102, 105, 103, 99, 97, 112, 116, 105, 111, 110], [102, 105, 103, 117, 114, 101], [102, 111, 111, 116, 101, 114], [102, 111, 114, 109], [104, 49], [104, 50], [104, 51], [104, 52], [104, 53], [104, 54], [104, 101, 97, 100, 101, 114], [104, 103, 114, 111, 117, 112], [104, 114], [109, 97, 105, 110], [109, 101, 110, 117], [110, 97, 118], [111, 108], [112], [112, 114, 101], [115, 101, 97, 114, 99, 104], [115, 101, 99, 116, 105, 111, 110], [115, 117, 109, 109, 97, 114, 121], [116, 97, 98, 108, 101], [117, 108]]
def voidP (l : List UInt8) : Bool := voidL.any (l == ·)


def blockP (l : List UInt8) : Bool := blockL.any (l == ·)
def smallP (c : UInt8) : Bool := decide (97 ≤ c.toNat) && decide (c.toNat ≤ 122)
def innerP (c : UInt8) : Bool := (decide (48 ≤ c.toNat) && decide (c.toNat ≤ 57)) || c.toNat == 45 || c.toNat == 46 || c.toNat == 95
/-- A byte that may stand in a name, behind the first. -/
def fineP (c : UInt8) : Bool := smallP c || innerP c
def fitP : List UInt8 → Bool
  | [] => true
  | c :: r => smallP c && r.all fineP
def validP (l : List UInt8) : Bool := decide (1 ≤ l.length) && decide (l.length ≤ 60) && fitP l
def voidT : ByteArray := ⟨#[97, 114, 101, 97, 32, 98, 97, 115, 101, 32, 98, 114, 32, 99, 111, 108, 32, 101, 109, 98, 101, 100, 32, 104, 114, 32, 105, 109, 103, 32, 105, 110, 112, 117, 116, 32, 108, 105, 110, 107, 32, 109, 101, 116, 97, 32, 115, 111, 117, 114, 99, 101, 32, 116, 114, 97, 99, 107, 32, 119, 98, 114]⟩


theorem among_void (l : List UInt8) : amongP voidT.data.toList l = voidP l := among_of (L := voidL) (by decide +kernel) (by decide +kernel)


end Go.Proofs.YthhoicmfmfeehaaGreat

namespace Go.Proofs.YthhoicmfmfeehaaGreat

/-- An item. -/
structure It where
  deep : Nat
  kind : Nat
  name : List UInt8
  attrs : List Atr
  data : List UInt8
/-- What is built so far: items, faults, the names that are open (the first opened first). -/
structure BS where
  items : List It
  flts : List Fl
  opn : List (List UInt8)
def isIn (L : List (List UInt8)) (n : List UInt8) : Bool := L.any (n == ·)
/-- How many stay open when the nearest that is sought is ended, unless a barred one is nearer; the last opened first. -/
def seekR (so ba : List UInt8 → Bool) : List (List UInt8) → Option Nat
  | [] => none
  | x :: r => if so x = true then some r.length else if ba x = true then none else seekR so ba r
def seek (so ba : List UInt8 → Bool) (l : List (List UInt8)) : Option Nat := seekR so ba l.reverse
def boundL : List (List UInt8) := [[116, 101, 109, 112, 108, 97, 116, 101], [98, 117, 116, 116, 111, 110], [111, 98, 106, 101, 99, 116]]
def headL : List (List UInt8) := [[104, 49], [104, 50], [104, 51], [104, 52], [104, 53], [104, 54]]
def looseL : List (List UInt8) := [[108, 105], [100, 100], [100, 116], [111, 112, 116, 105, 111, 110], [111, 112, 116, 103, 114, 111, 117, 112], [112]]
def BS.flt (b : BS) (k a : Nat) : BS := { b with flts := b.flts ++ [⟨k, a⟩] }
def BS.endTo (b : BS) : Option Nat → BS
  | none => b
  | some k => { b with opn := b.opn.take k }
def BS.fin (b : BS) (so ba : List UInt8 → Bool) : BS := b.endTo (seek so ba b.opn)
/-- Ended, with a fault if anything was. -/
def BS.finF (b : BS) (so ba : List UInt8 → Bool) (a : Nat) : BS := if (seek so ba b.opn).isSome = true then (b.fin so ba).flt 9 a else b
def anyN (_ : List UInt8) : Bool := true
def BS.first (b : BS) (n : List UInt8) (a : Nat) : BS :=
  if n = [108, 105] then b.fin (isIn [[108, 105]]) (isIn ([117, 108] :: [111, 108] :: boundL))
  else if n = [100, 100] ∨ n = [100, 116] then b.fin (isIn [[100, 100], [100, 116]]) (isIn ([100, 108] :: boundL))
  else if n = [111, 112, 116, 105, 111, 110] then b.fin (isIn [[111, 112, 116, 105, 111, 110]]) anyN
  else if n = [111, 112, 116, 103, 114, 111, 117, 112] then (b.fin (isIn [[111, 112, 116, 105, 111, 110]]) anyN).fin (isIn [[111, 112, 116, 103, 114, 111, 117, 112]]) anyN
  else if isIn headL n = true then b.finF (isIn headL) anyN a
  else if n = [97] ∨ n = [98, 117, 116, 116, 111, 110] then b.finF (isIn [n]) (isIn [[116, 101, 109, 112, 108, 97, 116, 101]]) a
  else b
def BS.para (b : BS) (n : List UInt8) : BS := if (blockP n || isIn [[108, 105], [100, 100], [100, 116]] n) = true then b.fin (isIn [[112]]) (isIn boundL) else b
/-- An attribute's name that may be written. -/
def barB (c : UInt8) : Bool := (decide (65 ≤ c.toNat) && decide (c.toNat ≤ 90)) || [0, 9, 10, 12, 32, 47, 62, 61].contains c
def writP (a : Atr) : Bool := decide (1 ≤ a.name.length) && decide (a.name.length ≤ 60) && (a.name.all fun c => !barB c) && decide (a.value.length ≤ 2000)
/-- Those that are kept; how many are not; 'ahead': the names that stood ahead. -/
def keepA : List (List UInt8) → List Atr → List Atr
  | _, [] => []
  | ahead, a :: r => if (writP a && !ahead.contains a.name) = true then a :: keepA (a.name :: ahead) r else keepA (a.name :: ahead) r
def BS.item (b : BS) (kind : Nat) (name : List UInt8) (attrs : List Atr) (data : List UInt8) : BS := { b with items := b.items ++ [⟨b.opn.length, kind, name, attrs, data⟩] }
def BS.flts' (b : BS) (n k a : Nat) : BS := { b with flts := b.flts ++ List.replicate n ⟨k, a⟩ }
def BS.open1 (b : BS) (n : List UInt8) : BS := if voidP n = false ∧ b.opn.length < 100 then { b with opn := b.opn ++ [n] } else b
def BS.start (b : BS) (n : List UInt8) (l : List Atr) (a : Nat) : BS :=
  if validP n = true then ((((b.first n a).para n).flts' (l.length - (keepA [] l).length) 5 a).item 1 n (keepA [] l) []).open1 n else b.flt 4 a
/-- What an end ends. -/
def soughtBy (n : List UInt8) : List UInt8 → Bool := if isIn headL n = true then isIn headL else isIn [n]
def barredBy (n : List UInt8) : List UInt8 → Bool := if n = [112] then isIn boundL else isIn [[116, 101, 109, 112, 108, 97, 116, 101]]
def BS.stop (b : BS) (n : List UInt8) (a : Nat) : BS :=
  match seek (soughtBy n) (barredBy n) b.opn with
  | none => (if n = [98, 114] ∨ n = [112] then b.item 1 n [] [] else b).flt 8 a
  | some k => let c := { b with opn := b.opn.take k }; if ((b.opn.drop k).head? == some n && ((b.opn.drop k).drop 1).all (isIn looseL)) = true then c else c.flt 9 a
def BS.take (b : BS) (t : Tk) : BS :=
  if t.kind = 1 then b.start t.name t.attrs t.pl
  else if t.kind = 2 then b.stop t.name t.pl
  else if t.kind = 3 then (if t.data = [] then b else b.item 2 [] [] t.data)
  else if t.kind = 4 then b.item 3 [] [] t.data
  else if t.kind = 5 then (if b.items = [] then b.item 6 t.name [] [] else b.flt 8 t.pl)
  else b
def lastA (l : List It) : Nat := match l.getLast? with
  | none => 0
  | some x => x.attrs.length
def BS.full (b : BS) : Bool := decide (b.items.length > 5000) || decide (lastA b.items > 50)
def BS.new : BS := ⟨[], [], []⟩
end Go.Proofs.YthhoicmfmfeehaaGreat

namespace Go.Proofs.YthhoicmfmfeehaaGreat
open Go.RowKit

set_option maxRecDepth 20000 in
set_option maxHeartbeats 4000000 in
theorem void_any (s : ByteArray) (K : Nat → Prop) (w : World) :
    Calls Tryz.prog 98 #[.string s] w fun e w' => e = .returned (.bool (voidP s.toList)) ∧ Kept K w w' := by
  go_enter Tryz.func98, Tryz.ntmps98
  go_wp2
  all_goals first | (simp_all; done) | (go_ret; exact ⟨by simp [voidP, voidL, *], Kept.refl _ _⟩)
end Go.Proofs.YthhoicmfmfeehaaGreat

namespace Go.Proofs.YthhoicmfmfeehaaGreat
open Go.RowKit
set_option linter.unusedVariables false

set_option maxRecDepth 20000 in
theorem len_any (p n cap : Nat) (ga : Option Addr) (w : World) (hc : w.cell? ⟨p, 1, none⟩ = some (.slice ga n cap)) :
    Calls Tryz.prog 17 #[.pointer (some ⟨p, 0, none⟩)] w fun e w' => e = .returned (.int .i64 (n : Int)) ∧ w' = w := by
  go_enter Tryz.func17, Tryz.ntmps17
  go_wp2
  go_ret
  exact ⟨rfl, rfl⟩
set_option maxRecDepth 20000 in
theorem room_any (p n cap L c : Nat) (ga : Option Addr) (w : World) (h0 : w.cell? ⟨p, 0, none⟩ = some (.int .i64 (L : Int))) (hc : w.cell? ⟨p, 1, none⟩ = some (.slice ga n cap)) (hL : L ≤ 1000000) (hn : n ≤ 1000000) :
    Calls Tryz.prog 63 #[.pointer (some ⟨p, 0, none⟩), .int .i64 (c : Int)] w fun e w' => e = .returned (.bool (decide (n + c ≤ L))) ∧ Kept (fun k => k < w.heap.size) w w' := by
  by_cases hd : n + c ≤ L
  · have e : decide ((L : Int) - (n : Int) ≥ (c : Int)) = true := decide_eq_true (by omega)
    rw [decide_eq_true hd]
    clear hd
    go_enter Tryz.func63, Tryz.ntmps63
    go_upto_region 1 with fail
    go_quiet (fail)
    go_wp2
    go_ret
    exact ⟨rfl, (Kept.refl _ w).drewN _⟩
  · have e : decide ((L : Int) - (n : Int) ≥ (c : Int)) = false := decide_eq_false (by omega)
    rw [decide_eq_false hd]
    clear hd
    go_enter Tryz.func63, Tryz.ntmps63
    go_upto_region 1 with fail
    go_quiet (fail)
    go_wp2
    go_ret
    exact ⟨rfl, (Kept.refl _ w).drewN _⟩
set_option maxRecDepth 20000 in
theorem isElement_any (b o kd : Nat) (S T : ByteArray) (w : World) (h0 : w.cell? ⟨b, o, none⟩ = some (.int .u8 (kd : Int))) (h1 : w.cell? ⟨b, o + 1, none⟩ = some (.string S)) :
    Calls Tryz.prog 61 #[.pointer (some ⟨b, o, none⟩), .string T] w fun e w' => e = .returned (.bool (decide (kd = 1) && S.toList == T.toList)) ∧ w' = w := by
  by_cases c : kd = 1
  · subst c
    obtain ⟨q, hq⟩ : ∃ q, (S.toList == T.toList) = q := ⟨_, rfl⟩
    rw [hq]
    cases q
    all_goals
      go_enter Tryz.func61, Tryz.ntmps61
      go_wp2
      go_ret
      exact ⟨rfl, rfl⟩
  · have e : ((kd : Int) == 1) = false := by
      have : (kd : Int) ≠ 1 := by omega
      simpa using this
    rw [decide_eq_false c]
    clear c
    go_enter Tryz.func61, Tryz.ntmps61
    go_wp2
    go_ret
    exact ⟨rfl, rfl⟩
set_option maxRecDepth 20000 in
theorem isContent_any (b o kd : Nat) (z : Int) (w : World) (h0 : w.cell? ⟨b, o, none⟩ = some (.int .u8 (kd : Int))) (h1 : w.cell? ⟨b, o + 10, none⟩ = some (.int .i64 z)) :
    Calls Tryz.prog 111 #[.pointer (some ⟨b, o, none⟩)] w fun e w' => e = .returned (.bool (decide (kd = 4) && decide (z ≠ -1))) ∧ w' = w := by
  by_cases c : kd = 4
  · subst c
    by_cases c2 : z = -1
    · subst c2
      go_enter Tryz.func111, Tryz.ntmps111
      go_wp2
      go_ret
      exact ⟨rfl, rfl⟩
    · have e : (z != -1) = true := by simpa using c2
      rw [decide_eq_true c2]
      clear c2
      go_enter Tryz.func111, Tryz.ntmps111
      go_wp2
      go_ret
      exact ⟨rfl, rfl⟩
  · have e : ((kd : Int) == 4) = false := by
      have : (kd : Int) ≠ 4 := by omega
      simpa using this
    rw [decide_eq_false c]
    clear c
    go_enter Tryz.func111, Tryz.ntmps111
    go_wp2
    go_ret
    exact ⟨rfl, rfl⟩
def holdB (x : Nd) : Bool := if x.kind = 1 then !voidP x.name else decide (x.kind = 4) || decide (x.kind = 5)
set_option maxRecDepth 20000 in
theorem mayHold_any (b o : Nat) (x : Nd) (w : World) (h0 : w.cell? ⟨b, o, none⟩ = some (.int .u8 (x.kind : Int))) (h1 : w.cell? ⟨b, o + 1, none⟩ = some (sv x.name)) :
    Calls Tryz.prog 94 #[.pointer (some ⟨b, o, none⟩)] w fun e w' => e = .returned (.bool (holdB x)) ∧ Kept (fun k => k < w.heap.size) w w' := by
  obtain ⟨kd, hk⟩ : ∃ k, x.kind = k := ⟨_, rfl⟩
  unfold holdB
  rw [hk] at h0 ⊢
  obtain ⟨S, hS⟩ : ∃ S : ByteArray, (⟨x.name.toArray⟩ : ByteArray) = S := ⟨_, rfl⟩
  have hl : x.name = S.toList := by rw [ByteArray.toList_eq, ← hS]
  rw [hl]
  replace h1 : w.cell? ⟨b, o + 1, none⟩ = some (.string S) := by rw [← hS]; exact h1
  have rv := void_any S (fun k => k < w.heap.size) w
  obtain ⟨v, hv⟩ : ∃ v, voidP S.toList = v := ⟨_, rfl⟩
  rw [hv] at rv ⊢
  clear hl hS hv hk
  by_cases c1 : kd = 1
  · subst c1
    cases v
    all_goals
      go_enter Tryz.func94, Tryz.ntmps94
      go_wp2_with fail
      refine rv.mono ?_
      rintro e w1 ⟨rfl, k1⟩
      clear rv
      go_wp2
      go_ret
      exact ⟨rfl, k1⟩
  · have e1 : ((kd : Int) == 1) = false := by
      have : (kd : Int) ≠ 1 := by omega
      simpa using this
    rw [if_neg c1]
    clear rv
    by_cases c4 : kd = 4
    · subst c4
      go_enter Tryz.func94, Tryz.ntmps94
      go_wp2
      go_ret
      exact ⟨rfl, Kept.refl _ _⟩
    · have e4 : ((kd : Int) == 4) = false := by
        have : (kd : Int) ≠ 4 := by omega
        simpa using this
      by_cases c5 : kd = 5
      · subst c5
        go_enter Tryz.func94, Tryz.ntmps94
        go_wp2
        go_ret
        exact ⟨rfl, Kept.refl _ _⟩
      · have e5 : ((kd : Int) == 5) = false := by
          have : (kd : Int) ≠ 5 := by omega
          simpa using this
        rw [decide_eq_false c4, decide_eq_false c5]
        clear c1 c4 c5
        go_enter Tryz.func94, Tryz.ntmps94
        go_wp2
        go_ret
        exact ⟨rfl, Kept.refl _ _⟩
def moveB (S : Dm) (i : Nat) : Bool := (decide (i ≠ 0) && decide ((S.nd i).kind ≠ 5)) && !(decide ((S.nd i).kind = 4) && decide ((S.nd i).host ≠ -1))
set_option maxRecDepth 20000 in
theorem mayMove_any (K : Nat → Prop) (p g cap i : Nat) (S : Dm) (w : World) (h : DY K w p S (some ⟨g, 0, none⟩) cap) (hi : i < S.n) (hn : S.n ≤ 1000000000) :
    Calls Tryz.prog 95 #[.pointer (some ⟨p, 0, none⟩), .int .i64 (i : Int)] w fun e w' => e = .returned (.bool (moveB S i)) ∧ w' = w := by
  obtain ⟨aa, ac, hc, -⟩ := h.cell hi
  have c0 : w.cell? ⟨g, i * 22, none⟩ = some (.int .u8 ((S.nd i).kind : Int)) := hc 0 _ rfl
  have c10 : w.cell? ⟨g, i * 22 + 10, none⟩ = some (.int .i64 (S.nd i).host) := hc 10 _ rfl
  have c1 := h.c1
  have r := isContent_any g (i * 22) (S.nd i).kind (S.nd i).host w c0 c10
  unfold moveB
  obtain ⟨kd, hk⟩ : ∃ k, (S.nd i).kind = k := ⟨_, rfl⟩
  obtain ⟨z, hz⟩ : ∃ k, (S.nd i).host = k := ⟨_, rfl⟩
  obtain ⟨n, hne⟩ : ∃ n, S.n = n := ⟨_, rfl⟩
  rw [hk, hz] at r
  rw [hk] at c0
  rw [hne] at c1 hi hn
  rw [hk, hz]
  obtain ⟨q, hq⟩ : ∃ q, (decide (kd = 4) && decide (z ≠ -1)) = q := ⟨_, rfl⟩
  rw [hq] at r ⊢
  clear h hc c10 hk hz hne hq
  by_cases ci : i = 0
  · subst ci
    clear r
    go_enter Tryz.func95, Tryz.ntmps95
    go_wp2
    go_ret
    exact ⟨rfl, rfl⟩
  · have e1 : ((i : Int) != 0) = true := by simp; omega
    rw [decide_eq_true (show i ≠ 0 from ci)]
    by_cases c5 : kd = 5
    · subst c5
      clear r ci
      go_enter Tryz.func95, Tryz.ntmps95
      go_wp2
      go_ret
      exact ⟨rfl, rfl⟩
    · have e5 : ((kd : Int) != 5) = true := by
        have : (kd : Int) ≠ 5 := by omega
        simpa using this
      rw [decide_eq_true (show kd ≠ 5 from c5)]
      clear ci c5
      go_enter Tryz.func95, Tryz.ntmps95
      go_wp2_with (go_at_call 111; refine r.mono ?_; rintro e w2 ⟨rfl, rfl⟩)
      go_ret
      exact ⟨rfl, rfl⟩
end Go.Proofs.YthhoicmfmfeehaaGreat

namespace Go.Proofs.YthhoicmfmfeehaaGreat
open Go.RowKit



theorem small_any (c : UInt8) (K : Nat → Prop) (w : World) :
    Calls Tryz.prog 121 #[.int .u8 c.toNat] w fun e w' => e = .returned (.bool (smallP c)) ∧ Kept K w w' := by
  go_enter Tryz.func121, Tryz.ntmps121
  go_wp2
  all_goals go_ret
  all_goals refine ⟨congrArg (fun b => Ending.returned (.bool b)) ?_, Kept.refl _ _⟩
  all_goals unfold smallP
  · rename_i h
    have h' : 97 ≤ c.toNat := by omega
    simp [h']
    omega
  · rename_i h
    have h' : ¬ 97 ≤ c.toNat := by omega
    simp [h']

theorem inner_any (c : UInt8) (K : Nat → Prop) (w : World) :
    Calls Tryz.prog 122 #[.int .u8 c.toNat] w fun e w' => e = .returned (.bool (innerP c)) ∧ Kept K w w' := by
  go_enter Tryz.func122, Tryz.ntmps122
  go_wp2
  all_goals go_ret
  all_goals refine ⟨congrArg (fun b => Ending.returned (.bool b)) ?_, Kept.refl _ _⟩
  all_goals unfold innerP
  all_goals rw [Bool.eq_iff_iff]
  all_goals simp
  all_goals omega

/-- What is barred at a place. -/
def barP (s : ByteArray) (i : Nat) : Bool := if h : i < s.size then !smallP s[i] && (i == 0 || !innerP s[i]) else true

set_option maxRecDepth 20000 in
theorem bar_any (s : ByteArray) (i b : Nat) (K : Nat → Prop) (w : World) (hc : w.cell? ⟨b, 0, none⟩ = some (.string s)) (hi : i < s.size) :
    Calls Tryz.prog 120 #[.int .i64 i, .pointer (some ⟨b, 0, none⟩)] w fun e w' => e = .returned (.bool (barP s i)) ∧ Kept K w w' := by
  have hb : barP s i = (!smallP s[i] && (i == 0 || !innerP s[i])) := by unfold barP; rw [dif_pos hi]
  rw [hb]
  have h1 := fun X => small_any s[i] K X
  have h2 := fun X => inner_any s[i] K X
  clear hb
  obtain ⟨a, ha⟩ : ∃ a, smallP s[i] = a := ⟨_, rfl⟩
  rw [ha] at h1 ⊢
  obtain ⟨n, hn⟩ : ∃ a, innerP s[i] = a := ⟨_, rfl⟩
  rw [hn] at h2 ⊢
  clear ha hn
  cases a with
  | true =>
    go_enter Tryz.func120, Tryz.ntmps120
    go_wp2_with fail
    refine (h1 _).mono ?_
    rintro e w1 ⟨rfl, hk1⟩
    go_wp2
    go_ret
    exact ⟨by simp, hk1⟩
  | false =>
    by_cases h0 : i = 0
    · subst h0
      go_enter Tryz.func120, Tryz.ntmps120
      go_wp2_with fail
      refine (h1 _).mono ?_
      rintro e w1 ⟨rfl, hk1⟩
      go_wp2
      go_ret
      exact ⟨by simp, hk1⟩
    · have e0 : ((i : Int) == 0) = false := by simp; omega
      have e1 : (i == 0) = false := by simp; omega
      rw [e1]
      go_enter Tryz.func120, Tryz.ntmps120
      go_wp2_with fail
      refine (h1 _).mono ?_
      rintro e w1 ⟨rfl, hk1⟩
      go_wp2_with fail
      refine (h2 _).mono ?_
      rintro e w2 ⟨rfl, hk2⟩
      go_wp2
      go_ret
      exact ⟨by simp, hk1.trans hk2⟩

theorem barP_at (s : ByteArray) (i : Nat) : barP s i = match s.data.toList[i]? with
    | some c => !smallP c && (i == 0 || !innerP c)
    | none => true := by
  unfold barP
  by_cases h : i < s.size
  · have h' : i < s.data.toList.length := by simpa using h
    rw [dif_pos h, List.getElem?_eq_getElem h']
    rfl
  · have h' : s.data.toList.length ≤ i := by
      have : ¬ i < s.data.toList.length := by simpa using h
      omega
    rw [dif_neg h, List.getElem?_eq_none h']

theorem bar_none_fit (s : ByteArray) (h : ∀ i, i < s.size → barP s i = false) : fitP s.toList = true := by
  rw [ByteArray.toList_eq]
  have h' : ∀ i, i < s.data.toList.length → barP s i = false := fun i hi => h i (by simpa using hi)
  clear h
  simp only [barP_at] at h'
  generalize s.data.toList = l at h'
  cases l with
  | nil => rfl
  | cons c r =>
    have h0 := h' 0 (by simp)
    simp at h0
    simp only [fitP, h0, Bool.true_and, List.all_eq_true]
    intro x hx
    obtain ⟨j, hj, rfl⟩ := List.mem_iff_getElem.1 hx
    have hj1 := h' (j + 1) (by simpa using hj)
    rw [List.getElem?_cons_succ, List.getElem?_eq_getElem hj] at hj1
    simp only [fineP]
    cases hs : smallP r[j] <;> cases hi : innerP r[j] <;> simp [hs, hi] at hj1 ⊢

theorem bar_fit (s : ByteArray) (i : Nat) (hi : i < s.size) (h : barP s i = true) : fitP s.toList = false := by
  rw [ByteArray.toList_eq]
  have hi' : i < s.data.toList.length := by simpa using hi
  simp only [barP_at] at h
  generalize s.data.toList = l at h hi'
  cases l with
  | nil => simp at hi'
  | cons c r =>
    cases i with
    | zero =>
      simp at h
      simp [fitP, h]
    | succ j =>
      have hj : j < r.length := by simpa using hi'
      rw [List.getElem?_cons_succ, List.getElem?_eq_getElem hj] at h
      simp at h
      simp only [fitP, Bool.and_eq_false_iff, List.all_eq_false]
      refine .inr ⟨r[j], List.getElem_mem hj, ?_⟩
      simp [fineP, h]

set_option maxRecDepth 20000 in
set_option maxHeartbeats 1000000 in
theorem valid_any (s : ByteArray) (K : Nat → Prop) (w : World) (hK : ∀ k, K k → k < w.heap.size) :
    Calls Tryz.prog 112 #[.string s] w fun e w' => e = .returned (.bool (validP s.toList)) ∧ Kept K w w' := by
  have hmf : ∀ (fn : Fn) (first cap : Array Value) (w : World), (Instr.makeFunc fn first cap).run Tryz.prog w = .ok (.func fn first cap) w := fun _ _ _ _ => rfl
  have kk : ∀ o, Kept K w (w.alloc o) := fun o => (Kept.refl K w).alloc hK o
  have hl : s.toList.length = s.size := by rw [ByteArray.toList_eq]; rfl
  by_cases g0 : s.size = 0
  · have e0 : (s.toList == []) = true := by
      simpa using List.eq_nil_of_length_eq_zero (hl.trans g0)
    have hv : validP s.toList = false := by
      unfold validP
      rw [hl, g0]
      rfl
    rw [hv]
    clear hv hl
    go_enter Tryz.func112, Tryz.ntmps112
    go_wp2
    go_ret
    exact ⟨rfl, kk _⟩
  · have e0 : (s.toList == []) = false := by
      rw [Bool.eq_false_iff]
      intro h
      have : s.toList = [] := by simpa using h
      rw [this] at hl
      exact g0 hl.symm
    by_cases g1 : s.size ≤ 60
    · have e1 : decide ((s.size : Int) > 60) = false := by simp; omega
      have hv : validP s.toList = fitP s.toList := by
        unfold validP
        rw [hl, decide_eq_true g1, decide_eq_true (show 1 ≤ s.size by omega)]
        rfl
      rw [hv]
      clear hv hl
      go_enter Tryz.func112, Tryz.ntmps112
      go_wp2_with fail
      go_loopw [15, 4, 16, 17, 18, 19, 20, 21] (fun i _ _ _ _ _ _ _ wr => ∃ k : Nat, k ≤ s.size ∧ i = .int .i64 k ∧ Kept K w wr ∧ wr.cell? ⟨w.heap.size, 0, none⟩ = some (.string s) ∧ w.heap.size < wr.heap.size ∧ ∀ j, j < k → barP s j = false) (fun i _ _ _ _ _ _ _ _ => s.size - (intOf i).toNat)
      case atStart => exact ⟨0, Nat.zero_le _, rfl, kk _, by simp, by simp, fun j hj => absurd hj (Nat.not_lt_zero _)⟩
      case round => 
        obtain ⟨k, hk, rfl, hkp, hcell, hsz, hj⟩ := hrel
        by_cases hlt : k < s.size
        · have hbar := bar_any s k w.heap.size (fun k => K k ∨ k = w.heap.size) wr hcell hlt
          by_cases hbk : barP s k = true
          · have hv : Hid (fitP s.toList = false) := bar_fit s k hlt hbk
            rw [hbk] at hbar
            clear hbk
            go_wp2_with fail
            refine hbar.mono ?_
            rintro e w1 ⟨rfl, hk1⟩
            go_wp2
            go_ret
            exact ⟨by rw [hv.out]; rfl, hkp.trans (hk1.mono fun _ h => .inl h)⟩
          · have hbk : barP s k = false := by simpa using hbk
            rw [hbk] at hbar
            go_wp2_with fail
            refine hbar.mono ?_
            rintro e w1 ⟨rfl, hk1⟩
            go_wp2
            go_roundw
            case rel =>
              refine ⟨k + 1, by omega, by go_num, hkp.trans (hk1.mono fun _ h => .inl h), ?_, Nat.lt_of_lt_of_le hsz hk1.size, ?_⟩
              · rw [hk1.cell (.inr rfl)]
                exact hcell
              · intro j hj'
                rcases Nat.lt_succ_iff_lt_or_eq.1 hj' with h | rfl
                · exact hj j h
                · exact hbk
            case measure => simp [intOf]; omega
        · have hv : Hid (fitP s.toList = true) := bar_none_fit s fun i hi => hj i (by omega)
          go_wp2
          go_ret
          exact ⟨by rw [hv.out]; rfl, hkp⟩
    · have e1 : decide ((s.size : Int) > 60) = true := by simp; omega
      have hv : validP s.toList = false := by
        unfold validP
        rw [hl, decide_eq_false g1]
        simp
      rw [hv]
      clear hv hl
      go_enter Tryz.func112, Tryz.ntmps112
      go_wp2
      go_ret
      exact ⟨rfl, kk _⟩
end Go.Proofs.YthhoicmfmfeehaaGreat
