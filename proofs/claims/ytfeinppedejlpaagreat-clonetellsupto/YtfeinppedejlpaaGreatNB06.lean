/-
 Steps through a region that draws its order (of no program).; The tree's builder as plain functions on lists (of no program).; What names.Void, Raw, Soft, Block and isTaken answer.; What names.Soft and names.Valid answer, with the functions that Valid calls.; Which attributes may be written: isAttri
-/
import Derived.Test.YtfeinppedejlpaaGreatNB02
import Derived.Test.YtfeinppedejlpaaGreatNB04
import Derived.Test.YtfeinppedejlpaaGreatProg
import Derived.Test.YtfeinppedejlpaaGreatNB01
import Derived.Deep.RegionHeld3
import Derived.Deep.QuietTactic
import Derived.BigQuiet
import Derived.Deep.LoopGhost
import Derived.Deep.Cut
import Derived.Laws.StandIn
import Derived.Laws.Externs
import Derived.Laws.Runes
import Derived.Laws.EntriesVeiled
import Derived.Maps.OwnOps
import Derived.Maps.Views
namespace Go.Proofs.YtfeinppedejlpaaGreat
set_option linter.unusedVariables false
set_option maxRecDepth 100000
set_option maxHeartbeats 8000000
section
theorem sA {α : Type} {xs : List α} {i : Nat} {v : α} : xs.toArray.setIfInBounds i v = (xs.set i v).toArray := List.setIfInBounds_toArray ..
theorem s0 {α : Type} {a b : α} {l : List α} : (a :: l).set 0 b = b :: l := List.set_cons_zero ..
theorem s1 {α : Type} {a b : α} {l : List α} {n : Nat} : (a :: l).set (n + 1) b = a :: l.set n b := List.set_cons_succ ..
section
variable {P : Program} {ops : Array Oper} {Q : Exit -> Act -> World -> Prop} {md : Region.Mode} {S : World -> Prop} {fuel : Nat} {listed : Array Bool} {a : Act} {w : World}
theorem tkH (i d : Nat) (v : Value) {o : Oper} (hi : ops[i]? = some o) (hd : o.dst = some d) (h3 : (Region.noSelect ops && Region.free md ops listed i && (Region.ready md ops listed).contains i) = true)
  (hw : Region.wanted o (yielded ops a.tmps) = true) (hy : ∀ X, S X -> (execOp a.eval o).run P X = .ok (.value v) X) (hQ : ∀ c a w, Q (.panic c) (a.put o.dst v) w -> Q (.panic c) a w) (hS : S w)
  (h : wpAnyH P md ops Q S fuel (listed.setIfInBounds i true) (a.put (some d) v) w) : wpAnyH P md ops Q S (fuel + 1) listed a w := by
 simp only [Bool.and_eq_true] at h3
 exact wpAnyH_take hi h3.1.1 h3.1.2 h3.2 hQ (Or.inl ⟨hw, hy⟩) hS (by rw [hd]; exact h)
theorem clH (i d : Nat) (f : FuncId) (vs : Array Value) {o : Oper} {args : Array Operand} {tys : Array TypeId} (hi : ops[i]? = some o) (hd : o.dst = some d) (hr : Region.ready md ops listed = [i]) (hw : Region.wanted o (yielded ops a.tmps) = true)
  (ho : o.op = .call { callee := .value (.func f), args := args, argTypes := tys }) (hv : args.map a.eval = vs) (hE : (callFunc f vs).run P w = .ok (.enter f vs) w) {R : Ending -> World -> Prop} (hc : Calls P f vs w R)
  (h : ∀ e w', R e w' -> ∃ v, e = .returned v /\ S w' /\ (S w' -> wpAnyH P md ops Q S fuel (listed.setIfInBounds i true) (a.put (some d) v) w')) : wpAnyH P md ops Q S (fuel + 1) listed a w := by
 refine wpAnyH_ready hr (by simp) (AllReadyH.cons hi (fun Kx hK => ?_) AllReadyH.nil)
 rw [if_pos hw]
 have e : (execOp a.eval o).run P w = .ok (.enter f vs) w := by
  simp [execOp, ho, resolve, Deferred.ofValue, Act.eval, invoke, hv, hE]
 unfold Oper.wp
 rw [e, Oper.upon_enter]
 refine hc.mono ?_
 intro e w' hR
 obtain ⟨v, rfl, hs, hk⟩ := h e w' hR
 exact hK.out _ _ hs (by rw [hd]; exact hk)
end
end
section
def zbs (c : UInt8) : Bool := (decide (65 <= c.toNat) && decide (c.toNat <= 90)) || [0, 9, 10, 12, 32, 47, 62, 61].contains c
def zbg (a : Atr) : Bool := decide (1 <= a.name.length) && decide (a.name.length <= 60) && (a.name.all fun c => !zbs c) && decide (a.value.length <= 2000)
end
section
open Go.RowKit
theorem zjd (s : ByteArray) (K : Nat -> Prop) (w : World) :
  Calls Tryz.prog 211 #[.string s] w fun e w' => e = .returned (.bool (ze6 s.toList)) /\ Kept K w w' := by
 go_enter Tryz.func211, Tryz.ntmps211
 go_wp2
 all_goals first | (simp_all; done) | (go_ret; exact ⟨by simp [ze6, zpt, *], Kept.refl _ _⟩)
end
section
open Go.RowKit
theorem zmf (c : UInt8) (K : Nat -> Prop) (w : World) :
  Calls Tryz.prog 272 #[.int .u8 c.toNat] w fun e w' => e = .returned (.bool (zc4 c)) /\ Kept K w w' := by
 go_enter Tryz.func272, Tryz.ntmps272
 go_wp2
 all_goals go_ret
 all_goals refine ⟨congrArg (fun b => Ending.returned (.bool b)) ?_, Kept.refl _ _⟩
 all_goals unfold zc4
 ·rename_i h
  have h' : 97 <= c.toNat := by omega
  simp [h']
  omega
 ·rename_i h
  have h' : ¬ 97 <= c.toNat := by omega
  simp [h']
theorem zm2 (c : UInt8) (K : Nat -> Prop) (w : World) :
  Calls Tryz.prog 273 #[.int .u8 c.toNat] w fun e w' => e = .returned (.bool (zdp c)) /\ Kept K w w' := by
 go_enter Tryz.func273, Tryz.ntmps273
 go_wp2
 all_goals go_ret
 all_goals refine ⟨congrArg (fun b => Ending.returned (.bool b)) ?_, Kept.refl _ _⟩
 all_goals unfold zdp
 all_goals rw [Bool.eq_iff_iff]
 all_goals simp
 all_goals omega
def zjk (s : ByteArray) (i : Nat) : Bool := if h : i < s.size then !zc4 s[i] && (i == 0 || !zdp s[i]) else true
theorem zpv (s : ByteArray) (i b : Nat) (K : Nat -> Prop) (w : World) (hc : w.cell? ⟨b, 0, none⟩ = some (.string s)) (hi : i < s.size) :
  Calls Tryz.prog 271 #[.int .i64 i, .pointer (some ⟨b, 0, none⟩)] w fun e w' => e = .returned (.bool (zjk s i)) /\ Kept K w w' := by
 have hb : zjk s i = (!zc4 s[i] && (i == 0 || !zdp s[i])) := by unfold zjk; rw [dif_pos hi]
 rw [hb]
 have h1 := fun X => zmf s[i] K X
 have h2 := fun X => zm2 s[i] K X
 clear hb
 obtain ⟨a, ha⟩ : ∃ a, zc4 s[i] = a := ⟨_, rfl⟩
 rw [ha] at h1 ⊢
 obtain ⟨n, hn⟩ : ∃ a, zdp s[i] = a := ⟨_, rfl⟩
 rw [hn] at h2 ⊢
 clear ha hn
 cases a with
 | true =>
  go_enter Tryz.func271, Tryz.ntmps271
  go_wp2_with fail
  refine (h1 _).mono ?_
  rintro e w1 ⟨rfl, hk1⟩
  go_wp2
  go_ret
  exact ⟨by simp, hk1⟩
 | false =>
  by_cases h0 : i = 0
  ·subst h0
   go_enter Tryz.func271, Tryz.ntmps271
   go_wp2_with fail
   refine (h1 _).mono ?_
   rintro e w1 ⟨rfl, hk1⟩
   go_wp2
   go_ret
   exact ⟨by simp, hk1⟩
  ·have e0 : ((i : Int) == 0) = false := by simp; omega
   have e1 : (i == 0) = false := by simp; omega
   rw [e1]
   go_enter Tryz.func271, Tryz.ntmps271
   go_wp2_with fail
   refine (h1 _).mono ?_
   rintro e w1 ⟨rfl, hk1⟩
   go_wp2_with fail
   refine (h2 _).mono ?_
   rintro e w2 ⟨rfl, hk2⟩
   go_wp2
   go_ret
   exact ⟨by simp, hk1.trans hk2⟩
theorem zm0 (s : ByteArray) (i : Nat) : zjk s i = match s.data.toList[i]? with
  | some c => !zc4 c && (i == 0 || !zdp c)
  | none => true := by
 unfold zjk
 by_cases h : i < s.size
 ·have h' : i < s.data.toList.length := by simpa using h
  rw [dif_pos h, List.getElem?_eq_getElem h']
  rfl
 ·have h' : s.data.toList.length <= i := by
   have : ¬ i < s.data.toList.length := by simpa using h
   omega
  rw [dif_neg h, List.getElem?_eq_none h']
theorem zez (s : ByteArray) (h : ∀ i, i < s.size -> zjk s i = false) : zos s.toList = true := by
 rw [ByteArray.toList_eq]
 have h' : ∀ i, i < s.data.toList.length -> zjk s i = false := fun i hi => h i (by simpa using hi)
 clear h
 simp only [zm0] at h'
 generalize s.data.toList = l at h'
 cases l with
 | nil => rfl
 | cons c r =>
  have h0 := h' 0 (by simp)
  simp at h0
  simp only [zos, h0, Bool.true_and, List.all_eq_true]
  intro x hx
  obtain ⟨j, hj, rfl⟩ := List.mem_iff_getElem.1 hx
  have hj1 := h' (j + 1) (by simpa using hj)
  rw [List.getElem?_cons_succ, List.getElem?_eq_getElem hj] at hj1
  simp only [zqb]
  cases hs : zc4 r[j] <;> cases hi : zdp r[j] <;> simp [hs, hi] at hj1 ⊢
theorem zm7 (s : ByteArray) (i : Nat) (hi : i < s.size) (h : zjk s i = true) : zos s.toList = false := by
 rw [ByteArray.toList_eq]
 have hi' : i < s.data.toList.length := by simpa using hi
 simp only [zm0] at h
 generalize s.data.toList = l at h hi'
 cases l with
 | nil => simp at hi'
 | cons c r =>
  cases i with
  | zero =>
   simp at h
   simp [zos, h]
  | succ j =>
   have hj : j < r.length := by simpa using hi'
   rw [List.getElem?_cons_succ, List.getElem?_eq_getElem hj] at h
   simp at h
   simp only [zos, Bool.and_eq_false_iff, List.all_eq_false]
   refine .inr ⟨r[j], List.getElem_mem hj, ?_⟩
   simp [zqb, h]
theorem znv (s : ByteArray) (K : Nat -> Prop) (w : World) (hK : ∀ k, K k -> k < w.heap.size) :
  Calls Tryz.prog 252 #[.string s] w fun e w' => e = .returned (.bool (za6 s.toList)) /\ Kept K w w' := by
 have hmf : ∀ (fn : Fn) (first cap : Array Value) (w : World), (Instr.makeFunc fn first cap).run Tryz.prog w = .ok (.func fn first cap) w := fun _ _ _ _ => rfl
 have kk : ∀ o, Kept K w (w.alloc o) := fun o => (Kept.refl K w).alloc hK o
 have hl : s.toList.length = s.size := by rw [ByteArray.toList_eq]; rfl
 by_cases g0 : s.size = 0
 ·have e0 : (s.toList == []) = true := by
   simpa using List.eq_nil_of_length_eq_zero (hl.trans g0)
  have hv : za6 s.toList = false := by
   unfold za6
   rw [hl, g0]
   rfl
  rw [hv]
  clear hv hl
  go_enter Tryz.func252, Tryz.ntmps252
  go_wp2
  go_ret
  exact ⟨rfl, kk _⟩
 ·have e0 : (s.toList == []) = false := by
   rw [Bool.eq_false_iff]
   intro h
   have : s.toList = [] := by simpa using h
   rw [this] at hl
   exact g0 hl.symm
  by_cases g1 : s.size <= 60
  ·have e1 : decide ((s.size : Int) > 60) = false := by simp; omega
   have hv : za6 s.toList = zos s.toList := by
    unfold za6
    rw [hl, decide_eq_true g1, decide_eq_true (show 1 <= s.size by omega)]
    rfl
   rw [hv]
   clear hv hl
   go_enter Tryz.func252, Tryz.ntmps252
   go_wp2_with fail
   go_loopw [15, 4, 16, 17, 18, 19, 20, 21] (fun i _ _ _ _ _ _ _ wr => ∃ k : Nat, k <= s.size /\ i = .int .i64 k /\ Kept K w wr /\ wr.cell? ⟨w.heap.size, 0, none⟩ = some (.string s) /\ w.heap.size < wr.heap.size /\ ∀ j, j < k -> zjk s j = false) (fun i _ _ _ _ _ _ _ _ => s.size - (intOf i).toNat)
   case atStart => exact ⟨0, Nat.zero_le _, rfl, kk _, by simp, by simp, fun j hj => absurd hj (Nat.not_lt_zero _)⟩
   case round =>
    obtain ⟨k, hk, rfl, hkp, hcell, hsz, hj⟩ := hrel
    by_cases hlt : k < s.size
    ·have hbar := zpv s k w.heap.size (fun k => K k \/ k = w.heap.size) wr hcell hlt
     by_cases hbk : zjk s k = true
     ·have hv : Hid (zos s.toList = false) := zm7 s k hlt hbk
      rw [hbk] at hbar
      clear hbk
      go_wp2_with fail
      refine hbar.mono ?_
      rintro e w1 ⟨rfl, hk1⟩
      go_wp2
      go_ret
      exact ⟨by rw [hv.out]; rfl, hkp.trans (hk1.mono fun _ h => .inl h)⟩
     ·have hbk : zjk s k = false := by simpa using hbk
      rw [hbk] at hbar
      go_wp2_with fail
      refine hbar.mono ?_
      rintro e w1 ⟨rfl, hk1⟩
      go_wp2
      go_roundw
      case rel =>
       refine ⟨k + 1, by omega, by go_num, hkp.trans (hk1.mono fun _ h => .inl h), ?_, ltl hsz hk1.size, ?_⟩
       ·rw [hk1.cell (.inr rfl)]
        exact hcell
       ·intro j hj'
        rcases Nat.lt_succ_iff_lt_or_eq.1 hj' with h | rfl
        ·exact hj j h
        ·exact hbk
      case measure => simp [intOf]; omega
    ·have hv : Hid (zos s.toList = true) := zez s fun i hi => hj i (by omega)
     go_wp2
     go_ret
     exact ⟨by rw [hv.out]; rfl, hkp⟩
  ·have e1 : decide ((s.size : Int) > 60) = true := by simp; omega
   have hv : za6 s.toList = false := by
    unfold za6
    rw [hl, decide_eq_false g1]
    simp
   rw [hv]
   clear hv hl
   go_enter Tryz.func252, Tryz.ntmps252
   go_wp2
   go_ret
   exact ⟨rfl, kk _⟩
end
section
open Go.RowKit Go.Maps Go.WideMaps
def zqx : ByteArray := ⟨#[0, 9, 10, 12, 32, 47, 62, 61, 65, 66, 67, 68, 69, 70, 71, 72, 73, 74, 75, 76, 77, 78, 79, 80, 81, 82, 83, 84, 85, 86, 87, 88, 89, 90]⟩
theorem zpy : ∀ n : Nat, n < 256 -> (zqx.data.toList.any (· == UInt8.ofNat n)) = zbs (UInt8.ofNat n) := by decide
theorem zq2 (c : UInt8) : (zqx.data.toList.any (· == c)) = zbs c := by
 have h := zpy c.toNat c.toNat_lt
 rw [UInt8.ofNat_toNat] at h
 exact h
theorem zqc (s : ByteArray) (c : Int) (w : World) : (callFunc 293 #[.string s, .int .u8 c]).run Tryz.prog w = .ok (.value (.int .i64 (firstIdx s c.toNat.toUInt8))) w := by
 rw [run_callFunc_indexByte Tryz.func293 (by kernel_rfl) (by kernel_rfl) (by kernel_rfl) (by kernel_rfl), run_indexByte_string]
 rfl
theorem zrj (s : ByteArray) (c : Int) (w : World) :
  Calls Tryz.prog 277 #[.string s, .int .u8 c] w fun e w' => e = .returned (.int .i64 (firstIdx s c.toNat.toUInt8)) /\ w' = w := by
 have h1 := fun X => zqc s c X
 go_enter Tryz.func277, Tryz.ntmps277
 go_wp2_with fail
 go_ret
 exact ⟨rfl, rfl⟩
theorem zg5 (s : ByteArray) (c : Int) (w : World) :
  Calls Tryz.prog 255 #[.string s, .int .u8 c] w fun e w' => e = .returned (.int .i64 (firstIdx s c.toNat.toUInt8)) /\ w' = w := by
 have h1 := zrj s c w
 go_enter Tryz.func255, Tryz.ntmps255
 go_wp2_with fail
 refine h1.mono ?_
 rintro e w1 ⟨rfl, rfl⟩
 go_wp2
 go_ret
 exact ⟨rfl, rfl⟩
def zhn (l : List UInt8) : Bool := decide (1 <= l.length) && decide (l.length <= 60) && (l.all fun c => !zbs c)
theorem zdy (s : ByteArray) (w : World) :
  Calls Tryz.prog 291 #[.string s] w fun e w' => e = .returned (.bool (zhn s.toList)) /\ w' = w := by
 have hsz : s.toList.length = s.size := by rw [ByteArray.toList_eq]; rfl
 by_cases h0 : (s.toList == []) = true
 ·have e : zhn s.toList = false := by
   have : s.toList = [] := by simpa using h0
   rw [this]; rfl
  rw [e]
  clear hsz
  go_enter Tryz.func291, Tryz.ntmps291
  go_wp2
  go_ret
  exact ⟨rfl, rfl⟩
 ·have h0' : (s.toList == []) = false := by simpa using h0
  have hpos : 1 <= s.size := by
   rcases Nat.eq_zero_or_pos s.size with h | h
   ·rw [h] at hsz
    have := List.eq_nil_of_length_eq_zero hsz
    rw [this] at h0
    exact absurd rfl h0
   ·exact h
  by_cases h1 : s.size <= 60
  ·obtain ⟨n, hn⟩ : ∃ n, s.size = n := ⟨_, rfl⟩
   have e : zhn s.toList = (s.toList.all fun c => !zbs c) := by
    unfold zhn
    rw [hsz, decide_eq_true hpos, decide_eq_true h1]
    rfl
   obtain ⟨A, hA⟩ : ∃ A, (s.toList.all fun c => !zbs c) = A := ⟨_, rfl⟩
   rw [e, hA]
   have HA0 : Hid (((s.toList.drop 0).all fun c => !zbs c) = A) := hA
   have HL : Hid (s.toList.length = s.size) := hsz
   clear e hA hsz h0 hn
   go_enter Tryz.func291, Tryz.ntmps291
   go_upto_region 4 with fail
   go_loopg [13] s.size (fun g v wr => ∃ k : Nat, g = s.size - k /\ k <= s.size /\ v = .int .i64 k /\ ((s.toList.drop k).all fun c => !zbs c) = A /\ wr = w)
   case atStart => exact ⟨0, rfl, Nat.zero_le _, rfl, HA0.out, rfl⟩
   case round =>
    clear HA0
    obtain ⟨k, hgk, hk, rfl, hAk, rfl⟩ := hrel
    have HAk : Hid (((s.toList.drop k).all fun c => !zbs c) = A) := hAk
    clear hAk
    by_cases hlt : k < s.size
    ·have hl : k < s.toList.length := by rw [HL.out]; exact hlt
     have hc : s.toList[k] = s[k] := by simp only [ByteArray.toList_eq]; rfl
     have hAk := HAk.out
     rw [List.drop_eq_getElem_cons hl, List.all_cons, hc] at hAk
     obtain ⟨q, hq⟩ : ∃ q, zbs s[k] = q := ⟨_, rfl⟩
     obtain ⟨z, hz⟩ : ∃ z, firstIdx zqx s[k] = z := ⟨_, rfl⟩
     have hzq : decide (z >= 0) = q := by
      rw [<- hz, <- hq, <- zq2]
      exact firstIdx_nonneg zqx s[k]
     rw [hq] at hAk
     have HA1 : Hid ((!q && ((s.toList.drop (k + 1)).all fun c => !zbs c)) = A) := hAk
     have r := zg5 zqx (s[k].toNat : Int) wr
     have ez : firstIdx zqx ((s[k].toNat : Int)).toNat.toUInt8 = z := by
      rw [<- hz]
      congr 1
      simp
     rw [ez] at r
     have HZ : Hid (decide (z >= 0) = q) := hzq
     clear hAk hz hq hc hzq ez HAk hl
     go_wp2_with fail
     refine r.mono ?_
     rintro e w1 ⟨rfl, rfl⟩
     have hzq := HZ.out
     clear r HZ
     cases q with
     | true =>
      have hA : A = false := HA1.out.symm
      subst hA
      clear HA1
      go_wp2
      go_ret
      exact ⟨rfl, rfl⟩
     | false =>
      go_wp2
      go_roundg (s.size - (k + 1))
      case rel => exact ⟨k + 1, rfl, by omega, by go_num, HA1.out, rfl⟩
      case measure => omega
    ·have hkk : k = s.size := by omega
     have hA : A = true := by rw [<- HAk.out, List.drop_eq_nil_of_le (by rw [HL.out]; omega)]; rfl
     subst hA
     clear HAk HL h0'
     go_wp2
     go_ret
     exact ⟨rfl, rfl⟩
  ·have e : zhn s.toList = false := by
    unfold zhn
    rw [hsz, decide_eq_false h1]
    simp
   rw [e]
   clear e hsz h0
   go_enter Tryz.func291, Tryz.ntmps291
   go_wp2
   go_ret
   exact ⟨rfl, rfl⟩
theorem zrx (w : World) : (zeroValue 3).run Tryz.prog w = .ok (.int .i64 0) w := by kernel_rfl
theorem zsk : Keyed Tryz.prog 9 := string_keyed Tryz.underlying9
def Zfh (w : World) (mb n : Nat) (L : List (List UInt8)) : Prop :=
 ∃ D : DataW Unit, w.ownsMap Tryz.prog 9 (plainElem Tryz.prog 3) mb n D /\ IsMap D /\ ∀ s, D.atKey (.string s) (.lit (.int .i64 0)) = .lit (.int .i64 (L.count s : Nat))
theorem Zfh.of {w w' : World} {mb n : Nat} {L : List (List UInt8)} (h : Zfh w mb n L) (hb : w'.heap[mb]? = w.heap[mb]?) : Zfh w' mb n L := by
 obtain ⟨D, ⟨es, clock, h1, h2⟩, h3⟩ := h
 exact ⟨D, ⟨es, clock, hb.trans h1, h2⟩, h3⟩
theorem Zfh.lt {w : World} {mb n : Nat} {L : List (List UInt8)} (h : Zfh w mb n L) : mb < w.heap.size := by
 obtain ⟨D, h1, -⟩ := h
 exact h1.lt
theorem zkw {w w' : World} {mb : Nat} (h : w.grownBy w' (some mb)) : Kept (fun k => k < w.heap.size /\ k ≠ mb) w w' :=
 ⟨h.os, h.tape, h.output, h.size, fun k hk => h.block k hk.1 (fun e => hk.2 (Option.some.inj e))⟩
theorem Zfh.bump {w : World} {mb n : Nat} {L : List (List UInt8)} (h : Zfh w mb n L) (hn : n <= 1000000) (hL : L.length <= 1000000) (s : ByteArray) (hs : s.size <= maxLen) :
  (Instr.lookup 270 (.map (some mb)) (.string s) false).run Tryz.prog w = .ok (.int .i64 (L.count s.toList : Nat)) w /\
  ∃ w', (Instr.mapUpdate 270 (.map (some mb)) (.string s) (.int .i64 ((L.count s.toList : Nat) + 1))).run Tryz.prog w = .ok () w' /\ Zfh w' mb (n + 1) (s.toList :: L) /\ Kept (fun k => k < w.heap.size /\ k ≠ mb) w w' := by
 obtain ⟨D, h1, h2, h3⟩ := h
 have hkey : keyOf Tryz.prog 9 (.string s) = some (.string s.toList) := by rw [ByteArray.toList_eq]; exact keyOf_string_mk Tryz.underlying9 hs
 obtain ⟨c, hrun, hat, hwc⟩ := h1.lookup_int zsk Tryz.underlying270 Tryz.underlying3 (zrx _) hkey
 have hc : c = (L.count s.toList : Nat) := by
  rw [h3] at hat
  simpa using hat.symm
 subst hc
 refine ⟨hrun, ?_⟩
 have hcl : L.count s.toList <= L.length := List.count_le_length
 obtain ⟨w', hr, h4, h5⟩ := h1.update zsk Tryz.underlying270 (by unfold maxLen; omega) hkey (plainElem_int (q := .i64) (a := (L.count s.toList : Nat) + 1) Tryz.underlying3 (WalkArith.wf_i64 (by omega)))
 ·refine ⟨w', hr, ⟨_, h4, h2.put _ _, fun u => ?_⟩, zkw h5⟩
  by_cases hu : s.toList = u
  ·subst hu
   rw [atKey_put_same h2 (show WideAt.IsKeyLit (.string s.toList) from trivial), List.count_cons_self]
   rfl
  ·rw [atKey_put_other (by intro e; injection e with e; exact hu e.symm), h3, List.count_cons_of_ne hu]
def WrX (w : World) (b mb n : Nat) (L : List (List UInt8)) : Prop :=
 b < w.heap.size /\ b ≠ mb /\ w.cell? ⟨b, 0, none⟩ = some (.map (some mb)) /\ Zfh w mb n L
theorem WrX.of {w w' : World} {b mb n : Nat} {L : List (List UInt8)} (h : WrX w b mb n L) (hs : w.heap.size <= w'.heap.size) (h1 : w'.heap[b]? = w.heap[b]?) (h2 : w'.heap[mb]? = w.heap[mb]?) : WrX w' b mb n L :=
 ⟨ltl h.1 hs, h.2.1, by rw [World.cell?_of_block (w := w) (a := ⟨b, 0, none⟩) h1]; exact h.2.2.1, h.2.2.2.of h2⟩
theorem WrX.kept {K : Nat -> Prop} {w w' : World} {b mb n : Nat} {L : List (List UInt8)} (h : WrX w b mb n L) (hk : Kept K w w') (h1 : K b) (h2 : K mb) : WrX w' b mb n L := h.of hk.size (hk.block b h1) (hk.block mb h2)
theorem zpa (n v : List UInt8) : zbg ⟨n, v⟩ = (zhn n && decide (v.length <= 2000)) := rfl
theorem zmo (s t : ByteArray) (b mb n : Nat) (L : List (List UInt8)) (w : World) (h : WrX w b mb n L) (hn : n <= 900000) (hL : L.length <= 900000) (hs : s.size <= 1000000000) (ht : t.size <= 1000000000) :
  Calls Tryz.prog 290 #[.agg #[.string s, .string t], .pointer (some ⟨b, 0, none⟩)] w fun e w' => e = .returned (.bool (zbg ⟨s.toList, t.toList⟩ && !L.contains s.toList)) /\ WrX w' b mb (n + 1) (s.toList :: L) /\ Kept (fun k => k < w.heap.size /\ k ≠ mb) w w' := by
 obtain ⟨h1, h2, h3, h4⟩ := h
 have hmb := h4.lt
 obtain ⟨W, hW⟩ : ∃ W, w.alloc (.cells #[.string s, .string t] 108) = W := ⟨_, rfl⟩
 have kW : Kept (fun k => k < w.heap.size) w W := by rw [<- hW]; exact (Kept.refl _ w).alloc (fun _ h => h) _
 have sW : w.heap.size < W.heap.size := by rw [<- hW]; simp
 have n0 : W.cell? ⟨w.heap.size, 0, none⟩ = some (.string s) := by rw [<- hW, zaa (heap_alloc_new w _)]; rfl
 have n1 : W.cell? ⟨w.heap.size, 1, none⟩ = some (.string t) := by rw [<- hW, zaa (heap_alloc_new w _)]; rfl
 have b0 : W.cell? ⟨b, 0, none⟩ = some (.map (some mb)) := by rw [kW.cell (p := ⟨b, 0, none⟩) h1]; exact h3
 have c4 : Zfh W mb n L := h4.of (kW.block mb hmb)
 obtain ⟨hlk, w', hup, c5, k5⟩ := c4.bump (by omega) (by omega) s (by unfold maxLen; omega)
 have hlk2 := (c5.bump (by omega) (by simp; omega) s (by unfold maxLen; omega)).1
 rw [List.count_cons_self] at hlk2
 have hcl : L.count s.toList <= L.length := List.count_le_length
 have hcc : L.contains s.toList = decide (0 < L.count s.toList) := by
  rw [Bool.eq_iff_iff]
  simp [List.count_pos_iff]
 obtain ⟨c, hce⟩ : ∃ c, L.count s.toList = c := ⟨_, rfl⟩
 rw [hce] at hlk hup hlk2 hcl hcc
 rw [zpa, hcc]
 obtain ⟨N, hN⟩ : ∃ N, w.heap.size = N := ⟨_, rfl⟩
 have m0 : w'.cell? ⟨N, 0, none⟩ = some (.string s) := by rw [<- hN, k5.cell (p := ⟨w.heap.size, 0, none⟩) ⟨sW, Nat.ne_of_gt hmb⟩]; exact n0
 have m1 : w'.cell? ⟨N, 1, none⟩ = some (.string t) := by rw [<- hN, k5.cell (p := ⟨w.heap.size, 1, none⟩) ⟨sW, Nat.ne_of_gt hmb⟩]; exact n1
 have b5 : w'.cell? ⟨b, 0, none⟩ = some (.map (some mb)) := by rw [k5.cell (p := ⟨b, 0, none⟩) ⟨Nat.lt_trans h1 sW, h2⟩]; exact b0
 have HX : Hid (WrX w' b mb (n + 1) (s.toList :: L)) := ⟨ltl (Nat.lt_trans h1 sW) k5.size, h2, b5, c5⟩
 have HK : Hid (Kept (fun k => k < w.heap.size /\ k ≠ mb) w w') := (kW.mono fun k h => h.1).trans (k5.mono fun k h => ⟨Nat.lt_trans h.1 sW, h.2⟩)
 have hnm := zdy s w'
 have HW : Hid (w.alloc (.cells #[.string s, .string t] 108) = W) := hW
 have HN : Hid (w.heap.size = N) := hN
 rw [hN] at n0 n1
 have hcl' : c <= 900000 := by omega
 clear hW kW sW c4 c5 k5 h4 hcc hce hcl hL hn h3 h1 h2 hmb hN
 obtain ⟨q, hq⟩ : ∃ q, zhn s.toList = q := ⟨_, rfl⟩
 rw [hq] at hnm ⊢
 clear hq
 have htl : t.toList.length = t.size := by rw [ByteArray.toList_eq]; rfl
 rw [htl]
 clear htl
 by_cases hc0 : c = 0
 ·subst hc0
  have hup1 : (Instr.mapUpdate 270 (.map (some mb)) (.string s) (.int .i64 1)).run Tryz.prog W = .ok () w' := hup
  have hlk3 : (Instr.lookup 270 (.map (some mb)) (.string s) false).run Tryz.prog w' = .ok (.int .i64 1) w' := hlk2
  have hlk0 : (Instr.lookup 270 (.map (some mb)) (.string s) false).run Tryz.prog W = .ok (.int .i64 0) W := hlk
  clear hup hlk2 hlk
  cases q with
  | true =>
   by_cases hv : t.size <= 2000
   ·rw [decide_eq_true hv]
    have hv' : (t.size : Int) <= 2000 := by omega
    go_enter Tryz.func290, Tryz.ntmps290
    go_upto_region 1 with fail
    rw [HW.out, HN.out]
    clear HW HN
    go_wp2_with fail
    refine hnm.mono ?_
    rintro e w2 ⟨rfl, rfl⟩
    clear hnm
    go_wp2
    go_ret
    exact ⟨rfl, HX.out, HK.out⟩
   ·rw [decide_eq_false hv]
    have hv' : decide ((t.size : Int) <= 2000) = false := decide_eq_false (by omega)
    go_enter Tryz.func290, Tryz.ntmps290
    go_upto_region 1 with fail
    rw [HW.out, HN.out]
    clear HW HN
    go_wp2_with fail
    refine hnm.mono ?_
    rintro e w2 ⟨rfl, rfl⟩
    clear hnm
    go_wp2
    go_ret
    exact ⟨rfl, HX.out, HK.out⟩
  | false =>
   go_enter Tryz.func290, Tryz.ntmps290
   go_upto_region 1 with fail
   rw [HW.out, HN.out]
   clear HW HN
   go_wp2_with fail
   refine hnm.mono ?_
   rintro e w2 ⟨rfl, rfl⟩
   clear hnm
   go_wp2
   go_ret
   exact ⟨rfl, HX.out, HK.out⟩
 ·have e1 : ((c : Int) + 1 == 1) = false := by
   have : (c : Int) + 1 ≠ 1 := by omega
   simpa using this
  have hlk3 : (Instr.lookup 270 (.map (some mb)) (.string s) false).run Tryz.prog w' = .ok (.int .i64 ((c : Int) + 1)) w' := hlk2
  have er : (q && decide (t.size <= 2000) && !decide (0 < c)) = false := by
   rw [decide_eq_true (show 0 < c by omega)]
   simp
  rw [er]
  clear er hlk2 hnm
  go_enter Tryz.func290, Tryz.ntmps290
  go_upto_region 1 with fail
  rw [HW.out, HN.out]
  clear HW HN
  go_wp2
  go_ret
  exact ⟨rfl, HX.out, HK.out⟩
theorem zgr (w : World) :
  Calls Tryz.prog 274 #[] w fun e w' => ∃ b mb, e = .returned (.func (.func 290) #[] #[.pointer (some ⟨b, 0, none⟩)]) /\ WrX w' b mb 0 [] /\ Kept (fun k => k < w.heap.size) w w' /\ w.heap.size <= b /\ w.heap.size <= mb := by
 have hmm := @run_makeMap Tryz.prog
 go_enter Tryz.func274, Tryz.ntmps274
 go_wp2
 go_ret
 obtain ⟨W, hW⟩ : ∃ W, w.alloc (.map #[] 0) = W := ⟨_, rfl⟩
 have kW : Kept (fun k => k < w.heap.size) w W := by rw [<- hW]; exact (Kept.refl _ w).alloc (fun _ h => h) _
 have sW : W.heap.size = w.heap.size + 1 := by rw [<- hW]; simp
 have oW : W.ownsMap Tryz.prog 9 (plainElem (H := Unit) Tryz.prog 3) w.heap.size 0 (.map []) := by rw [<- hW]; exact World.ownsMap_made _ _ _ _
 rw [hW]
 have hc : Zfh W w.heap.size 0 [] := ⟨_, oW, isMap_empty, fun s => rfl⟩
 have kX : Kept (fun k => k < W.heap.size) W (W.alloc (.cells #[.map (some w.heap.size)] 270)) := (Kept.refl _ W).alloc (fun _ h => h) _
 refine ⟨w.heap.size + 1, w.heap.size, rfl, ⟨by simp; omega, by omega, ?_, hc.of (kX.block _ (by omega))⟩, kW.trans (kX.mono fun k h => by omega), by omega, Nat.le_refl _⟩
 rw [<- sW, zaa (heap_alloc_new W _)]
 rfl
end
section
open Go.RowKit
def Zag (K : Nat -> Prop) (w : World) (aa : Option Addr) (l : List Atr) : Prop :=
 ∀ j (h : j < l.length), ∃ g o, aa = some ⟨g, o, none⟩ /\ K g /\ w.cell? ⟨g, o + j * 2, none⟩ = some (sv l[j].name) /\ w.cell? ⟨g, o + j * 2 + 1, none⟩ = some (sv l[j].value)
theorem Zag.nil (K : Nat -> Prop) (w : World) (aa : Option Addr) : Zag K w aa [] := fun _ h => absurd h (Nat.not_lt_zero _)
theorem Zag.kept {K K' : Nat -> Prop} {w w' : World} {aa : Option Addr} {l : List Atr} (h : Zag K w aa l) (hk : Kept K w w') (hm : ∀ k, K k -> K' k) : Zag K' w' aa l := fun j hj => by
 obtain ⟨g, o, h1, h2, h3, h4⟩ := h j hj
 exact ⟨g, o, h1, hm g h2, by rw [hk.cell (p := ⟨g, o + j * 2, none⟩) h2]; exact h3, by rw [hk.cell (p := ⟨g, o + j * 2 + 1, none⟩) h2]; exact h4⟩
def za5 (l : List Atr) (k : Nat) : List (List UInt8) := ((l.take k).map Atr.name).reverse
theorem zdx (l : List Atr) (k : Nat) (h : k < l.length) : za5 l (k + 1) = l[k].name :: za5 l k := by
 unfold za5
 rw [List.take_succ_eq_append_getElem h, List.map_append, List.reverse_append]
 rfl
theorem zkl (l : List Atr) (k : Nat) : (za5 l k).length <= l.length := by
 unfold za5
 rw [List.length_reverse, List.length_map, List.length_take]
 omega
def zcn : List (List UInt8) -> List Atr -> Bool
 | _, [] => true
 | ahead, a :: r => (zbg a && !ahead.contains a.name) && zcn (a.name :: ahead) r
def za3 (l : List Atr) : Bool := decide (l.length <= 50) && zcn [] l
theorem zf3 (l : List Atr) (aa : Option Addr) (n ac : Nat) (hln : l.length = n) (hn : n <= 100000000) (hsz : ∀ x ∈ l, x.name.length <= 1000000000 /\ x.value.length <= 1000000000) (w : World) (ha : Zag (fun k => k < w.heap.size) w aa l) :
  Calls Tryz.prog 253 #[.slice aa n ac] w fun e w' => e = .returned (.bool (za3 l)) /\ Kept (fun k => k < w.heap.size) w w' := by
 by_cases h50 : n <= 50
 ·have hg : decide ((n : Int) > 50) = false := decide_eq_false (by omega)
  have es : za3 l = zcn [] l := by
   unfold za3
   rw [hln, decide_eq_true h50]
   rfl
  rw [es]
  obtain ⟨R, hR⟩ : ∃ R, zcn [] l = R := ⟨_, rfl⟩
  rw [hR]
  have HR : Hid (zcn (za5 l 0) (l.drop 0) = R) := hR
  have HL : Hid (l.length = n) := hln
  have HA : Hid (Zag (fun k => k < w.heap.size) w aa l) := ha
  have HSZ : Hid (∀ x ∈ l, x.name.length <= 1000000000 /\ x.value.length <= 1000000000) := hsz
  have r := zgr w
  clear es hR hln ha hsz
  go_enter Tryz.func253, Tryz.ntmps253
  go_wp2_with fail
  refine r.mono ?_
  rintro e w1 ⟨b, mb, rfl, hX1, hK1, hb1, hmb1⟩
  have HX1 : Hid (WrX w1 b mb 0 (za5 l 0)) := hX1
  have HK1 : Hid (Kept (fun k => k < w.heap.size) w w1) := hK1
  clear r hX1 hK1
  go_upto_region 5 with fail
  go_loopg [12] n (fun g v wr => ∃ k : Nat, g = n - k /\ k <= n /\ v = .int .i64 k /\ zcn (za5 l k) (l.drop k) = R /\ WrX wr b mb k (za5 l k) /\ Kept (fun k => k < w.heap.size) w wr)
  case atStart => exact ⟨0, rfl, Nat.zero_le _, rfl, HR.out, HX1.out, HK1.out⟩
  case round =>
   clear HR HX1 HK1
   obtain ⟨k, hgk, hk, rfl, hRk, hXk, hKk⟩ := hrel
   have HX : Hid (WrX wr b mb k (za5 l k)) := hXk
   have HK : Hid (Kept (fun k => k < w.heap.size) w wr) := hKk
   clear hXk hKk
   by_cases hlt : k < n
   ·have hl : k < l.length := by rw [HL.out]; exact hlt
    obtain ⟨g, o, hg', hKg, c0, c1⟩ := HA.out k hl
    have d0 : wr.cell? ⟨g, o + k * 2, none⟩ = some (sv l[k].name) := by rw [HK.out.cell (p := ⟨g, o + k * 2, none⟩) hKg]; exact c0
    have d1 : wr.cell? ⟨g, o + k * 2 + 1, none⟩ = some (sv l[k].value) := by rw [HK.out.cell (p := ⟨g, o + k * 2 + 1, none⟩) hKg]; exact c1
    subst hg'
    rw [List.drop_eq_getElem_cons hl] at hRk
    have hRk' : ((zbg l[k] && !(za5 l k).contains l[k].name) && zcn (l[k].name :: za5 l k) (l.drop (k + 1))) = R := hRk
    rw [<- zdx l k hl] at hRk'
    obtain ⟨V, hV⟩ : ∃ V, wr.alloc (.cells #[sv l[k].name, sv l[k].value] 108) = V := ⟨_, rfl⟩
    have kV : Kept (fun x => x < wr.heap.size) wr V := by rw [<- hV]; exact (Kept.refl _ wr).alloc (fun _ h => h) _
    have hWr : WrX V b mb k (za5 l k) := HX.out.kept kV HX.out.1 HX.out.2.2.2.lt
    have hmem := HSZ.out l[k] (List.getElem_mem hl)
    have hal := zkl l k
    have hlle : l.length <= 50 := by rw [HL.out]; exact h50
    have r := zmo ⟨l[k].name.toArray⟩ ⟨l[k].value.toArray⟩ b mb k (za5 l k) V hWr (by omega) (by omega) (by rw [zmp]; exact hmem.1) (by rw [zmp]; exact hmem.2)
    have eN : ByteArray.toList ⟨l[k].name.toArray⟩ = l[k].name := by rw [ByteArray.toList_eq]
    have eV : ByteArray.toList ⟨l[k].value.toArray⟩ = l[k].value := by rw [ByteArray.toList_eq]
    rw [eN, eV, <- zdx l k hl] at r
    obtain ⟨q, hq⟩ : ∃ q, (zbg l[k] && !(za5 l k).contains l[k].name) = q := ⟨_, rfl⟩
    have hq' : (zbg ⟨l[k].name, l[k].value⟩ && !(za5 l k).contains l[k].name) = q := hq
    rw [hq'] at r
    rw [hq] at hRk'
    have HR' : Hid ((q && zcn (za5 l (k + 1)) (l.drop (k + 1))) = R) := hRk'
    have HV : Hid (wr.alloc (.cells #[sv l[k].name, sv l[k].value] 108) = V) := hV
    have HKV : Hid (Kept (fun k => k < w.heap.size) w V) := kt HK.out kV
    have hmbw : w.heap.size <= mb := hmb1
    clear hRk hRk' hWr hmem hal eN eV hq hq' hV kV c0 c1 hKg hlle
    go_wp2_with fail
    have hv : wr.alloc (.cells #[.string ⟨l[k].name.toArray⟩, .string ⟨l[k].value.toArray⟩] 108) = V := HV.out
    rw [hv]
    refine r.mono ?_
    rintro e w2 ⟨rfl, hX2, hK2⟩
    have HX2 : Hid (WrX w2 b mb (k + 1) (za5 l (k + 1))) := hX2
    have HK2 : Hid (Kept (fun k => k < w.heap.size) w w2) := HKV.out.trans (hK2.mono fun x (hx : x < w.heap.size) => ⟨ltl hx HKV.out.size, by omega⟩)
    clear r hv hX2 hK2 HV HKV HX HK d0 d1
    cases q with
    | false =>
     have hR : R = false := HR'.out.symm
     subst hR
     clear HR'
     go_wp2
     go_ret
     exact ⟨rfl, HK2.out⟩
    | true =>
     have hR := HR'.out
     rw [Bool.true_and] at hR
     have HR2 : Hid (zcn (za5 l (k + 1)) (l.drop (k + 1)) = R) := hR
     clear HR' hR
     go_wp2
     go_roundg (n - (k + 1))
     case rel => exact ⟨k + 1, rfl, by omega, by go_num, HR2.out, HX2.out, HK2.out⟩
     case measure => omega
   ·have hkk : k = n := by omega
    subst hkk
    have hR : R = true := by
     rw [<- hRk, List.drop_eq_nil_of_le (by rw [HL.out]; exact Nat.le_refl _)]
     rfl
    subst hR
    clear hRk
    go_wp2
    go_ret
    exact ⟨rfl, HK.out⟩
 ·have hg : decide ((n : Int) > 50) = true := decide_eq_true (by omega)
  have es : za3 l = false := by
   unfold za3
   rw [hln, decide_eq_false h50]
   rfl
  rw [es]
  have hu := hsz
  clear es hln hu hsz ha
  go_enter Tryz.func253, Tryz.ntmps253
  go_wp2
  go_ret
  exact ⟨rfl, Kept.refl _ _⟩
structure Iz where
 deep : Int
 kind : Nat
 name : List UInt8
 attrs : List Atr
 data : List UInt8
def zbc (x : Iz) (first : Bool) : Bool :=
 if x.kind = 1 then (za6 x.name && x.data == []) && za3 x.attrs
 else if x.kind = 2 then (x.name == [] && !(x.data == [])) && decide (x.attrs.length = 0)
 else if x.kind = 3 then x.name == [] && decide (x.attrs.length = 0)
 else if x.kind = 6 then (first && x.data == []) && decide (x.attrs.length = 0)
 else false
theorem zr0 (d : Int) (S D : ByteArray) (l : List Atr) (aa : Option Addr) (n ac : Nat) (hln : l.length = n) (hn : n <= 100000000) (hsz : ∀ x ∈ l, x.name.length <= 1000000000 /\ x.value.length <= 1000000000) (first : Bool) (w : World) (ha : Zag (fun k => k < w.heap.size) w aa l) :
  Calls Tryz.prog 210 #[.agg #[.int .i64 d, .int .u8 (1 : Int), .string S, .string D, .slice aa n ac], .bool first] w fun e w' => e = .returned (.bool (zbc ⟨d, 1, S.toList, l, D.toList⟩ first)) /\ Kept (fun k => k < w.heap.size) w w' := by
 obtain ⟨W, hW⟩ : ∃ W, w.alloc (.cells #[.int .i64 d, .int .u8 (1 : Int), .string S, .string D, .slice aa n ac] 163) = W := ⟨_, rfl⟩
 obtain ⟨N, hN⟩ : ∃ N, w.heap.size = N := ⟨_, rfl⟩
 have kW : Kept (fun k => k < w.heap.size) w W := by rw [<- hW]; exact (Kept.refl _ w).alloc (fun _ h => h) _
 have sW : N < W.heap.size := by rw [<- hW, <- hN]; simp
 have hcW : ∀ i u, #[.int .i64 d, .int .u8 (1 : Int), .string S, .string D, .slice aa n ac].toList[i]? = some u -> W.cell? ⟨N, i, none⟩ = some u := by
  intro i u hi
  rw [<- hW, <- hN, zaa (heap_alloc_new w _), <- Array.getElem?_toList]
  exact hi
 have haW : Zag (fun k => k < W.heap.size) W aa l := ha.kept kW fun k h => ltl h kW.size
 have HK : Hid (Kept (fun k => k < w.heap.size) w W) := kW
 have HW : Hid (w.alloc (.cells #[.int .i64 d, .int .u8 (1 : Int), .string S, .string D, .slice aa n ac] 163) = W) := hW
 have HN : Hid (w.heap.size = N) := hN
 have hu := And.intro hn hsz
 clear hu
 have t0 := hcW 0 _ rfl
 have t1 := hcW 1 _ rfl
 have t2 := hcW 2 _ rfl
 have t3 := hcW 3 _ rfl
 have t4 := hcW 4 _ rfl
 have rv := znv S (fun k => k < W.heap.size) W (fun _ h => h)
 have ra := fun X (hX : Kept (fun k => k < W.heap.size) W X) => zf3 l aa n ac hln hn hsz X (haW.kept hX fun k h => ltl h hX.size)
 have ek : zbc ⟨d, 1, S.toList, l, D.toList⟩ first = ((za6 S.toList && D.toList == []) && za3 l) := rfl
 rw [ek]
 obtain ⟨v, hv⟩ : ∃ v, za6 S.toList = v := ⟨_, rfl⟩
 obtain ⟨e0, he0⟩ : ∃ v, (D.toList == []) = v := ⟨_, rfl⟩
 obtain ⟨sa, hsa⟩ : ∃ v, za3 l = v := ⟨_, rfl⟩
 rw [hv] at rv ⊢
 rw [he0]
 rw [hsa]
 simp only [hsa] at ra
 have hc2 : ∀ X, Kept (fun k => k < W.heap.size) W X -> ∀ i u, #[Value.int .i64 d, .int .u8 (1 : Int), .string S, .string D, .slice aa n ac].toList[i]? = some u -> X.cell? ⟨N, i, none⟩ = some u := fun X hX i u hi => by
  rw [hX.cell (p := ⟨N, i, none⟩) sW]
  exact hcW i u hi
 have HC2 : Hid (∀ X, Kept (fun k => k < W.heap.size) W X -> ∀ i u, #[Value.int .i64 d, .int .u8 (1 : Int), .string S, .string D, .slice aa n ac].toList[i]? = some u -> X.cell? ⟨N, i, none⟩ = some u) := hc2
 clear hW hN kW sW hcW haW ha hln hn hsz ek hv hsa hc2
 cases v with
 | false =>
  go_enter Tryz.func210, Tryz.ntmps210
  go_upto_region 1 with fail
  rw [HW.out, HN.out]
  clear HW HN
  go_wp2_with fail
  refine rv.mono ?_
  rintro e w1 ⟨rfl, k1⟩
  clear rv ra t0 t1 t2 t3 t4
  go_wp2
  go_ret
  exact ⟨rfl, kt HK.out k1⟩
 | true =>
  cases e0 with
  | false =>
   go_enter Tryz.func210, Tryz.ntmps210
   go_upto_region 1 with fail
   rw [HW.out, HN.out]
   clear HW HN
   go_wp2_with fail
   refine rv.mono ?_
   rintro e w1 ⟨rfl, k1⟩
   have m3 := HC2.out w1 k1 3 _ rfl
   clear rv ra t0 t1 t2 t3 t4
   go_wp2
   go_ret
   exact ⟨rfl, kt HK.out k1⟩
  | true =>
   go_enter Tryz.func210, Tryz.ntmps210
   go_upto_region 1 with fail
   rw [HW.out, HN.out]
   clear HW HN
   go_wp2_with fail
   refine rv.mono ?_
   rintro e w1 ⟨rfl, k1⟩
   have m3 := HC2.out w1 k1 3 _ rfl
   have m4 := HC2.out w1 k1 4 _ rfl
   have ra1 := ra w1 k1
   have HK1 : Hid (Kept (fun k => k < w.heap.size) w w1) := kt HK.out k1
   clear rv ra k1 t0 t1 t2 t3 t4
   go_wp2_with fail
   refine ra1.mono ?_
   rintro e w2 ⟨rfl, k2⟩
   clear ra1 m3 m4
   go_wp2
   go_ret
   exact ⟨rfl, kt HK1.out k2⟩
theorem zrq (d : Int) (S D : ByteArray) (l : List Atr) (aa : Option Addr) (n ac : Nat) (hln : l.length = n) (hn : n <= 100000000) (hsz : ∀ x ∈ l, x.name.length <= 1000000000 /\ x.value.length <= 1000000000) (first : Bool) (w : World) (ha : Zag (fun k => k < w.heap.size) w aa l) :
  Calls Tryz.prog 210 #[.agg #[.int .i64 d, .int .u8 (2 : Int), .string S, .string D, .slice aa n ac], .bool first] w fun e w' => e = .returned (.bool (zbc ⟨d, 2, S.toList, l, D.toList⟩ first)) /\ Kept (fun k => k < w.heap.size) w w' := by
 obtain ⟨W, hW⟩ : ∃ W, w.alloc (.cells #[.int .i64 d, .int .u8 (2 : Int), .string S, .string D, .slice aa n ac] 163) = W := ⟨_, rfl⟩
 obtain ⟨N, hN⟩ : ∃ N, w.heap.size = N := ⟨_, rfl⟩
 have kW : Kept (fun k => k < w.heap.size) w W := by rw [<- hW]; exact (Kept.refl _ w).alloc (fun _ h => h) _
 have sW : N < W.heap.size := by rw [<- hW, <- hN]; simp
 have hcW : ∀ i u, #[.int .i64 d, .int .u8 (2 : Int), .string S, .string D, .slice aa n ac].toList[i]? = some u -> W.cell? ⟨N, i, none⟩ = some u := by
  intro i u hi
  rw [<- hW, <- hN, zaa (heap_alloc_new w _), <- Array.getElem?_toList]
  exact hi
 have haW : Zag (fun k => k < W.heap.size) W aa l := ha.kept kW fun k h => ltl h kW.size
 have HK : Hid (Kept (fun k => k < w.heap.size) w W) := kW
 have HW : Hid (w.alloc (.cells #[.int .i64 d, .int .u8 (2 : Int), .string S, .string D, .slice aa n ac] 163) = W) := hW
 have HN : Hid (w.heap.size = N) := hN
 have hu := And.intro hn hsz
 clear hu
 have t0 := hcW 0 _ rfl
 have t1 := hcW 1 _ rfl
 have t2 := hcW 2 _ rfl
 have t3 := hcW 3 _ rfl
 have t4 := hcW 4 _ rfl
 have hu2 := haW
 clear hu2
 have ek : zbc ⟨d, 2, S.toList, l, D.toList⟩ first = ((S.toList == [] && !(D.toList == [])) && decide (l.length = 0)) := rfl
 rw [ek, hln]
 obtain ⟨s0, hs0⟩ : ∃ v, (S.toList == []) = v := ⟨_, rfl⟩
 obtain ⟨e0, he0⟩ : ∃ v, (D.toList == []) = v := ⟨_, rfl⟩
 try rw [hs0]
 try rw [he0]
 clear hW hN kW sW hcW haW ha hln hsz ek
 by_cases h0 : n = 0
 ·subst h0
  rw [decide_eq_true rfl]
  cases s0 <;> cases e0 <;> cases first
  all_goals
   go_enter Tryz.func210, Tryz.ntmps210
   go_upto_region 1 with fail
   rw [HW.out, HN.out]
   go_wp2
   go_ret
   exact ⟨rfl, HK.out⟩
 ·rw [decide_eq_false h0]
  have hz : ((n : Int) == 0) = false := by
   have : (n : Int) ≠ 0 := by omega
   simpa using this
  cases s0 <;> cases e0 <;> cases first
  all_goals
   go_enter Tryz.func210, Tryz.ntmps210
   go_upto_region 1 with fail
   rw [HW.out, HN.out]
   go_wp2
   go_ret
   exact ⟨rfl, HK.out⟩
theorem zru (d : Int) (S D : ByteArray) (l : List Atr) (aa : Option Addr) (n ac : Nat) (hln : l.length = n) (hn : n <= 100000000) (hsz : ∀ x ∈ l, x.name.length <= 1000000000 /\ x.value.length <= 1000000000) (first : Bool) (w : World) (ha : Zag (fun k => k < w.heap.size) w aa l) :
  Calls Tryz.prog 210 #[.agg #[.int .i64 d, .int .u8 (3 : Int), .string S, .string D, .slice aa n ac], .bool first] w fun e w' => e = .returned (.bool (zbc ⟨d, 3, S.toList, l, D.toList⟩ first)) /\ Kept (fun k => k < w.heap.size) w w' := by
 obtain ⟨W, hW⟩ : ∃ W, w.alloc (.cells #[.int .i64 d, .int .u8 (3 : Int), .string S, .string D, .slice aa n ac] 163) = W := ⟨_, rfl⟩
 obtain ⟨N, hN⟩ : ∃ N, w.heap.size = N := ⟨_, rfl⟩
 have kW : Kept (fun k => k < w.heap.size) w W := by rw [<- hW]; exact (Kept.refl _ w).alloc (fun _ h => h) _
 have sW : N < W.heap.size := by rw [<- hW, <- hN]; simp
 have hcW : ∀ i u, #[.int .i64 d, .int .u8 (3 : Int), .string S, .string D, .slice aa n ac].toList[i]? = some u -> W.cell? ⟨N, i, none⟩ = some u := by
  intro i u hi
  rw [<- hW, <- hN, zaa (heap_alloc_new w _), <- Array.getElem?_toList]
  exact hi
 have haW : Zag (fun k => k < W.heap.size) W aa l := ha.kept kW fun k h => ltl h kW.size
 have HK : Hid (Kept (fun k => k < w.heap.size) w W) := kW
 have HW : Hid (w.alloc (.cells #[.int .i64 d, .int .u8 (3 : Int), .string S, .string D, .slice aa n ac] 163) = W) := hW
 have HN : Hid (w.heap.size = N) := hN
 have hu := And.intro hn hsz
 clear hu
 have t0 := hcW 0 _ rfl
 have t1 := hcW 1 _ rfl
 have t2 := hcW 2 _ rfl
 have t3 := hcW 3 _ rfl
 have t4 := hcW 4 _ rfl
 have hu2 := haW
 clear hu2
 have ek : zbc ⟨d, 3, S.toList, l, D.toList⟩ first = (S.toList == [] && decide (l.length = 0)) := rfl
 rw [ek, hln]
 obtain ⟨s0, hs0⟩ : ∃ v, (S.toList == []) = v := ⟨_, rfl⟩
 obtain ⟨e0, he0⟩ : ∃ v, (D.toList == []) = v := ⟨_, rfl⟩
 try rw [hs0]
 try rw [he0]
 clear hW hN kW sW hcW haW ha hln hsz ek
 by_cases h0 : n = 0
 ·subst h0
  rw [decide_eq_true rfl]
  cases s0 <;> cases e0 <;> cases first
  all_goals
   go_enter Tryz.func210, Tryz.ntmps210
   go_upto_region 1 with fail
   rw [HW.out, HN.out]
   go_wp2
   go_ret
   exact ⟨rfl, HK.out⟩
 ·rw [decide_eq_false h0]
  have hz : ((n : Int) == 0) = false := by
   have : (n : Int) ≠ 0 := by omega
   simpa using this
  cases s0 <;> cases e0 <;> cases first
  all_goals
   go_enter Tryz.func210, Tryz.ntmps210
   go_upto_region 1 with fail
   rw [HW.out, HN.out]
   go_wp2
   go_ret
   exact ⟨rfl, HK.out⟩
theorem zr5 (d : Int) (S D : ByteArray) (l : List Atr) (aa : Option Addr) (n ac : Nat) (hln : l.length = n) (hn : n <= 100000000) (hsz : ∀ x ∈ l, x.name.length <= 1000000000 /\ x.value.length <= 1000000000) (first : Bool) (w : World) (ha : Zag (fun k => k < w.heap.size) w aa l) :
  Calls Tryz.prog 210 #[.agg #[.int .i64 d, .int .u8 (6 : Int), .string S, .string D, .slice aa n ac], .bool first] w fun e w' => e = .returned (.bool (zbc ⟨d, 6, S.toList, l, D.toList⟩ first)) /\ Kept (fun k => k < w.heap.size) w w' := by
 obtain ⟨W, hW⟩ : ∃ W, w.alloc (.cells #[.int .i64 d, .int .u8 (6 : Int), .string S, .string D, .slice aa n ac] 163) = W := ⟨_, rfl⟩
 obtain ⟨N, hN⟩ : ∃ N, w.heap.size = N := ⟨_, rfl⟩
 have kW : Kept (fun k => k < w.heap.size) w W := by rw [<- hW]; exact (Kept.refl _ w).alloc (fun _ h => h) _
 have sW : N < W.heap.size := by rw [<- hW, <- hN]; simp
 have hcW : ∀ i u, #[.int .i64 d, .int .u8 (6 : Int), .string S, .string D, .slice aa n ac].toList[i]? = some u -> W.cell? ⟨N, i, none⟩ = some u := by
  intro i u hi
  rw [<- hW, <- hN, zaa (heap_alloc_new w _), <- Array.getElem?_toList]
  exact hi
 have haW : Zag (fun k => k < W.heap.size) W aa l := ha.kept kW fun k h => ltl h kW.size
 have HK : Hid (Kept (fun k => k < w.heap.size) w W) := kW
 have HW : Hid (w.alloc (.cells #[.int .i64 d, .int .u8 (6 : Int), .string S, .string D, .slice aa n ac] 163) = W) := hW
 have HN : Hid (w.heap.size = N) := hN
 have hu := And.intro hn hsz
 clear hu
 have t0 := hcW 0 _ rfl
 have t1 := hcW 1 _ rfl
 have t2 := hcW 2 _ rfl
 have t3 := hcW 3 _ rfl
 have t4 := hcW 4 _ rfl
 have hu2 := haW
 clear hu2
 have ek : zbc ⟨d, 6, S.toList, l, D.toList⟩ first = ((first && D.toList == []) && decide (l.length = 0)) := rfl
 rw [ek, hln]
 obtain ⟨s0, hs0⟩ : ∃ v, (S.toList == []) = v := ⟨_, rfl⟩
 obtain ⟨e0, he0⟩ : ∃ v, (D.toList == []) = v := ⟨_, rfl⟩
 try rw [hs0]
 try rw [he0]
 clear hW hN kW sW hcW haW ha hln hsz ek
 by_cases h0 : n = 0
 ·subst h0
  rw [decide_eq_true rfl]
  cases s0 <;> cases e0 <;> cases first
  all_goals
   go_enter Tryz.func210, Tryz.ntmps210
   go_upto_region 1 with fail
   rw [HW.out, HN.out]
   go_wp2
   go_ret
   exact ⟨rfl, HK.out⟩
 ·rw [decide_eq_false h0]
  have hz : ((n : Int) == 0) = false := by
   have : (n : Int) ≠ 0 := by omega
   simpa using this
  cases s0 <;> cases e0 <;> cases first
  all_goals
   go_enter Tryz.func210, Tryz.ntmps210
   go_upto_region 1 with fail
   rw [HW.out, HN.out]
   go_wp2
   go_ret
   exact ⟨rfl, HK.out⟩
theorem zr7 (d : Int) (kd : Nat) (n1 : kd ≠ 1) (n2 : kd ≠ 2) (n3 : kd ≠ 3) (n6 : kd ≠ 6) (S D : ByteArray) (l : List Atr) (aa : Option Addr) (n ac : Nat) (hln : l.length = n) (hn : n <= 100000000) (hsz : ∀ x ∈ l, x.name.length <= 1000000000 /\ x.value.length <= 1000000000) (first : Bool) (w : World) (ha : Zag (fun k => k < w.heap.size) w aa l) :
  Calls Tryz.prog 210 #[.agg #[.int .i64 d, .int .u8 (kd : Int), .string S, .string D, .slice aa n ac], .bool first] w fun e w' => e = .returned (.bool (zbc ⟨d, kd, S.toList, l, D.toList⟩ first)) /\ Kept (fun k => k < w.heap.size) w w' := by
 obtain ⟨W, hW⟩ : ∃ W, w.alloc (.cells #[.int .i64 d, .int .u8 (kd : Int), .string S, .string D, .slice aa n ac] 163) = W := ⟨_, rfl⟩
 obtain ⟨N, hN⟩ : ∃ N, w.heap.size = N := ⟨_, rfl⟩
 have kW : Kept (fun k => k < w.heap.size) w W := by rw [<- hW]; exact (Kept.refl _ w).alloc (fun _ h => h) _
 have sW : N < W.heap.size := by rw [<- hW, <- hN]; simp
 have hcW : ∀ i u, #[.int .i64 d, .int .u8 (kd : Int), .string S, .string D, .slice aa n ac].toList[i]? = some u -> W.cell? ⟨N, i, none⟩ = some u := by
  intro i u hi
  rw [<- hW, <- hN, zaa (heap_alloc_new w _), <- Array.getElem?_toList]
  exact hi
 have haW : Zag (fun k => k < W.heap.size) W aa l := ha.kept kW fun k h => ltl h kW.size
 have HK : Hid (Kept (fun k => k < w.heap.size) w W) := kW
 have HW : Hid (w.alloc (.cells #[.int .i64 d, .int .u8 (kd : Int), .string S, .string D, .slice aa n ac] 163) = W) := hW
 have HN : Hid (w.heap.size = N) := hN
 have hu := And.intro hn hsz
 clear hu
 have t0 := hcW 0 _ rfl
 have t1 := hcW 1 _ rfl
 have t2 := hcW 2 _ rfl
 have t3 := hcW 3 _ rfl
 have t4 := hcW 4 _ rfl
 have q1 : ((kd : Int) == 1) = false := by
  have : (kd : Int) ≠ 1 := by omega
  simpa using this
 have q2 : ((kd : Int) == 2) = false := by
  have : (kd : Int) ≠ 2 := by omega
  simpa using this
 have q3 : ((kd : Int) == 3) = false := by
  have : (kd : Int) ≠ 3 := by omega
  simpa using this
 have q6 : ((kd : Int) == 6) = false := by
  have : (kd : Int) ≠ 6 := by omega
  simpa using this
 have ek : zbc ⟨d, kd, S.toList, l, D.toList⟩ first = false := by
  unfold zbc
  dsimp only
  rw [if_neg n1, if_neg n2, if_neg n3, if_neg n6]
 rw [ek]
 have hu2 := And.intro hln haW
 clear hu2
 clear hW hN kW sW hcW haW ha hln hsz ek n1 n2 n3 n6
 go_enter Tryz.func210, Tryz.ntmps210
 go_upto_region 1 with fail
 rw [HW.out, HN.out]
 clear HW HN
 go_wp2
 go_ret
 exact ⟨rfl, HK.out⟩
theorem zn5 (d : Int) (kd : Nat) (S D : ByteArray) (l : List Atr) (aa : Option Addr) (n ac : Nat) (hln : l.length = n) (hn : n <= 100000000) (hsz : ∀ x ∈ l, x.name.length <= 1000000000 /\ x.value.length <= 1000000000) (first : Bool) (w : World) (ha : Zag (fun k => k < w.heap.size) w aa l) :
  Calls Tryz.prog 210 #[.agg #[.int .i64 d, .int .u8 (kd : Int), .string S, .string D, .slice aa n ac], .bool first] w fun e w' => e = .returned (.bool (zbc ⟨d, kd, S.toList, l, D.toList⟩ first)) /\ Kept (fun k => k < w.heap.size) w w' := by
 by_cases c1 : kd = 1
 ·subst c1; exact zr0 d S D l aa n ac hln hn hsz first w ha
 by_cases c2 : kd = 2
 ·subst c2; exact zrq d S D l aa n ac hln hn hsz first w ha
 by_cases c3 : kd = 3
 ·subst c3; exact zru d S D l aa n ac hln hn hsz first w ha
 by_cases c6 : kd = 6
 ·subst c6; exact zr5 d S D l aa n ac hln hn hsz first w ha
 exact zr7 d kd c1 c2 c3 c6 S D l aa n ac hln hn hsz first w ha
open Go.RowKit
def zeo (x : Iz) (aa : Option Addr) (ac : Nat) : List Value := [.int .i64 x.deep, .int .u8 (x.kind : Int), sv x.name, sv x.data, .slice aa x.attrs.length ac]
def Zr9 (w : World) (ia : Option Addr) (l : List Iz) : Prop :=
 ∀ j (_ : j < l.length), ∃ g aa ac, ia = some ⟨g, 0, none⟩ /\ g < w.heap.size /\ Zag (fun k => k < w.heap.size) w aa l[j].attrs /\ ∀ i u, (zeo l[j] aa ac)[i]? = some u -> w.cell? ⟨g, j * 5 + i, none⟩ = some u
def zls (x : Iz) : Int := if (decide (x.kind = 1) && !ze6 x.name) = true then x.deep + 1 else x.deep
def zbb : Int -> Bool -> List Iz -> Bool
 | _, _, [] => true
 | most, first, x :: r => ((!(decide (x.deep < 0) || decide (x.deep > most))) && zbc x first) && zbb (zls x) false r
def za7 (l : List Iz) : Bool := decide (l.length <= 5000) && zbb 0 true l
theorem zl0 (l : List Iz) (la : Option Addr) (n cap : Nat) (hln : l.length = n) (hn : n <= 100000000) (hsz : ∀ y ∈ l, y.attrs.length <= 100000000 /\ ∀ x ∈ y.attrs, x.name.length <= 1000000000 /\ x.value.length <= 1000000000) (w : World) (h : Zr9 w la l) :
  Calls Tryz.prog 137 #[.slice la n cap] w fun e w' => e = .returned (.bool (za7 l)) /\ Kept (fun k => k < w.heap.size) w w' := by
 by_cases h5 : n <= 5000
 ·have hg : decide ((n : Int) > 5000) = false := decide_eq_false (by omega)
  have es : za7 l = zbb 0 true l := by
   unfold za7
   rw [hln, decide_eq_true h5]
   rfl
  rw [es]
  obtain ⟨R, hR⟩ : ∃ R, zbb 0 true l = R := ⟨_, rfl⟩
  rw [hR]
  have HR : Hid (zbb 0 true (l.drop 0) = R) := hR
  have HL : Hid (l.length = n) := hln
  have HI : Hid (Zr9 w la l) := h
  have HSZ : Hid (∀ y ∈ l, y.attrs.length <= 100000000 /\ ∀ x ∈ y.attrs, x.name.length <= 1000000000 /\ x.value.length <= 1000000000) := hsz
  clear es hR hln h hsz hn
  go_enter Tryz.func137, Tryz.ntmps137
  go_upto_region 5 with fail
  go_loopg [11, 3] n (fun g v m wr => ∃ (k : Nat) (most : Int), g = n - k /\ k <= n /\ v = .int .i64 k /\ m = .int .i64 most /\ 0 <= most /\ most <= k /\ zbb most (decide (k = 0)) (l.drop k) = R /\ Kept (fun k => k < w.heap.size) w wr)
  case atStart => exact ⟨0, 0, rfl, Nat.zero_le _, rfl, rfl, Int.le_refl _, Int.le_refl _, HR.out, Kept.refl _ _⟩
  case round =>
   clear HR
   obtain ⟨k, most, hgk, hk, rfl, rfl, hm0, hm1, hRk, hKk⟩ := hrel
   have HK : Hid (Kept (fun k => k < w.heap.size) w wr) := hKk
   clear hKk
   by_cases hlt : k < n
   ·have hl : k < l.length := by rw [HL.out]; exact hlt
    rw [List.drop_eq_getElem_cons hl] at hRk
    obtain ⟨g, aa, ac, hg', hgl, hA, hc⟩ := HI.out k hl
    have hszk := HSZ.out l[k] (List.getElem_mem hl)
    subst hg'
    obtain ⟨x, hx⟩ : ∃ x, l[k] = x := ⟨_, rfl⟩
    rw [hx] at hRk hA hc hszk
    obtain ⟨d, kd, nm, at_, dt⟩ := x
    have e : ∀ i u, (zeo ⟨d, kd, nm, at_, dt⟩ aa ac)[i]? = some u -> wr.cell? ⟨g, k * 5 + i, none⟩ = some u := fun i u hi => (HK.out.cell (p := ⟨g, k * 5 + i, none⟩) hgl).trans (hc i u hi)
    obtain ⟨S, hS⟩ : ∃ S : ByteArray, (⟨nm.toArray⟩ : ByteArray) = S := ⟨_, rfl⟩
    obtain ⟨D, hD⟩ : ∃ D : ByteArray, (⟨dt.toArray⟩ : ByteArray) = D := ⟨_, rfl⟩
    have c0 : wr.cell? ⟨g, k * 5, none⟩ = some (.int .i64 d) := e 0 _ rfl
    have c1 : wr.cell? ⟨g, k * 5 + 1, none⟩ = some (.int .u8 (kd : Int)) := e 1 _ rfl
    have c2 : wr.cell? ⟨g, k * 5 + 2, none⟩ = some (.string S) := by rw [<- hS]; exact e 2 _ rfl
    have c3 : wr.cell? ⟨g, k * 5 + 3, none⟩ = some (.string D) := by rw [<- hD]; exact e 3 _ rfl
    obtain ⟨m, hm⟩ : ∃ m, at_.length = m := ⟨_, rfl⟩
    have c4 : wr.cell? ⟨g, k * 5 + 4, none⟩ = some (.slice aa m ac) := by rw [<- hm]; exact e 4 _ rfl
    have hSl : S.toList = nm := by rw [ByteArray.toList_eq, <- hS]
    have hDl : D.toList = dt := by rw [ByteArray.toList_eq, <- hD]
    have hR1 : ((!(decide (d < 0) || decide (d > most))) && zbc ⟨d, kd, nm, at_, dt⟩ (decide (k = 0)) && zbb (zls ⟨d, kd, nm, at_, dt⟩) false (l.drop (k + 1))) = R := hRk
    rw [<- hSl, <- hDl] at hR1
    obtain ⟨V, hV⟩ : ∃ V, wr.alloc (.cells #[.int .i64 d, .int .u8 (kd : Int), .string S, .string D, .slice aa m ac] 163) = V := ⟨_, rfl⟩
    obtain ⟨N, hN⟩ : ∃ N, wr.heap.size = N := ⟨_, rfl⟩
    have kV : Kept (fun k => k < wr.heap.size) wr V := by rw [<- hV]; exact (Kept.refl _ wr).alloc (fun _ h => h) _
    have kwV : Kept (fun k => k < w.heap.size) w V := kt HK.out kV
    have sV : N < V.heap.size := by rw [<- hV, <- hN]; simp
    have hcV : ∀ i u, #[Value.int .i64 d, .int .u8 (kd : Int), .string S, .string D, .slice aa m ac].toList[i]? = some u -> V.cell? ⟨N, i, none⟩ = some u := by
     intro i u hi
     rw [<- hV, <- hN, zaa (heap_alloc_new wr _), <- Array.getElem?_toList]
     exact hi
    have r := zn5 d kd S D at_ aa m ac hm (by rw [<- hm]; exact hszk.1) hszk.2 (decide (k = 0)) V (hA.kept kwV fun k h => ltl h kwV.size)
    obtain ⟨fz, hfz⟩ : ∃ f, decide (k = 0) = f := ⟨_, rfl⟩
    rw [hfz] at r hR1
    have q0 : ((k : Int) == 0) = fz := by
     rw [<- hfz, Bool.eq_iff_iff]
     simp
    obtain ⟨kq, hkq⟩ : ∃ q, zbc ⟨d, kd, S.toList, at_, D.toList⟩ fz = q := ⟨_, rfl⟩
    rw [hkq] at r hR1
    obtain ⟨nx, hnx⟩ : ∃ z, zls ⟨d, kd, S.toList, at_, D.toList⟩ = z := ⟨_, rfl⟩
    rw [hnx] at hR1
    have HNX : Hid ((if (decide (kd = 1) && !ze6 S.toList) = true then d + 1 else d) = nx) := hnx
    have HR1 : Hid ((!(decide (d < 0) || decide (d > most)) && kq && zbb nx false (l.drop (k + 1))) = R) := hR1
    have HV : Hid (wr.alloc (.cells #[.int .i64 d, .int .u8 (kd : Int), .string S, .string D, .slice aa m ac] 163) = V) := hV
    have HN : Hid (wr.heap.size = N) := hN
    have HKV : Hid (Kept (fun k => k < w.heap.size) w V) := kwV
    have HCV : Hid (∀ X, Kept (fun k => k < V.heap.size) V X -> ∀ i u, #[Value.int .i64 d, .int .u8 (kd : Int), .string S, .string D, .slice aa m ac].toList[i]? = some u -> X.cell? ⟨N, i, none⟩ = some u) := fun X hX i u hi => (hX.cell (p := ⟨N, i, none⟩) sV).trans (hcV i u hi)
    have t0 := hcV 0 _ rfl
    have t1 := hcV 1 _ rfl
    have t2 := hcV 2 _ rfl
    have t3 := hcV 3 _ rfl
    have t4 := hcV 4 _ rfl
    clear hRk hA hc hszk e hS hD hm hSl hDl hR1 hV hN kV kwV sV hcV hkq hnx hfz hgl hx
    by_cases hd0 : d < 0
    ·have hR : R = false := by
      rw [<- HR1.out, decide_eq_true hd0]
      rfl
     subst hR
     have hd0' : decide (d < 0) = true := decide_eq_true hd0
     clear HR1 r
     go_upto_region 7 with fail
     rw [HV.out, HN.out]
     go_wp2
     go_ret
     exact ⟨rfl, HKV.out⟩
    ·have hd0' : decide (d < 0) = false := decide_eq_false hd0
     by_cases hdm : d > most
     ·have hR : R = false := by
       rw [<- HR1.out, decide_eq_true hdm]
       simp
      subst hR
      have hdm' : decide (d > most) = true := decide_eq_true hdm
      clear HR1 r
      go_upto_region 7 with fail
      rw [HV.out, HN.out]
      go_wp2
      go_ret
      exact ⟨rfl, HKV.out⟩
     ·have hdm' : decide (d > most) = false := decide_eq_false hdm
      have hR2 := HR1.out
      rw [hd0', hdm'] at hR2
      have HR2 : Hid ((kq && zbb nx false (l.drop (k + 1))) = R) := hR2
      have hdk : d <= k := by omega
      have hd00 : 0 <= d := by omega
      clear hR2 HR1 hd0 hdm
      go_upto_region 7 with fail
      rw [HV.out, HN.out]
      go_wp2_with fail
      refine r.mono ?_
      rintro e w2 ⟨rfl, k2⟩
      have HK2 : Hid (Kept (fun k => k < w.heap.size) w w2) := kt HKV.out k2
      have m0 := HCV.out w2 k2 0 _ rfl
      have m1 := HCV.out w2 k2 1 _ rfl
      have m2 := HCV.out w2 k2 2 _ rfl
      clear r k2 t0 t1 t2 t3 t4 c0 c1 c2 c3 c4 HV HN HKV HCV
      cases kq with
      | false =>
       have hR : R = false := HR2.out.symm
       subst hR
       clear HR2
       go_wp2
       go_ret
       exact ⟨rfl, HK2.out⟩
      | true =>
       have hR3 := HR2.out
       rw [Bool.true_and] at hR3
       have HR3 : Hid (zbb nx false (l.drop (k + 1)) = R) := hR3
       clear HR2 hR3
       by_cases hk1 : kd = 1
       ·subst hk1
        have rv := zjd S (fun k => k < w2.heap.size) w2
        obtain ⟨v, hv⟩ : ∃ v, ze6 S.toList = v := ⟨_, rfl⟩
        rw [hv] at rv
        have hnx := HNX.out
        rw [hv] at hnx
        clear hv HNX
        cases v with
        | true =>
         have hnx' : d = nx := hnx
         subst hnx'
         clear hnx
         go_wp2_with fail
         refine rv.mono ?_
         rintro e w3 ⟨rfl, k3⟩
         have HK3 : Hid (Kept (fun k => k < w.heap.size) w w3) := kt HK2.out k3
         clear rv k3 m0 m1 m2
         go_wp2
         go_roundg (n - (k + 1))
         case rel => exact ⟨k + 1, d, rfl, by omega, by go_num, rfl, hd00, by omega, HR3.out, HK3.out⟩
         case measure => omega
        | false =>
         have hnx' : d + 1 = nx := hnx
         subst hnx'
         clear hnx
         go_wp2_with fail
         refine rv.mono ?_
         rintro e w3 ⟨rfl, k3⟩
         have HK3 : Hid (Kept (fun k => k < w.heap.size) w w3) := kt HK2.out k3
         clear rv k3 m0 m1 m2
         go_wp2
         go_roundg (n - (k + 1))
         case rel => exact ⟨k + 1, d + 1, rfl, by omega, by go_num, rfl, by omega, by omega, HR3.out, HK3.out⟩
         case measure => omega
       ·have q1 : ((kd : Int) == 1) = false := by
         have : (kd : Int) ≠ 1 := by omega
         simpa using this
        have hnx' : d = nx := by
         rw [<- HNX.out, decide_eq_false hk1]
         rfl
        subst hnx'
        clear HNX
        go_wp2
        go_roundg (n - (k + 1))
        case rel => exact ⟨k + 1, d, rfl, by omega, by go_num, rfl, hd00, by omega, HR3.out, HK2.out⟩
        case measure => omega
   ·have hkk : k = n := by omega
    subst hkk
    have hR : R = true := by
     rw [<- hRk, List.drop_eq_nil_of_le (by rw [HL.out]; exact Nat.le_refl _)]
     rfl
    subst hR
    clear hRk
    go_wp2
    go_ret
    exact ⟨rfl, HK.out⟩
 ·have hg : decide ((n : Int) > 5000) = true := decide_eq_true (by omega)
  have es : za7 l = false := by
   unfold za7
   rw [hln, decide_eq_false h5]
   rfl
  rw [es]
  have hu := And.intro hsz h
  clear hu es hln hsz h
  go_enter Tryz.func137, Tryz.ntmps137
  go_wp2
  go_ret
  exact ⟨rfl, Kept.refl _ _⟩
end
end Go.Proofs.YtfeinppedejlpaaGreat
