/-
 The document's own among, Void, Valid, Writable, has.
-/
import Derived.Test.YtfeinppedejlpaaGreatNB06
import Derived.Test.YtfeinppedejlpaaGreatNB02
import Derived.Deep.QuietTactic
import Derived.BigQuiet
import Derived.Deep.LoopGhost
import Derived.Deep.DeepCutAuto
import Derived.Deep.CutBlock
namespace Go.Proofs.YtfeinppedejlpaaGreat
set_option linter.unusedVariables false
set_option maxRecDepth 100000
set_option maxHeartbeats 8000000
section
open Go.RowKit
def zb5 (t l : List UInt8) (fr i : Nat) : Bool := (ze3 ((t.take i).drop fr) (t.drop i)).any (· == l) && l != []
theorem zis (t l : List UInt8) : zb5 t l 0 0 = zga t l := by simp [zb5, zga]
theorem zgi (t l : List UInt8) (fr : Nat) : zb5 t l fr t.length = ((t.drop fr == l) && l != []) := by simp [zb5, ze3]
theorem zeu {t : List UInt8} (l : List UInt8) (fr : Nat) {i : Nat} (hi : i < t.length) (hb : t[i] = 32) : zb5 t l fr i = ((((t.take i).drop fr == l) && l != []) || zb5 t l (i + 1) (i + 1)) := by
 unfold zb5
 rw [List.drop_eq_getElem_cons hi, ze3, if_pos hb, List.any_cons]
 have : (t.take (i + 1)).drop (i + 1) = [] := by simp
 rw [this]
 cases (l != []) <;> simp
theorem zf2 {t : List UInt8} (l : List UInt8) {fr i : Nat} (hf : fr <= i) (hi : i < t.length) (hb : ¬ t[i] = 32) : zb5 t l fr i = zb5 t l fr (i + 1) := by
 unfold zb5
 rw [List.drop_eq_getElem_cons hi, ze3, if_neg hb, List.take_succ_eq_append_getElem hi, List.drop_append_of_le_length (by simp; omega)]
theorem zgo (t : ByteArray) (a b : Nat) : (t.extract a b).toList = (t.data.toList.take b).drop a := by
 rw [ByteArray.toList_eq, ByteArray.data_extract, Array.toList_extract, List.extract_eq_take_drop, List.drop_take]
theorem ze5 (l : List UInt8) : (l != []) = !l.isEmpty := by cases l <;> rfl
theorem zna (t s : ByteArray) (K : Nat -> Prop) (w : World) (ht : t.size < 1000) :
  Calls Tryz.prog 199 #[.string t, .string s] w fun e w' => e = .returned (.bool (zga t.data.toList s.toList)) /\ Kept K w w' := by
 rw [<- zis]
 obtain ⟨A, hA⟩ : ∃ A, zb5 t.data.toList s.toList 0 0 = A := ⟨_, rfl⟩
 rw [hA]
 have hlen : t.data.toList.length = t.size := rfl
 go_enter Tryz.func199, Tryz.ntmps199
 go_wp2_with fail
 go_loopw [5, 6, 7, 8, 9, 10, 11, 12, 13, 14, 15, 16, 17, 18, 19, 20, 21, 22, 23, 24, 25, 26, 27, 28, 29, 30, 31, 32, 33, 34] (fun f i _ _ _ _ _ _ _ _ _ _ _ _ _ _ _ _ _ _ _ _ _ _ _ _ _ _ _ _ wr => ∃ fr k : Nat, ((fr <= k /\ k <= t.size /\ Hid (zb5 t.data.toList s.toList fr k = A)) \/ (k = t.size + 1 /\ A = false)) /\ f = .int .i64 fr /\ i = .int .i64 k /\ wr = w) (fun _ i _ _ _ _ _ _ _ _ _ _ _ _ _ _ _ _ _ _ _ _ _ _ _ _ _ _ _ _ _ => t.size + 1 - (intOf i).toNat)
 case atStart => exact ⟨0, 0, .inl ⟨Nat.le_refl _, Nat.zero_le _, hA⟩, rfl, rfl, rfl⟩
 case round =>
  clear hA
  obtain ⟨fr, k, hk, rfl, rfl, rfl⟩ := hrel
  rcases hk with ⟨hf, hk, HA⟩ | ⟨rfl, rfl⟩
  ·have hx := zgo t fr k
   by_cases hm : ((t.extract fr k).toList = s.toList /\ s.toList.isEmpty = false)
   ·obtain ⟨m1, m2⟩ := hm
    have m3 : ((t.extract fr k).toList == s.toList) = true := by simpa using m1
    have hw : (((t.data.toList.take k).drop fr == s.toList) && s.toList != []) = true := by
     rw [ze5, m2, <- hx, m3]
     rfl
    by_cases he : k = t.size
    ·have hA : A = true := by
      rw [<- HA.out, he, <- hlen, zgi, <- hw, he, <- hlen, List.take_length]
     subst hA
     subst he
     clear hw HA hx m1
     go_wp2
     go_ret
     exact ⟨rfl, Kept.refl _ _⟩
    ·have hlt : k < t.size := by omega
     have e1 : ((k : Int) == (t.size : Int)) = false := by simp; omega
     have hl' : k < t.data.toList.length := by omega
     by_cases hb : t[k].toNat = 32
     ·have e2 : ((t[k].toNat : Int) == 32) = true := by simp; omega
      have hb' : t.data.toList[k] = 32 := UInt8.toNat_inj.1 hb
      have hA : A = true := by
       rw [<- HA.out, zeu s.toList fr hl' hb', hw]
       rfl
      subst hA
      clear hw HA hx m1 he hb hb'
      go_wp2
      go_ret
      exact ⟨rfl, Kept.refl _ _⟩
     ·have e2 : ((t[k].toNat : Int) == 32) = false := by simp; omega
      have hb' : ¬ t.data.toList[k] = 32 := fun h => hb (congrArg UInt8.toNat h)
      have HA' : Hid (zb5 t.data.toList s.toList fr (k + 1) = A) := by rw [<- HA.out]; exact (zf2 s.toList hf hl' hb').symm
      clear hw HA hx m1 he hb hb' m3 m2
      go_wp2
      go_roundw
      case rel => exact ⟨fr, k + 1, .inl ⟨by omega, by omega, HA'⟩, rfl, by go_num, trivial⟩
      case measure => simp [intOf]; omega
   ·have hw : (((t.data.toList.take k).drop fr == s.toList) && s.toList != []) = false := by
     rw [ze5, <- hx, Bool.eq_false_iff]
     intro h
     simp at h
     exact hm ⟨h.1, by simpa using h.2⟩
    by_cases he : k = t.size
    ·have hA : A = false := by
      rw [<- HA.out, he, <- hlen, zgi, <- hw, he, <- hlen, List.take_length]
     subst hA
     subst he
     clear hw HA hx
     by_cases m1 : (t.extract fr t.size).toList = s.toList
     ·have m2 : s.toList.isEmpty = true := by
       cases h : s.toList.isEmpty
       ·exact absurd ⟨m1, h⟩ hm
       ·rfl
      have m3 : ((t.extract fr t.size).toList == s.toList) = true := by simpa using m1
      clear m1 hm
      go_wp2
      go_roundw
      case rel => exact ⟨t.size + 1, t.size + 1, .inr ⟨rfl, trivial⟩, by go_num, by go_num, trivial⟩
      case measure => simp [intOf]
     ·have m3 : ((t.extract fr t.size).toList == s.toList) = false := by simpa using m1
      clear m1 hm
      go_wp2
      go_roundw
      case rel => exact ⟨t.size + 1, t.size + 1, .inr ⟨rfl, trivial⟩, by go_num, by go_num, trivial⟩
      case measure => simp [intOf]
    ·have hlt : k < t.size := by omega
     have e1 : ((k : Int) == (t.size : Int)) = false := by simp; omega
     have hl' : k < t.data.toList.length := by omega
     by_cases hb : t[k].toNat = 32
     ·have e2 : ((t[k].toNat : Int) == 32) = true := by simp; omega
      have hb' : t.data.toList[k] = 32 := UInt8.toNat_inj.1 hb
      have HA' : Hid (zb5 t.data.toList s.toList (k + 1) (k + 1) = A) := by
       show _ = _
       rw [<- HA.out, zeu s.toList fr hl' hb', hw]
       rfl
      clear hw HA hx he hb hb'
      by_cases m1 : (t.extract fr k).toList = s.toList
      ·have m2 : s.toList.isEmpty = true := by
        cases h : s.toList.isEmpty
        ·exact absurd ⟨m1, h⟩ hm
        ·rfl
       have m3 : ((t.extract fr k).toList == s.toList) = true := by simpa using m1
       clear m1 hm
       go_wp2
       go_roundw
       case rel => exact ⟨k + 1, k + 1, .inl ⟨Nat.le_refl _, by omega, HA'⟩, by go_num, by go_num, trivial⟩
       case measure => simp [intOf]; omega
      ·have m3 : ((t.extract fr k).toList == s.toList) = false := by simpa using m1
       clear m1 hm
       go_wp2
       go_roundw
       case rel => exact ⟨k + 1, k + 1, .inl ⟨Nat.le_refl _, by omega, HA'⟩, by go_num, by go_num, trivial⟩
       case measure => simp [intOf]; omega
     ·have e2 : ((t[k].toNat : Int) == 32) = false := by simp; omega
      have hb' : ¬ t.data.toList[k] = 32 := fun h => hb (congrArg UInt8.toNat h)
      have HA' : Hid (zb5 t.data.toList s.toList fr (k + 1) = A) := by rw [<- HA.out]; exact (zf2 s.toList hf hl' hb').symm
      clear hw HA hx he hb hb' hm
      go_wp2
      go_roundw
      case rel => exact ⟨fr, k + 1, .inl ⟨by omega, by omega, HA'⟩, rfl, by go_num, trivial⟩
      case measure => simp [intOf]; omega
  ·have e1 : decide (((t.size + 1 : Nat) : Int) <= (t.size : Int)) = false := by simp; omega
   go_wp2
   go_ret
   exact ⟨rfl, Kept.refl _ _⟩
theorem zg9 (s : ByteArray) (K : Nat -> Prop) (w : World) :
  Calls Tryz.prog 128 #[.string s] w fun e w' => e = .returned (.bool (ze6 s.toList)) /\ Kept K w w' := by
 have h1 := fun X => zna zq3 s K X (by decide +kernel)
 rw [zk5] at h1
 go_enter Tryz.func128, Tryz.ntmps128
 go_wp2_with fail
 refine (h1 _).mono ?_
 rintro e w1 ⟨rfl, hk1⟩
 go_wp2
 go_ret
 exact ⟨rfl, hk1⟩
def rbar (c : UInt8) (i : Nat) : Bool := !zc4 c && (i == 0 || !zdp c)
def zek (n i : Nat) : Prop := (n < 97 \/ 122 < n) /\ (i = 0 \/ ((n < 48 \/ 57 < n) /\ n ≠ 45 /\ n ≠ 46 /\ n ≠ 95))
theorem zda (c : UInt8) (i : Nat) : rbar c i = true ↔ zek c.toNat i := by
 unfold rbar zek zc4 zdp
 simp
 omega
theorem zd4 (s : ByteArray) (i : Nat) (hi : i < s.size) (h : rbar s[i] i = true) : za6 s.toList = false := by
 have : zjk s i = true := by unfold zjk; rw [dif_pos hi]; exact h
 simp [za6, zm7 s i hi this]
theorem zgv (s : ByteArray) (h : ∀ i (hi : i < s.size), rbar s[i] i = false) : za6 s.toList = (decide (1 <= s.size) && decide (s.size <= 60)) := by
 have hf := zez s fun i hi => by unfold zjk; rw [dif_pos hi]; exact h i hi
 have hl : s.toList.length = s.size := by rw [ByteArray.toList_eq]; rfl
 rw [za6, hl, hf, Bool.and_true]
theorem zc6 {s : ByteArray} {k : Nat} (hk : k < s.size) (hj : ∀ j (hj : j < s.size), j < k -> rbar s[j] j = false) (hb : ¬ zek s[k].toNat k) : ∀ j (hj : j < s.size), j < k + 1 -> rbar s[j] j = false := by
 intro j hjs hjk
 rcases Nat.lt_succ_iff_lt_or_eq.1 hjk with h | rfl
 ·exact hj j hjs h
 ·cases h : rbar s[j] j
  ·rfl
  ·exact absurd ((zda _ _).1 h) hb
theorem zkq (s : ByteArray) (K : Nat -> Prop) (w : World) (h300 : s.size < 1000000) :
  Calls Tryz.prog 282 #[.string s] w fun e w' => e = .returned (.bool (za6 s.toList)) /\ Kept K w w' := by
 go_enter Tryz.func282, Tryz.ntmps282
 go_wp2_with fail
 go_loopw [2, 3, 4, 5, 6, 7, 8, 9, 10, 11, 12, 13, 14, 15, 16, 17, 18, 19, 20, 21, 22, 23, 24, 25, 26, 27, 28, 29, 30, 31, 32, 33, 34, 35, 36, 37, 38, 39, 40, 41, 42, 43, 44, 45, 46, 47] (fun r i _ _ _ _ _ _ _ _ _ _ _ _ _ _ _ _ _ _ _ _ _ _ _ _ _ _ _ _ _ _ _ _ _ _ _ _ _ _ _ _ _ _ _ _ wr => ∃ k : Nat, k <= s.size /\ i = .int .i64 k /\ wr = w /\ ∀ j (hj : j < s.size), j < k -> rbar s[j] j = false) (fun _ i _ _ _ _ _ _ _ _ _ _ _ _ _ _ _ _ _ _ _ _ _ _ _ _ _ _ _ _ _ _ _ _ _ _ _ _ _ _ _ _ _ _ _ _ _ => s.size - (intOf i).toNat)
 case atStart => exact ⟨0, Nat.zero_le _, rfl, rfl, fun j _ hj => absurd hj (Nat.not_lt_zero _)⟩
 case round =>
  obtain ⟨k, hk, rfl, rfl, hj⟩ := hrel
  by_cases hlt : k < s.size
  ·have cls : (97 <= s[k].toNat /\ s[k].toNat <= 122) \/ (122 < s[k].toNat /\ k = 0) \/ (s[k].toNat < 97 /\ k = 0) \/ (122 < s[k].toNat /\ k ≠ 0) \/ (57 < s[k].toNat /\ s[k].toNat < 97 /\ s[k].toNat ≠ 95 /\ k ≠ 0) \/ (s[k].toNat = 95 /\ k ≠ 0) \/ (48 <= s[k].toNat /\ s[k].toNat <= 57 /\ k ≠ 0) \/ (s[k].toNat = 46 /\ k ≠ 0) \/ (s[k].toNat = 45 /\ k ≠ 0) \/ (s[k].toNat < 48 /\ s[k].toNat ≠ 45 /\ s[k].toNat ≠ 46 /\ k ≠ 0) := by omega
   rcases cls with g | g | g | g | g | g | g | g | g | g
   ·have hnew := zc6 hlt hj (by unfold zek; omega)
    have e0 : decide ((s[k].toNat : Int) >= 97) = true := by simp; omega
    have e1 : decide ((s[k].toNat : Int) <= 122) = true := by simp; omega
    clear hj g
    go_wp2
    go_roundw
    case rel => exact ⟨k + 1, by omega, by go_num, trivial, hnew⟩
    case measure => simp [intOf]; omega
   ·have hv : Hid (za6 s.toList = false) := zd4 s k hlt ((zda _ _).2 (by unfold zek; omega))
    have e0 : decide ((s[k].toNat : Int) >= 97) = true := by simp; omega
    have e1 : decide ((s[k].toNat : Int) <= 122) = false := by simp; omega
    have e2 : ((k : Int) == 0) = true := by simp; omega
    clear hj g
    go_wp2
    go_ret
    exact ⟨congrArg (fun b => Ending.returned (.bool b)) hv.out.symm, Kept.refl _ _⟩
   ·have hv : Hid (za6 s.toList = false) := zd4 s k hlt ((zda _ _).2 (by unfold zek; omega))
    have e0 : decide ((s[k].toNat : Int) >= 97) = false := by simp; omega
    have e1 : ((k : Int) == 0) = true := by simp; omega
    clear hj g
    go_wp2
    go_ret
    exact ⟨congrArg (fun b => Ending.returned (.bool b)) hv.out.symm, Kept.refl _ _⟩
   ·have hv : Hid (za6 s.toList = false) := zd4 s k hlt ((zda _ _).2 (by unfold zek; omega))
    have e0 : decide ((s[k].toNat : Int) >= 97) = true := by simp; omega
    have e1 : decide ((s[k].toNat : Int) <= 122) = false := by simp; omega
    have e2 : ((k : Int) == 0) = false := by simp; omega
    have e3 : decide ((s[k].toNat : Int) >= 48) = true := by simp; omega
    have e4 : decide ((s[k].toNat : Int) <= 57) = false := by simp; omega
    have e5 : ((s[k].toNat : Int) != 45) = true := by simp; omega
    have e6 : ((s[k].toNat : Int) != 46) = true := by simp; omega
    have e7 : ((s[k].toNat : Int) != 95) = true := by simp; omega
    clear hj g
    go_wp2
    go_ret
    exact ⟨congrArg (fun b => Ending.returned (.bool b)) hv.out.symm, Kept.refl _ _⟩
   ·have hv : Hid (za6 s.toList = false) := zd4 s k hlt ((zda _ _).2 (by unfold zek; omega))
    have e0 : decide ((s[k].toNat : Int) >= 97) = false := by simp; omega
    have e1 : ((k : Int) == 0) = false := by simp; omega
    have e2 : decide ((s[k].toNat : Int) >= 48) = true := by simp; omega
    have e3 : decide ((s[k].toNat : Int) <= 57) = false := by simp; omega
    have e4 : ((s[k].toNat : Int) != 45) = true := by simp; omega
    have e5 : ((s[k].toNat : Int) != 46) = true := by simp; omega
    have e6 : ((s[k].toNat : Int) != 95) = true := by simp; omega
    clear hj g
    go_wp2
    go_ret
    exact ⟨congrArg (fun b => Ending.returned (.bool b)) hv.out.symm, Kept.refl _ _⟩
   ·have hnew := zc6 hlt hj (by unfold zek; omega)
    have e0 : decide ((s[k].toNat : Int) >= 97) = false := by simp; omega
    have e1 : ((k : Int) == 0) = false := by simp; omega
    have e2 : decide ((s[k].toNat : Int) >= 48) = true := by simp; omega
    have e3 : decide ((s[k].toNat : Int) <= 57) = false := by simp; omega
    have e4 : ((s[k].toNat : Int) != 45) = true := by simp; omega
    have e5 : ((s[k].toNat : Int) != 46) = true := by simp; omega
    have e6 : ((s[k].toNat : Int) != 95) = false := by simp; omega
    clear hj g
    go_wp2
    go_roundw
    case rel => exact ⟨k + 1, by omega, by go_num, trivial, hnew⟩
    case measure => simp [intOf]; omega
   ·have hnew := zc6 hlt hj (by unfold zek; omega)
    have e0 : decide ((s[k].toNat : Int) >= 97) = false := by simp; omega
    have e1 : ((k : Int) == 0) = false := by simp; omega
    have e2 : decide ((s[k].toNat : Int) >= 48) = true := by simp; omega
    have e3 : decide ((s[k].toNat : Int) <= 57) = true := by simp; omega
    clear hj g
    go_wp2
    go_roundw
    case rel => exact ⟨k + 1, by omega, by go_num, trivial, hnew⟩
    case measure => simp [intOf]; omega
   ·have hnew := zc6 hlt hj (by unfold zek; omega)
    have e0 : decide ((s[k].toNat : Int) >= 97) = false := by simp; omega
    have e1 : ((k : Int) == 0) = false := by simp; omega
    have e2 : decide ((s[k].toNat : Int) >= 48) = false := by simp; omega
    have e3 : ((s[k].toNat : Int) != 45) = true := by simp; omega
    have e4 : ((s[k].toNat : Int) != 46) = false := by simp; omega
    clear hj g
    go_wp2
    go_roundw
    case rel => exact ⟨k + 1, by omega, by go_num, trivial, hnew⟩
    case measure => simp [intOf]; omega
   ·have hnew := zc6 hlt hj (by unfold zek; omega)
    have e0 : decide ((s[k].toNat : Int) >= 97) = false := by simp; omega
    have e1 : ((k : Int) == 0) = false := by simp; omega
    have e2 : decide ((s[k].toNat : Int) >= 48) = false := by simp; omega
    have e3 : ((s[k].toNat : Int) != 45) = false := by simp; omega
    clear hj g
    go_wp2
    go_roundw
    case rel => exact ⟨k + 1, by omega, by go_num, trivial, hnew⟩
    case measure => simp [intOf]; omega
   ·have hv : Hid (za6 s.toList = false) := zd4 s k hlt ((zda _ _).2 (by unfold zek; omega))
    have e0 : decide ((s[k].toNat : Int) >= 97) = false := by simp; omega
    have e1 : ((k : Int) == 0) = false := by simp; omega
    have e2 : decide ((s[k].toNat : Int) >= 48) = false := by simp; omega
    have e3 : ((s[k].toNat : Int) != 45) = true := by simp; omega
    have e4 : ((s[k].toNat : Int) != 46) = true := by simp; omega
    have e5 : ((s[k].toNat : Int) != 95) = true := by simp; omega
    clear hj g
    go_wp2
    go_ret
    exact ⟨congrArg (fun b => Ending.returned (.bool b)) hv.out.symm, Kept.refl _ _⟩
  ·have hv : Hid (za6 s.toList = (decide (1 <= s.size) && decide (s.size <= 60))) := zgv s fun i hi => hj i hi (by omega)
   by_cases h1 : 1 <= s.size
   ·have e1 : decide ((s.size : Int) >= 1) = true := by simp; omega
    go_wp2
    go_ret
    refine ⟨congrArg (fun b => Ending.returned (.bool b)) ?_, Kept.refl _ _⟩
    rw [hv.out, decide_eq_true h1, Bool.true_and, Bool.eq_iff_iff]
    simp
    omega
   ·have e1 : decide ((s.size : Int) >= 1) = false := by simp; omega
    go_wp2
    go_ret
    refine ⟨congrArg (fun b => Ending.returned (.bool b)) ?_, Kept.refl _ _⟩
    rw [hv.out, decide_eq_false h1, Bool.false_and]
theorem zqg {N V : ByteArray} {k : Nat} (hk : k < N.size) (h : zbs N[k] = true) : zbg ⟨N.data.toList, V.data.toList⟩ = false := by
 have hm : N[k] ∈ N.data.toList := List.getElem_mem (l := N.data.toList) (n := k) hk
 have : (N.data.toList.all fun c => !zbs c) = false := by
  apply Bool.eq_false_iff.2
  intro ha
  have := List.all_eq_true.1 ha _ hm
  rw [h] at this
  cases this
 unfold zbg
 simp only [this, Bool.and_false, Bool.false_and]
theorem zo3 {N V : ByteArray} (h : ∀ j (hj : j < N.size), zbs N[j] = false) : zbg ⟨N.data.toList, V.data.toList⟩ = (decide (1 <= N.size) && decide (N.size <= 60) && decide (V.size <= 2000)) := by
 have : (N.data.toList.all fun c => !zbs c) = true := by
  apply List.all_eq_true.2
  intro c hc
  obtain ⟨j, hj, rfl⟩ := List.getElem_of_mem hc
  have := h j hj
  show (!zbs N[j]) = true
  rw [this]
  rfl
 unfold zbg
 simp only [this, Bool.and_true]
 rfl
theorem zco (N V : ByteArray) (hN : N.size < 1000000) (K : Nat -> Prop) (w : World) (hK : ∀ k, K k -> k < w.heap.size) :
  Calls Tryz.prog 175 #[.agg #[.string N, .string V]] w fun e w' => e = .returned (.bool (zbg ⟨N.data.toList, V.data.toList⟩)) /\ Kept K w w' := by
 obtain ⟨M, hM⟩ : ∃ M, w.heap.size = M := ⟨_, rfl⟩
 obtain ⟨W, hW⟩ : ∃ W, w.alloc (.cells #[.string N, .string V] 108) = W := ⟨_, rfl⟩
 have HKW : Hid (Kept K w W) := by show Kept K w W; rw [<- hW]; exact (Kept.refl K w).alloc hK _
 have b0 : W.heap[M]? = some (.cells #[.string N, .string V] 108 (0, 0)) := by rw [<- hW, <- hM]; exact heap_alloc_new w _
 have c0 : W.cell? ⟨M, 0, none⟩ = some (.string N) := by rw [zaa b0]; rfl
 have c1 : W.cell? ⟨M, 1, none⟩ = some (.string V) := by rw [zaa b0]; rfl
 have HF : Hid (∀ k (hk : k < N.size), zbs N[k] = true -> zbg ⟨N.data.toList, V.data.toList⟩ = false) := fun k hk h => zqg hk h
 have HT : Hid ((∀ j (hj : j < N.size), zbs N[j] = false) -> zbg ⟨N.data.toList, V.data.toList⟩ = (decide (1 <= N.size) && decide (N.size <= 60) && decide (V.size <= 2000))) := fun h => zo3 h
 have HW : Hid (w.alloc (.cells #[.string N, .string V] 108) = W) := hW
 have HM : Hid (w.heap.size = M) := hM
 clear hW b0 hK hM
 go_enter Tryz.func175, Tryz.ntmps175
 go_upto_region 1 with fail
 rw [HW.out, HM.out]
 clear HW HM
 go_wp2_with fail
 go_loopg [3] N.size (fun g v wr => ∃ k : Nat, g = N.size - k /\ k <= N.size /\ v = .int .i64 k /\ (∀ j (hj : j < N.size), j < k -> zbs N[j] = false) /\ wr = W)
 case atStart => exact ⟨0, rfl, Nat.zero_le _, rfl, fun j _ h => absurd h (Nat.not_lt_zero _), rfl⟩
 case round =>
  obtain ⟨k, hgk, hk, rfl, hall, rfl⟩ := hrel
  by_cases hlt : k < N.size
  ·have hc256 := (N[k]).toNat_lt
   have cls : (N[k]).toNat = 0 \/ (1 <= (N[k]).toNat /\ (N[k]).toNat <= 8) \/ (N[k]).toNat = 9 \/ (N[k]).toNat = 10 \/ (N[k]).toNat = 11 \/ (N[k]).toNat = 12 \/ (13 <= (N[k]).toNat /\ (N[k]).toNat <= 31) \/ (N[k]).toNat = 32 \/ (33 <= (N[k]).toNat /\ (N[k]).toNat <= 46) \/ (N[k]).toNat = 47 \/ (48 <= (N[k]).toNat /\ (N[k]).toNat <= 60) \/ (N[k]).toNat = 61 \/ (N[k]).toNat = 62 \/ (63 <= (N[k]).toNat /\ (N[k]).toNat <= 64) \/ (65 <= (N[k]).toNat /\ (N[k]).toNat <= 90) \/ 91 <= (N[k]).toNat := by omega
   rcases cls with g | g | g | g | g | g | g | g | g | g | g | g | g | g | g | g
   ·have e0 : decide (((N[k]).toNat : Int) >= 65) = false := by simp; omega
    have e1 : decide (((N[k]).toNat : Int) <= 90) = true := by simp; omega
    have e2 : (((N[k]).toNat : Int) == 0) = true := by simp; omega
    have e3 : (((N[k]).toNat : Int) == 32) = false := by simp; omega
    have e4 : (((N[k]).toNat : Int) == 9) = false := by simp; omega
    have e5 : (((N[k]).toNat : Int) == 10) = false := by simp; omega
    have e6 : (((N[k]).toNat : Int) == 12) = false := by simp; omega
    have e7 : (((N[k]).toNat : Int) == 47) = false := by simp; omega
    have e8 : (((N[k]).toNat : Int) == 62) = false := by simp; omega
    have e9 : (((N[k]).toNat : Int) == 61) = false := by simp; omega
    have hbb : zbs N[k] = true := by unfold zbs; rw [show N[k] = 0 from UInt8.toNat_inj.1 (by show _ = 0; omega)]; rfl
    have HRES : Hid (zbg ⟨N.data.toList, V.data.toList⟩ = false) := HF.out k hlt hbb
    clear HF HT hbb hall g
    go_wp2
    go_ret
    exact ⟨by rw [HRES.out]; rfl, HKW.out⟩
   ·have e0 : decide (((N[k]).toNat : Int) >= 65) = false := by simp; omega
    have e1 : decide (((N[k]).toNat : Int) <= 90) = true := by simp; omega
    have e2 : (((N[k]).toNat : Int) == 0) = false := by simp; omega
    have e3 : (((N[k]).toNat : Int) == 32) = false := by simp; omega
    have e4 : (((N[k]).toNat : Int) == 9) = false := by simp; omega
    have e5 : (((N[k]).toNat : Int) == 10) = false := by simp; omega
    have e6 : (((N[k]).toNat : Int) == 12) = false := by simp; omega
    have e7 : (((N[k]).toNat : Int) == 47) = false := by simp; omega
    have e8 : (((N[k]).toNat : Int) == 62) = false := by simp; omega
    have e9 : (((N[k]).toNat : Int) == 61) = false := by simp; omega
    have hbb : zbs N[k] = false := by unfold zbs; apply Bool.eq_false_iff.2; intro hh; simp at hh; rcases hh with hh | hh | hh | hh | hh | hh | hh | hh | hh <;> first | omega | (have := congrArg UInt8.toNat hh; revert this; simp; omega)
    have HALL : Hid (∀ j (hj : j < N.size), j < k + 1 -> zbs N[j] = false) := fun j hj hjk => by
     rcases Nat.lt_or_ge j k with h | h
     ·exact hall j hj h
     ·have : j = k := by omega
      subst this
      exact hbb
    clear HF HT hbb hall g
    go_wp2
    go_roundg (N.size - (k + 1))
    case rel => exact ⟨k + 1, rfl, by omega, by go_num, HALL.out, rfl⟩
    case measure => omega
   ·have e0 : decide (((N[k]).toNat : Int) >= 65) = false := by simp; omega
    have e1 : decide (((N[k]).toNat : Int) <= 90) = true := by simp; omega
    have e2 : (((N[k]).toNat : Int) == 0) = false := by simp; omega
    have e3 : (((N[k]).toNat : Int) == 32) = false := by simp; omega
    have e4 : (((N[k]).toNat : Int) == 9) = true := by simp; omega
    have e5 : (((N[k]).toNat : Int) == 10) = false := by simp; omega
    have e6 : (((N[k]).toNat : Int) == 12) = false := by simp; omega
    have e7 : (((N[k]).toNat : Int) == 47) = false := by simp; omega
    have e8 : (((N[k]).toNat : Int) == 62) = false := by simp; omega
    have e9 : (((N[k]).toNat : Int) == 61) = false := by simp; omega
    have hbb : zbs N[k] = true := by unfold zbs; rw [show N[k] = 9 from UInt8.toNat_inj.1 (by show _ = 9; omega)]; rfl
    have HRES : Hid (zbg ⟨N.data.toList, V.data.toList⟩ = false) := HF.out k hlt hbb
    clear HF HT hbb hall g
    go_wp2
    go_ret
    exact ⟨by rw [HRES.out]; rfl, HKW.out⟩
   ·have e0 : decide (((N[k]).toNat : Int) >= 65) = false := by simp; omega
    have e1 : decide (((N[k]).toNat : Int) <= 90) = true := by simp; omega
    have e2 : (((N[k]).toNat : Int) == 0) = false := by simp; omega
    have e3 : (((N[k]).toNat : Int) == 32) = false := by simp; omega
    have e4 : (((N[k]).toNat : Int) == 9) = false := by simp; omega
    have e5 : (((N[k]).toNat : Int) == 10) = true := by simp; omega
    have e6 : (((N[k]).toNat : Int) == 12) = false := by simp; omega
    have e7 : (((N[k]).toNat : Int) == 47) = false := by simp; omega
    have e8 : (((N[k]).toNat : Int) == 62) = false := by simp; omega
    have e9 : (((N[k]).toNat : Int) == 61) = false := by simp; omega
    have hbb : zbs N[k] = true := by unfold zbs; rw [show N[k] = 10 from UInt8.toNat_inj.1 (by show _ = 10; omega)]; rfl
    have HRES : Hid (zbg ⟨N.data.toList, V.data.toList⟩ = false) := HF.out k hlt hbb
    clear HF HT hbb hall g
    go_wp2
    go_ret
    exact ⟨by rw [HRES.out]; rfl, HKW.out⟩
   ·have e0 : decide (((N[k]).toNat : Int) >= 65) = false := by simp; omega
    have e1 : decide (((N[k]).toNat : Int) <= 90) = true := by simp; omega
    have e2 : (((N[k]).toNat : Int) == 0) = false := by simp; omega
    have e3 : (((N[k]).toNat : Int) == 32) = false := by simp; omega
    have e4 : (((N[k]).toNat : Int) == 9) = false := by simp; omega
    have e5 : (((N[k]).toNat : Int) == 10) = false := by simp; omega
    have e6 : (((N[k]).toNat : Int) == 12) = false := by simp; omega
    have e7 : (((N[k]).toNat : Int) == 47) = false := by simp; omega
    have e8 : (((N[k]).toNat : Int) == 62) = false := by simp; omega
    have e9 : (((N[k]).toNat : Int) == 61) = false := by simp; omega
    have hbb : zbs N[k] = false := by unfold zbs; apply Bool.eq_false_iff.2; intro hh; simp at hh; rcases hh with hh | hh | hh | hh | hh | hh | hh | hh | hh <;> first | omega | (have := congrArg UInt8.toNat hh; revert this; simp; omega)
    have HALL : Hid (∀ j (hj : j < N.size), j < k + 1 -> zbs N[j] = false) := fun j hj hjk => by
     rcases Nat.lt_or_ge j k with h | h
     ·exact hall j hj h
     ·have : j = k := by omega
      subst this
      exact hbb
    clear HF HT hbb hall g
    go_wp2
    go_roundg (N.size - (k + 1))
    case rel => exact ⟨k + 1, rfl, by omega, by go_num, HALL.out, rfl⟩
    case measure => omega
   ·have e0 : decide (((N[k]).toNat : Int) >= 65) = false := by simp; omega
    have e1 : decide (((N[k]).toNat : Int) <= 90) = true := by simp; omega
    have e2 : (((N[k]).toNat : Int) == 0) = false := by simp; omega
    have e3 : (((N[k]).toNat : Int) == 32) = false := by simp; omega
    have e4 : (((N[k]).toNat : Int) == 9) = false := by simp; omega
    have e5 : (((N[k]).toNat : Int) == 10) = false := by simp; omega
    have e6 : (((N[k]).toNat : Int) == 12) = true := by simp; omega
    have e7 : (((N[k]).toNat : Int) == 47) = false := by simp; omega
    have e8 : (((N[k]).toNat : Int) == 62) = false := by simp; omega
    have e9 : (((N[k]).toNat : Int) == 61) = false := by simp; omega
    have hbb : zbs N[k] = true := by unfold zbs; rw [show N[k] = 12 from UInt8.toNat_inj.1 (by show _ = 12; omega)]; rfl
    have HRES : Hid (zbg ⟨N.data.toList, V.data.toList⟩ = false) := HF.out k hlt hbb
    clear HF HT hbb hall g
    go_wp2
    go_ret
    exact ⟨by rw [HRES.out]; rfl, HKW.out⟩
   ·have e0 : decide (((N[k]).toNat : Int) >= 65) = false := by simp; omega
    have e1 : decide (((N[k]).toNat : Int) <= 90) = true := by simp; omega
    have e2 : (((N[k]).toNat : Int) == 0) = false := by simp; omega
    have e3 : (((N[k]).toNat : Int) == 32) = false := by simp; omega
    have e4 : (((N[k]).toNat : Int) == 9) = false := by simp; omega
    have e5 : (((N[k]).toNat : Int) == 10) = false := by simp; omega
    have e6 : (((N[k]).toNat : Int) == 12) = false := by simp; omega
    have e7 : (((N[k]).toNat : Int) == 47) = false := by simp; omega
    have e8 : (((N[k]).toNat : Int) == 62) = false := by simp; omega
    have e9 : (((N[k]).toNat : Int) == 61) = false := by simp; omega
    have hbb : zbs N[k] = false := by unfold zbs; apply Bool.eq_false_iff.2; intro hh; simp at hh; rcases hh with hh | hh | hh | hh | hh | hh | hh | hh | hh <;> first | omega | (have := congrArg UInt8.toNat hh; revert this; simp; omega)
    have HALL : Hid (∀ j (hj : j < N.size), j < k + 1 -> zbs N[j] = false) := fun j hj hjk => by
     rcases Nat.lt_or_ge j k with h | h
     ·exact hall j hj h
     ·have : j = k := by omega
      subst this
      exact hbb
    clear HF HT hbb hall g
    go_wp2
    go_roundg (N.size - (k + 1))
    case rel => exact ⟨k + 1, rfl, by omega, by go_num, HALL.out, rfl⟩
    case measure => omega
   ·have e0 : decide (((N[k]).toNat : Int) >= 65) = false := by simp; omega
    have e1 : decide (((N[k]).toNat : Int) <= 90) = true := by simp; omega
    have e2 : (((N[k]).toNat : Int) == 0) = false := by simp; omega
    have e3 : (((N[k]).toNat : Int) == 32) = true := by simp; omega
    have e4 : (((N[k]).toNat : Int) == 9) = false := by simp; omega
    have e5 : (((N[k]).toNat : Int) == 10) = false := by simp; omega
    have e6 : (((N[k]).toNat : Int) == 12) = false := by simp; omega
    have e7 : (((N[k]).toNat : Int) == 47) = false := by simp; omega
    have e8 : (((N[k]).toNat : Int) == 62) = false := by simp; omega
    have e9 : (((N[k]).toNat : Int) == 61) = false := by simp; omega
    have hbb : zbs N[k] = true := by unfold zbs; rw [show N[k] = 32 from UInt8.toNat_inj.1 (by show _ = 32; omega)]; rfl
    have HRES : Hid (zbg ⟨N.data.toList, V.data.toList⟩ = false) := HF.out k hlt hbb
    clear HF HT hbb hall g
    go_wp2
    go_ret
    exact ⟨by rw [HRES.out]; rfl, HKW.out⟩
   ·have e0 : decide (((N[k]).toNat : Int) >= 65) = false := by simp; omega
    have e1 : decide (((N[k]).toNat : Int) <= 90) = true := by simp; omega
    have e2 : (((N[k]).toNat : Int) == 0) = false := by simp; omega
    have e3 : (((N[k]).toNat : Int) == 32) = false := by simp; omega
    have e4 : (((N[k]).toNat : Int) == 9) = false := by simp; omega
    have e5 : (((N[k]).toNat : Int) == 10) = false := by simp; omega
    have e6 : (((N[k]).toNat : Int) == 12) = false := by simp; omega
    have e7 : (((N[k]).toNat : Int) == 47) = false := by simp; omega
    have e8 : (((N[k]).toNat : Int) == 62) = false := by simp; omega
    have e9 : (((N[k]).toNat : Int) == 61) = false := by simp; omega
    have hbb : zbs N[k] = false := by unfold zbs; apply Bool.eq_false_iff.2; intro hh; simp at hh; rcases hh with hh | hh | hh | hh | hh | hh | hh | hh | hh <;> first | omega | (have := congrArg UInt8.toNat hh; revert this; simp; omega)
    have HALL : Hid (∀ j (hj : j < N.size), j < k + 1 -> zbs N[j] = false) := fun j hj hjk => by
     rcases Nat.lt_or_ge j k with h | h
     ·exact hall j hj h
     ·have : j = k := by omega
      subst this
      exact hbb
    clear HF HT hbb hall g
    go_wp2
    go_roundg (N.size - (k + 1))
    case rel => exact ⟨k + 1, rfl, by omega, by go_num, HALL.out, rfl⟩
    case measure => omega
   ·have e0 : decide (((N[k]).toNat : Int) >= 65) = false := by simp; omega
    have e1 : decide (((N[k]).toNat : Int) <= 90) = true := by simp; omega
    have e2 : (((N[k]).toNat : Int) == 0) = false := by simp; omega
    have e3 : (((N[k]).toNat : Int) == 32) = false := by simp; omega
    have e4 : (((N[k]).toNat : Int) == 9) = false := by simp; omega
    have e5 : (((N[k]).toNat : Int) == 10) = false := by simp; omega
    have e6 : (((N[k]).toNat : Int) == 12) = false := by simp; omega
    have e7 : (((N[k]).toNat : Int) == 47) = true := by simp; omega
    have e8 : (((N[k]).toNat : Int) == 62) = false := by simp; omega
    have e9 : (((N[k]).toNat : Int) == 61) = false := by simp; omega
    have hbb : zbs N[k] = true := by unfold zbs; rw [show N[k] = 47 from UInt8.toNat_inj.1 (by show _ = 47; omega)]; rfl
    have HRES : Hid (zbg ⟨N.data.toList, V.data.toList⟩ = false) := HF.out k hlt hbb
    clear HF HT hbb hall g
    go_wp2
    go_ret
    exact ⟨by rw [HRES.out]; rfl, HKW.out⟩
   ·have e0 : decide (((N[k]).toNat : Int) >= 65) = false := by simp; omega
    have e1 : decide (((N[k]).toNat : Int) <= 90) = true := by simp; omega
    have e2 : (((N[k]).toNat : Int) == 0) = false := by simp; omega
    have e3 : (((N[k]).toNat : Int) == 32) = false := by simp; omega
    have e4 : (((N[k]).toNat : Int) == 9) = false := by simp; omega
    have e5 : (((N[k]).toNat : Int) == 10) = false := by simp; omega
    have e6 : (((N[k]).toNat : Int) == 12) = false := by simp; omega
    have e7 : (((N[k]).toNat : Int) == 47) = false := by simp; omega
    have e8 : (((N[k]).toNat : Int) == 62) = false := by simp; omega
    have e9 : (((N[k]).toNat : Int) == 61) = false := by simp; omega
    have hbb : zbs N[k] = false := by unfold zbs; apply Bool.eq_false_iff.2; intro hh; simp at hh; rcases hh with hh | hh | hh | hh | hh | hh | hh | hh | hh <;> first | omega | (have := congrArg UInt8.toNat hh; revert this; simp; omega)
    have HALL : Hid (∀ j (hj : j < N.size), j < k + 1 -> zbs N[j] = false) := fun j hj hjk => by
     rcases Nat.lt_or_ge j k with h | h
     ·exact hall j hj h
     ·have : j = k := by omega
      subst this
      exact hbb
    clear HF HT hbb hall g
    go_wp2
    go_roundg (N.size - (k + 1))
    case rel => exact ⟨k + 1, rfl, by omega, by go_num, HALL.out, rfl⟩
    case measure => omega
   ·have e0 : decide (((N[k]).toNat : Int) >= 65) = false := by simp; omega
    have e1 : decide (((N[k]).toNat : Int) <= 90) = true := by simp; omega
    have e2 : (((N[k]).toNat : Int) == 0) = false := by simp; omega
    have e3 : (((N[k]).toNat : Int) == 32) = false := by simp; omega
    have e4 : (((N[k]).toNat : Int) == 9) = false := by simp; omega
    have e5 : (((N[k]).toNat : Int) == 10) = false := by simp; omega
    have e6 : (((N[k]).toNat : Int) == 12) = false := by simp; omega
    have e7 : (((N[k]).toNat : Int) == 47) = false := by simp; omega
    have e8 : (((N[k]).toNat : Int) == 62) = false := by simp; omega
    have e9 : (((N[k]).toNat : Int) == 61) = true := by simp; omega
    have hbb : zbs N[k] = true := by unfold zbs; rw [show N[k] = 61 from UInt8.toNat_inj.1 (by show _ = 61; omega)]; rfl
    have HRES : Hid (zbg ⟨N.data.toList, V.data.toList⟩ = false) := HF.out k hlt hbb
    clear HF HT hbb hall g
    go_wp2
    go_ret
    exact ⟨by rw [HRES.out]; rfl, HKW.out⟩
   ·have e0 : decide (((N[k]).toNat : Int) >= 65) = false := by simp; omega
    have e1 : decide (((N[k]).toNat : Int) <= 90) = true := by simp; omega
    have e2 : (((N[k]).toNat : Int) == 0) = false := by simp; omega
    have e3 : (((N[k]).toNat : Int) == 32) = false := by simp; omega
    have e4 : (((N[k]).toNat : Int) == 9) = false := by simp; omega
    have e5 : (((N[k]).toNat : Int) == 10) = false := by simp; omega
    have e6 : (((N[k]).toNat : Int) == 12) = false := by simp; omega
    have e7 : (((N[k]).toNat : Int) == 47) = false := by simp; omega
    have e8 : (((N[k]).toNat : Int) == 62) = true := by simp; omega
    have e9 : (((N[k]).toNat : Int) == 61) = false := by simp; omega
    have hbb : zbs N[k] = true := by unfold zbs; rw [show N[k] = 62 from UInt8.toNat_inj.1 (by show _ = 62; omega)]; rfl
    have HRES : Hid (zbg ⟨N.data.toList, V.data.toList⟩ = false) := HF.out k hlt hbb
    clear HF HT hbb hall g
    go_wp2
    go_ret
    exact ⟨by rw [HRES.out]; rfl, HKW.out⟩
   ·have e0 : decide (((N[k]).toNat : Int) >= 65) = false := by simp; omega
    have e1 : decide (((N[k]).toNat : Int) <= 90) = true := by simp; omega
    have e2 : (((N[k]).toNat : Int) == 0) = false := by simp; omega
    have e3 : (((N[k]).toNat : Int) == 32) = false := by simp; omega
    have e4 : (((N[k]).toNat : Int) == 9) = false := by simp; omega
    have e5 : (((N[k]).toNat : Int) == 10) = false := by simp; omega
    have e6 : (((N[k]).toNat : Int) == 12) = false := by simp; omega
    have e7 : (((N[k]).toNat : Int) == 47) = false := by simp; omega
    have e8 : (((N[k]).toNat : Int) == 62) = false := by simp; omega
    have e9 : (((N[k]).toNat : Int) == 61) = false := by simp; omega
    have hbb : zbs N[k] = false := by unfold zbs; apply Bool.eq_false_iff.2; intro hh; simp at hh; rcases hh with hh | hh | hh | hh | hh | hh | hh | hh | hh <;> first | omega | (have := congrArg UInt8.toNat hh; revert this; simp; omega)
    have HALL : Hid (∀ j (hj : j < N.size), j < k + 1 -> zbs N[j] = false) := fun j hj hjk => by
     rcases Nat.lt_or_ge j k with h | h
     ·exact hall j hj h
     ·have : j = k := by omega
      subst this
      exact hbb
    clear HF HT hbb hall g
    go_wp2
    go_roundg (N.size - (k + 1))
    case rel => exact ⟨k + 1, rfl, by omega, by go_num, HALL.out, rfl⟩
    case measure => omega
   ·have e0 : decide (((N[k]).toNat : Int) >= 65) = true := by simp; omega
    have e1 : decide (((N[k]).toNat : Int) <= 90) = true := by simp; omega
    have e2 : (((N[k]).toNat : Int) == 0) = false := by simp; omega
    have e3 : (((N[k]).toNat : Int) == 32) = false := by simp; omega
    have e4 : (((N[k]).toNat : Int) == 9) = false := by simp; omega
    have e5 : (((N[k]).toNat : Int) == 10) = false := by simp; omega
    have e6 : (((N[k]).toNat : Int) == 12) = false := by simp; omega
    have e7 : (((N[k]).toNat : Int) == 47) = false := by simp; omega
    have e8 : (((N[k]).toNat : Int) == 62) = false := by simp; omega
    have e9 : (((N[k]).toNat : Int) == 61) = false := by simp; omega
    have hbb : zbs N[k] = true := by unfold zbs; simp; omega
    have HRES : Hid (zbg ⟨N.data.toList, V.data.toList⟩ = false) := HF.out k hlt hbb
    clear HF HT hbb hall g
    go_wp2
    go_ret
    exact ⟨by rw [HRES.out]; rfl, HKW.out⟩
   ·have e0 : decide (((N[k]).toNat : Int) >= 65) = true := by simp; omega
    have e1 : decide (((N[k]).toNat : Int) <= 90) = false := by simp; omega
    have e2 : (((N[k]).toNat : Int) == 0) = false := by simp; omega
    have e3 : (((N[k]).toNat : Int) == 32) = false := by simp; omega
    have e4 : (((N[k]).toNat : Int) == 9) = false := by simp; omega
    have e5 : (((N[k]).toNat : Int) == 10) = false := by simp; omega
    have e6 : (((N[k]).toNat : Int) == 12) = false := by simp; omega
    have e7 : (((N[k]).toNat : Int) == 47) = false := by simp; omega
    have e8 : (((N[k]).toNat : Int) == 62) = false := by simp; omega
    have e9 : (((N[k]).toNat : Int) == 61) = false := by simp; omega
    have hbb : zbs N[k] = false := by unfold zbs; apply Bool.eq_false_iff.2; intro hh; simp at hh; rcases hh with hh | hh | hh | hh | hh | hh | hh | hh | hh <;> first | omega | (have := congrArg UInt8.toNat hh; revert this; simp; omega)
    have HALL : Hid (∀ j (hj : j < N.size), j < k + 1 -> zbs N[j] = false) := fun j hj hjk => by
     rcases Nat.lt_or_ge j k with h | h
     ·exact hall j hj h
     ·have : j = k := by omega
      subst this
      exact hbb
    clear HF HT hbb hall g
    go_wp2
    go_roundg (N.size - (k + 1))
    case rel => exact ⟨k + 1, rfl, by omega, by go_num, HALL.out, rfl⟩
    case measure => omega
  ·have hkk : k = N.size := by omega
   subst hkk
   have HR : Hid (zbg ⟨N.data.toList, V.data.toList⟩ = (decide (1 <= N.size) && decide (N.size <= 60) && decide (V.size <= 2000))) := HT.out fun j hj => hall j hj hj
   clear HF HT hall
   by_cases h1 : 1 <= N.size
   ·have f1 : decide ((N.size : Int) >= 1) = true := decide_eq_true (by omega)
    by_cases h2 : N.size <= 60
    ·have f2 : decide ((N.size : Int) <= 60) = true := decide_eq_true (by omega)
     by_cases h3 : V.size <= 2000
     ·have f3 : decide ((V.size : Int) <= 2000) = true := decide_eq_true (by omega)
      go_wp2
      go_ret
      exact ⟨by rw [HR.out]; simp [h1, h2, h3]; try rfl, HKW.out⟩
     ·have f3 : decide ((V.size : Int) <= 2000) = false := decide_eq_false (by omega)
      go_wp2
      go_ret
      exact ⟨by rw [HR.out]; simp [h1, h2, h3]; try rfl, HKW.out⟩
    ·have f2 : decide ((N.size : Int) <= 60) = false := decide_eq_false (by omega)
     go_wp2
     go_ret
     exact ⟨by rw [HR.out]; simp [h1, h2]; try rfl, HKW.out⟩
   ·have f1 : decide ((N.size : Int) >= 1) = false := decide_eq_false (by omega)
    go_wp2
    go_ret
    exact ⟨by rw [HR.out]; simp [h1]; try rfl, HKW.out⟩
theorem zhy (a : Atr) (l : List Atr) (n : List UInt8) : zni (a :: l) n = ((a.name == n) || zni l n) := rfl
theorem zn1 (l : List Atr) (aa : Option Addr) (cap : Nat) (s : ByteArray) (hn : l.length <= 1000000) (K K' : Nat -> Prop) (w : World) (ha : Zag K' w aa l) :
  Calls Tryz.prog 297 #[.slice aa l.length cap, .string s] w fun e w' => e = .returned (.bool (zni l s.data.toList)) /\ Kept K w w' := by
 obtain ⟨A, hA⟩ : ∃ A, zni l s.data.toList = A := ⟨_, rfl⟩
 rw [hA]
 obtain ⟨n, hne⟩ : ∃ n, l.length = n := ⟨_, rfl⟩
 have HA0 : Hid (zni (l.drop 0) s.data.toList = A) := hA
 have HI : Hid (Zag K' w aa l) := ha
 have HN : Hid (l.length = n) := hne
 rw [hne] at hn ⊢
 clear hA ha hne
 go_enter Tryz.func297, Tryz.ntmps297
 go_wp2_with fail
 go_loopg [5] n (fun g v wr => ∃ k : Nat, g = n - k /\ k <= n /\ v = .int .i64 k /\ zni (l.drop k) s.data.toList = A /\ wr = w)
 case atStart => exact ⟨0, rfl, Nat.zero_le _, rfl, HA0.out, rfl⟩
 case round =>
  clear HA0
  obtain ⟨k, hgk, hk, rfl, HA, rfl⟩ := hrel
  by_cases hlt : k < n
  ·have hl : k < l.length := by rw [HN.out]; exact hlt
   obtain ⟨g, o, hg, -, c0, -⟩ := HI.out k hl
   subst hg
   rw [List.drop_eq_getElem_cons hl, zhy] at HA
   obtain ⟨S, hS⟩ : ∃ S : ByteArray, (⟨l[k].name.toArray⟩ : ByteArray) = S := ⟨_, rfl⟩
   replace c0 : wr.cell? ⟨g, o + k * 2, none⟩ = some (.string S) := by rw [<- hS]; exact c0
   obtain ⟨q, hq⟩ : ∃ q, (S.toList == s.toList) = q := ⟨_, rfl⟩
   have hqe : (l[k].name == s.data.toList) = q := by rw [<- hq, ByteArray.toList_eq, ByteArray.toList_eq, <- hS]
   rw [hqe] at HA
   have HA' : Hid ((q || zni (l.drop (k + 1)) s.data.toList) = A) := HA
   clear HA hqe hS HI HN hl
   cases q with
   | true =>
    have hA : A = true := HA'.out.symm
    subst hA
    clear HA'
    go_wp2
    go_ret
    exact ⟨rfl, Kept.refl _ _⟩
   | false =>
    go_wp2
    go_roundg (n - (k + 1))
    case rel => exact ⟨k + 1, rfl, by omega, by go_num, HA'.out, rfl⟩
    case measure => omega
  ·have hkk : k = n := by omega
   subst hkk
   have hA : A = false := by rw [<- HA, List.drop_eq_nil_of_le (by rw [HN.out]; exact Nat.le_refl _)]; rfl
   subst hA
   clear HA HI HN
   go_wp2
   go_ret
   exact ⟨rfl, Kept.refl _ _⟩
end
end Go.Proofs.YtfeinppedejlpaaGreat
