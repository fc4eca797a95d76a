/-
  What is asked of a node: its name, its texts, its attributes.
-/
import Derived.Test.YtfeinppedejlpaaGreatVX2m
import Derived.Test.YtfeinppedejlpaaGreatVW29m
import Derived.Test.YtfeinppedejlpaaGreatVCum
import Derived.Deep.LoopGhost
import Derived.Deep.MidRow
import Derived.Laws.EntriesVeiled
namespace Go.Proofs.YtfeinppedejlpaaGreat
open Go.RowKit Go.Sort
set_option linter.unusedVariables false
set_option maxRecDepth 100000
set_option maxHeartbeats 8000000
def zbw (l : List UInt8) : Bool := l.any (· == 0)
def zbe (l : List Atr) : Bool := l.any fun a => zbw a.value
def dvN : List UInt8 := [100, 105, 118]
def zfn (l : List UInt8) : Bool := l == [100, 105, 118] || l == [115, 112, 97, 110] || l == [115, 101, 99, 116, 105, 111, 110] || l == [97, 114, 116, 105, 99, 108, 101] || l == [98] || l == [105] || l == [115, 108, 111, 116] || zbt l
def zdd (x : Nd) : Bool := decide (x.kind = 1) && x.name == dvN && decide (x.shadow = -1)
def zbc (x : Nd) : Bool :=
 if x.kind = 1 then zfn x.name && !zbe x.attrs
 else if x.kind = 2 then x.data != [] && !zbw x.data
 else if x.kind = 3 then !x.data.any s3B
 else if x.kind = 5 then !x.fl.b else false
theorem ze9 (s : ByteArray) (w : World) : Calls Tryz.prog 216 #[.string s] w fun e w' => e = .returned (.bool (zbw s.data.toList)) /\ w' = w := by
 have r := zbx s 0 w
 have hz : decide (firstIdx s 0 >= 0) = zbw s.data.toList := firstIdx_nonneg s 0
 have e0 : ((0 : Int).toNat.toUInt8) = 0 := rfl
 rw [e0] at r
 obtain ⟨z, hz'⟩ : ∃ z, firstIdx s 0 = z := ⟨_, rfl⟩
 obtain ⟨b, hb⟩ : ∃ b, zbw s.data.toList = b := ⟨_, rfl⟩
 rw [hz', hb] at hz
 rw [hz'] at r
 rw [hb]
 clear hz' hb e0
 go_enter Tryz.func216, Tryz.ntmps216
 go_wp2_with (go_at_call 255; refine r.mono ?_; rintro e1 w3 ⟨rfl, hw3⟩; replace hw3 := hw3.symm; subst hw3)
 go_ret
 exact ⟨rfl, rfl⟩
theorem zfw (s : ByteArray) (w : World) : Calls Tryz.prog 213 #[.string s] w fun e w' => e = .returned (.bool (zfn s.toList)) /\ Kept (fun k => k < w.heap.size) w w' := by
 have r := zk7 s (fun k => k < w.heap.size) w (fun _ h => h)
 have RC : Hid (Calls Tryz.prog 254 #[.string s] w fun e w' => e = .returned (.bool (zbt s.toList)) /\ Kept (fun k => k < w.heap.size) w w') := r
 obtain ⟨c, hc⟩ : ∃ c, zbt s.toList = c := ⟨_, rfl⟩
 rw [hc] at RC
 have HC : Hid (zbt s.toList = c) := hc
 clear r hc
 go_enter Tryz.func213, Tryz.ntmps213
 go_wp2_with (go_at_call 254; refine RC.out.mono ?_; rintro e1 w3 ⟨rfl, hw3⟩)
 all_goals first | (simp_all; done) | (go_ret; exact ⟨by simp [zfn, HC.out, *], by first | assumption | exact Kept.refl _ _⟩)
theorem zp2 (a : Atr) (w : World) : Calls Tryz.prog 215 #[.agg #[sv a.name, sv a.value]] w fun e w' => e = .returned (.bool (zbw a.value)) /\ Kept (fun k => k < w.heap.size) w w' := by
 obtain ⟨V, N, hV, hN, hb, hk, hsz⟩ := zal w #[sv a.name, sv a.value] 108
 have r := ze9 ⟨a.value.toArray⟩ V
 have z1 : V.cell? ⟨N, 1, none⟩ = some (sv a.value) := by rw [zaa hb]; rfl
 have e1 : zbw (⟨a.value.toArray⟩ : ByteArray).data.toList = zbw a.value := rfl
 rw [e1] at r
 obtain ⟨A, hA⟩ : ∃ A, sv a.name = A := ⟨_, rfl⟩
 obtain ⟨s, hs⟩ : ∃ s : ByteArray, ⟨a.value.toArray⟩ = s := ⟨_, rfl⟩
 have ev : sv a.value = .string s := by rw [<- hs]
 obtain ⟨b, hb2⟩ : ∃ b, zbw a.value = b := ⟨_, rfl⟩
 rw [hs] at r
 rw [hb2] at r
 rw [ev] at z1 hV
 rw [hA] at hV
 rw [hA, ev, hb2]
 have HV : Hid (w.alloc (.cells #[A, .string s] 108) = V) := hV
 have HN : Hid (w.heap.size = N) := hN
 have HK : Hid (Kept (fun k => k < w.heap.size) w V) := hk
 clear hV hN hb hk hsz hA hs ev hb2 e1
 go_enter Tryz.func215, Tryz.ntmps215
 go_upto_region 1 with fail
 rw [HV.out, HN.out]
 clear HV HN
 go_wp2_with (go_at_call 216; refine r.mono ?_; rintro e1 w3 ⟨rfl, hw3⟩; replace hw3 := hw3.symm; subst hw3)
 go_ret
 exact ⟨rfl, HK.out⟩
theorem zlt (l : List Atr) (n : Nat) (hl : l.length = n) (hn : n <= 100000) (aa : Option Addr) (ac : Nat) (w : World) (h : Zag (fun k => k < w.heap.size) w aa l) :
  Calls Tryz.prog 154 #[.slice aa n ac, .func (.func 215) #[] #[]] w fun e w' => (∃ z : Int, e = .returned (.int .i64 z) /\ decide (0 <= z) = zbe l) /\ Kept (fun k => k < w.heap.size) w w' := by
 have HL : Hid (l.length = n) := hl
 have HA : Hid (Zag (fun k => k < w.heap.size) w aa l) := h
 have IR : Hid (∀ (a : Atr) (w : World), Calls Tryz.prog 215 #[.agg #[sv a.name, sv a.value]] w fun e w' => e = .returned (.bool (zbw a.value)) /\ Kept (fun k => k < w.heap.size) w w') := zp2
 clear hl h
 go_enter Tryz.func154, Tryz.ntmps154
 go_wp2_with fail
 go_loopg [8] n (fun g v8 wr => ∃ j : Nat, g = n - j /\ j <= n /\ v8 = .int .i64 (j : Int) /\ (∀ t (h : t < l.length), t < j -> zbw l[t].value = false) /\ Kept (fun k => k < w.heap.size) w wr)
 case atStart => exact ⟨0, rfl, Nat.zero_le _, rfl, fun t _ h => absurd h (Nat.not_lt_zero _), Kept.refl _ _⟩
 case round =>
  obtain ⟨j, hg, hj, rfl, hno, hK⟩ := hrel
  have HNO : Hid (∀ t (h : t < l.length), t < j -> zbw l[t].value = false) := hno
  have HK : Hid (Kept (fun k => k < w.heap.size) w wr) := hK
  by_cases hlt : j < n
  ·have hjl : j < l.length := by rw [HL.out]; exact hlt
   obtain ⟨ga, oa, haa, hga, hc0, hc1⟩ := HA.out j hjl
   subst haa
   obtain ⟨x, hx⟩ : ∃ x, l[j] = x := ⟨_, rfl⟩
   rw [hx] at hc0 hc1
   have HX : Hid (l[j] = x) := hx
   have c0 : wr.cell? ⟨ga, oa + j * 2, none⟩ = some (sv x.name) := by rw [hK.cell (p := ⟨ga, oa + j * 2, none⟩) hga]; exact hc0
   have c1 : wr.cell? ⟨ga, oa + j * 2 + 1, none⟩ = some (sv x.value) := by rw [hK.cell (p := ⟨ga, oa + j * 2 + 1, none⟩) hga]; exact hc1
   have rx := IR.out x wr
   obtain ⟨A, hA⟩ : ∃ A, sv x.name = A := ⟨_, rfl⟩
   obtain ⟨B, hB⟩ : ∃ B, sv x.value = B := ⟨_, rfl⟩
   obtain ⟨b, hb⟩ : ∃ b, zbw x.value = b := ⟨_, rfl⟩
   have HB : Hid (zbw x.value = b) := hb
   rw [hA] at c0 rx
   rw [hB] at c1 rx
   rw [hb] at rx
   clear hno hK hc0 hc1 hx hga hA hB hb
   cases b with
   | true =>
    go_wp2_with fail
    refine rx.mono ?_
    rintro e w3 ⟨rfl, hw3⟩
    have HK3 : Hid (Kept (fun k => k < w.heap.size) w w3) := kt HK.out hw3
    have HT : Hid (zbe l = true) := by
     show zbe l = true
     unfold zbe
     rw [List.any_eq_true]
     exact ⟨l[j], List.getElem_mem hjl, by rw [HX.out]; exact HB.out⟩
    clear rx hw3 c0 c1
    go_wp2
    go_ret
    exact ⟨⟨_, rfl, by rw [HT.out]; exact decide_eq_true (by omega)⟩, HK3.out⟩
   | false =>
    go_wp2_with fail
    refine rx.mono ?_
    rintro e w3 ⟨rfl, hw3⟩
    have HK3 : Hid (Kept (fun k => k < w.heap.size) w w3) := kt HK.out hw3
    clear rx hw3 c0 c1
    go_wp2
    go_roundg (n - (j + 1))
    case rel =>
     refine ⟨j + 1, rfl, by omega, by go_num, fun t ht h => ?_, HK3.out⟩
     by_cases c : t < j
     ·exact HNO.out t ht c
     ·have : t = j := by omega
      subst this
      rw [HX.out]; exact HB.out
    case measure => omega
  ·obtain rfl : j = n := by omega
   have HALL : Hid (zbe l = false) := by
    show zbe l = false
    unfold zbe
    rw [List.any_eq_false]
    intro a ha
    obtain ⟨t, ht, e⟩ := List.getElem_of_mem ha
    rw [<- e, hno t ht (by rw [<- HL.out]; exact ht)]
    decide
   clear hno hK
   go_wp2
   go_ret
   exact ⟨⟨_, rfl, by rw [HALL.out]; decide⟩, HK.out⟩
theorem zlx (l : List Atr) (n : Nat) (hl : l.length = n) (hn : n <= 100000) (aa : Option Addr) (ac : Nat) (w : World) (h : Zag (fun k => k < w.heap.size) w aa l) :
  Calls Tryz.prog 214 #[.slice aa n ac, .func (.func 215) #[] #[]] w fun e w' => e = .returned (.bool (zbe l)) /\ Kept (fun k => k < w.heap.size) w w' := by
 have r := zlt l n hl hn aa ac w h
 obtain ⟨b, hb⟩ : ∃ b, zbe l = b := ⟨_, rfl⟩
 rw [hb] at r ⊢
 clear hb h hl
 go_enter Tryz.func214, Tryz.ntmps214
 go_wp2_with fail
 refine r.mono ?_
 rintro e w1 ⟨⟨z, rfl, hz⟩, hK⟩
 have hz' : decide (z >= 0) = b := hz
 clear r
 go_wp2
 go_ret
 exact ⟨rfl, hK⟩
theorem zny (x : Nd) (ao : Option Addr) (ac : Nat) (up : Int) (ko : Option Addr) (kn kc : Nat) (w : World) :
  Calls Tryz.prog 218 #[.agg (nW x ao ac up ko kn kc)] w fun e w' => e = .returned (.int .i64 (if x.kind = 5 then x.host else up)) /\ Kept (fun k => k < w.heap.size) w w' := by
 obtain ⟨V, N, hV, hN, hb, hk, hsz⟩ := zal w (nW x ao ac up ko kn kc) 58
 have z0 : V.cell? ⟨N, 0, none⟩ = some (.int .u8 (x.kind : Int)) := by rw [zaa hb]; rfl
 have z4 : V.cell? ⟨N, 4, none⟩ = some (.int .i64 up) := by rw [zaa hb]; rfl
 have z7 : V.cell? ⟨N, 7, none⟩ = some (.int .i64 x.host) := by rw [zaa hb]; rfl
 have HV : Hid (w.alloc (.cells (nW x ao ac up ko kn kc) 58) = V) := hV
 have HN : Hid (w.heap.size = N) := hN
 have HK : Hid (Kept (fun k => k < w.heap.size) w V) := hk
 obtain ⟨ho, hho⟩ : ∃ h, x.host = h := ⟨_, rfl⟩
 rw [hho] at z7 ⊢
 clear hV hN hb hk hsz hho
 by_cases h5 : x.kind = 5
 ·rw [h5] at z0
  rw [if_pos h5]
  have z0 : V.cell? ⟨N, 0, none⟩ = some (.int .u8 5) := z0
  clear h5
  go_enter Tryz.func218, Tryz.ntmps218
  go_upto_region 1 with fail
  rw [HV.out, HN.out]
  clear HV HN
  go_wp2
  go_ret
  exact ⟨rfl, HK.out⟩
 ·rw [if_neg h5]
  have n5 : ((x.kind : Int) == 5) = false := by simp; omega
  obtain ⟨kz, hkz⟩ : ∃ k : Int, (x.kind : Int) = k := ⟨_, rfl⟩
  rw [hkz] at z0 n5
  clear h5
  go_enter Tryz.func218, Tryz.ntmps218
  go_upto_region 1 with fail
  rw [HV.out, HN.out]
  clear HV HN hkz
  go_wp2
  go_ret
  exact ⟨rfl, HK.out⟩
theorem zi5 (x : Nd) (ao : Option Addr) (ac : Nat) (up : Int) (ko : Option Addr) (kn kc : Nat) (w : World) :
  Calls Tryz.prog 138 #[.agg (nW x ao ac up ko kn kc)] w fun e w' => e = .returned (.bool (zdd x)) /\ Kept (fun k => k < w.heap.size) w w' := by
 obtain ⟨V, N, hV, hN, hb, hk, hsz⟩ := zal w (nW x ao ac up ko kn kc) 58
 have z0 : V.cell? ⟨N, 0, none⟩ = some (.int .u8 (x.kind : Int)) := by rw [zaa hb]; rfl
 have z1 : V.cell? ⟨N, 1, none⟩ = some (.string ⟨x.name.toArray⟩) := by rw [zaa hb]; rfl
 have z6 : V.cell? ⟨N, 6, none⟩ = some (.int .i64 x.shadow) := by rw [zaa hb]; rfl
 have HV : Hid (w.alloc (.cells (nW x ao ac up ko kn kc) 58) = V) := hV
 have HN : Hid (w.heap.size = N) := hN
 have HK : Hid (Kept (fun k => k < w.heap.size) w V) := hk
 obtain ⟨sh, hsh⟩ : ∃ h, x.shadow = h := ⟨_, rfl⟩
 obtain ⟨nm, hnm⟩ : ∃ s : ByteArray, ⟨x.name.toArray⟩ = s := ⟨_, rfl⟩
 have hne : (nm.toList == [100, 105, 118]) = (x.name == dvN) := by rw [<- hnm, lis]; rfl
 have e : zdd x = (decide (x.kind = 1) && (nm.toList == [100, 105, 118]) && decide (sh = -1)) := by unfold zdd; rw [hne, hsh]
 rw [hsh] at z6
 rw [hnm] at z1
 rw [e]
 clear hV hN hb hk hsz hsh hnm hne e
 by_cases h1 : x.kind = 1
 ·rw [h1] at z0
  have z0 : V.cell? ⟨N, 0, none⟩ = some (.int .u8 1) := z0
  rw [decide_eq_true h1, Bool.true_and]
  obtain ⟨b, hb⟩ : ∃ b, (nm.toList == [100, 105, 118]) = b := ⟨_, rfl⟩
  rw [hb]
  by_cases hs : sh = -1
  ·subst hs
   cases b with
   | true =>
    go_enter Tryz.func138, Tryz.ntmps138
    go_upto_region 1 with fail
    rw [HV.out, HN.out]
    clear HV HN
    go_wp2
    go_ret
    exact ⟨rfl, HK.out⟩
   | false =>
    go_enter Tryz.func138, Tryz.ntmps138
    go_upto_region 1 with fail
    rw [HV.out, HN.out]
    clear HV HN
    go_wp2
    go_ret
    exact ⟨rfl, HK.out⟩
  ·rw [decide_eq_false hs, Bool.and_false]
   have hsb : (sh == -1) = false := by simpa using hs
   cases b with
   | true =>
    go_enter Tryz.func138, Tryz.ntmps138
    go_upto_region 1 with fail
    rw [HV.out, HN.out]
    clear HV HN hs
    go_wp2
    go_ret
    exact ⟨rfl, HK.out⟩
   | false =>
    go_enter Tryz.func138, Tryz.ntmps138
    go_upto_region 1 with fail
    rw [HV.out, HN.out]
    clear HV HN hs
    go_wp2
    go_ret
    exact ⟨rfl, HK.out⟩
 ·rw [decide_eq_false h1, Bool.false_and, Bool.false_and]
  have n1 : ((x.kind : Int) == 1) = false := by simp; omega
  obtain ⟨kz, hkz⟩ : ∃ k : Int, (x.kind : Int) = k := ⟨_, rfl⟩
  rw [hkz] at z0 n1
  go_enter Tryz.func138, Tryz.ntmps138
  go_upto_region 1 with fail
  rw [HV.out, HN.out]
  clear HV HN hkz h1
  go_wp2
  go_ret
  exact ⟨rfl, HK.out⟩
end Go.Proofs.YtfeinppedejlpaaGreat
