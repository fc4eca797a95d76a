/-
  What is asked of a node: its name, its texts, its attributes.
-/
import Derived.Test.YtikaheenjhdpmaaYp
import Derived.Test.YtikaheenjhdpmaaIz
import Derived.Test.YtikaheenjhdpmaaCu
import Derived.Deep.LoopGhost
import Derived.Deep.MidRow
import Derived.Laws.EntriesVeiled
namespace Go.Proofs.Ytikaheenjhdpmaa
open Go.RowKit Go.Sort
set_option linter.unusedVariables false
set_option maxRecDepth 100000
set_option maxHeartbeats 8000000
def nullP (l : List UInt8) : Bool := l.any (· == 0)
def atrNull (l : List Atr) : Bool := l.any fun a => nullP a.value
def dvN : List UInt8 := [100, 105, 118]
def stabN (l : List UInt8) : Bool := l == [100, 105, 118] || l == [115, 112, 97, 110] || l == [115, 101, 99, 116, 105, 111, 110] || l == [97, 114, 116, 105, 99, 108, 101] || l == [98] || l == [105] || l == [115, 108, 111, 116] || customP l
def bareP (x : Nd) : Bool := decide (x.kind = 1) && x.name == dvN && decide (x.shadow = -1)
def readP (x : Nd) : Bool :=
  if x.kind = 1 then stabN x.name && !atrNull x.attrs
  else if x.kind = 2 then x.data != [] && !nullP x.data
  else if x.kind = 3 then !x.data.any s3B
  else if x.kind = 5 then !x.fl.b else false
theorem hasNull_any (s : ByteArray) (w : World) : Calls Try.prog 42 #[.string s] w fun e w' => e = .returned (.bool (nullP s.data.toList)) ∧ w' = w := by
  have r := indexByte_any s 0 w
  have hz : decide (firstIdx s 0 ≥ 0) = nullP s.data.toList := firstIdx_nonneg s 0
  have e0 : ((0 : Int).toNat.toUInt8) = 0 := rfl
  rw [e0] at r
  obtain ⟨z, hz'⟩ : ∃ z, firstIdx s 0 = z := ⟨_, rfl⟩
  obtain ⟨b, hb⟩ : ∃ b, nullP s.data.toList = b := ⟨_, rfl⟩
  rw [hz', hb] at hz
  rw [hz'] at r
  rw [hb]
  clear hz' hb e0
  go_enter Try.func42, Try.ntmps42
  go_wp2_with (go_at_call 59; refine r.mono ?_; rintro e1 w3 ⟨rfl, hw3⟩; replace hw3 := hw3.symm; subst hw3)
  go_ret
  exact ⟨rfl, rfl⟩
theorem stableName_any (s : ByteArray) (w : World) : Calls Try.prog 39 #[.string s] w fun e w' => e = .returned (.bool (stabN s.toList)) ∧ Kept (fun k => k < w.heap.size) w w' := by
  have r := custom_any s (fun k => k < w.heap.size) w (fun _ h => h)
  have RC : Hid (Calls Try.prog 57 #[.string s] w fun e w' => e = .returned (.bool (customP s.toList)) ∧ Kept (fun k => k < w.heap.size) w w') := r
  obtain ⟨c, hc⟩ : ∃ c, customP s.toList = c := ⟨_, rfl⟩
  rw [hc] at RC
  have HC : Hid (customP s.toList = c) := hc
  clear r hc
  go_enter Try.func39, Try.ntmps39
  go_wp2_with (go_at_call 57; refine RC.out.mono ?_; rintro e1 w3 ⟨rfl, hw3⟩)
  all_goals first | (simp_all; done) | (go_ret; exact ⟨by simp [stabN, HC.out, *], by first | assumption | exact Kept.refl _ _⟩)
theorem irb1_any (a : Atr) (w : World) : Calls Try.prog 41 #[.agg #[sv a.name, sv a.value]] w fun e w' => e = .returned (.bool (nullP a.value)) ∧ Kept (fun k => k < w.heap.size) w w' := by
  obtain ⟨V, N, hV, hN, hb, hk, hsz⟩ := alloc_bx w #[sv a.name, sv a.value] 88
  have r := hasNull_any ⟨a.value.toArray⟩ V
  have z1 : V.cell? ⟨N, 1, none⟩ = some (sv a.value) := by rw [cell_block hb]; rfl
  have e1 : nullP (⟨a.value.toArray⟩ : ByteArray).data.toList = nullP a.value := rfl
  rw [e1] at r
  obtain ⟨A, hA⟩ : ∃ A, sv a.name = A := ⟨_, rfl⟩
  obtain ⟨s, hs⟩ : ∃ s : ByteArray, ⟨a.value.toArray⟩ = s := ⟨_, rfl⟩
  have ev : sv a.value = .string s := by rw [← hs]
  obtain ⟨b, hb2⟩ : ∃ b, nullP a.value = b := ⟨_, rfl⟩
  rw [hs] at r
  rw [hb2] at r
  rw [ev] at z1 hV
  rw [hA] at hV
  rw [hA, ev, hb2]
  have HV : Hid (w.alloc (.cells #[A, .string s] 88) = V) := hV
  have HN : Hid (w.heap.size = N) := hN
  have HK : Hid (Kept (fun k => k < w.heap.size) w V) := hk
  clear hV hN hb hk hsz hA hs ev hb2 e1
  go_enter Try.func41, Try.ntmps41
  go_upto_region 1 with fail
  rw [HV.out, HN.out]
  clear HV HN
  go_wp2_with (go_at_call 42; refine r.mono ?_; rintro e1 w3 ⟨rfl, hw3⟩; replace hw3 := hw3.symm; subst hw3)
  go_ret
  exact ⟨rfl, HK.out⟩
theorem ifAttr_any (l : List Atr) (n : Nat) (hl : l.length = n) (hn : n ≤ 100000) (aa : Option Addr) (ac : Nat) (w : World) (h : AtsAt (fun k => k < w.heap.size) w aa l) :
    Calls Try.prog 58 #[.slice aa n ac, .func (.func 41) #[] #[]] w fun e w' => (∃ z : Int, e = .returned (.int .i64 z) ∧ decide (0 ≤ z) = atrNull l) ∧ Kept (fun k => k < w.heap.size) w w' := by
  have HL : Hid (l.length = n) := hl
  have HA : Hid (AtsAt (fun k => k < w.heap.size) w aa l) := h
  have IR : Hid (∀ (a : Atr) (w : World), Calls Try.prog 41 #[.agg #[sv a.name, sv a.value]] w fun e w' => e = .returned (.bool (nullP a.value)) ∧ Kept (fun k => k < w.heap.size) w w') := irb1_any
  clear hl h
  go_enter Try.func58, Try.ntmps58
  go_wp2_with fail
  go_loopg [8] n (fun g v8 wr => ∃ j : Nat, g = n - j ∧ j ≤ n ∧ v8 = .int .i64 (j : Int) ∧ (∀ t (h : t < l.length), t < j → nullP l[t].value = false) ∧ Kept (fun k => k < w.heap.size) w wr)
  case atStart => exact ⟨0, rfl, Nat.zero_le _, rfl, fun t _ h => absurd h (Nat.not_lt_zero _), Kept.refl _ _⟩
  case round =>
    obtain ⟨j, hg, hj, rfl, hno, hK⟩ := hrel
    have HNO : Hid (∀ t (h : t < l.length), t < j → nullP l[t].value = false) := hno
    have HK : Hid (Kept (fun k => k < w.heap.size) w wr) := hK
    by_cases hlt : j < n
    · have hjl : j < l.length := by rw [HL.out]; exact hlt
      obtain ⟨ga, oa, haa, hga, hc0, hc1⟩ := HA.out j hjl
      subst haa
      obtain ⟨x, hx⟩ : ∃ x, l[j] = x := ⟨_, rfl⟩
      rw [hx] at hc0 hc1
      have HX : Hid (l[j] = x) := hx
      have c0 : wr.cell? ⟨ga, oa + j * 2, none⟩ = some (sv x.name) := by rw [hK.cell (p := ⟨ga, oa + j * 2, none⟩) hga]; exact hc0
      have c1 : wr.cell? ⟨ga, oa + j * 2 + 1, none⟩ = some (sv x.value) := by rw [hK.cell (p := ⟨ga, oa + j * 2 + 1, none⟩) hga]; exact hc1
      have rx := IR.out x wr
      obtain ⟨A, hA⟩ : ∃ A, sv x.name = A := ⟨_, rfl⟩
      obtain ⟨B, hB⟩ : ∃ B, sv x.value = B := ⟨_, rfl⟩
      obtain ⟨b, hb⟩ : ∃ b, nullP x.value = b := ⟨_, rfl⟩
      have HB : Hid (nullP x.value = b) := hb
      rw [hA] at c0 rx
      rw [hB] at c1 rx
      rw [hb] at rx
      clear hno hK hc0 hc1 hx hga hA hB hb
      cases b with
      | true =>
        go_wp2_with fail
        refine rx.mono ?_
        rintro e w3 ⟨rfl, hw3⟩
        have HK3 : Hid (Kept (fun k => k < w.heap.size) w w3) := HK.out.trans (hw3.mono fun k h => Nat.lt_of_lt_of_le h HK.out.size)
        have HT : Hid (atrNull l = true) := by
          show atrNull l = true
          unfold atrNull
          rw [List.any_eq_true]
          exact ⟨l[j], List.getElem_mem hjl, by rw [HX.out]; exact HB.out⟩
        clear rx hw3 c0 c1
        go_wp2
        go_ret
        exact ⟨⟨_, rfl, by rw [HT.out]; exact decide_eq_true (by omega)⟩, HK3.out⟩
      | false =>
        go_wp2_with fail
        refine rx.mono ?_
        rintro e w3 ⟨rfl, hw3⟩
        have HK3 : Hid (Kept (fun k => k < w.heap.size) w w3) := HK.out.trans (hw3.mono fun k h => Nat.lt_of_lt_of_le h HK.out.size)
        clear rx hw3 c0 c1
        go_wp2
        go_roundg (n - (j + 1))
        case rel =>
          refine ⟨j + 1, rfl, by omega, by go_num, fun t ht h => ?_, HK3.out⟩
          by_cases c : t < j
          · exact HNO.out t ht c
          · have : t = j := by omega
            subst this
            rw [HX.out]; exact HB.out
        case measure => omega
    · obtain rfl : j = n := by omega
      have HALL : Hid (atrNull l = false) := by
        show atrNull l = false
        unfold atrNull
        rw [List.any_eq_false]
        intro a ha
        obtain ⟨t, ht, e⟩ := List.getElem_of_mem ha
        rw [← e, hno t ht (by rw [← HL.out]; exact ht)]
        decide
      clear hno hK
      go_wp2
      go_ret
      exact ⟨⟨_, rfl, by rw [HALL.out]; decide⟩, HK.out⟩
theorem cfAttr_any (l : List Atr) (n : Nat) (hl : l.length = n) (hn : n ≤ 100000) (aa : Option Addr) (ac : Nat) (w : World) (h : AtsAt (fun k => k < w.heap.size) w aa l) :
    Calls Try.prog 40 #[.slice aa n ac, .func (.func 41) #[] #[]] w fun e w' => e = .returned (.bool (atrNull l)) ∧ Kept (fun k => k < w.heap.size) w w' := by
  have r := ifAttr_any l n hl hn aa ac w h
  obtain ⟨b, hb⟩ : ∃ b, atrNull l = b := ⟨_, rfl⟩
  rw [hb] at r ⊢
  clear hb h hl
  go_enter Try.func40, Try.ntmps40
  go_wp2_with fail
  refine r.mono ?_
  rintro e w1 ⟨⟨z, rfl, hz⟩, hK⟩
  have hz' : decide (z ≥ 0) = b := hz
  clear r
  go_wp2
  go_ret
  exact ⟨rfl, hK⟩
theorem above_any (x : Nd) (ao : Option Addr) (ac : Nat) (up : Int) (ko : Option Addr) (kn kc : Nat) (w : World) :
    Calls Try.prog 44 #[.agg (nW x ao ac up ko kn kc)] w fun e w' => e = .returned (.int .i64 (if x.kind = 5 then x.host else up)) ∧ Kept (fun k => k < w.heap.size) w w' := by
  obtain ⟨V, N, hV, hN, hb, hk, hsz⟩ := alloc_bx w (nW x ao ac up ko kn kc) 35
  have z0 : V.cell? ⟨N, 0, none⟩ = some (.int .u8 (x.kind : Int)) := by rw [cell_block hb]; rfl
  have z4 : V.cell? ⟨N, 4, none⟩ = some (.int .i64 up) := by rw [cell_block hb]; rfl
  have z7 : V.cell? ⟨N, 7, none⟩ = some (.int .i64 x.host) := by rw [cell_block hb]; rfl
  have HV : Hid (w.alloc (.cells (nW x ao ac up ko kn kc) 35) = V) := hV
  have HN : Hid (w.heap.size = N) := hN
  have HK : Hid (Kept (fun k => k < w.heap.size) w V) := hk
  obtain ⟨ho, hho⟩ : ∃ h, x.host = h := ⟨_, rfl⟩
  rw [hho] at z7 ⊢
  clear hV hN hb hk hsz hho
  by_cases h5 : x.kind = 5
  · rw [h5] at z0
    rw [if_pos h5]
    have z0 : V.cell? ⟨N, 0, none⟩ = some (.int .u8 5) := z0
    clear h5
    go_enter Try.func44, Try.ntmps44
    go_upto_region 1 with fail
    rw [HV.out, HN.out]
    clear HV HN
    go_wp2
    go_ret
    exact ⟨rfl, HK.out⟩
  · rw [if_neg h5]
    have n5 : ((x.kind : Int) == 5) = false := by simp; omega
    obtain ⟨kz, hkz⟩ : ∃ k : Int, (x.kind : Int) = k := ⟨_, rfl⟩
    rw [hkz] at z0 n5
    clear h5
    go_enter Try.func44, Try.ntmps44
    go_upto_region 1 with fail
    rw [HV.out, HN.out]
    clear HV HN hkz
    go_wp2
    go_ret
    exact ⟨rfl, HK.out⟩
theorem bareDiv_any (x : Nd) (ao : Option Addr) (ac : Nat) (up : Int) (ko : Option Addr) (kn kc : Nat) (w : World) :
    Calls Try.prog 21 #[.agg (nW x ao ac up ko kn kc)] w fun e w' => e = .returned (.bool (bareP x)) ∧ Kept (fun k => k < w.heap.size) w w' := by
  obtain ⟨V, N, hV, hN, hb, hk, hsz⟩ := alloc_bx w (nW x ao ac up ko kn kc) 35
  have z0 : V.cell? ⟨N, 0, none⟩ = some (.int .u8 (x.kind : Int)) := by rw [cell_block hb]; rfl
  have z1 : V.cell? ⟨N, 1, none⟩ = some (.string ⟨x.name.toArray⟩) := by rw [cell_block hb]; rfl
  have z6 : V.cell? ⟨N, 6, none⟩ = some (.int .i64 x.shadow) := by rw [cell_block hb]; rfl
  have HV : Hid (w.alloc (.cells (nW x ao ac up ko kn kc) 35) = V) := hV
  have HN : Hid (w.heap.size = N) := hN
  have HK : Hid (Kept (fun k => k < w.heap.size) w V) := hk
  obtain ⟨sh, hsh⟩ : ∃ h, x.shadow = h := ⟨_, rfl⟩
  obtain ⟨nm, hnm⟩ : ∃ s : ByteArray, ⟨x.name.toArray⟩ = s := ⟨_, rfl⟩
  have hne : (nm.toList == [100, 105, 118]) = (x.name == dvN) := by rw [← hnm, lis]; rfl
  have e : bareP x = (decide (x.kind = 1) && (nm.toList == [100, 105, 118]) && decide (sh = -1)) := by unfold bareP; rw [hne, hsh]
  rw [hsh] at z6
  rw [hnm] at z1
  rw [e]
  clear hV hN hb hk hsz hsh hnm hne e
  by_cases h1 : x.kind = 1
  · rw [h1] at z0
    have z0 : V.cell? ⟨N, 0, none⟩ = some (.int .u8 1) := z0
    rw [decide_eq_true h1, Bool.true_and]
    obtain ⟨b, hb⟩ : ∃ b, (nm.toList == [100, 105, 118]) = b := ⟨_, rfl⟩
    rw [hb]
    by_cases hs : sh = -1
    · subst hs
      cases b with
      | true =>
        go_enter Try.func21, Try.ntmps21
        go_upto_region 1 with fail
        rw [HV.out, HN.out]
        clear HV HN
        go_wp2
        go_ret
        exact ⟨rfl, HK.out⟩
      | false =>
        go_enter Try.func21, Try.ntmps21
        go_upto_region 1 with fail
        rw [HV.out, HN.out]
        clear HV HN
        go_wp2
        go_ret
        exact ⟨rfl, HK.out⟩
    · rw [decide_eq_false hs, Bool.and_false]
      have hsb : (sh == -1) = false := by simpa using hs
      cases b with
      | true =>
        go_enter Try.func21, Try.ntmps21
        go_upto_region 1 with fail
        rw [HV.out, HN.out]
        clear HV HN hs
        go_wp2
        go_ret
        exact ⟨rfl, HK.out⟩
      | false =>
        go_enter Try.func21, Try.ntmps21
        go_upto_region 1 with fail
        rw [HV.out, HN.out]
        clear HV HN hs
        go_wp2
        go_ret
        exact ⟨rfl, HK.out⟩
  · rw [decide_eq_false h1, Bool.false_and, Bool.false_and]
    have n1 : ((x.kind : Int) == 1) = false := by simp; omega
    obtain ⟨kz, hkz⟩ : ∃ k : Int, (x.kind : Int) = k := ⟨_, rfl⟩
    rw [hkz] at z0 n1
    go_enter Try.func21, Try.ntmps21
    go_upto_region 1 with fail
    rw [HV.out, HN.out]
    clear HV HN hkz h1
    go_wp2
    go_ret
    exact ⟨rfl, HK.out⟩
end Go.Proofs.Ytikaheenjhdpmaa
