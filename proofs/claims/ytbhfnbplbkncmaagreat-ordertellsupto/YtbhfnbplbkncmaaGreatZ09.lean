/-
  Which attributes may be written: isAttributeName, and the closure that writables makes (a map of the names that stood ahead).
  WHAT tree.Sound ANSWERS: the attributes, one item, all items.
  Attributes are copied; what a node may be; makeOne, Make, New.
-/
import Derived.Test.YtbhfnbplbkncmaaGreatProg
import Derived.Test.YtbhfnbplbkncmaaGreatZ02
import Derived.Test.YtbhfnbplbkncmaaGreatZ03
import Derived.Test.YtbhfnbplbkncmaaGreatZ04
import Derived.Deep.LoopGhost
import Derived.Deep.Cut
import Derived.Laws.StandIn
import Derived.Laws.Externs
import Derived.Laws.Runes
import Derived.Laws.EntriesVeiled
import Derived.Maps.OwnOps
import Derived.Maps.Views
import Derived.Test.YtbhfnbplbkncmaaGreatZ07
namespace Go.Proofs.YtbhfnbplbkncmaaGreat
open Go.RowKit Go.Maps Go.WideMaps

def barS : ByteArray := ⟨#[0, 9, 10, 12, 32, 47, 62, 61, 65, 66, 67, 68, 69, 70, 71, 72, 73, 74, 75, 76, 77, 78, 79, 80, 81, 82, 83, 84, 85, 86, 87, 88, 89, 90]⟩
set_option maxRecDepth 20000 in
theorem bar_nat : ∀ n : Nat, n < 256 → (barS.data.toList.any (· == UInt8.ofNat n)) = barB (UInt8.ofNat n) := by decide
theorem bar_is (c : UInt8) : (barS.data.toList.any (· == c)) = barB c := by
  have h := bar_nat c.toNat c.toNat_lt
  rw [UInt8.ofNat_toNat] at h
  exact h
theorem run_ibs (s : ByteArray) (c : Int) (w : World) : (callFunc 215 #[.string s, .int .u8 c]).run Tryz.prog w = .ok (.value (.int .i64 (firstIdx s c.toNat.toUInt8))) w := by
  rw [run_callFunc_indexByte Tryz.func215 (by kernel_rfl) (by kernel_rfl) (by kernel_rfl) (by kernel_rfl), run_indexByte_string]
  rfl
theorem ib_any (s : ByteArray) (c : Int) (w : World) :
    Calls Tryz.prog 210 #[.string s, .int .u8 c] w fun e w' => e = .returned (.int .i64 (firstIdx s c.toNat.toUInt8)) ∧ w' = w := by
  have h1 := fun X => run_ibs s c X
  go_enter Tryz.func210, Tryz.ntmps210
  go_wp2_with fail
  go_ret
  exact ⟨rfl, rfl⟩
theorem indexByte_any (s : ByteArray) (c : Int) (w : World) :
    Calls Tryz.prog 214 #[.string s, .int .u8 c] w fun e w' => e = .returned (.int .i64 (firstIdx s c.toNat.toUInt8)) ∧ w' = w := by
  have h1 := ib_any s c w
  go_enter Tryz.func214, Tryz.ntmps214
  go_wp2_with fail
  refine h1.mono ?_
  rintro e w1 ⟨rfl, rfl⟩
  go_wp2
  go_ret
  exact ⟨rfl, rfl⟩

/-- A name that an attribute may have. -/
def nameP (l : List UInt8) : Bool := decide (1 ≤ l.length) && decide (l.length ≤ 60) && (l.all fun c => !barB c)

set_option maxRecDepth 20000 in
set_option maxHeartbeats 1000000 in
theorem isAttributeName_any (s : ByteArray) (w : World) :
    Calls Tryz.prog 208 #[.string s] w fun e w' => e = .returned (.bool (nameP s.toList)) ∧ w' = w := by
  have hsz : s.toList.length = s.size := by rw [ByteArray.toList_eq]; rfl
  by_cases h0 : (s.toList == []) = true
  · have e : nameP s.toList = false := by
      have : s.toList = [] := by simpa using h0
      rw [this]; rfl
    rw [e]
    clear hsz
    go_enter Tryz.func208, Tryz.ntmps208
    go_wp2
    go_ret
    exact ⟨rfl, rfl⟩
  · have h0' : (s.toList == []) = false := by simpa using h0
    have hpos : 1 ≤ s.size := by
      rcases Nat.eq_zero_or_pos s.size with h | h
      · rw [h] at hsz
        have := List.eq_nil_of_length_eq_zero hsz
        rw [this] at h0
        exact absurd rfl h0
      · exact h
    by_cases h1 : s.size ≤ 60
    · obtain ⟨n, hn⟩ : ∃ n, s.size = n := ⟨_, rfl⟩
      have e : nameP s.toList = (s.toList.all fun c => !barB c) := by
        unfold nameP
        rw [hsz, decide_eq_true hpos, decide_eq_true h1]
        rfl
      obtain ⟨A, hA⟩ : ∃ A, (s.toList.all fun c => !barB c) = A := ⟨_, rfl⟩
      rw [e, hA]
      have HA0 : Hid (((s.toList.drop 0).all fun c => !barB c) = A) := hA
      have HL : Hid (s.toList.length = s.size) := hsz
      clear e hA hsz h0 hn
      go_enter Tryz.func208, Tryz.ntmps208
      go_upto_region 4 with fail
      go_loopg [13] s.size (fun g v wr => ∃ k : Nat, g = s.size - k ∧ k ≤ s.size ∧ v = .int .i64 k ∧ ((s.toList.drop k).all fun c => !barB c) = A ∧ wr = w)
      case atStart => exact ⟨0, rfl, Nat.zero_le _, rfl, HA0.out, rfl⟩
      case round =>
        clear HA0
        obtain ⟨k, hgk, hk, rfl, hAk, rfl⟩ := hrel
        have HAk : Hid (((s.toList.drop k).all fun c => !barB c) = A) := hAk
        clear hAk
        by_cases hlt : k < s.size
        · have hl : k < s.toList.length := by rw [HL.out]; exact hlt
          have hc : s.toList[k] = s[k] := by simp only [ByteArray.toList_eq]; rfl
          have hAk := HAk.out
          rw [List.drop_eq_getElem_cons hl, List.all_cons, hc] at hAk
          obtain ⟨q, hq⟩ : ∃ q, barB s[k] = q := ⟨_, rfl⟩
          obtain ⟨z, hz⟩ : ∃ z, firstIdx barS s[k] = z := ⟨_, rfl⟩
          have hzq : decide (z ≥ 0) = q := by
            rw [← hz, ← hq, ← bar_is]
            exact firstIdx_nonneg barS s[k]
          rw [hq] at hAk
          have HA1 : Hid ((!q && ((s.toList.drop (k + 1)).all fun c => !barB c)) = A) := hAk
          have r := indexByte_any barS (s[k].toNat : Int) wr
          have ez : firstIdx barS ((s[k].toNat : Int)).toNat.toUInt8 = z := by
            rw [← hz]
            congr 1
            simp
          rw [ez] at r
          have HZ : Hid (decide (z ≥ 0) = q) := hzq
          clear hAk hz hq hc hzq ez HAk hl
          go_wp2_with fail
          refine r.mono ?_
          rintro e w1 ⟨rfl, rfl⟩
          have hzq := HZ.out
          clear r HZ
          cases q with
          | true =>
            have hA : A = false := HA1.out.symm
            subst hA
            clear HA1
            go_wp2
            go_ret
            exact ⟨rfl, rfl⟩
          | false =>
            go_wp2
            go_roundg (s.size - (k + 1))
            case rel => exact ⟨k + 1, rfl, by omega, by go_num, HA1.out, rfl⟩
            case measure => omega
        · have hkk : k = s.size := by omega
          have hA : A = true := by rw [← HAk.out, List.drop_eq_nil_of_le (by rw [HL.out]; omega)]; rfl
          subst hA
          clear HAk HL h0'
          go_wp2
          go_ret
          exact ⟨rfl, rfl⟩
    · have e : nameP s.toList = false := by
        unfold nameP
        rw [hsz, decide_eq_false h1]
        simp
      rw [e]
      clear e hsz h0
      go_enter Tryz.func208, Tryz.ntmps208
      go_wp2
      go_ret
      exact ⟨rfl, rfl⟩

theorem zero3 (w : World) : (zeroValue 3).run Tryz.prog w = .ok (.int .i64 0) w := by kernel_rfl
theorem law9 : Keyed Tryz.prog 9 := string_keyed Tryz.underlying9
/-- A map of at most n entries that counts the names of L. -/
def CntIs (w : World) (mb n : Nat) (L : List (List UInt8)) : Prop :=
  ∃ D : DataW Unit, w.ownsMap Tryz.prog 9 (plainElem Tryz.prog 3) mb n D ∧ IsMap D ∧ ∀ s, D.atKey (.string s) (.lit (.int .i64 0)) = .lit (.int .i64 (L.count s : Nat))
theorem CntIs.of {w w' : World} {mb n : Nat} {L : List (List UInt8)} (h : CntIs w mb n L) (hb : w'.heap[mb]? = w.heap[mb]?) : CntIs w' mb n L := by
  obtain ⟨D, ⟨es, clock, h1, h2⟩, h3⟩ := h
  exact ⟨D, ⟨es, clock, hb.trans h1, h2⟩, h3⟩
theorem CntIs.lt {w : World} {mb n : Nat} {L : List (List UInt8)} (h : CntIs w mb n L) : mb < w.heap.size := by
  obtain ⟨D, h1, -⟩ := h
  exact h1.lt
theorem grown_kept {w w' : World} {mb : Nat} (h : w.grownBy w' (some mb)) : Kept (fun k => k < w.heap.size ∧ k ≠ mb) w w' :=
  ⟨h.os, h.tape, h.output, h.size, fun k hk => h.block k hk.1 (fun e => hk.2 (Option.some.inj e))⟩
/-- One more of a name. -/
theorem CntIs.bump {w : World} {mb n : Nat} {L : List (List UInt8)} (h : CntIs w mb n L) (hn : n ≤ 1000000) (hL : L.length ≤ 1000000) (s : ByteArray) (hs : s.size ≤ maxLen) :
    (Instr.lookup 187 (.map (some mb)) (.string s) false).run Tryz.prog w = .ok (.int .i64 (L.count s.toList : Nat)) w ∧
    ∃ w', (Instr.mapUpdate 187 (.map (some mb)) (.string s) (.int .i64 ((L.count s.toList : Nat) + 1))).run Tryz.prog w = .ok () w' ∧ CntIs w' mb (n + 1) (s.toList :: L) ∧ Kept (fun k => k < w.heap.size ∧ k ≠ mb) w w' := by
  obtain ⟨D, h1, h2, h3⟩ := h
  have hkey : keyOf Tryz.prog 9 (.string s) = some (.string s.toList) := by rw [ByteArray.toList_eq]; exact keyOf_string_mk Tryz.underlying9 hs
  obtain ⟨c, hrun, hat, hwc⟩ := h1.lookup_int law9 Tryz.underlying187 Tryz.underlying3 (zero3 _) hkey
  have hc : c = (L.count s.toList : Nat) := by
    rw [h3] at hat
    simpa using hat.symm
  subst hc
  refine ⟨hrun, ?_⟩
  have hcl : L.count s.toList ≤ L.length := List.count_le_length
  obtain ⟨w', hr, h4, h5⟩ := h1.update law9 Tryz.underlying187 (by unfold maxLen; omega) hkey (plainElem_int (q := .i64) (a := (L.count s.toList : Nat) + 1) Tryz.underlying3 (WalkArith.wf_i64 (by omega)))
  · refine ⟨w', hr, ⟨_, h4, h2.put _ _, fun u => ?_⟩, grown_kept h5⟩
    by_cases hu : s.toList = u
    · subst hu
      rw [atKey_put_same h2 (show WideAt.IsKeyLit (.string s.toList) from trivial), List.count_cons_self]
      rfl
    · rw [atKey_put_other (by intro e; injection e with e; exact hu e.symm), h3, List.count_cons_of_ne hu]

/-- The box b holds the map mb, which counts the names of L. -/
def WrX (w : World) (b mb n : Nat) (L : List (List UInt8)) : Prop :=
  b < w.heap.size ∧ b ≠ mb ∧ w.cell? ⟨b, 0, none⟩ = some (.map (some mb)) ∧ CntIs w mb n L
theorem WrX.of {w w' : World} {b mb n : Nat} {L : List (List UInt8)} (h : WrX w b mb n L) (hs : w.heap.size ≤ w'.heap.size) (h1 : w'.heap[b]? = w.heap[b]?) (h2 : w'.heap[mb]? = w.heap[mb]?) : WrX w' b mb n L :=
  ⟨Nat.lt_of_lt_of_le h.1 hs, h.2.1, by rw [World.cell?_of_block (w := w) (a := ⟨b, 0, none⟩) h1]; exact h.2.2.1, h.2.2.2.of h2⟩
theorem WrX.kept {K : Nat → Prop} {w w' : World} {b mb n : Nat} {L : List (List UInt8)} (h : WrX w b mb n L) (hk : Kept K w w') (h1 : K b) (h2 : K mb) : WrX w' b mb n L := h.of hk.size (hk.block b h1) (hk.block mb h2)
theorem writP_eq (n v : List UInt8) : writP ⟨n, v⟩ = (nameP n && decide (v.length ≤ 2000)) := rfl

set_option maxRecDepth 20000 in
set_option maxHeartbeats 1000000 in
theorem writ1_any (s t : ByteArray) (b mb n : Nat) (L : List (List UInt8)) (w : World) (h : WrX w b mb n L) (hn : n ≤ 900000) (hL : L.length ≤ 900000) (hs : s.size ≤ 1000000000) (ht : t.size ≤ 1000000000) :
    Calls Tryz.prog 207 #[.agg #[.string s, .string t], .pointer (some ⟨b, 0, none⟩)] w fun e w' => e = .returned (.bool (writP ⟨s.toList, t.toList⟩ && !L.contains s.toList)) ∧ WrX w' b mb (n + 1) (s.toList :: L) ∧ Kept (fun k => k < w.heap.size ∧ k ≠ mb) w w' := by
  obtain ⟨h1, h2, h3, h4⟩ := h
  have hmb := h4.lt
  obtain ⟨W, hW⟩ : ∃ W, w.alloc (.cells #[.string s, .string t] 140) = W := ⟨_, rfl⟩
  have kW : Kept (fun k => k < w.heap.size) w W := by rw [← hW]; exact (Kept.refl _ w).alloc (fun _ h => h) _
  have sW : w.heap.size < W.heap.size := by rw [← hW]; simp
  have n0 : W.cell? ⟨w.heap.size, 0, none⟩ = some (.string s) := by rw [← hW, cell_block (heap_alloc_new w _)]; rfl
  have n1 : W.cell? ⟨w.heap.size, 1, none⟩ = some (.string t) := by rw [← hW, cell_block (heap_alloc_new w _)]; rfl
  have b0 : W.cell? ⟨b, 0, none⟩ = some (.map (some mb)) := by rw [kW.cell (p := ⟨b, 0, none⟩) h1]; exact h3
  have c4 : CntIs W mb n L := h4.of (kW.block mb hmb)
  obtain ⟨hlk, w', hup, c5, k5⟩ := c4.bump (by omega) (by omega) s (by unfold maxLen; omega)
  have hlk2 := (c5.bump (by omega) (by simp; omega) s (by unfold maxLen; omega)).1
  rw [List.count_cons_self] at hlk2
  have hcl : L.count s.toList ≤ L.length := List.count_le_length
  have hcc : L.contains s.toList = decide (0 < L.count s.toList) := by
    rw [Bool.eq_iff_iff]
    simp [List.count_pos_iff]
  obtain ⟨c, hce⟩ : ∃ c, L.count s.toList = c := ⟨_, rfl⟩
  rw [hce] at hlk hup hlk2 hcl hcc
  rw [writP_eq, hcc]
  obtain ⟨N, hN⟩ : ∃ N, w.heap.size = N := ⟨_, rfl⟩
  have m0 : w'.cell? ⟨N, 0, none⟩ = some (.string s) := by rw [← hN, k5.cell (p := ⟨w.heap.size, 0, none⟩) ⟨sW, Nat.ne_of_gt hmb⟩]; exact n0
  have m1 : w'.cell? ⟨N, 1, none⟩ = some (.string t) := by rw [← hN, k5.cell (p := ⟨w.heap.size, 1, none⟩) ⟨sW, Nat.ne_of_gt hmb⟩]; exact n1
  have b5 : w'.cell? ⟨b, 0, none⟩ = some (.map (some mb)) := by rw [k5.cell (p := ⟨b, 0, none⟩) ⟨Nat.lt_trans h1 sW, h2⟩]; exact b0
  have HX : Hid (WrX w' b mb (n + 1) (s.toList :: L)) := ⟨Nat.lt_of_lt_of_le (Nat.lt_trans h1 sW) k5.size, h2, b5, c5⟩
  have HK : Hid (Kept (fun k => k < w.heap.size ∧ k ≠ mb) w w') := (kW.mono fun k h => h.1).trans (k5.mono fun k h => ⟨Nat.lt_trans h.1 sW, h.2⟩)
  have hnm := isAttributeName_any s w'
  have HW : Hid (w.alloc (.cells #[.string s, .string t] 140) = W) := hW
  have HN : Hid (w.heap.size = N) := hN
  rw [hN] at n0 n1
  have hcl' : c ≤ 900000 := by omega
  clear hW kW sW c4 c5 k5 h4 hcc hce hcl hL hn h3 h1 h2 hmb hN
  obtain ⟨q, hq⟩ : ∃ q, nameP s.toList = q := ⟨_, rfl⟩
  rw [hq] at hnm ⊢
  clear hq
  have htl : t.toList.length = t.size := by rw [ByteArray.toList_eq]; rfl
  rw [htl]
  clear htl
  by_cases hc0 : c = 0
  · subst hc0
    have hup1 : (Instr.mapUpdate 187 (.map (some mb)) (.string s) (.int .i64 1)).run Tryz.prog W = .ok () w' := hup
    have hlk3 : (Instr.lookup 187 (.map (some mb)) (.string s) false).run Tryz.prog w' = .ok (.int .i64 1) w' := hlk2
    have hlk0 : (Instr.lookup 187 (.map (some mb)) (.string s) false).run Tryz.prog W = .ok (.int .i64 0) W := hlk
    clear hup hlk2 hlk
    cases q with
    | true =>
      by_cases hv : t.size ≤ 2000
      · rw [decide_eq_true hv]
        have hv' : (t.size : Int) ≤ 2000 := by omega
        go_enter Tryz.func207, Tryz.ntmps207
        go_upto_region 1 with fail
        rw [HW.out, HN.out]
        clear HW HN
        go_wp2_with fail
        refine hnm.mono ?_
        rintro e w2 ⟨rfl, rfl⟩
        clear hnm
        go_wp2
        go_ret
        exact ⟨rfl, HX.out, HK.out⟩
      · rw [decide_eq_false hv]
        have hv' : decide ((t.size : Int) ≤ 2000) = false := decide_eq_false (by omega)
        go_enter Tryz.func207, Tryz.ntmps207
        go_upto_region 1 with fail
        rw [HW.out, HN.out]
        clear HW HN
        go_wp2_with fail
        refine hnm.mono ?_
        rintro e w2 ⟨rfl, rfl⟩
        clear hnm
        go_wp2
        go_ret
        exact ⟨rfl, HX.out, HK.out⟩
    | false =>
      go_enter Tryz.func207, Tryz.ntmps207
      go_upto_region 1 with fail
      rw [HW.out, HN.out]
      clear HW HN
      go_wp2_with fail
      refine hnm.mono ?_
      rintro e w2 ⟨rfl, rfl⟩
      clear hnm
      go_wp2
      go_ret
      exact ⟨rfl, HX.out, HK.out⟩
  · have e1 : ((c : Int) + 1 == 1) = false := by
      have : (c : Int) + 1 ≠ 1 := by omega
      simpa using this
    have hlk3 : (Instr.lookup 187 (.map (some mb)) (.string s) false).run Tryz.prog w' = .ok (.int .i64 ((c : Int) + 1)) w' := hlk2
    have er : (q && decide (t.size ≤ 2000) && !decide (0 < c)) = false := by
      rw [decide_eq_true (show 0 < c by omega)]
      simp
    rw [er]
    clear er hlk2 hnm
    go_enter Tryz.func207, Tryz.ntmps207
    go_upto_region 1 with fail
    rw [HW.out, HN.out]
    clear HW HN
    go_wp2
    go_ret
    exact ⟨rfl, HX.out, HK.out⟩

set_option maxRecDepth 20000 in
set_option maxHeartbeats 1000000 in
theorem writables_any (w : World) :
    Calls Tryz.prog 204 #[] w fun e w' => ∃ b mb, e = .returned (.func (.func 207) #[] #[.pointer (some ⟨b, 0, none⟩)]) ∧ WrX w' b mb 0 [] ∧ Kept (fun k => k < w.heap.size) w w' ∧ w.heap.size ≤ b ∧ w.heap.size ≤ mb := by
  have hmm := @run_makeMap Tryz.prog
  go_enter Tryz.func204, Tryz.ntmps204
  go_wp2
  go_ret
  obtain ⟨W, hW⟩ : ∃ W, w.alloc (.map #[] 0) = W := ⟨_, rfl⟩
  have kW : Kept (fun k => k < w.heap.size) w W := by rw [← hW]; exact (Kept.refl _ w).alloc (fun _ h => h) _
  have sW : W.heap.size = w.heap.size + 1 := by rw [← hW]; simp
  have oW : W.ownsMap Tryz.prog 9 (plainElem (H := Unit) Tryz.prog 3) w.heap.size 0 (.map []) := by rw [← hW]; exact World.ownsMap_made _ _ _ _
  rw [hW]
  have hc : CntIs W w.heap.size 0 [] := ⟨_, oW, isMap_empty, fun s => rfl⟩
  have kX : Kept (fun k => k < W.heap.size) W (W.alloc (.cells #[.map (some w.heap.size)] 187)) := (Kept.refl _ W).alloc (fun _ h => h) _
  refine ⟨w.heap.size + 1, w.heap.size, rfl, ⟨by simp; omega, by omega, ?_, hc.of (kX.block _ (by omega))⟩, kW.trans (kX.mono fun k h => by omega), by omega, Nat.le_refl _⟩
  rw [← sW, cell_block (heap_alloc_new W _)]
  rfl
end Go.Proofs.YtbhfnbplbkncmaaGreat

namespace Go.Proofs.YtbhfnbplbkncmaaGreat
open Go.RowKit

/-- Attributes lie at a slice, wherever it begins. -/
def AtsAt (K : Nat → Prop) (w : World) (aa : Option Addr) (l : List Atr) : Prop :=
  ∀ j (h : j < l.length), ∃ g o, aa = some ⟨g, o, none⟩ ∧ K g ∧ w.cell? ⟨g, o + j * 2, none⟩ = some (sv l[j].name) ∧ w.cell? ⟨g, o + j * 2 + 1, none⟩ = some (sv l[j].value)
theorem AtsAt.nil (K : Nat → Prop) (w : World) (aa : Option Addr) : AtsAt K w aa [] := fun _ h => absurd h (Nat.not_lt_zero _)
theorem AtsAt.kept {K K' : Nat → Prop} {w w' : World} {aa : Option Addr} {l : List Atr} (h : AtsAt K w aa l) (hk : Kept K w w') (hm : ∀ k, K k → K' k) : AtsAt K' w' aa l := fun j hj => by
  obtain ⟨g, o, h1, h2, h3, h4⟩ := h j hj
  exact ⟨g, o, h1, hm g h2, by rw [hk.cell (p := ⟨g, o + j * 2, none⟩) h2]; exact h3, by rw [hk.cell (p := ⟨g, o + j * 2 + 1, none⟩) h2]; exact h4⟩
def aheadL (l : List Atr) (k : Nat) : List (List UInt8) := ((l.take k).map Atr.name).reverse
theorem aheadL_succ (l : List Atr) (k : Nat) (h : k < l.length) : aheadL l (k + 1) = l[k].name :: aheadL l k := by
  unfold aheadL
  rw [List.take_succ_eq_append_getElem h, List.map_append, List.reverse_append]
  rfl
theorem aheadL_len (l : List Atr) (k : Nat) : (aheadL l k).length ≤ l.length := by
  unfold aheadL
  rw [List.length_reverse, List.length_map, List.length_take]
  omega

/-- All of them may be written; 'ahead': the names that stood ahead. -/
def allW : List (List UInt8) → List Atr → Bool
  | _, [] => true
  | ahead, a :: r => (writP a && !ahead.contains a.name) && allW (a.name :: ahead) r
def soundA (l : List Atr) : Bool := decide (l.length ≤ 50) && allW [] l

set_option maxRecDepth 20000 in
set_option maxHeartbeats 1000000 in
theorem soundAttrs_any (l : List Atr) (aa : Option Addr) (n ac : Nat) (hln : l.length = n) (hn : n ≤ 100000000) (hsz : ∀ x ∈ l, x.name.length ≤ 1000000000 ∧ x.value.length ≤ 1000000000) (w : World) (ha : AtsAt (fun k => k < w.heap.size) w aa l) :
    Calls Tryz.prog 198 #[.slice aa n ac] w fun e w' => e = .returned (.bool (soundA l)) ∧ Kept (fun k => k < w.heap.size) w w' := by
  by_cases h50 : n ≤ 50
  · have hg : decide ((n : Int) > 50) = false := decide_eq_false (by omega)
    have es : soundA l = allW [] l := by
      unfold soundA
      rw [hln, decide_eq_true h50]
      rfl
    rw [es]
    obtain ⟨R, hR⟩ : ∃ R, allW [] l = R := ⟨_, rfl⟩
    rw [hR]
    have HR : Hid (allW (aheadL l 0) (l.drop 0) = R) := hR
    have HL : Hid (l.length = n) := hln
    have HA : Hid (AtsAt (fun k => k < w.heap.size) w aa l) := ha
    have HSZ : Hid (∀ x ∈ l, x.name.length ≤ 1000000000 ∧ x.value.length ≤ 1000000000) := hsz
    have r := writables_any w
    clear es hR hln ha hsz
    go_enter Tryz.func198, Tryz.ntmps198
    go_wp2_with fail
    refine r.mono ?_
    rintro e w1 ⟨b, mb, rfl, hX1, hK1, hb1, hmb1⟩
    have HX1 : Hid (WrX w1 b mb 0 (aheadL l 0)) := hX1
    have HK1 : Hid (Kept (fun k => k < w.heap.size) w w1) := hK1
    clear r hX1 hK1
    go_upto_region 5 with fail
    go_loopg [12] n (fun g v wr => ∃ k : Nat, g = n - k ∧ k ≤ n ∧ v = .int .i64 k ∧ allW (aheadL l k) (l.drop k) = R ∧ WrX wr b mb k (aheadL l k) ∧ Kept (fun k => k < w.heap.size) w wr)
    case atStart => exact ⟨0, rfl, Nat.zero_le _, rfl, HR.out, HX1.out, HK1.out⟩
    case round =>
      clear HR HX1 HK1
      obtain ⟨k, hgk, hk, rfl, hRk, hXk, hKk⟩ := hrel
      have HX : Hid (WrX wr b mb k (aheadL l k)) := hXk
      have HK : Hid (Kept (fun k => k < w.heap.size) w wr) := hKk
      clear hXk hKk
      by_cases hlt : k < n
      · have hl : k < l.length := by rw [HL.out]; exact hlt
        obtain ⟨g, o, hg', hKg, c0, c1⟩ := HA.out k hl
        have d0 : wr.cell? ⟨g, o + k * 2, none⟩ = some (sv l[k].name) := by rw [HK.out.cell (p := ⟨g, o + k * 2, none⟩) hKg]; exact c0
        have d1 : wr.cell? ⟨g, o + k * 2 + 1, none⟩ = some (sv l[k].value) := by rw [HK.out.cell (p := ⟨g, o + k * 2 + 1, none⟩) hKg]; exact c1
        subst hg'
        rw [List.drop_eq_getElem_cons hl] at hRk
        have hRk' : ((writP l[k] && !(aheadL l k).contains l[k].name) && allW (l[k].name :: aheadL l k) (l.drop (k + 1))) = R := hRk
        rw [← aheadL_succ l k hl] at hRk'
        obtain ⟨V, hV⟩ : ∃ V, wr.alloc (.cells #[sv l[k].name, sv l[k].value] 140) = V := ⟨_, rfl⟩
        have kV : Kept (fun x => x < wr.heap.size) wr V := by rw [← hV]; exact (Kept.refl _ wr).alloc (fun _ h => h) _
        have hWr : WrX V b mb k (aheadL l k) := HX.out.kept kV HX.out.1 HX.out.2.2.2.lt
        have hmem := HSZ.out l[k] (List.getElem_mem hl)
        have hal := aheadL_len l k
        have hlle : l.length ≤ 50 := by rw [HL.out]; exact h50
        have r := writ1_any ⟨l[k].name.toArray⟩ ⟨l[k].value.toArray⟩ b mb k (aheadL l k) V hWr (by omega) (by omega) (by rw [sv_size]; exact hmem.1) (by rw [sv_size]; exact hmem.2)
        have eN : ByteArray.toList ⟨l[k].name.toArray⟩ = l[k].name := by rw [ByteArray.toList_eq]
        have eV : ByteArray.toList ⟨l[k].value.toArray⟩ = l[k].value := by rw [ByteArray.toList_eq]
        rw [eN, eV, ← aheadL_succ l k hl] at r
        obtain ⟨q, hq⟩ : ∃ q, (writP l[k] && !(aheadL l k).contains l[k].name) = q := ⟨_, rfl⟩
        have hq' : (writP ⟨l[k].name, l[k].value⟩ && !(aheadL l k).contains l[k].name) = q := hq
        rw [hq'] at r
        rw [hq] at hRk'
        have HR' : Hid ((q && allW (aheadL l (k + 1)) (l.drop (k + 1))) = R) := hRk'
        have HV : Hid (wr.alloc (.cells #[sv l[k].name, sv l[k].value] 140) = V) := hV
        have HKV : Hid (Kept (fun k => k < w.heap.size) w V) := HK.out.trans (kV.mono fun k h => Nat.lt_of_lt_of_le h HK.out.size)
        have hmbw : w.heap.size ≤ mb := hmb1
        clear hRk hRk' hWr hmem hal eN eV hq hq' hV kV c0 c1 hKg hlle
        go_wp2_with fail
        have hv : wr.alloc (.cells #[.string ⟨l[k].name.toArray⟩, .string ⟨l[k].value.toArray⟩] 140) = V := HV.out
        rw [hv]
        refine r.mono ?_
        rintro e w2 ⟨rfl, hX2, hK2⟩
        have HX2 : Hid (WrX w2 b mb (k + 1) (aheadL l (k + 1))) := hX2
        have HK2 : Hid (Kept (fun k => k < w.heap.size) w w2) := HKV.out.trans (hK2.mono fun x (hx : x < w.heap.size) => ⟨Nat.lt_of_lt_of_le hx HKV.out.size, by omega⟩)
        clear r hv hX2 hK2 HV HKV HX HK d0 d1
        cases q with
        | false =>
          have hR : R = false := HR'.out.symm
          subst hR
          clear HR'
          go_wp2
          go_ret
          exact ⟨rfl, HK2.out⟩
        | true =>
          have hR := HR'.out
          rw [Bool.true_and] at hR
          have HR2 : Hid (allW (aheadL l (k + 1)) (l.drop (k + 1)) = R) := hR
          clear HR' hR
          go_wp2
          go_roundg (n - (k + 1))
          case rel => exact ⟨k + 1, rfl, by omega, by go_num, HR2.out, HX2.out, HK2.out⟩
          case measure => omega
      · have hkk : k = n := by omega
        subst hkk
        have hR : R = true := by
          rw [← hRk, List.drop_eq_nil_of_le (by rw [HL.out]; exact Nat.le_refl _)]
          rfl
        subst hR
        clear hRk
        go_wp2
        go_ret
        exact ⟨rfl, HK.out⟩
  · have hg : decide ((n : Int) > 50) = true := decide_eq_true (by omega)
    have es : soundA l = false := by
      unfold soundA
      rw [hln, decide_eq_false h50]
      rfl
    rw [es]
    have hu := hsz
    clear es hln hu hsz ha
    go_enter Tryz.func198, Tryz.ntmps198
    go_wp2
    go_ret
    exact ⟨rfl, Kept.refl _ _⟩

/-- An item whose depth is any number. -/
structure Iz where
  deep : Int
  kind : Nat
  name : List UInt8
  attrs : List Atr
  data : List UInt8
def kindP (x : Iz) (first : Bool) : Bool :=
  if x.kind = 1 then (validP x.name && x.data == []) && soundA x.attrs
  else if x.kind = 2 then (x.name == [] && !(x.data == [])) && decide (x.attrs.length = 0)
  else if x.kind = 3 then x.name == [] && decide (x.attrs.length = 0)
  else if x.kind = 6 then (first && x.data == []) && decide (x.attrs.length = 0)
  else false

set_option maxRecDepth 20000 in
set_option maxHeartbeats 1000000 in
theorem kind1 (d : Int) (S D : ByteArray) (l : List Atr) (aa : Option Addr) (n ac : Nat) (hln : l.length = n) (hn : n ≤ 100000000) (hsz : ∀ x ∈ l, x.name.length ≤ 1000000000 ∧ x.value.length ≤ 1000000000) (first : Bool) (w : World) (ha : AtsAt (fun k => k < w.heap.size) w aa l) :
    Calls Tryz.prog 184 #[.agg #[.int .i64 d, .int .u8 (1 : Int), .string S, .string D, .slice aa n ac], .bool first] w fun e w' => e = .returned (.bool (kindP ⟨d, 1, S.toList, l, D.toList⟩ first)) ∧ Kept (fun k => k < w.heap.size) w w' := by
  obtain ⟨W, hW⟩ : ∃ W, w.alloc (.cells #[.int .i64 d, .int .u8 (1 : Int), .string S, .string D, .slice aa n ac] 165) = W := ⟨_, rfl⟩
  obtain ⟨N, hN⟩ : ∃ N, w.heap.size = N := ⟨_, rfl⟩
  have kW : Kept (fun k => k < w.heap.size) w W := by rw [← hW]; exact (Kept.refl _ w).alloc (fun _ h => h) _
  have sW : N < W.heap.size := by rw [← hW, ← hN]; simp
  have hcW : ∀ i u, #[.int .i64 d, .int .u8 (1 : Int), .string S, .string D, .slice aa n ac].toList[i]? = some u → W.cell? ⟨N, i, none⟩ = some u := by
    intro i u hi
    rw [← hW, ← hN, cell_block (heap_alloc_new w _), ← Array.getElem?_toList]
    exact hi
  have haW : AtsAt (fun k => k < W.heap.size) W aa l := ha.kept kW fun k h => Nat.lt_of_lt_of_le h kW.size
  have HK : Hid (Kept (fun k => k < w.heap.size) w W) := kW
  have HW : Hid (w.alloc (.cells #[.int .i64 d, .int .u8 (1 : Int), .string S, .string D, .slice aa n ac] 165) = W) := hW
  have HN : Hid (w.heap.size = N) := hN
  have hu := And.intro hn hsz
  clear hu
  have t0 := hcW 0 _ rfl
  have t1 := hcW 1 _ rfl
  have t2 := hcW 2 _ rfl
  have t3 := hcW 3 _ rfl
  have t4 := hcW 4 _ rfl
  have rv := valid_any S (fun k => k < W.heap.size) W (fun _ h => h)
  have ra := fun X (hX : Kept (fun k => k < W.heap.size) W X) => soundAttrs_any l aa n ac hln hn hsz X (haW.kept hX fun k h => Nat.lt_of_lt_of_le h hX.size)
  have ek : kindP ⟨d, 1, S.toList, l, D.toList⟩ first = ((validP S.toList && D.toList == []) && soundA l) := rfl
  rw [ek]
  obtain ⟨v, hv⟩ : ∃ v, validP S.toList = v := ⟨_, rfl⟩
  obtain ⟨e0, he0⟩ : ∃ v, (D.toList == []) = v := ⟨_, rfl⟩
  obtain ⟨sa, hsa⟩ : ∃ v, soundA l = v := ⟨_, rfl⟩
  rw [hv] at rv ⊢
  rw [he0]
  rw [hsa]
  simp only [hsa] at ra
  have hc2 : ∀ X, Kept (fun k => k < W.heap.size) W X → ∀ i u, #[Value.int .i64 d, .int .u8 (1 : Int), .string S, .string D, .slice aa n ac].toList[i]? = some u → X.cell? ⟨N, i, none⟩ = some u := fun X hX i u hi => by
    rw [hX.cell (p := ⟨N, i, none⟩) sW]
    exact hcW i u hi
  have HC2 : Hid (∀ X, Kept (fun k => k < W.heap.size) W X → ∀ i u, #[Value.int .i64 d, .int .u8 (1 : Int), .string S, .string D, .slice aa n ac].toList[i]? = some u → X.cell? ⟨N, i, none⟩ = some u) := hc2
  clear hW hN kW sW hcW haW ha hln hn hsz ek hv hsa hc2
  cases v with
  | false =>
    go_enter Tryz.func184, Tryz.ntmps184
    go_upto_region 1 with fail
    rw [HW.out, HN.out]
    clear HW HN
    go_wp2_with fail
    refine rv.mono ?_
    rintro e w1 ⟨rfl, k1⟩
    clear rv ra t0 t1 t2 t3 t4
    go_wp2
    go_ret
    exact ⟨rfl, HK.out.trans (k1.mono fun k h => Nat.lt_of_lt_of_le h HK.out.size)⟩
  | true =>
    cases e0 with
    | false =>
      go_enter Tryz.func184, Tryz.ntmps184
      go_upto_region 1 with fail
      rw [HW.out, HN.out]
      clear HW HN
      go_wp2_with fail
      refine rv.mono ?_
      rintro e w1 ⟨rfl, k1⟩
      have m3 := HC2.out w1 k1 3 _ rfl
      clear rv ra t0 t1 t2 t3 t4
      go_wp2
      go_ret
      exact ⟨rfl, HK.out.trans (k1.mono fun k h => Nat.lt_of_lt_of_le h HK.out.size)⟩
    | true =>
      go_enter Tryz.func184, Tryz.ntmps184
      go_upto_region 1 with fail
      rw [HW.out, HN.out]
      clear HW HN
      go_wp2_with fail
      refine rv.mono ?_
      rintro e w1 ⟨rfl, k1⟩
      have m3 := HC2.out w1 k1 3 _ rfl
      have m4 := HC2.out w1 k1 4 _ rfl
      have ra1 := ra w1 k1
      have HK1 : Hid (Kept (fun k => k < w.heap.size) w w1) := HK.out.trans (k1.mono fun k h => Nat.lt_of_lt_of_le h HK.out.size)
      clear rv ra k1 t0 t1 t2 t3 t4
      go_wp2_with fail
      refine ra1.mono ?_
      rintro e w2 ⟨rfl, k2⟩
      clear ra1 m3 m4
      go_wp2
      go_ret
      exact ⟨rfl, HK1.out.trans (k2.mono fun k h => Nat.lt_of_lt_of_le h HK1.out.size)⟩

set_option maxRecDepth 20000 in
set_option maxHeartbeats 1000000 in
theorem kind2 (d : Int) (S D : ByteArray) (l : List Atr) (aa : Option Addr) (n ac : Nat) (hln : l.length = n) (hn : n ≤ 100000000) (hsz : ∀ x ∈ l, x.name.length ≤ 1000000000 ∧ x.value.length ≤ 1000000000) (first : Bool) (w : World) (ha : AtsAt (fun k => k < w.heap.size) w aa l) :
    Calls Tryz.prog 184 #[.agg #[.int .i64 d, .int .u8 (2 : Int), .string S, .string D, .slice aa n ac], .bool first] w fun e w' => e = .returned (.bool (kindP ⟨d, 2, S.toList, l, D.toList⟩ first)) ∧ Kept (fun k => k < w.heap.size) w w' := by
  obtain ⟨W, hW⟩ : ∃ W, w.alloc (.cells #[.int .i64 d, .int .u8 (2 : Int), .string S, .string D, .slice aa n ac] 165) = W := ⟨_, rfl⟩
  obtain ⟨N, hN⟩ : ∃ N, w.heap.size = N := ⟨_, rfl⟩
  have kW : Kept (fun k => k < w.heap.size) w W := by rw [← hW]; exact (Kept.refl _ w).alloc (fun _ h => h) _
  have sW : N < W.heap.size := by rw [← hW, ← hN]; simp
  have hcW : ∀ i u, #[.int .i64 d, .int .u8 (2 : Int), .string S, .string D, .slice aa n ac].toList[i]? = some u → W.cell? ⟨N, i, none⟩ = some u := by
    intro i u hi
    rw [← hW, ← hN, cell_block (heap_alloc_new w _), ← Array.getElem?_toList]
    exact hi
  have haW : AtsAt (fun k => k < W.heap.size) W aa l := ha.kept kW fun k h => Nat.lt_of_lt_of_le h kW.size
  have HK : Hid (Kept (fun k => k < w.heap.size) w W) := kW
  have HW : Hid (w.alloc (.cells #[.int .i64 d, .int .u8 (2 : Int), .string S, .string D, .slice aa n ac] 165) = W) := hW
  have HN : Hid (w.heap.size = N) := hN
  have hu := And.intro hn hsz
  clear hu
  have t0 := hcW 0 _ rfl
  have t1 := hcW 1 _ rfl
  have t2 := hcW 2 _ rfl
  have t3 := hcW 3 _ rfl
  have t4 := hcW 4 _ rfl
  have hu2 := haW
  clear hu2
  have ek : kindP ⟨d, 2, S.toList, l, D.toList⟩ first = ((S.toList == [] && !(D.toList == [])) && decide (l.length = 0)) := rfl
  rw [ek, hln]
  obtain ⟨s0, hs0⟩ : ∃ v, (S.toList == []) = v := ⟨_, rfl⟩
  obtain ⟨e0, he0⟩ : ∃ v, (D.toList == []) = v := ⟨_, rfl⟩
  try rw [hs0]
  try rw [he0]
  clear hW hN kW sW hcW haW ha hln hsz ek
  by_cases h0 : n = 0
  · subst h0
    rw [decide_eq_true rfl]
    cases s0 <;> cases e0 <;> cases first
    all_goals
      go_enter Tryz.func184, Tryz.ntmps184
      go_upto_region 1 with fail
      rw [HW.out, HN.out]
      go_wp2
      go_ret
      exact ⟨rfl, HK.out⟩
  · rw [decide_eq_false h0]
    have hz : ((n : Int) == 0) = false := by
      have : (n : Int) ≠ 0 := by omega
      simpa using this
    cases s0 <;> cases e0 <;> cases first
    all_goals
      go_enter Tryz.func184, Tryz.ntmps184
      go_upto_region 1 with fail
      rw [HW.out, HN.out]
      go_wp2
      go_ret
      exact ⟨rfl, HK.out⟩

set_option maxRecDepth 20000 in
set_option maxHeartbeats 1000000 in
theorem kind3 (d : Int) (S D : ByteArray) (l : List Atr) (aa : Option Addr) (n ac : Nat) (hln : l.length = n) (hn : n ≤ 100000000) (hsz : ∀ x ∈ l, x.name.length ≤ 1000000000 ∧ x.value.length ≤ 1000000000) (first : Bool) (w : World) (ha : AtsAt (fun k => k < w.heap.size) w aa l) :
    Calls Tryz.prog 184 #[.agg #[.int .i64 d, .int .u8 (3 : Int), .string S, .string D, .slice aa n ac], .bool first] w fun e w' => e = .returned (.bool (kindP ⟨d, 3, S.toList, l, D.toList⟩ first)) ∧ Kept (fun k => k < w.heap.size) w w' := by
  obtain ⟨W, hW⟩ : ∃ W, w.alloc (.cells #[.int .i64 d, .int .u8 (3 : Int), .string S, .string D, .slice aa n ac] 165) = W := ⟨_, rfl⟩
  obtain ⟨N, hN⟩ : ∃ N, w.heap.size = N := ⟨_, rfl⟩
  have kW : Kept (fun k => k < w.heap.size) w W := by rw [← hW]; exact (Kept.refl _ w).alloc (fun _ h => h) _
  have sW : N < W.heap.size := by rw [← hW, ← hN]; simp
  have hcW : ∀ i u, #[.int .i64 d, .int .u8 (3 : Int), .string S, .string D, .slice aa n ac].toList[i]? = some u → W.cell? ⟨N, i, none⟩ = some u := by
    intro i u hi
    rw [← hW, ← hN, cell_block (heap_alloc_new w _), ← Array.getElem?_toList]
    exact hi
  have haW : AtsAt (fun k => k < W.heap.size) W aa l := ha.kept kW fun k h => Nat.lt_of_lt_of_le h kW.size
  have HK : Hid (Kept (fun k => k < w.heap.size) w W) := kW
  have HW : Hid (w.alloc (.cells #[.int .i64 d, .int .u8 (3 : Int), .string S, .string D, .slice aa n ac] 165) = W) := hW
  have HN : Hid (w.heap.size = N) := hN
  have hu := And.intro hn hsz
  clear hu
  have t0 := hcW 0 _ rfl
  have t1 := hcW 1 _ rfl
  have t2 := hcW 2 _ rfl
  have t3 := hcW 3 _ rfl
  have t4 := hcW 4 _ rfl
  have hu2 := haW
  clear hu2
  have ek : kindP ⟨d, 3, S.toList, l, D.toList⟩ first = (S.toList == [] && decide (l.length = 0)) := rfl
  rw [ek, hln]
  obtain ⟨s0, hs0⟩ : ∃ v, (S.toList == []) = v := ⟨_, rfl⟩
  obtain ⟨e0, he0⟩ : ∃ v, (D.toList == []) = v := ⟨_, rfl⟩
  try rw [hs0]
  try rw [he0]
  clear hW hN kW sW hcW haW ha hln hsz ek
  by_cases h0 : n = 0
  · subst h0
    rw [decide_eq_true rfl]
    cases s0 <;> cases e0 <;> cases first
    all_goals
      go_enter Tryz.func184, Tryz.ntmps184
      go_upto_region 1 with fail
      rw [HW.out, HN.out]
      go_wp2
      go_ret
      exact ⟨rfl, HK.out⟩
  · rw [decide_eq_false h0]
    have hz : ((n : Int) == 0) = false := by
      have : (n : Int) ≠ 0 := by omega
      simpa using this
    cases s0 <;> cases e0 <;> cases first
    all_goals
      go_enter Tryz.func184, Tryz.ntmps184
      go_upto_region 1 with fail
      rw [HW.out, HN.out]
      go_wp2
      go_ret
      exact ⟨rfl, HK.out⟩

set_option maxRecDepth 20000 in
set_option maxHeartbeats 1000000 in
theorem kind6 (d : Int) (S D : ByteArray) (l : List Atr) (aa : Option Addr) (n ac : Nat) (hln : l.length = n) (hn : n ≤ 100000000) (hsz : ∀ x ∈ l, x.name.length ≤ 1000000000 ∧ x.value.length ≤ 1000000000) (first : Bool) (w : World) (ha : AtsAt (fun k => k < w.heap.size) w aa l) :
    Calls Tryz.prog 184 #[.agg #[.int .i64 d, .int .u8 (6 : Int), .string S, .string D, .slice aa n ac], .bool first] w fun e w' => e = .returned (.bool (kindP ⟨d, 6, S.toList, l, D.toList⟩ first)) ∧ Kept (fun k => k < w.heap.size) w w' := by
  obtain ⟨W, hW⟩ : ∃ W, w.alloc (.cells #[.int .i64 d, .int .u8 (6 : Int), .string S, .string D, .slice aa n ac] 165) = W := ⟨_, rfl⟩
  obtain ⟨N, hN⟩ : ∃ N, w.heap.size = N := ⟨_, rfl⟩
  have kW : Kept (fun k => k < w.heap.size) w W := by rw [← hW]; exact (Kept.refl _ w).alloc (fun _ h => h) _
  have sW : N < W.heap.size := by rw [← hW, ← hN]; simp
  have hcW : ∀ i u, #[.int .i64 d, .int .u8 (6 : Int), .string S, .string D, .slice aa n ac].toList[i]? = some u → W.cell? ⟨N, i, none⟩ = some u := by
    intro i u hi
    rw [← hW, ← hN, cell_block (heap_alloc_new w _), ← Array.getElem?_toList]
    exact hi
  have haW : AtsAt (fun k => k < W.heap.size) W aa l := ha.kept kW fun k h => Nat.lt_of_lt_of_le h kW.size
  have HK : Hid (Kept (fun k => k < w.heap.size) w W) := kW
  have HW : Hid (w.alloc (.cells #[.int .i64 d, .int .u8 (6 : Int), .string S, .string D, .slice aa n ac] 165) = W) := hW
  have HN : Hid (w.heap.size = N) := hN
  have hu := And.intro hn hsz
  clear hu
  have t0 := hcW 0 _ rfl
  have t1 := hcW 1 _ rfl
  have t2 := hcW 2 _ rfl
  have t3 := hcW 3 _ rfl
  have t4 := hcW 4 _ rfl
  have hu2 := haW
  clear hu2
  have ek : kindP ⟨d, 6, S.toList, l, D.toList⟩ first = ((first && D.toList == []) && decide (l.length = 0)) := rfl
  rw [ek, hln]
  obtain ⟨s0, hs0⟩ : ∃ v, (S.toList == []) = v := ⟨_, rfl⟩
  obtain ⟨e0, he0⟩ : ∃ v, (D.toList == []) = v := ⟨_, rfl⟩
  try rw [hs0]
  try rw [he0]
  clear hW hN kW sW hcW haW ha hln hsz ek
  by_cases h0 : n = 0
  · subst h0
    rw [decide_eq_true rfl]
    cases s0 <;> cases e0 <;> cases first
    all_goals
      go_enter Tryz.func184, Tryz.ntmps184
      go_upto_region 1 with fail
      rw [HW.out, HN.out]
      go_wp2
      go_ret
      exact ⟨rfl, HK.out⟩
  · rw [decide_eq_false h0]
    have hz : ((n : Int) == 0) = false := by
      have : (n : Int) ≠ 0 := by omega
      simpa using this
    cases s0 <;> cases e0 <;> cases first
    all_goals
      go_enter Tryz.func184, Tryz.ntmps184
      go_upto_region 1 with fail
      rw [HW.out, HN.out]
      go_wp2
      go_ret
      exact ⟨rfl, HK.out⟩

set_option maxRecDepth 20000 in
set_option maxHeartbeats 1000000 in
theorem kind0 (d : Int) (kd : Nat) (n1 : kd ≠ 1) (n2 : kd ≠ 2) (n3 : kd ≠ 3) (n6 : kd ≠ 6) (S D : ByteArray) (l : List Atr) (aa : Option Addr) (n ac : Nat) (hln : l.length = n) (hn : n ≤ 100000000) (hsz : ∀ x ∈ l, x.name.length ≤ 1000000000 ∧ x.value.length ≤ 1000000000) (first : Bool) (w : World) (ha : AtsAt (fun k => k < w.heap.size) w aa l) :
    Calls Tryz.prog 184 #[.agg #[.int .i64 d, .int .u8 (kd : Int), .string S, .string D, .slice aa n ac], .bool first] w fun e w' => e = .returned (.bool (kindP ⟨d, kd, S.toList, l, D.toList⟩ first)) ∧ Kept (fun k => k < w.heap.size) w w' := by
  obtain ⟨W, hW⟩ : ∃ W, w.alloc (.cells #[.int .i64 d, .int .u8 (kd : Int), .string S, .string D, .slice aa n ac] 165) = W := ⟨_, rfl⟩
  obtain ⟨N, hN⟩ : ∃ N, w.heap.size = N := ⟨_, rfl⟩
  have kW : Kept (fun k => k < w.heap.size) w W := by rw [← hW]; exact (Kept.refl _ w).alloc (fun _ h => h) _
  have sW : N < W.heap.size := by rw [← hW, ← hN]; simp
  have hcW : ∀ i u, #[.int .i64 d, .int .u8 (kd : Int), .string S, .string D, .slice aa n ac].toList[i]? = some u → W.cell? ⟨N, i, none⟩ = some u := by
    intro i u hi
    rw [← hW, ← hN, cell_block (heap_alloc_new w _), ← Array.getElem?_toList]
    exact hi
  have haW : AtsAt (fun k => k < W.heap.size) W aa l := ha.kept kW fun k h => Nat.lt_of_lt_of_le h kW.size
  have HK : Hid (Kept (fun k => k < w.heap.size) w W) := kW
  have HW : Hid (w.alloc (.cells #[.int .i64 d, .int .u8 (kd : Int), .string S, .string D, .slice aa n ac] 165) = W) := hW
  have HN : Hid (w.heap.size = N) := hN
  have hu := And.intro hn hsz
  clear hu
  have t0 := hcW 0 _ rfl
  have t1 := hcW 1 _ rfl
  have t2 := hcW 2 _ rfl
  have t3 := hcW 3 _ rfl
  have t4 := hcW 4 _ rfl
  have q1 : ((kd : Int) == 1) = false := by
    have : (kd : Int) ≠ 1 := by omega
    simpa using this
  have q2 : ((kd : Int) == 2) = false := by
    have : (kd : Int) ≠ 2 := by omega
    simpa using this
  have q3 : ((kd : Int) == 3) = false := by
    have : (kd : Int) ≠ 3 := by omega
    simpa using this
  have q6 : ((kd : Int) == 6) = false := by
    have : (kd : Int) ≠ 6 := by omega
    simpa using this
  have ek : kindP ⟨d, kd, S.toList, l, D.toList⟩ first = false := by
    unfold kindP
    dsimp only
    rw [if_neg n1, if_neg n2, if_neg n3, if_neg n6]
  rw [ek]
  have hu2 := And.intro hln haW
  clear hu2
  clear hW hN kW sW hcW haW ha hln hsz ek n1 n2 n3 n6
  go_enter Tryz.func184, Tryz.ntmps184
  go_upto_region 1 with fail
  rw [HW.out, HN.out]
  clear HW HN
  go_wp2
  go_ret
  exact ⟨rfl, HK.out⟩

theorem kind_any (d : Int) (kd : Nat) (S D : ByteArray) (l : List Atr) (aa : Option Addr) (n ac : Nat) (hln : l.length = n) (hn : n ≤ 100000000) (hsz : ∀ x ∈ l, x.name.length ≤ 1000000000 ∧ x.value.length ≤ 1000000000) (first : Bool) (w : World) (ha : AtsAt (fun k => k < w.heap.size) w aa l) :
    Calls Tryz.prog 184 #[.agg #[.int .i64 d, .int .u8 (kd : Int), .string S, .string D, .slice aa n ac], .bool first] w fun e w' => e = .returned (.bool (kindP ⟨d, kd, S.toList, l, D.toList⟩ first)) ∧ Kept (fun k => k < w.heap.size) w w' := by
  by_cases c1 : kd = 1
  · subst c1; exact kind1 d S D l aa n ac hln hn hsz first w ha
  by_cases c2 : kd = 2
  · subst c2; exact kind2 d S D l aa n ac hln hn hsz first w ha
  by_cases c3 : kd = 3
  · subst c3; exact kind3 d S D l aa n ac hln hn hsz first w ha
  by_cases c6 : kd = 6
  · subst c6; exact kind6 d S D l aa n ac hln hn hsz first w ha
  exact kind0 d kd c1 c2 c3 c6 S D l aa n ac hln hn hsz first w ha
end Go.Proofs.YtbhfnbplbkncmaaGreat

namespace Go.Proofs.YtbhfnbplbkncmaaGreat
open Go.RowKit

def izCells (x : Iz) (aa : Option Addr) (ac : Nat) : List Value := [.int .i64 x.deep, .int .u8 (x.kind : Int), sv x.name, sv x.data, .slice aa x.attrs.length ac]
/-- Items lie at a slice. -/
def IzIn (w : World) (ia : Option Addr) (l : List Iz) : Prop :=
  ∀ j (_ : j < l.length), ∃ g aa ac, ia = some ⟨g, 0, none⟩ ∧ g < w.heap.size ∧ AtsAt (fun k => k < w.heap.size) w aa l[j].attrs ∧ ∀ i u, (izCells l[j] aa ac)[i]? = some u → w.cell? ⟨g, j * 5 + i, none⟩ = some u
theorem IzIn.kept {w w' : World} {ia : Option Addr} {l : List Iz} (h : IzIn w ia l) (hk : Kept (fun k => k < w.heap.size) w w') : IzIn w' ia l := fun j hj => by
  obtain ⟨g, aa, ac, h1, h2, h3, h5⟩ := h j hj
  exact ⟨g, aa, ac, h1, Nat.lt_of_lt_of_le h2 hk.size, h3.kept hk fun k h => Nat.lt_of_lt_of_le h hk.size, fun i u hi => by rw [hk.cell (p := ⟨g, j * 5 + i, none⟩) h2]; exact h5 i u hi⟩
/-- How deep the next one may be. -/
def nextD (x : Iz) : Int := if (decide (x.kind = 1) && !voidP x.name) = true then x.deep + 1 else x.deep
def soundP : Int → Bool → List Iz → Bool
  | _, _, [] => true
  | most, first, x :: r => ((!(decide (x.deep < 0) || decide (x.deep > most))) && kindP x first) && soundP (nextD x) false r
def soundL (l : List Iz) : Bool := decide (l.length ≤ 5000) && soundP 0 true l

set_option maxRecDepth 20000 in
set_option maxHeartbeats 2000000 in
theorem sound_any (l : List Iz) (la : Option Addr) (n cap : Nat) (hln : l.length = n) (hn : n ≤ 100000000) (hsz : ∀ y ∈ l, y.attrs.length ≤ 100000000 ∧ ∀ x ∈ y.attrs, x.name.length ≤ 1000000000 ∧ x.value.length ≤ 1000000000) (w : World) (h : IzIn w la l) :
    Calls Tryz.prog 156 #[.slice la n cap] w fun e w' => e = .returned (.bool (soundL l)) ∧ Kept (fun k => k < w.heap.size) w w' := by
  by_cases h5 : n ≤ 5000
  · have hg : decide ((n : Int) > 5000) = false := decide_eq_false (by omega)
    have es : soundL l = soundP 0 true l := by
      unfold soundL
      rw [hln, decide_eq_true h5]
      rfl
    rw [es]
    obtain ⟨R, hR⟩ : ∃ R, soundP 0 true l = R := ⟨_, rfl⟩
    rw [hR]
    have HR : Hid (soundP 0 true (l.drop 0) = R) := hR
    have HL : Hid (l.length = n) := hln
    have HI : Hid (IzIn w la l) := h
    have HSZ : Hid (∀ y ∈ l, y.attrs.length ≤ 100000000 ∧ ∀ x ∈ y.attrs, x.name.length ≤ 1000000000 ∧ x.value.length ≤ 1000000000) := hsz
    clear es hR hln h hsz hn
    go_enter Tryz.func156, Tryz.ntmps156
    go_upto_region 5 with fail
    go_loopg [11, 3] n (fun g v m wr => ∃ (k : Nat) (most : Int), g = n - k ∧ k ≤ n ∧ v = .int .i64 k ∧ m = .int .i64 most ∧ 0 ≤ most ∧ most ≤ k ∧ soundP most (decide (k = 0)) (l.drop k) = R ∧ Kept (fun k => k < w.heap.size) w wr)
    case atStart => exact ⟨0, 0, rfl, Nat.zero_le _, rfl, rfl, Int.le_refl _, Int.le_refl _, HR.out, Kept.refl _ _⟩
    case round =>
      clear HR
      obtain ⟨k, most, hgk, hk, rfl, rfl, hm0, hm1, hRk, hKk⟩ := hrel
      have HK : Hid (Kept (fun k => k < w.heap.size) w wr) := hKk
      clear hKk
      by_cases hlt : k < n
      · have hl : k < l.length := by rw [HL.out]; exact hlt
        rw [List.drop_eq_getElem_cons hl] at hRk
        obtain ⟨g, aa, ac, hg', hgl, hA, hc⟩ := HI.out k hl
        have hszk := HSZ.out l[k] (List.getElem_mem hl)
        subst hg'
        obtain ⟨x, hx⟩ : ∃ x, l[k] = x := ⟨_, rfl⟩
        rw [hx] at hRk hA hc hszk
        obtain ⟨d, kd, nm, at_, dt⟩ := x
        have e : ∀ i u, (izCells ⟨d, kd, nm, at_, dt⟩ aa ac)[i]? = some u → wr.cell? ⟨g, k * 5 + i, none⟩ = some u := fun i u hi => (HK.out.cell (p := ⟨g, k * 5 + i, none⟩) hgl).trans (hc i u hi)
        obtain ⟨S, hS⟩ : ∃ S : ByteArray, (⟨nm.toArray⟩ : ByteArray) = S := ⟨_, rfl⟩
        obtain ⟨D, hD⟩ : ∃ D : ByteArray, (⟨dt.toArray⟩ : ByteArray) = D := ⟨_, rfl⟩
        have c0 : wr.cell? ⟨g, k * 5, none⟩ = some (.int .i64 d) := e 0 _ rfl
        have c1 : wr.cell? ⟨g, k * 5 + 1, none⟩ = some (.int .u8 (kd : Int)) := e 1 _ rfl
        have c2 : wr.cell? ⟨g, k * 5 + 2, none⟩ = some (.string S) := by rw [← hS]; exact e 2 _ rfl
        have c3 : wr.cell? ⟨g, k * 5 + 3, none⟩ = some (.string D) := by rw [← hD]; exact e 3 _ rfl
        obtain ⟨m, hm⟩ : ∃ m, at_.length = m := ⟨_, rfl⟩
        have c4 : wr.cell? ⟨g, k * 5 + 4, none⟩ = some (.slice aa m ac) := by rw [← hm]; exact e 4 _ rfl
        have hSl : S.toList = nm := by rw [ByteArray.toList_eq, ← hS]
        have hDl : D.toList = dt := by rw [ByteArray.toList_eq, ← hD]
        have hR1 : ((!(decide (d < 0) || decide (d > most))) && kindP ⟨d, kd, nm, at_, dt⟩ (decide (k = 0)) && soundP (nextD ⟨d, kd, nm, at_, dt⟩) false (l.drop (k + 1))) = R := hRk
        rw [← hSl, ← hDl] at hR1
        obtain ⟨V, hV⟩ : ∃ V, wr.alloc (.cells #[.int .i64 d, .int .u8 (kd : Int), .string S, .string D, .slice aa m ac] 165) = V := ⟨_, rfl⟩
        obtain ⟨N, hN⟩ : ∃ N, wr.heap.size = N := ⟨_, rfl⟩
        have kV : Kept (fun k => k < wr.heap.size) wr V := by rw [← hV]; exact (Kept.refl _ wr).alloc (fun _ h => h) _
        have kwV : Kept (fun k => k < w.heap.size) w V := HK.out.trans (kV.mono fun k h => Nat.lt_of_lt_of_le h HK.out.size)
        have sV : N < V.heap.size := by rw [← hV, ← hN]; simp
        have hcV : ∀ i u, #[Value.int .i64 d, .int .u8 (kd : Int), .string S, .string D, .slice aa m ac].toList[i]? = some u → V.cell? ⟨N, i, none⟩ = some u := by
          intro i u hi
          rw [← hV, ← hN, cell_block (heap_alloc_new wr _), ← Array.getElem?_toList]
          exact hi
        have r := kind_any d kd S D at_ aa m ac hm (by rw [← hm]; exact hszk.1) hszk.2 (decide (k = 0)) V (hA.kept kwV fun k h => Nat.lt_of_lt_of_le h kwV.size)
        obtain ⟨fz, hfz⟩ : ∃ f, decide (k = 0) = f := ⟨_, rfl⟩
        rw [hfz] at r hR1
        have q0 : ((k : Int) == 0) = fz := by
          rw [← hfz, Bool.eq_iff_iff]
          simp
        obtain ⟨kq, hkq⟩ : ∃ q, kindP ⟨d, kd, S.toList, at_, D.toList⟩ fz = q := ⟨_, rfl⟩
        rw [hkq] at r hR1
        obtain ⟨nx, hnx⟩ : ∃ z, nextD ⟨d, kd, S.toList, at_, D.toList⟩ = z := ⟨_, rfl⟩
        rw [hnx] at hR1
        have HNX : Hid ((if (decide (kd = 1) && !voidP S.toList) = true then d + 1 else d) = nx) := hnx
        have HR1 : Hid ((!(decide (d < 0) || decide (d > most)) && kq && soundP nx false (l.drop (k + 1))) = R) := hR1
        have HV : Hid (wr.alloc (.cells #[.int .i64 d, .int .u8 (kd : Int), .string S, .string D, .slice aa m ac] 165) = V) := hV
        have HN : Hid (wr.heap.size = N) := hN
        have HKV : Hid (Kept (fun k => k < w.heap.size) w V) := kwV
        have HCV : Hid (∀ X, Kept (fun k => k < V.heap.size) V X → ∀ i u, #[Value.int .i64 d, .int .u8 (kd : Int), .string S, .string D, .slice aa m ac].toList[i]? = some u → X.cell? ⟨N, i, none⟩ = some u) := fun X hX i u hi => (hX.cell (p := ⟨N, i, none⟩) sV).trans (hcV i u hi)
        have t0 := hcV 0 _ rfl
        have t1 := hcV 1 _ rfl
        have t2 := hcV 2 _ rfl
        have t3 := hcV 3 _ rfl
        have t4 := hcV 4 _ rfl
        clear hRk hA hc hszk e hS hD hm hSl hDl hR1 hV hN kV kwV sV hcV hkq hnx hfz hgl hx
        by_cases hd0 : d < 0
        · have hR : R = false := by
            rw [← HR1.out, decide_eq_true hd0]
            rfl
          subst hR
          have hd0' : decide (d < 0) = true := decide_eq_true hd0
          clear HR1 r
          go_upto_region 7 with fail
          rw [HV.out, HN.out]
          go_wp2
          go_ret
          exact ⟨rfl, HKV.out⟩
        · have hd0' : decide (d < 0) = false := decide_eq_false hd0
          by_cases hdm : d > most
          · have hR : R = false := by
              rw [← HR1.out, decide_eq_true hdm]
              simp
            subst hR
            have hdm' : decide (d > most) = true := decide_eq_true hdm
            clear HR1 r
            go_upto_region 7 with fail
            rw [HV.out, HN.out]
            go_wp2
            go_ret
            exact ⟨rfl, HKV.out⟩
          · have hdm' : decide (d > most) = false := decide_eq_false hdm
            have hR2 := HR1.out
            rw [hd0', hdm'] at hR2
            have HR2 : Hid ((kq && soundP nx false (l.drop (k + 1))) = R) := hR2
            have hdk : d ≤ k := by omega
            have hd00 : 0 ≤ d := by omega
            clear hR2 HR1 hd0 hdm
            go_upto_region 7 with fail
            rw [HV.out, HN.out]
            go_wp2_with fail
            refine r.mono ?_
            rintro e w2 ⟨rfl, k2⟩
            have HK2 : Hid (Kept (fun k => k < w.heap.size) w w2) := HKV.out.trans (k2.mono fun k h => Nat.lt_of_lt_of_le h HKV.out.size)
            have m0 := HCV.out w2 k2 0 _ rfl
            have m1 := HCV.out w2 k2 1 _ rfl
            have m2 := HCV.out w2 k2 2 _ rfl
            clear r k2 t0 t1 t2 t3 t4 c0 c1 c2 c3 c4 HV HN HKV HCV
            cases kq with
            | false =>
              have hR : R = false := HR2.out.symm
              subst hR
              clear HR2
              go_wp2
              go_ret
              exact ⟨rfl, HK2.out⟩
            | true =>
              have hR3 := HR2.out
              rw [Bool.true_and] at hR3
              have HR3 : Hid (soundP nx false (l.drop (k + 1)) = R) := hR3
              clear HR2 hR3
              by_cases hk1 : kd = 1
              · subst hk1
                have rv := void_any S (fun k => k < w2.heap.size) w2
                obtain ⟨v, hv⟩ : ∃ v, voidP S.toList = v := ⟨_, rfl⟩
                rw [hv] at rv
                have hnx := HNX.out
                rw [hv] at hnx
                clear hv HNX
                cases v with
                | true =>
                  have hnx' : d = nx := hnx
                  subst hnx'
                  clear hnx
                  go_wp2_with fail
                  refine rv.mono ?_
                  rintro e w3 ⟨rfl, k3⟩
                  have HK3 : Hid (Kept (fun k => k < w.heap.size) w w3) := HK2.out.trans (k3.mono fun k h => Nat.lt_of_lt_of_le h HK2.out.size)
                  clear rv k3 m0 m1 m2
                  go_wp2
                  go_roundg (n - (k + 1))
                  case rel => exact ⟨k + 1, d, rfl, by omega, by go_num, rfl, hd00, by omega, HR3.out, HK3.out⟩
                  case measure => omega
                | false =>
                  have hnx' : d + 1 = nx := hnx
                  subst hnx'
                  clear hnx
                  go_wp2_with fail
                  refine rv.mono ?_
                  rintro e w3 ⟨rfl, k3⟩
                  have HK3 : Hid (Kept (fun k => k < w.heap.size) w w3) := HK2.out.trans (k3.mono fun k h => Nat.lt_of_lt_of_le h HK2.out.size)
                  clear rv k3 m0 m1 m2
                  go_wp2
                  go_roundg (n - (k + 1))
                  case rel => exact ⟨k + 1, d + 1, rfl, by omega, by go_num, rfl, by omega, by omega, HR3.out, HK3.out⟩
                  case measure => omega
              · have q1 : ((kd : Int) == 1) = false := by
                  have : (kd : Int) ≠ 1 := by omega
                  simpa using this
                have hnx' : d = nx := by
                  rw [← HNX.out, decide_eq_false hk1]
                  rfl
                subst hnx'
                clear HNX
                go_wp2
                go_roundg (n - (k + 1))
                case rel => exact ⟨k + 1, d, rfl, by omega, by go_num, rfl, hd00, by omega, HR3.out, HK2.out⟩
                case measure => omega
      · have hkk : k = n := by omega
        subst hkk
        have hR : R = true := by
          rw [← hRk, List.drop_eq_nil_of_le (by rw [HL.out]; exact Nat.le_refl _)]
          rfl
        subst hR
        clear hRk
        go_wp2
        go_ret
        exact ⟨rfl, HK.out⟩
  · have hg : decide ((n : Int) > 5000) = true := decide_eq_true (by omega)
    have es : soundL l = false := by
      unfold soundL
      rw [hln, decide_eq_false h5]
      rfl
    rw [es]
    have hu := And.intro hsz h
    clear hu es hln hsz h
    go_enter Tryz.func156, Tryz.ntmps156
    go_wp2
    go_ret
    exact ⟨rfl, Kept.refl _ _⟩
end Go.Proofs.YtbhfnbplbkncmaaGreat

namespace Go.Proofs.YtbhfnbplbkncmaaGreat
open Go.RowKit
set_option linter.unusedVariables false
section
variable {P : Program}
/-- append of some elements of some cells each. -/
theorem run_appM {K : Nat → Prop} (w : World) (t tx ty e : TypeId) (i : TypeInfo) (zv : Value) (ht : P.underlying t = some (.slice e)) (hi : P.info? e = some i) (hz : i.zero = some zv) (z : Nat) (hsize : i.size = z) (hzs : zv.cells.size = z) (hby : i.bytes ≤ 128)
    {ao : Option Addr} {n cap : Nat} {xs : List Value} (hown : OwnZ K w e z ao n cap xs) (x : Value) (m : Nat) (hm0 : 0 < m) (hm : m ≤ 100000000) (news : List Value) (hs : Src P z tx x m news w)
    (hK : ∀ k, K k → k < w.heap.size) (hn : n ≤ 1000000000) :
    ∃ ao' cap' w', (Builtin.append_ #[t, tx] ty #[.slice ao n cap, x]).run P w = .ok (.slice ao' (n + m) cap') w' ∧ OwnZ K w' e z ao' (n + m) cap' (xs ++ news) ∧ Kept K w w' := by
  subst hsize
  have h63 : n + m ≤ maxLen := by unfold maxLen; omega
  have hbytes : (n + m) * i.bytes ≤ 140737488355328 := by
    have : (n + m) * i.bytes ≤ (1000000000 + 100000000) * 128 := Nat.mul_le_mul (by omega) hby
    omega
  have hnl : news.length = m * i.size := by simpa using hs.newsLen
  obtain ⟨h1, h2, h3, h4⟩ := hown
  have hlen : (xs ++ news).length = (n + m) * i.size := by rw [List.length_append, h1, hnl, Nat.add_mul]
  have grow : cap < n + m → (Builtin.firstCells i.size n (.slice ao n cap)).run P w.drew = .ok xs.toArray w.drew →
      ∃ ao' cap' w', (Builtin.append_ #[t, tx] ty #[.slice ao n cap, x]).run P w = .ok (.slice ao' (n + m) cap') w' ∧ OwnZ K w' e i.size ao' (n + m) cap' (xs ++ news) ∧ Kept K w w' := by
    intro hg hold
    have hr := run_append_grow_src (P := P) w t tx ty e i zv ht hi hz ao n cap xs hold x m news hs hg (by omega) (growslice_fits hg hbytes)
    have hge := grownCap_ge w (n + m) cap e
    refine ⟨_, _, _, hr, ⟨hlen, hge, grownCap_le_maxLen w (n + m) cap e h63, .inr ⟨w.heap.size, _, rfl, fun hk => Nat.lt_irrefl _ (hK _ hk), heap_alloc_new w.drew _, ?_, ?_⟩⟩, (Kept.refl K w).drew.alloc (by simpa using hK) _⟩
    · rw [Array.size_append, List.size_toArray, hlen, size_zeroCells, hzs, ← Nat.add_mul]
      congr 1
      omega
    · rw [Array.toList_append]
      rw [← hlen]
      exact List.take_left
  rcases h4 with ⟨rfl, rfl⟩ | ⟨g, cur, rfl, r2, r3, r4, r5⟩
  · have hn0 : n = 0 := by omega
    subst hn0
    have hx : xs = [] := List.eq_nil_of_length_eq_zero (by omega)
    subst hx
    exact grow (by omega) (run_firstCells_none w.drew i.size 0 0 0)
  · have hcells : ∀ j u, xs[j]? = some u → w.cell? ((⟨g, 0, none⟩ : Addr).add j) = some u := by
      intro j u hj
      have hjl : j < xs.length := by
        rcases Nat.lt_or_ge j xs.length with hl | hg
        · exact hl
        · rw [List.getElem?_eq_none hg] at hj; cases hj
      have : (⟨g, 0, none⟩ : Addr).add j = ⟨g, j, none⟩ := by rw [Addr.add_lit, Nat.zero_add]
      rw [this, cell_block r3, ← hj, ← r5, List.getElem?_take, if_pos (by omega), Array.getElem?_toList]
    by_cases hroom : n + m ≤ cap
    · have hfit : n * i.size + m * i.size ≤ cur.size := by
        rw [r4, ← Nat.add_mul]
        exact Nat.mul_le_mul_right _ hroom
      have hr := run_append_room_src (P := P) w t tx ty e i ht hi g 0 n cap x m news hs hroom
        (fun j hj => by rw [cell_block r3]; rw [Array.getElem?_eq_getElem (by omega)]; rfl)
        (fun j hj => frozen_block r3 _)
      rw [Nat.zero_add] at hr
      obtain ⟨c', q1, q2⟩ := heap_setCells_at (b := g) (e := e) (f := (0, 0)) news (n * i.size) w cur r3 (by omega)
      refine ⟨_, _, _, hr, ⟨hlen, hroom, h3, .inr ⟨g, c', rfl, r2, q1, ?_, ?_⟩⟩, ⟨?_, ?_, ?_, ?_, ?_⟩⟩
      · have := congrArg List.length q2
        rw [List.length_append, List.length_append, List.length_drop, List.length_take] at this
        simp only [Array.length_toList] at this
        omega
      · rw [q2, r5, ← hlen]
        exact List.take_left
      · exact World.os_setCells w g _ news
      · have key : ∀ (vs : List Value) (o : Nat) (v : World), (v.setCells g o vs).tape = v.tape := by
          intro vs
          induction vs with
          | nil => intro o v; rfl
          | cons a r ih => intro o v; rw [World.setCells, ih]; rfl
        exact key news _ w
      · exact World.output_setCells w g _ news
      · have key : ∀ (vs : List Value) (o : Nat) (v : World), (v.setCells g o vs).heap.size = v.heap.size := by
          intro vs
          induction vs with
          | nil => intro o v; rfl
          | cons a r ih => intro o v; rw [World.setCells, ih]; simp
        rw [key]; exact Nat.le_refl _
      · intro k hk
        exact World.heap_setCells_other w g _ news (hK k hk) (fun e => r2 (e ▸ hk))
    · exact grow (by omega) (run_firstCells_some w.drew i.size n ⟨g, 0, none⟩ n cap xs h1 hcells)
end
theorem infoA : (Tryz.prog.info? 140).map (fun i => (i.zero, i.size, i.bytes)) = some (some (.agg #[.string ⟨#[]⟩, .string ⟨#[]⟩]), 2, 32) := by kernel_rfl
theorem atr_len (l : List Atr) : (atrCells l).length = l.length * 2 := by
  induction l with
  | nil => rfl
  | cons a r ih =>
    show (sv a.name :: sv a.value :: atrCells r).length = _
    rw [List.length_cons, List.length_cons, ih, List.length_cons]
    omega
theorem atr_one (l : List Atr) : ∀ u ∈ atrCells l, u.oneCell' = true := by
  intro u hu
  obtain ⟨a, _, h⟩ := List.mem_flatMap.1 hu
  simp at h
  rcases h with rfl | rfl <;> rfl
theorem atr_get : ∀ (l : List Atr) (j : Nat) (h : j < l.length), (atrCells l)[j * 2]? = some (sv l[j].name) ∧ (atrCells l)[j * 2 + 1]? = some (sv l[j].value)
  | a :: r, 0, _ => ⟨rfl, rfl⟩
  | a :: r, j + 1, h => by
    obtain ⟨h1, h2⟩ := atr_get r j (by simpa using h)
    have e : atrCells (a :: r) = [sv a.name, sv a.value] ++ atrCells r := rfl
    rw [e]
    constructor
    · rw [List.getElem?_append_right (by simp; omega)]
      simpa [show (j + 1) * 2 - 2 = j * 2 from by omega] using h1
    · rw [List.getElem?_append_right (by simp; omega)]
      simpa [show (j + 1) * 2 + 1 - 2 = j * 2 + 1 from by omega] using h2
/-- The cells of attributes, one by one. -/
theorem AtsAt.cells {K : Nat → Prop} {w : World} {aa : Option Addr} {l : List Atr} (h : AtsAt K w aa l) (h0 : 0 < l.length) : ∃ g o, aa = some ⟨g, o, none⟩ ∧ K g ∧ ∀ j u, (atrCells l)[j]? = some u → w.cell? ⟨g, o + j, none⟩ = some u := by
  obtain ⟨g, o, e, hg, -, -⟩ := h 0 h0
  refine ⟨g, o, e, hg, fun j u hj => ?_⟩
  have hjl : j < (atrCells l).length := by
    rcases Nat.lt_or_ge j (atrCells l).length with hl | hg
    · exact hl
    · rw [List.getElem?_eq_none hg] at hj; cases hj
  rw [atr_len] at hjl
  obtain ⟨g', o', e', -, c0, c1⟩ := h (j / 2) (by omega)
  rw [e] at e'
  injection e' with e'
  injection e' with e1 e2
  subst e1 e2
  obtain ⟨a0, a1⟩ := atr_get l (j / 2) (by omega)
  rcases Nat.mod_two_eq_zero_or_one j with hm | hm
  · have hj2 : j / 2 * 2 = j := by omega
    rw [hj2] at a0 c0
    rw [a0] at hj
    injection hj with hj
    rw [← hj]; exact c0
  · have hj2 : j / 2 * 2 + 1 = j := by omega
    rw [hj2] at a1
    rw [Nat.add_assoc, hj2] at c1
    rw [a1] at hj
    injection hj with hj
    rw [← hj]; exact c1
theorem OwnZ.atsAt {K K' : Nat → Prop} {w : World} {ao : Option Addr} {n cap : Nat} {l : List Atr} (h : OwnZ K w 140 2 ao n cap (atrCells l)) (hK : ∀ g, blkOf ao g → K' g) : AtsAt K' w ao l := by
  intro j hj
  obtain ⟨a0, a1⟩ := atr_get l j hj
  obtain ⟨g, e, c0⟩ := h.cell a0
  obtain ⟨g', e', c1⟩ := h.cell a1
  rw [e] at e'
  injection e' with e'
  injection e' with e1
  subst e1
  exact ⟨g, 0, e, hK g e, by rw [Nat.zero_add]; exact c0, by rw [Nat.zero_add]; exact c1⟩

set_option maxRecDepth 20000 in
theorem copyA_any (l : List Atr) (aa : Option Addr) (n ac : Nat) (hln : l.length = n) (hn : n ≤ 100000000) (w : World) (ha : AtsAt (fun k => k < w.heap.size) w aa l) :
    Calls Tryz.prog 77 #[.slice aa n ac] w fun e w' => ∃ ao c, e = .returned (.slice ao n c) ∧ OwnZ (fun k => k < w.heap.size) w' 140 2 ao n c (atrCells l) ∧ Kept (fun k => k < w.heap.size) w w' := by
  obtain ⟨i, hi, hip⟩ := Option.map_eq_some_iff.1 infoA
  have hz : i.zero = _ := congrArg (·.1) hip
  have hsz : i.size = 2 := congrArg (·.2.1) hip
  have hby : i.bytes = 32 := congrArg (·.2.2) hip
  have hl2 : (atrCells l).length = n * 2 := by rw [atr_len, hln]
  have key : ∃ ao c w', (Builtin.append_ #[31, 31] 31 #[.slice none 0 0, .slice aa n ac]).run Tryz.prog w = .ok (.slice ao n c) w' ∧ OwnZ (fun k => k < w.heap.size) w' 140 2 ao n c (atrCells l) ∧ Kept (fun k => k < w.heap.size) w w' := by
    by_cases h0 : n = 0
    · subst h0
      have hl0 : l = [] := List.eq_nil_of_length_eq_zero hln
      subst hl0
      have hs : Src Tryz.prog i.size 31 (.slice aa 0 ac) 0 [] w := by
        cases aa with
        | none => exact Src.ofNil w Tryz.underlying31 _
        | some a => exact Src.ofSlice w Tryz.underlying31 a 0 ac [] (by simp) (fun j u hj => by simp at hj) (fun u hu => by cases hu)
      exact ⟨none, 0, w, run_append_nothing w 31 31 31 140 i Tryz.underlying31 hi none 0 0 (Nat.le_refl _) _ hs, OwnZ.nil _ _ _ _, Kept.refl _ _⟩
    · obtain ⟨g, o, rfl, hg, hc⟩ := ha.cells (by omega)
      have hs : Src Tryz.prog 2 31 (.slice (some ⟨g, o, none⟩) n ac) n (atrCells l) w := by
        refine Src.ofSlice w Tryz.underlying31 _ n ac (atrCells l) (by rw [hl2]) (fun j u hj => ?_) (atr_one l)
        rw [Addr.add_lit]
        exact hc j u hj
      obtain ⟨ao, c, w', hr, ho, hk⟩ := run_appM (P := Tryz.prog) (K := fun k => k < w.heap.size) w 31 31 31 140 i _ Tryz.underlying31 hi hz 2 hsz rfl (by omega) (OwnZ.nil _ _ _ _) _ n (by omega) hn _ hs (fun _ h => h) (by omega)
      rw [Nat.zero_add] at hr ho
      exact ⟨ao, c, w', hr, ho, hk⟩
  obtain ⟨ao, c, w', hr, ho, hk⟩ := key
  have HO : Hid (OwnZ (fun k => k < w.heap.size) w' 140 2 ao n c (atrCells l)) := ho
  have HK : Hid (Kept (fun k => k < w.heap.size) w w') := hk
  clear hip hz hsz hby hl2 ho hk ha hi hln
  go_enter Tryz.func77, Tryz.ntmps77
  go_wp2_with (at_builtin; refine wpList_appR (w' := w') rfl (.const (.slice none 0 0)) (.tmp 3) 31 31 rfl _ _ (.slice ao n c) rfl rfl hr ?_)
  go_ret
  exact ⟨ao, c, rfl, HO.out, HK.out⟩

/-- What is looked at of a node that is to be made. -/
structure Mk where
  kind : Nat
  name : List UInt8
  data : List UInt8
  attrs : List Atr
def Mk.it (x : Mk) : Iz := ⟨0, x.kind, x.name, x.attrs, if x.kind = 2 ∧ x.data = [] then [45] else x.data⟩
def soundN (x : Mk) : Bool := if x.kind = 4 then (x.name == [] && x.data == []) && decide (x.attrs.length = 0) else soundL [x.it]
/-- The rest of a node as a value: nobody looks at it. -/
structure Rest where
  up : Int
  ka : Option Addr
  kn : Nat
  kc : Nat
  shadow : Int
  host : Int
  content : Int
  fl : Fg
abbrev nodeV (kd : Nat) (S D : ByteArray) (aa : Option Addr) (an ac : Nat) (r : Rest) : Value := .agg #[.int .u8 (kd : Int), .string S, .string D, .slice aa an ac, .int .i64 r.up, .slice r.ka r.kn r.kc, .int .i64 r.shadow, .int .i64 r.host, .int .i64 r.content, .bool r.fl.a, .bool r.fl.b, .bool r.fl.c, .bool r.fl.d, .bool r.fl.e]
theorem iz1 (w : World) (N : Nat) (hN : w.heap.size = N) (kd : Nat) (kz : Int) (hkz : kz = (kd : Int)) (S D : ByteArray) (l : List Atr) (aa : Option Addr) (n ac : Nat) (hln : l.length = n) (ha : AtsAt (fun k => k < w.heap.size) w aa l) (hn : n ≤ 100000000) (hsz : ∀ x ∈ l, x.name.length ≤ 1000000000 ∧ x.value.length ≤ 1000000000) :
    Calls Tryz.prog 156 #[.slice (some ⟨N, 0, none⟩) 1 1] (w.alloc (.cells #[.int .i64 0, .int .u8 kz, .string S, .string D, .slice aa n ac] 165)) fun e w' => e = .returned (.bool (soundL [⟨0, kd, S.toList, l, D.toList⟩])) ∧ Kept (fun k => k < w.heap.size) w w' := by
  subst hkz
  subst hN
  obtain ⟨V, hV⟩ : ∃ V, w.alloc (.cells #[.int .i64 0, .int .u8 (kd : Int), .string S, .string D, .slice aa n ac] 165) = V := ⟨_, rfl⟩
  have kV : Kept (fun k => k < w.heap.size) w V := by rw [← hV]; exact (Kept.refl _ w).alloc (fun _ h => h) _
  have sV : w.heap.size < V.heap.size := by rw [← hV]; simp
  rw [hV]
  have hS : (⟨S.toList.toArray⟩ : ByteArray) = S := by
    apply ByteArray.ext
    rw [ByteArray.toList_eq]
  have hD : (⟨D.toList.toArray⟩ : ByteArray) = D := by
    apply ByteArray.ext
    rw [ByteArray.toList_eq]
  have hZ : IzIn V (some ⟨w.heap.size, 0, none⟩) [⟨0, kd, S.toList, l, D.toList⟩] := by
    intro j hj
    have : j = 0 := by simp at hj; omega
    subst this
    refine ⟨w.heap.size, aa, ac, rfl, sV, ha.kept kV fun k h => Nat.lt_of_lt_of_le h kV.size, fun i u hi => ?_⟩
    rw [← hV, Nat.zero_mul, Nat.zero_add, cell_block (heap_alloc_new w _), ← Array.getElem?_toList]
    simp only [izCells, List.getElem_cons_zero, sv, hS, hD, hln] at hi
    exact hi
  have r := sound_any [⟨0, kd, S.toList, l, D.toList⟩] (some ⟨w.heap.size, 0, none⟩) 1 1 rfl (by decide) (by intro y hy; simp at hy; subst hy; exact ⟨by rw [hln]; exact hn, hsz⟩) V hZ
  exact r.mono fun e w' h => ⟨h.1, kV.trans (h.2.mono fun k hk => Nat.lt_of_lt_of_le hk kV.size)⟩

set_option maxRecDepth 20000 in
set_option maxHeartbeats 1000000 in
theorem sound_dom (kd : Nat) (S D : ByteArray) (l : List Atr) (aa : Option Addr) (n ac : Nat) (r : Rest) (hln : l.length = n) (w : World) (ha : AtsAt (fun k => k < w.heap.size) w aa l) (hn : n ≤ 100000000) (hsz : ∀ x ∈ l, x.name.length ≤ 1000000000 ∧ x.value.length ≤ 1000000000) :
    Calls Tryz.prog 135 #[nodeV kd S D aa n ac r] w fun e w' => e = .returned (.bool (soundN ⟨kd, S.toList, D.toList, l⟩)) ∧ Kept (fun k => k < w.heap.size) w w' := by
  have kb : ∀ o : Obj, Kept (fun k => k < w.heap.size) w (w.alloc o) := fun o => (Kept.refl _ w).alloc (fun _ h => h) _
  have r1 := fun (o : Obj) (D' : ByteArray) (kz : Int) (hkz : kz = (kd : Int)) => iz1 (w.alloc o) (w.heap.size + 1) (by simp) kd kz hkz S D' l aa n ac hln (ha.kept (kb o) fun k h => Nat.lt_of_lt_of_le h (kb o).size) hn hsz
  unfold soundN Mk.it
  dsimp only
  by_cases c4 : kd = 4
  · subst c4
    rw [if_pos rfl, hln]
    obtain ⟨s0, hs0⟩ : ∃ v, (S.toList == []) = v := ⟨_, rfl⟩
    obtain ⟨d0, hd0⟩ : ∃ v, (D.toList == []) = v := ⟨_, rfl⟩
    rw [hs0, hd0]
    clear r1 ha hsz
    by_cases h0 : n = 0
    · subst h0
      rw [decide_eq_true rfl]
      cases s0 <;> cases d0
      all_goals
        go_enter Tryz.func135, Tryz.ntmps135
        go_wp2
        go_ret
        exact ⟨rfl, kb _⟩
    · have hz : ((n : Int) == 0) = false := by
        have : (n : Int) ≠ 0 := by omega
        simpa using this
      rw [decide_eq_false h0]
      cases s0 <;> cases d0
      all_goals
        go_enter Tryz.func135, Tryz.ntmps135
        go_wp2
        go_ret
        exact ⟨rfl, kb _⟩
  · have e4 : ((kd : Int) == 4) = false := by
      have : (kd : Int) ≠ 4 := by omega
      simpa using this
    rw [if_neg c4]
    by_cases c2 : kd = 2
    · subst c2
      by_cases hd : D.toList = []
      · have hd0 : (D.toList == []) = true := by rw [hd]; rfl
        rw [if_pos ⟨rfl, hd⟩]
        have r2 := r1 (.cells #[.int .u8 2, .string S, .string ⟨#[45]⟩, .slice aa n ac, .int .i64 r.up, .slice r.ka r.kn r.kc, .int .i64 r.shadow, .int .i64 r.host, .int .i64 r.content, .bool r.fl.a, .bool r.fl.b, .bool r.fl.c, .bool r.fl.d, .bool r.fl.e] 36) ⟨#[45]⟩ 2 rfl
        obtain ⟨q, hq⟩ : ∃ q, soundL [⟨0, 2, S.toList, l, [45]⟩] = q := ⟨_, rfl⟩
        have e45 : ByteArray.toList ⟨#[45]⟩ = [45] := by rw [ByteArray.toList_eq]
        have hq' : soundL [⟨0, 2, S.toList, l, ByteArray.toList ⟨#[45]⟩⟩] = q := by rw [e45]; exact hq
        rw [hq'] at r2
        rw [hq]
        clear r1 ha hsz hd c4 hq hq' e45
        go_enter Tryz.func135, Tryz.ntmps135
        go_wp2_with fail
        refine r2.mono ?_
        rintro e w1 ⟨rfl, k1⟩
        clear r2
        go_wp2
        go_ret
        exact ⟨rfl, (kb _).trans (k1.mono fun k hk => by simp; omega)⟩
      · have hd0 : (D.toList == []) = false := by simpa using hd
        rw [if_neg (fun h => hd h.2)]
        have r2 := r1 (.cells #[.int .u8 2, .string S, .string D, .slice aa n ac, .int .i64 r.up, .slice r.ka r.kn r.kc, .int .i64 r.shadow, .int .i64 r.host, .int .i64 r.content, .bool r.fl.a, .bool r.fl.b, .bool r.fl.c, .bool r.fl.d, .bool r.fl.e] 36) D 2 rfl
        obtain ⟨q, hq⟩ : ∃ q, soundL [⟨0, 2, S.toList, l, D.toList⟩] = q := ⟨_, rfl⟩
        rw [hq] at r2 ⊢
        clear r1 ha hsz hd c4 hq
        go_enter Tryz.func135, Tryz.ntmps135
        go_wp2_with fail
        refine r2.mono ?_
        rintro e w1 ⟨rfl, k1⟩
        clear r2
        go_wp2
        go_ret
        exact ⟨rfl, (kb _).trans (k1.mono fun k hk => by simp; omega)⟩
    · have e2 : ((kd : Int) == 2) = false := by
        have : (kd : Int) ≠ 2 := by omega
        simpa using this
      rw [if_neg (fun h => c2 h.1)]
      have r2 := r1 (.cells #[.int .u8 (kd : Int), .string S, .string D, .slice aa n ac, .int .i64 r.up, .slice r.ka r.kn r.kc, .int .i64 r.shadow, .int .i64 r.host, .int .i64 r.content, .bool r.fl.a, .bool r.fl.b, .bool r.fl.c, .bool r.fl.d, .bool r.fl.e] 36) D (kd : Int) rfl
      obtain ⟨q, hq⟩ : ∃ q, soundL [⟨0, kd, S.toList, l, D.toList⟩] = q := ⟨_, rfl⟩
      rw [hq] at r2 ⊢
      clear r1 ha hsz c4 c2 hq
      go_enter Tryz.func135, Tryz.ntmps135
      go_wp2_with fail
      refine r2.mono ?_
      rintro e w1 ⟨rfl, k1⟩
      clear r2
      go_wp2
      go_ret
      exact ⟨rfl, (kb _).trans (k1.mono fun k hk => by simp; omega)⟩
end Go.Proofs.YtbhfnbplbkncmaaGreat
