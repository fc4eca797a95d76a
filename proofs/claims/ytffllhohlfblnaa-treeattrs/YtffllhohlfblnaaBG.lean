/-
  Which attributes may be written: isAttributeName, and the closure that writables makes (a map of the names that stood ahead).
-/
import Derived.Test.YtffllhohlfblnaaBX
import Derived.Deep.LoopGhost
import Derived.Deep.Cut
import Derived.Laws.StandIn
import Derived.Laws.Externs
import Derived.Laws.Runes
import Derived.Laws.EntriesVeiled
import Derived.Maps.OwnOps
import Derived.Maps.Views
namespace Go.Proofs.Ytffllhohlfblnaa
open Go.RowKit Go.Maps Go.WideMaps

def barS : ByteArray := ⟨#[0, 9, 10, 12, 32, 47, 62, 61, 65, 66, 67, 68, 69, 70, 71, 72, 73, 74, 75, 76, 77, 78, 79, 80, 81, 82, 83, 84, 85, 86, 87, 88, 89, 90]⟩
set_option maxRecDepth 20000 in
theorem bar_nat : ∀ n : Nat, n < 256 → (barS.data.toList.any (· == UInt8.ofNat n)) = barB (UInt8.ofNat n) := by decide
theorem bar_is (c : UInt8) : (barS.data.toList.any (· == c)) = barB c := by
  have h := bar_nat c.toNat c.toNat_lt
  rw [UInt8.ofNat_toNat] at h
  exact h
theorem run_ibs (s : ByteArray) (c : Int) (w : World) : (callFunc 105 #[.string s, .int .u8 c]).run Try.prog w = .ok (.value (.int .i64 (firstIdx s c.toNat.toUInt8))) w := by
  rw [run_callFunc_indexByte Try.func105 (by kernel_rfl) (by kernel_rfl) (by kernel_rfl) (by kernel_rfl), run_indexByte_string]
  rfl
theorem ib_any (s : ByteArray) (c : Int) (w : World) :
    Calls Try.prog 104 #[.string s, .int .u8 c] w fun e w' => e = .returned (.int .i64 (firstIdx s c.toNat.toUInt8)) ∧ w' = w := by
  have h1 := fun X => run_ibs s c X
  go_enter Try.func104, Try.ntmps104
  go_wp2_with fail
  go_ret
  exact ⟨rfl, rfl⟩
theorem indexByte_any (s : ByteArray) (c : Int) (w : World) :
    Calls Try.prog 101 #[.string s, .int .u8 c] w fun e w' => e = .returned (.int .i64 (firstIdx s c.toNat.toUInt8)) ∧ w' = w := by
  have h1 := ib_any s c w
  go_enter Try.func101, Try.ntmps101
  go_wp2_with fail
  refine h1.mono ?_
  rintro e w1 ⟨rfl, rfl⟩
  go_wp2
  go_ret
  exact ⟨rfl, rfl⟩

/-- A name that an attribute may have. -/
def nameP (l : List UInt8) : Bool := decide (1 ≤ l.length) && decide (l.length ≤ 60) && (l.all fun c => !barB c)

set_option maxRecDepth 20000 in
set_option maxHeartbeats 1000000 in
theorem isAttributeName_any (s : ByteArray) (w : World) :
    Calls Try.prog 89 #[.string s] w fun e w' => e = .returned (.bool (nameP s.toList)) ∧ w' = w := by
  have hsz : s.toList.length = s.size := by rw [ByteArray.toList_eq]; rfl
  by_cases h0 : (s.toList == []) = true
  · have e : nameP s.toList = false := by
      have : s.toList = [] := by simpa using h0
      rw [this]; rfl
    rw [e]
    clear hsz
    go_enter Try.func89, Try.ntmps89
    go_wp2
    go_ret
    exact ⟨rfl, rfl⟩
  · have h0' : (s.toList == []) = false := by simpa using h0
    have hpos : 1 ≤ s.size := by
      rcases Nat.eq_zero_or_pos s.size with h | h
      · rw [h] at hsz
        have := List.eq_nil_of_length_eq_zero hsz
        rw [this] at h0
        exact absurd rfl h0
      · exact h
    by_cases h1 : s.size ≤ 60
    · obtain ⟨n, hn⟩ : ∃ n, s.size = n := ⟨_, rfl⟩
      have e : nameP s.toList = (s.toList.all fun c => !barB c) := by
        unfold nameP
        rw [hsz, decide_eq_true hpos, decide_eq_true h1]
        rfl
      obtain ⟨A, hA⟩ : ∃ A, (s.toList.all fun c => !barB c) = A := ⟨_, rfl⟩
      rw [e, hA]
      have HA0 : Hid (((s.toList.drop 0).all fun c => !barB c) = A) := hA
      have HL : Hid (s.toList.length = s.size) := hsz
      clear e hA hsz h0 hn
      go_enter Try.func89, Try.ntmps89
      go_upto_region 4 with fail
      go_loopg [13] s.size (fun g v wr => ∃ k : Nat, g = s.size - k ∧ k ≤ s.size ∧ v = .int .i64 k ∧ ((s.toList.drop k).all fun c => !barB c) = A ∧ wr = w)
      case atStart => exact ⟨0, rfl, Nat.zero_le _, rfl, HA0.out, rfl⟩
      case round =>
        clear HA0
        obtain ⟨k, hgk, hk, rfl, hAk, rfl⟩ := hrel
        have HAk : Hid (((s.toList.drop k).all fun c => !barB c) = A) := hAk
        clear hAk
        by_cases hlt : k < s.size
        · have hl : k < s.toList.length := by rw [HL.out]; exact hlt
          have hc : s.toList[k] = s[k] := by simp only [ByteArray.toList_eq]; rfl
          have hAk := HAk.out
          rw [List.drop_eq_getElem_cons hl, List.all_cons, hc] at hAk
          obtain ⟨q, hq⟩ : ∃ q, barB s[k] = q := ⟨_, rfl⟩
          obtain ⟨z, hz⟩ : ∃ z, firstIdx barS s[k] = z := ⟨_, rfl⟩
          have hzq : decide (z ≥ 0) = q := by
            rw [← hz, ← hq, ← bar_is]
            exact firstIdx_nonneg barS s[k]
          rw [hq] at hAk
          have HA1 : Hid ((!q && ((s.toList.drop (k + 1)).all fun c => !barB c)) = A) := hAk
          have r := indexByte_any barS (s[k].toNat : Int) wr
          have ez : firstIdx barS ((s[k].toNat : Int)).toNat.toUInt8 = z := by
            rw [← hz]
            congr 1
            simp
          rw [ez] at r
          have HZ : Hid (decide (z ≥ 0) = q) := hzq
          clear hAk hz hq hc hzq ez HAk hl
          go_wp2_with fail
          refine r.mono ?_
          rintro e w1 ⟨rfl, rfl⟩
          have hzq := HZ.out
          clear r HZ
          cases q with
          | true =>
            have hA : A = false := HA1.out.symm
            subst hA
            clear HA1
            go_wp2
            go_ret
            exact ⟨rfl, rfl⟩
          | false =>
            go_wp2
            go_roundg (s.size - (k + 1))
            case rel => exact ⟨k + 1, rfl, by omega, by go_num, HA1.out, rfl⟩
            case measure => omega
        · have hkk : k = s.size := by omega
          have hA : A = true := by rw [← HAk.out, List.drop_eq_nil_of_le (by rw [HL.out]; omega)]; rfl
          subst hA
          clear HAk HL h0'
          go_wp2
          go_ret
          exact ⟨rfl, rfl⟩
    · have e : nameP s.toList = false := by
        unfold nameP
        rw [hsz, decide_eq_false h1]
        simp
      rw [e]
      clear e hsz h0
      go_enter Try.func89, Try.ntmps89
      go_wp2
      go_ret
      exact ⟨rfl, rfl⟩

theorem zero3 (w : World) : (zeroValue 3).run Try.prog w = .ok (.int .i64 0) w := by kernel_rfl
theorem law9 : Keyed Try.prog 9 := string_keyed Try.underlying9
/-- A map of at most n entries that counts the names of L. -/
def CntIs (w : World) (mb n : Nat) (L : List (List UInt8)) : Prop :=
  ∃ D : DataW Unit, w.ownsMap Try.prog 9 (plainElem Try.prog 3) mb n D ∧ IsMap D ∧ ∀ s, D.atKey (.string s) (.lit (.int .i64 0)) = .lit (.int .i64 (L.count s : Nat))
theorem CntIs.of {w w' : World} {mb n : Nat} {L : List (List UInt8)} (h : CntIs w mb n L) (hb : w'.heap[mb]? = w.heap[mb]?) : CntIs w' mb n L := by
  obtain ⟨D, ⟨es, clock, h1, h2⟩, h3⟩ := h
  exact ⟨D, ⟨es, clock, hb.trans h1, h2⟩, h3⟩
theorem CntIs.lt {w : World} {mb n : Nat} {L : List (List UInt8)} (h : CntIs w mb n L) : mb < w.heap.size := by
  obtain ⟨D, h1, -⟩ := h
  exact h1.lt
theorem grown_kept {w w' : World} {mb : Nat} (h : w.grownBy w' (some mb)) : Kept (fun k => k < w.heap.size ∧ k ≠ mb) w w' :=
  ⟨h.os, h.tape, h.output, h.size, fun k hk => h.block k hk.1 (fun e => hk.2 (Option.some.inj e))⟩
/-- One more of a name. -/
theorem CntIs.bump {w : World} {mb n : Nat} {L : List (List UInt8)} (h : CntIs w mb n L) (hn : n ≤ 1000000) (hL : L.length ≤ 1000000) (s : ByteArray) (hs : s.size ≤ maxLen) :
    (Instr.lookup 107 (.map (some mb)) (.string s) false).run Try.prog w = .ok (.int .i64 (L.count s.toList : Nat)) w ∧
    ∃ w', (Instr.mapUpdate 107 (.map (some mb)) (.string s) (.int .i64 ((L.count s.toList : Nat) + 1))).run Try.prog w = .ok () w' ∧ CntIs w' mb (n + 1) (s.toList :: L) ∧ Kept (fun k => k < w.heap.size ∧ k ≠ mb) w w' := by
  obtain ⟨D, h1, h2, h3⟩ := h
  have hkey : keyOf Try.prog 9 (.string s) = some (.string s.toList) := by rw [ByteArray.toList_eq]; exact keyOf_string_mk Try.underlying9 hs
  obtain ⟨c, hrun, hat, hwc⟩ := h1.lookup_int law9 Try.underlying107 Try.underlying3 (zero3 _) hkey
  have hc : c = (L.count s.toList : Nat) := by
    rw [h3] at hat
    simpa using hat.symm
  subst hc
  refine ⟨hrun, ?_⟩
  have hcl : L.count s.toList ≤ L.length := List.count_le_length
  obtain ⟨w', hr, h4, h5⟩ := h1.update law9 Try.underlying107 (by unfold maxLen; omega) hkey (plainElem_int (q := .i64) (a := (L.count s.toList : Nat) + 1) Try.underlying3 (WalkArith.wf_i64 (by omega)))
  · refine ⟨w', hr, ⟨_, h4, h2.put _ _, fun u => ?_⟩, grown_kept h5⟩
    by_cases hu : s.toList = u
    · subst hu
      rw [atKey_put_same h2 (show WideAt.IsKeyLit (.string s.toList) from trivial), List.count_cons_self]
      rfl
    · rw [atKey_put_other (by intro e; injection e with e; exact hu e.symm), h3, List.count_cons_of_ne hu]

/-- The box b holds the map mb, which counts the names of L. -/
def WrX (w : World) (b mb n : Nat) (L : List (List UInt8)) : Prop :=
  b < w.heap.size ∧ b ≠ mb ∧ w.cell? ⟨b, 0, none⟩ = some (.map (some mb)) ∧ CntIs w mb n L
theorem WrX.of {w w' : World} {b mb n : Nat} {L : List (List UInt8)} (h : WrX w b mb n L) (hs : w.heap.size ≤ w'.heap.size) (h1 : w'.heap[b]? = w.heap[b]?) (h2 : w'.heap[mb]? = w.heap[mb]?) : WrX w' b mb n L :=
  ⟨Nat.lt_of_lt_of_le h.1 hs, h.2.1, by rw [World.cell?_of_block (w := w) (a := ⟨b, 0, none⟩) h1]; exact h.2.2.1, h.2.2.2.of h2⟩
theorem WrX.kept {K : Nat → Prop} {w w' : World} {b mb n : Nat} {L : List (List UInt8)} (h : WrX w b mb n L) (hk : Kept K w w') (h1 : K b) (h2 : K mb) : WrX w' b mb n L := h.of hk.size (hk.block b h1) (hk.block mb h2)
theorem writP_eq (n v : List UInt8) : writP ⟨n, v⟩ = (nameP n && decide (v.length ≤ 2000)) := rfl

set_option maxRecDepth 20000 in
set_option maxHeartbeats 1000000 in
theorem writ1_any (s t : ByteArray) (b mb n : Nat) (L : List (List UInt8)) (w : World) (h : WrX w b mb n L) (hn : n ≤ 900000) (hL : L.length ≤ 900000) (hs : s.size ≤ 1000000000) (ht : t.size ≤ 1000000000) :
    Calls Try.prog 88 #[.agg #[.string s, .string t], .pointer (some ⟨b, 0, none⟩)] w fun e w' => e = .returned (.bool (writP ⟨s.toList, t.toList⟩ && !L.contains s.toList)) ∧ WrX w' b mb (n + 1) (s.toList :: L) ∧ Kept (fun k => k < w.heap.size ∧ k ≠ mb) w w' := by
  obtain ⟨h1, h2, h3, h4⟩ := h
  have hmb := h4.lt
  obtain ⟨W, hW⟩ : ∃ W, w.alloc (.cells #[.string s, .string t] 41) = W := ⟨_, rfl⟩
  have kW : Kept (fun k => k < w.heap.size) w W := by rw [← hW]; exact (Kept.refl _ w).alloc (fun _ h => h) _
  have sW : w.heap.size < W.heap.size := by rw [← hW]; simp
  have n0 : W.cell? ⟨w.heap.size, 0, none⟩ = some (.string s) := by rw [← hW, cell_block (heap_alloc_new w _)]; rfl
  have n1 : W.cell? ⟨w.heap.size, 1, none⟩ = some (.string t) := by rw [← hW, cell_block (heap_alloc_new w _)]; rfl
  have b0 : W.cell? ⟨b, 0, none⟩ = some (.map (some mb)) := by rw [kW.cell (p := ⟨b, 0, none⟩) h1]; exact h3
  have c4 : CntIs W mb n L := h4.of (kW.block mb hmb)
  obtain ⟨hlk, w', hup, c5, k5⟩ := c4.bump (by omega) (by omega) s (by unfold maxLen; omega)
  have hlk2 := (c5.bump (by omega) (by simp; omega) s (by unfold maxLen; omega)).1
  rw [List.count_cons_self] at hlk2
  have hcl : L.count s.toList ≤ L.length := List.count_le_length
  have hcc : L.contains s.toList = decide (0 < L.count s.toList) := by
    rw [Bool.eq_iff_iff]
    simp [List.count_pos_iff]
  obtain ⟨c, hce⟩ : ∃ c, L.count s.toList = c := ⟨_, rfl⟩
  rw [hce] at hlk hup hlk2 hcl hcc
  rw [writP_eq, hcc]
  obtain ⟨N, hN⟩ : ∃ N, w.heap.size = N := ⟨_, rfl⟩
  have m0 : w'.cell? ⟨N, 0, none⟩ = some (.string s) := by rw [← hN, k5.cell (p := ⟨w.heap.size, 0, none⟩) ⟨sW, Nat.ne_of_gt hmb⟩]; exact n0
  have m1 : w'.cell? ⟨N, 1, none⟩ = some (.string t) := by rw [← hN, k5.cell (p := ⟨w.heap.size, 1, none⟩) ⟨sW, Nat.ne_of_gt hmb⟩]; exact n1
  have b5 : w'.cell? ⟨b, 0, none⟩ = some (.map (some mb)) := by rw [k5.cell (p := ⟨b, 0, none⟩) ⟨Nat.lt_trans h1 sW, h2⟩]; exact b0
  have HX : Hid (WrX w' b mb (n + 1) (s.toList :: L)) := ⟨Nat.lt_of_lt_of_le (Nat.lt_trans h1 sW) k5.size, h2, b5, c5⟩
  have HK : Hid (Kept (fun k => k < w.heap.size ∧ k ≠ mb) w w') := (kW.mono fun k h => h.1).trans (k5.mono fun k h => ⟨Nat.lt_trans h.1 sW, h.2⟩)
  have hnm := isAttributeName_any s w'
  have HW : Hid (w.alloc (.cells #[.string s, .string t] 41) = W) := hW
  have HN : Hid (w.heap.size = N) := hN
  rw [hN] at n0 n1
  have hcl' : c ≤ 900000 := by omega
  clear hW kW sW c4 c5 k5 h4 hcc hce hcl hL hn h3 h1 h2 hmb hN
  obtain ⟨q, hq⟩ : ∃ q, nameP s.toList = q := ⟨_, rfl⟩
  rw [hq] at hnm ⊢
  clear hq
  have htl : t.toList.length = t.size := by rw [ByteArray.toList_eq]; rfl
  rw [htl]
  clear htl
  by_cases hc0 : c = 0
  · subst hc0
    have hup1 : (Instr.mapUpdate 107 (.map (some mb)) (.string s) (.int .i64 1)).run Try.prog W = .ok () w' := hup
    have hlk3 : (Instr.lookup 107 (.map (some mb)) (.string s) false).run Try.prog w' = .ok (.int .i64 1) w' := hlk2
    have hlk0 : (Instr.lookup 107 (.map (some mb)) (.string s) false).run Try.prog W = .ok (.int .i64 0) W := hlk
    clear hup hlk2 hlk
    cases q with
    | true =>
      by_cases hv : t.size ≤ 2000
      · rw [decide_eq_true hv]
        have hv' : (t.size : Int) ≤ 2000 := by omega
        go_enter Try.func88, Try.ntmps88
        go_upto_region 1 with fail
        rw [HW.out, HN.out]
        clear HW HN
        go_wp2_with fail
        refine hnm.mono ?_
        rintro e w2 ⟨rfl, rfl⟩
        clear hnm
        go_wp2
        go_ret
        exact ⟨rfl, HX.out, HK.out⟩
      · rw [decide_eq_false hv]
        have hv' : decide ((t.size : Int) ≤ 2000) = false := decide_eq_false (by omega)
        go_enter Try.func88, Try.ntmps88
        go_upto_region 1 with fail
        rw [HW.out, HN.out]
        clear HW HN
        go_wp2_with fail
        refine hnm.mono ?_
        rintro e w2 ⟨rfl, rfl⟩
        clear hnm
        go_wp2
        go_ret
        exact ⟨rfl, HX.out, HK.out⟩
    | false =>
      go_enter Try.func88, Try.ntmps88
      go_upto_region 1 with fail
      rw [HW.out, HN.out]
      clear HW HN
      go_wp2_with fail
      refine hnm.mono ?_
      rintro e w2 ⟨rfl, rfl⟩
      clear hnm
      go_wp2
      go_ret
      exact ⟨rfl, HX.out, HK.out⟩
  · have e1 : ((c : Int) + 1 == 1) = false := by
      have : (c : Int) + 1 ≠ 1 := by omega
      simpa using this
    have hlk3 : (Instr.lookup 107 (.map (some mb)) (.string s) false).run Try.prog w' = .ok (.int .i64 ((c : Int) + 1)) w' := hlk2
    have er : (q && decide (t.size ≤ 2000) && !decide (0 < c)) = false := by
      rw [decide_eq_true (show 0 < c by omega)]
      simp
    rw [er]
    clear er hlk2 hnm
    go_enter Try.func88, Try.ntmps88
    go_upto_region 1 with fail
    rw [HW.out, HN.out]
    clear HW HN
    go_wp2
    go_ret
    exact ⟨rfl, HX.out, HK.out⟩

set_option maxRecDepth 20000 in
set_option maxHeartbeats 1000000 in
theorem writables_any (w : World) :
    Calls Try.prog 71 #[] w fun e w' => ∃ b mb, e = .returned (.func (.func 88) #[] #[.pointer (some ⟨b, 0, none⟩)]) ∧ WrX w' b mb 0 [] ∧ Kept (fun k => k < w.heap.size) w w' ∧ w.heap.size ≤ b ∧ w.heap.size ≤ mb := by
  have hmm := @run_makeMap Try.prog
  go_enter Try.func71, Try.ntmps71
  go_wp2
  go_ret
  obtain ⟨W, hW⟩ : ∃ W, w.alloc (.map #[] 0) = W := ⟨_, rfl⟩
  have kW : Kept (fun k => k < w.heap.size) w W := by rw [← hW]; exact (Kept.refl _ w).alloc (fun _ h => h) _
  have sW : W.heap.size = w.heap.size + 1 := by rw [← hW]; simp
  have oW : W.ownsMap Try.prog 9 (plainElem (H := Unit) Try.prog 3) w.heap.size 0 (.map []) := by rw [← hW]; exact World.ownsMap_made _ _ _ _
  rw [hW]
  have hc : CntIs W w.heap.size 0 [] := ⟨_, oW, isMap_empty, fun s => rfl⟩
  have kX : Kept (fun k => k < W.heap.size) W (W.alloc (.cells #[.map (some w.heap.size)] 107)) := (Kept.refl _ W).alloc (fun _ h => h) _
  refine ⟨w.heap.size + 1, w.heap.size, rfl, ⟨by simp; omega, by omega, ?_, hc.of (kX.block _ (by omega))⟩, kW.trans (kX.mono fun k h => by omega), by omega, Nat.le_refl _⟩
  rw [← sW, cell_block (heap_alloc_new W _)]
  rfl
end Go.Proofs.Ytffllhohlfblnaa
