/-
  The document's own element, may, Sound.
-/
import Derived.Test.YthhoicmfmfeehaaGreatZ16
import Derived.Deep.Cut
import Derived.Deep.RegionWith
import Derived.Deep.RegionHeld3
import Derived.Deep.RegionLaw
import Derived.Lib.QuietBelow
namespace Go.Proofs.YthhoicmfmfeehaaGreat
open Go.RowKit Go.Sort
set_option linter.unusedVariables false

theorem hasN_mem (l : List Atr) (n : List UInt8) : hasN l n = (l.map fun x => x.name).contains n := by
  induction l with
  | nil => rfl
  | cons a r ih =>
    rw [hasN_cons, ih, List.map_cons, List.contains_cons]
    congr 1
    exact Bool.beq_comm
theorem ahead_has (l : List Atr) (k : Nat) (n : List UInt8) : hasN (l.take k) n = (aheadL l k).contains n := by
  rw [hasN_mem]
  unfold aheadL
  rw [Bool.eq_iff_iff]
  simp
theorem AtsAt.take {K : Nat → Prop} {w : World} {aa : Option Addr} {l : List Atr} (h : AtsAt K w aa l) (k : Nat) : AtsAt K w aa (l.take k) := fun j hj => by
  have hj' : j < l.length := by rw [List.length_take] at hj; omega
  obtain ⟨g, o, h1, h2, h3, h4⟩ := h j hj'
  rw [List.getElem_take]
  exact ⟨g, o, h1, h2, h3, h4⟩
abbrev izV (d : Int) (kd : Nat) (S D : ByteArray) (aa : Option Addr) (n ac : Nat) : Array Value := #[.int .i64 d, .int .u8 (kd : Int), .string S, .string D, .slice aa n ac]

set_option maxRecDepth 20000 in
set_option maxHeartbeats 2000000 in
theorem relement_any (d : Int) (kd : Nat) (S D : ByteArray) (l : List Atr) (aa : Option Addr) (n ac : Nat) (hln : l.length = n) (hn : n ≤ 1000000) (hca : n ≤ ac) (hsz : ∀ x ∈ l, x.name.length < 1000000) (hS : S.size < 1000000) (w : World) (ha : AtsAt (fun k => k < w.heap.size) w aa l) :
    Calls Tryz.prog 124 #[.agg (izV d kd S D aa n ac)] w fun e w' => e = .returned (.bool ((validP S.toList && D.toList == []) && soundA l)) ∧ Kept (fun k => k < w.heap.size) w w' := by
  obtain ⟨W, hW⟩ : ∃ W, w.alloc (.cells (izV d kd S D aa n ac) 117) = W := ⟨_, rfl⟩
  obtain ⟨N, hN⟩ : ∃ N, w.heap.size = N := ⟨_, rfl⟩
  have kW : Kept (fun k => k < w.heap.size) w W := by rw [← hW]; exact (Kept.refl _ w).alloc (fun _ h => h) _
  have hb : W.heap[N]? = some (.cells (izV d kd S D aa n ac) 117 (0, 0)) := by rw [← hW, ← hN]; exact heap_alloc_new w _
  have haW : AtsAt (fun k => k < W.heap.size) W aa l := ha.kept kW fun k h => Nat.lt_of_lt_of_le h kW.size
  have hNW : N < W.heap.size := lt_block hb
  have HK : Hid (Kept (fun k => k < w.heap.size) w W) := kW
  have HW : Hid (w.alloc (.cells (izV d kd S D aa n ac) 117) = W) := hW
  have HN : Hid (w.heap.size = N) := hN
  have HA : Hid (AtsAt (fun k => k < W.heap.size) W aa l) := haW
  have HB : Hid (W.cell? ⟨N, 2, none⟩ = some (.string S) ∧ W.cell? ⟨N, 3, none⟩ = some (.string D) ∧ W.cell? ⟨N, 4, none⟩ = some (.slice aa n ac)) := ⟨by rw [cell_block hb]; rfl, by rw [cell_block hb]; rfl, by rw [cell_block hb]; rfl⟩
  have HL : Hid (l.length = n) := hln
  have HSZ : Hid (∀ x ∈ l, x.name.length < 1000000) := hsz
  obtain ⟨A, hA⟩ : ∃ A, allW [] l = A := ⟨_, rfl⟩
  have HA0 : Hid (allW (aheadL l 0) (l.drop 0) = A) := hA
  have hR0 : soundA l = (decide (l.length ≤ 50) && allW [] l) := rfl
  rw [hln, hA] at hR0
  have HR : Hid (soundA l = (decide (n ≤ 50) && A)) := hR0
  rw [HR.out]
  obtain ⟨v, hv⟩ : ∃ v, validP S.toList = v := ⟨_, rfl⟩
  have HV : Hid (validP S.toList = v) := hv
  obtain ⟨e, he⟩ : ∃ e, (D.toList == []) = e := ⟨_, rfl⟩
  obtain ⟨b5, hb5⟩ : ∃ b, decide (n ≤ 50) = b := ⟨_, rfl⟩
  have HB5 : Hid (decide (n ≤ 50) = b5) := hb5
  rw [hv, he, hb5]
  clear hv hb5 hW hN kW hb haW ha hln hsz hA HR hR0
  go_enter Tryz.func124, Tryz.ntmps124
  go_upto_region 1 with fail
  rw [HW.out, HN.out]
  clear HW HN
  go_upto_region 2 with fail
  go_loopg [3] n (fun g v wr => ∃ (k : Nat), g = n - k ∧ k ≤ n ∧ v = .int .i64 k ∧ allW (aheadL l k) (l.drop k) = A ∧ Kept (fun k => k < W.heap.size) W wr)
  case atStart => exact ⟨0, rfl, Nat.zero_le _, rfl, HA0.out, Kept.refl _ _⟩
  case round =>
    clear HA0
    obtain ⟨k, hgk, hk, rfl, hAk, hKk⟩ := hrel
    have HKk : Hid (Kept (fun k => k < W.heap.size) W wr) := hKk
    have c4 : wr.cell? ⟨N, 4, none⟩ = some (.slice aa n ac) := (hKk.cell (p := ⟨N, 4, none⟩) hNW).trans HB.out.2.2
    by_cases hlt : k < n
    · have hl : k < l.length := by rw [HL.out]; exact hlt
      obtain ⟨g, o, hg, hgl, c0, c1⟩ := HA.out k hl
      subst hg
      have d0 : wr.cell? ⟨g, o + k * 2, none⟩ = some (.string ⟨l[k].name.toArray⟩) := (hKk.cell (p := ⟨g, o + k * 2, none⟩) hgl).trans c0
      have d1 : wr.cell? ⟨g, o + k * 2 + 1, none⟩ = some (.string ⟨l[k].value.toArray⟩) := (hKk.cell (p := ⟨g, o + k * 2 + 1, none⟩) hgl).trans c1
      have hnl := HSZ.out l[k] (List.getElem_mem hl)
      rw [List.drop_eq_getElem_cons hl] at hAk
      obtain ⟨x, hx⟩ : ∃ x, l[k] = x := ⟨_, rfl⟩
      rw [hx] at hAk d0 d1 hnl
      have hAk' : ((writP x && !(aheadL l k).contains x.name) && allW (x.name :: aheadL l k) (l.drop (k + 1))) = A := hAk
      have eah : aheadL l (k + 1) = x.name :: aheadL l k := by
        rw [aheadL_succ l k hl, hx]
      rw [← eah, ← ahead_has] at hAk'
      obtain ⟨q, hq⟩ : ∃ q, writP x = q := ⟨_, rfl⟩
      obtain ⟨h2, hh⟩ : ∃ h2, hasN (l.take k) x.name = h2 := ⟨_, rfl⟩
      rw [hq] at hAk'
      rw [hh] at hAk'
      have htl : (l.take k).length = k := by rw [List.length_take]; omega
      have hxn : (⟨x.name.toArray⟩ : ByteArray).size < 1000000 := by show x.name.toArray.size < _; simpa using hnl
      have hW1 : ∀ dd os, Calls Tryz.prog 88 #[.agg #[.string ⟨x.name.toArray⟩, .string ⟨x.value.toArray⟩]] (grow (redrawn wr dd) os) fun e w'' => e = .returned (.bool q) ∧ ∃ p : Regrown, w'' = grow (redrawn wr p.d) p.os := fun dd os => by
        have r := rwritable_any ⟨x.name.toArray⟩ ⟨x.value.toArray⟩ hxn (fun k => k < (grow (redrawn wr dd) os).heap.size) (grow (redrawn wr dd) os) (fun _ h => h)
        have e1 : writP ⟨(⟨x.name.toArray⟩ : ByteArray).data.toList, (⟨x.value.toArray⟩ : ByteArray).data.toList⟩ = writP x := rfl
        rw [e1, hq] at r
        exact Calls.regrown_of (r.mono fun e w' h => ⟨h.1, h.2.below⟩)
      have hH1 : ∀ dd os, Calls Tryz.prog 127 #[.slice (some ⟨g, o, none⟩) k ac, .string ⟨x.name.toArray⟩] (grow (redrawn wr dd) os) fun e w'' => e = .returned (.bool h2) ∧ ∃ p : Regrown, w'' = grow (redrawn wr p.d) p.os := fun dd os => by
        have r := rhas_any (l.take k) (some ⟨g, o, none⟩) ac ⟨x.name.toArray⟩ (by omega) (fun k => k < (grow (redrawn wr dd) os).heap.size) (fun _ => True) (grow (redrawn wr dd) os) (fun j hj => by
          obtain ⟨g', o', h1, h2', h3, h4⟩ := (HA.out.take k) j hj
          exact ⟨g', o', h1, trivial, cell_regrown ((HKk.out.cell (p := ⟨g', o' + j * 2, none⟩) h2').trans h3) dd os, cell_regrown ((HKk.out.cell (p := ⟨g', o' + j * 2 + 1, none⟩) h2').trans h4) dd os⟩)
        rw [htl] at r
        have e2 : hasN (l.take k) (⟨x.name.toArray⟩ : ByteArray).data.toList = h2 := hh
        rw [e2] at r
        exact Calls.regrown_of (r.mono fun e w' h => ⟨h.1, h.2.below⟩)
      have HRES : Hid (((q && !h2) && allW (aheadL l (k + 1)) (l.drop (k + 1))) = A) := hAk'
      have hNr : N < wr.heap.size := Nat.lt_of_lt_of_le hNW hKk.size
      have hgr : g < wr.heap.size := Nat.lt_of_lt_of_le hgl hKk.size
      have c4r := fun dd os => cell_regrown c4 dd os
      have d0r := fun dd os => cell_regrown d0 dd os
      have d1r := fun dd os => cell_regrown d1 dd os
      clear hAk hAk' eah hx hq hh htl hnl c0 c1 hKk hxn
      go_upto_region 4 with fail
      go_cut [30] from 11 to 29 (fun v wx => v = .bool (!q || h2) ∧ Kept (fun k => k < wr.heap.size) wr wx)
      case first =>
        cases q with
        | false =>
          refine wp_region_quiet_below (by kernel_rfl) (by kernel_rfl) ?_
          repeat (go_big_quiet_step (exact hW1 _ _))
          refine wpQuiet_nil ?_
          intro _ hw'
          obtain ⟨⟨dq, osq⟩, hw''⟩ := hw'
          subst hw''
          go_wp2_with fail
          go_meet
          exact ⟨rfl, Below.kept (below_regrown wr dq osq)⟩
        | true =>
          refine wp_region_quiet_below (by kernel_rfl) (by kernel_rfl) ?_
          repeat (go_big_quiet_step (first | exact hW1 _ _ | exact hH1 _ _))
          refine wpQuiet_nil ?_
          intro _ hw'
          obtain ⟨⟨dq, osq⟩, hw''⟩ := hw'
          subst hw''
          go_wp2_with fail
          go_meet
          exact ⟨rfl, Below.kept (below_regrown wr dq osq)⟩
      case rest =>
        obtain ⟨rfl, hKc⟩ := hcut
        have HKc : Hid (Kept (fun k => k < W.heap.size) W wc) := HKk.out.trans (hKc.mono fun k h => Nat.lt_of_lt_of_le h HKk.out.size)
        clear hW1 hH1 c4 c4r d0 d1 d0r d1r hKc
        obtain ⟨b, hbe⟩ : ∃ b, (!q || h2) = b := ⟨_, rfl⟩
        rw [hbe]
        cases b with
        | true =>
          have hA : A = false := by
            rw [← HRES.out]
            have : (q && !h2) = false := by cases q <;> cases h2 <;> simp_all
            rw [this]
            rfl
          subst hA
          clear hbe
          go_wp2
          go_ret
          exact ⟨by simp, HK.out.trans (HKc.out.mono fun k h => Nat.lt_of_lt_of_le h HK.out.size)⟩
        | false =>
          have hA : allW (aheadL l (k + 1)) (l.drop (k + 1)) = A := by
            rw [← HRES.out]
            have : (q && !h2) = true := by cases q <;> cases h2 <;> simp_all
            rw [this]
            rfl
          have HA1 : Hid (allW (aheadL l (k + 1)) (l.drop (k + 1)) = A) := hA
          clear hA hbe
          go_wp2
          go_roundg (n - (k + 1))
          case rel => exact ⟨k + 1, rfl, by omega, by go_num, HA1.out, HKc.out⟩
          case measure => omega
    · have hkn : n = k := by omega
      subst hkn
      have hA : A = true := by
        rw [← hAk, List.drop_eq_nil_of_le (by rw [HL.out]; exact Nat.le_refl _)]
        rfl
      subst hA
      have c2 : wr.cell? ⟨N, 2, none⟩ = some (.string S) := (hKk.cell (p := ⟨N, 2, none⟩) hNW).trans HB.out.1
      have c3 : wr.cell? ⟨N, 3, none⟩ = some (.string D) := (hKk.cell (p := ⟨N, 3, none⟩) hNW).trans HB.out.2.1
      have hNr : N < wr.heap.size := Nat.lt_of_lt_of_le hNW hKk.size
      have rv := rvalid_any S (fun k => k < wr.heap.size) wr hS
      rw [HV.out] at rv
      have hb5' : decide ((n : Int) ≤ 50) = b5 := by
        rw [← HB5.out, Bool.eq_iff_iff]
        simp
        omega
      clear hAk hKk
      cases v with
      | false =>
        go_wp2_with (go_at_call 128; refine rv.mono ?_; rintro e1 w3 ⟨rfl, hk3⟩)
        go_ret
        exact ⟨by simp, (HK.out.trans (HKk.out.mono fun k h => Nat.lt_of_lt_of_le h HK.out.size)).trans (hk3.mono fun k h => Nat.lt_of_lt_of_le h (Nat.le_trans HK.out.size HKk.out.size))⟩
      | true =>
        cases e with
        | false =>
          go_wp2_with (go_at_call 128; refine rv.mono ?_; rintro e1 w3 ⟨rfl, hk3⟩; have f3 : w3.cell? ⟨N, 3, none⟩ = some (.string D) := (hk3.cell (p := ⟨N, 3, none⟩) hNr).trans c3)
          go_ret
          exact ⟨by simp, (HK.out.trans (HKk.out.mono fun k h => Nat.lt_of_lt_of_le h HK.out.size)).trans (hk3.mono fun k h => Nat.lt_of_lt_of_le h (Nat.le_trans HK.out.size HKk.out.size))⟩
        | true =>
          go_wp2_with (go_at_call 128; refine rv.mono ?_; rintro e1 w3 ⟨rfl, hk3⟩; have f3 : w3.cell? ⟨N, 3, none⟩ = some (.string D) := (hk3.cell (p := ⟨N, 3, none⟩) hNr).trans c3; have f4 : w3.cell? ⟨N, 4, none⟩ = some (.slice aa n ac) := (hk3.cell (p := ⟨N, 4, none⟩) hNr).trans c4)
          go_ret
          exact ⟨by simp, (HK.out.trans (HKk.out.mono fun k h => Nat.lt_of_lt_of_le h HK.out.size)).trans (hk3.mono fun k h => Nat.lt_of_lt_of_le h (Nat.le_trans HK.out.size HKk.out.size))⟩
end Go.Proofs.YthhoicmfmfeehaaGreat
