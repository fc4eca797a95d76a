/-
  The document's own may, Sound.
-/
import Derived.Test.YthhoicmfmfeehaaGreatZ17
namespace Go.Proofs.YthhoicmfmfeehaaGreat
open Go.RowKit Go.Sort
set_option linter.unusedVariables false

set_option maxRecDepth 20000 in
set_option maxHeartbeats 2000000 in
theorem rmay_any (d : Int) (kd : Nat) (S D : ByteArray) (l : List Atr) (aa : Option Addr) (n ac : Nat) (hln : l.length = n) (hn : n ≤ 1000000) (hca : n ≤ ac) (hsz : ∀ x ∈ l, x.name.length < 1000000) (hS : S.size < 1000000) (k : Nat) (w : World) (ha : AtsAt (fun k => k < w.heap.size) w aa l) :
    Calls Tryz.prog 119 #[.agg (izV d kd S D aa n ac), .int .i64 (k : Int)] w fun e w' => e = .returned (.bool (kindP ⟨d, kd, S.toList, l, D.toList⟩ (decide (k = 0)))) ∧ Kept (fun k => k < w.heap.size) w w' := by
  obtain ⟨W, hW⟩ : ∃ W, w.alloc (.cells (izV d kd S D aa n ac) 117) = W := ⟨_, rfl⟩
  obtain ⟨N, hN⟩ : ∃ N, w.heap.size = N := ⟨_, rfl⟩
  have kW : Kept (fun k => k < w.heap.size) w W := by rw [← hW]; exact (Kept.refl _ w).alloc (fun _ h => h) _
  have hb : W.heap[N]? = some (.cells (izV d kd S D aa n ac) 117 (0, 0)) := by rw [← hW, ← hN]; exact heap_alloc_new w _
  have haW : AtsAt (fun k => k < W.heap.size) W aa l := ha.kept kW fun k h => Nat.lt_of_lt_of_le h kW.size
  have HK : Hid (Kept (fun k => k < w.heap.size) w W) := kW
  have HW : Hid (w.alloc (.cells (izV d kd S D aa n ac) 117) = W) := hW
  have HN : Hid (w.heap.size = N) := hN
  have c0 : W.cell? ⟨N, 0, none⟩ = some (.int .i64 d) := by rw [cell_block hb]; rfl
  have c1 : W.cell? ⟨N, 1, none⟩ = some (.int .u8 (kd : Int)) := by rw [cell_block hb]; rfl
  have c2 : W.cell? ⟨N, 2, none⟩ = some (.string S) := by rw [cell_block hb]; rfl
  have c3 : W.cell? ⟨N, 3, none⟩ = some (.string D) := by rw [cell_block hb]; rfl
  have c4 : W.cell? ⟨N, 4, none⟩ = some (.slice aa n ac) := by rw [cell_block hb]; rfl
  obtain ⟨s, hs⟩ : ∃ s, (S.toList == []) = s := ⟨_, rfl⟩
  obtain ⟨e, he⟩ : ∃ e, (D.toList == []) = e := ⟨_, rfl⟩
  obtain ⟨z, hz⟩ : ∃ z, decide (n = 0) = z := ⟨_, rfl⟩
  have hz' : ((n : Int) == 0) = z := by rw [← hz, Bool.eq_iff_iff]; simp
  obtain ⟨f, hf⟩ : ∃ f, decide (k = 0) = f := ⟨_, rfl⟩
  have hf' : ((k : Int) == 0) = f := by rw [← hf, Bool.eq_iff_iff]; simp
  rw [hf]
  by_cases q1 : kd = 1
  · subst q1
    have re := relement_any d 1 S D l aa n ac hln hn hca hsz hS W haW
    have HE : Hid (kindP ⟨d, 1, S.toList, l, D.toList⟩ f = ((validP S.toList && D.toList == []) && soundA l)) := if_pos rfl
    obtain ⟨b, hbe⟩ : ∃ b, ((validP S.toList && D.toList == []) && soundA l) = b := ⟨_, rfl⟩
    rw [HE.out, hbe]
    rw [hbe] at re
    clear hW hN kW hb haW ha hs he hz hz' hf hf' hbe HE
    go_enter Tryz.func119, Tryz.ntmps119
    go_upto_region 1 with fail
    rw [HW.out, HN.out]
    go_wp2_with (go_at_call 124; refine re.mono ?_; rintro e1 w3 ⟨rfl, hk3⟩)
    go_ret
    exact ⟨rfl, HK.out.trans (hk3.mono fun k h => Nat.lt_of_lt_of_le h HK.out.size)⟩
  have p1 : ((kd : Int) == 1) = false := by simp; omega
  by_cases q2 : kd = 2
  · subst q2
    have HE : Hid (kindP ⟨d, 2, S.toList, l, D.toList⟩ f = ((s && !e) && z)) := by
      show Hid _
      have : kindP ⟨d, 2, S.toList, l, D.toList⟩ f = ((S.toList == [] && !(D.toList == [])) && decide (l.length = 0)) := rfl
      rw [hs, he, hln, hz] at this
      exact this
    rw [HE.out]
    clear hW hN kW hb haW ha hz hf hf' HE hln
    cases e <;> cases s
    all_goals
      go_enter Tryz.func119, Tryz.ntmps119
      go_upto_region 1 with fail
      rw [HW.out, HN.out]
      go_wp2
      go_ret
      exact ⟨by simp, HK.out⟩
  have p2 : ((kd : Int) == 2) = false := by simp; omega
  by_cases q3 : kd = 3
  · subst q3
    have HE : Hid (kindP ⟨d, 3, S.toList, l, D.toList⟩ f = (s && z)) := by
      show Hid _
      have : kindP ⟨d, 3, S.toList, l, D.toList⟩ f = (S.toList == [] && decide (l.length = 0)) := rfl
      rw [hs, hln, hz] at this
      exact this
    rw [HE.out]
    clear hW hN kW hb haW ha hz hf hf' HE hln he
    cases s
    all_goals
      go_enter Tryz.func119, Tryz.ntmps119
      go_upto_region 1 with fail
      rw [HW.out, HN.out]
      go_wp2
      go_ret
      exact ⟨by simp, HK.out⟩
  have p3 : ((kd : Int) == 3) = false := by simp; omega
  by_cases q6 : kd = 6
  · subst q6
    have HE : Hid (kindP ⟨d, 6, S.toList, l, D.toList⟩ f = ((f && e) && z)) := by
      show Hid _
      have : kindP ⟨d, 6, S.toList, l, D.toList⟩ f = ((f && D.toList == []) && decide (l.length = 0)) := rfl
      rw [he, hln, hz] at this
      exact this
    rw [HE.out]
    clear hW hN kW hb haW ha hz hf HE hln hs
    cases f <;> cases e
    all_goals
      go_enter Tryz.func119, Tryz.ntmps119
      go_upto_region 1 with fail
      rw [HW.out, HN.out]
      go_wp2
      go_ret
      exact ⟨by simp, HK.out⟩
  have p6 : ((kd : Int) == 6) = false := by simp; omega
  have HE : Hid (kindP ⟨d, kd, S.toList, l, D.toList⟩ f = false) := by
    show Hid _
    have : kindP ⟨d, kd, S.toList, l, D.toList⟩ f = false := by
      unfold kindP
      rw [if_neg q1, if_neg q2, if_neg q3, if_neg q6]
    exact this
  rw [HE.out]
  clear hW hN kW hb haW ha hz hf HE hln hs
  go_enter Tryz.func119, Tryz.ntmps119
  go_upto_region 1 with fail
  rw [HW.out, HN.out]
  go_wp2
  go_ret
  exact ⟨rfl, HK.out⟩
/-- Items lie at a slice, wherever it begins. -/
def IzAt (w : World) (ia : Option Addr) (l : List Iz) : Prop :=
  ∀ j (_ : j < l.length), ∃ g o aa ac, ia = some ⟨g, o, none⟩ ∧ g < w.heap.size ∧ AtsAt (fun k => k < w.heap.size) w aa l[j].attrs ∧ l[j].attrs.length ≤ ac ∧ ∀ i u, (izCells l[j] aa ac)[i]? = some u → w.cell? ⟨g, o + j * 5 + i, none⟩ = some u
set_option maxRecDepth 20000 in
set_option maxHeartbeats 4000000 in
theorem rsound_any (l : List Iz) (la : Option Addr) (n cap : Nat) (hln : l.length = n) (hn : n ≤ 1000000) (hsz : ∀ y ∈ l, y.name.length < 1000000 ∧ y.attrs.length ≤ 1000000 ∧ ∀ x ∈ y.attrs, x.name.length < 1000000) (w : World) (h : IzAt w la l) :
    Calls Tryz.prog 110 #[.slice la n cap] w fun e w' => e = .returned (.bool (soundL l)) ∧ Kept (fun k => k < w.heap.size) w w' := by
  obtain ⟨R, hR⟩ : ∃ R, soundP 0 true l = R := ⟨_, rfl⟩
  have hR0 : soundL l = (decide (l.length ≤ 5000) && soundP 0 true l) := rfl
  rw [hR, hln] at hR0
  rw [hR0]
  obtain ⟨b5, hb5⟩ : ∃ b, decide (n ≤ 5000) = b := ⟨_, rfl⟩
  have hb5' : decide ((n : Int) ≤ 5000) = b5 := by
    rw [← hb5, Bool.eq_iff_iff]
    simp
    omega
  rw [hb5]
  have HR : Hid (soundP 0 true (l.drop 0) = R) := hR
  have HL : Hid (l.length = n) := hln
  have HI : Hid (IzAt w la l) := h
  have HSZ : Hid (∀ y ∈ l, y.name.length < 1000000 ∧ y.attrs.length ≤ 1000000 ∧ ∀ x ∈ y.attrs, x.name.length < 1000000) := hsz
  clear hR hR0 hln h hsz hb5
  go_enter Tryz.func110, Tryz.ntmps110
  go_upto_region 3 with fail
  go_loopg [4, 3] n (fun g v m wr => ∃ (k : Nat) (most : Int), g = n - k ∧ k ≤ n ∧ v = .int .i64 k ∧ m = .int .i64 most ∧ 0 ≤ most ∧ most ≤ k ∧ soundP most (decide (k = 0)) (l.drop k) = R ∧ Kept (fun k => k < w.heap.size) w wr)
  case atStart => exact ⟨0, 0, rfl, Nat.zero_le _, rfl, rfl, Int.le_refl _, Int.le_refl _, HR.out, Kept.refl _ _⟩
  case round =>
    clear HR
    obtain ⟨k, most, hgk, hk, rfl, rfl, hm0, hm1, hRk, hKk⟩ := hrel
    have HK : Hid (Kept (fun k => k < w.heap.size) w wr) := hKk
    by_cases hlt : k < n
    · have hl : k < l.length := by rw [HL.out]; exact hlt
      rw [List.drop_eq_getElem_cons hl] at hRk
      obtain ⟨g, o, aa, ac, hg', hgl, hA, hac, hc⟩ := HI.out k hl
      have hszk := HSZ.out l[k] (List.getElem_mem hl)
      subst hg'
      obtain ⟨x, hx⟩ : ∃ x, l[k] = x := ⟨_, rfl⟩
      rw [hx] at hRk hA hc hszk hac
      obtain ⟨d, kd, nm, at_, dt⟩ := x
      obtain ⟨S, hS⟩ : ∃ S : ByteArray, (⟨nm.toArray⟩ : ByteArray) = S := ⟨_, rfl⟩
      obtain ⟨D, hD⟩ : ∃ D : ByteArray, (⟨dt.toArray⟩ : ByteArray) = D := ⟨_, rfl⟩
      obtain ⟨m, hm⟩ : ∃ m, at_.length = m := ⟨_, rfl⟩
      have hSl : S.toList = nm := by rw [ByteArray.toList_eq, ← hS]
      have hDl : D.toList = dt := by rw [ByteArray.toList_eq, ← hD]
      have hSs : S.size < 1000000 := by rw [← hS]; show nm.toArray.size < _; simpa using hszk.1
      have cw0 : w.cell? ⟨g, o + k * 5, none⟩ = some (.int .i64 d) := hc 0 _ rfl
      have cw1 : w.cell? ⟨g, o + k * 5 + 1, none⟩ = some (.int .u8 (kd : Int)) := hc 1 _ rfl
      have cw2 : w.cell? ⟨g, o + k * 5 + 2, none⟩ = some (.string S) := by rw [← hS]; exact hc 2 _ rfl
      have cw3 : w.cell? ⟨g, o + k * 5 + 3, none⟩ = some (.string D) := by rw [← hD]; exact hc 3 _ rfl
      have cw4 : w.cell? ⟨g, o + k * 5 + 4, none⟩ = some (.slice aa m ac) := by rw [← hm]; exact hc 4 _ rfl
      have c0 : wr.cell? ⟨g, o + k * 5, none⟩ = some (.int .i64 d) := (hKk.cell (p := ⟨g, o + k * 5, none⟩) hgl).trans cw0
      have c1 : wr.cell? ⟨g, o + k * 5 + 1, none⟩ = some (.int .u8 (kd : Int)) := (hKk.cell (p := ⟨g, o + k * 5 + 1, none⟩) hgl).trans cw1
      have c2 : wr.cell? ⟨g, o + k * 5 + 2, none⟩ = some (.string S) := (hKk.cell (p := ⟨g, o + k * 5 + 2, none⟩) hgl).trans cw2
      have c3 : wr.cell? ⟨g, o + k * 5 + 3, none⟩ = some (.string D) := (hKk.cell (p := ⟨g, o + k * 5 + 3, none⟩) hgl).trans cw3
      have c4 : wr.cell? ⟨g, o + k * 5 + 4, none⟩ = some (.slice aa m ac) := (hKk.cell (p := ⟨g, o + k * 5 + 4, none⟩) hgl).trans cw4
      have hR1 : ((!(decide (d < 0) || decide (d > most))) && kindP ⟨d, kd, nm, at_, dt⟩ (decide (k = 0)) && soundP (nextD ⟨d, kd, nm, at_, dt⟩) false (l.drop (k + 1))) = R := hRk
      rw [← hSl, ← hDl] at hR1
      have rm := rmay_any d kd S D at_ aa m ac hm (by rw [← hm]; exact hszk.2.1) (by rw [← hm]; exact hac) hszk.2.2 hSs k wr (hA.kept hKk fun k h => Nat.lt_of_lt_of_le h hKk.size)
      obtain ⟨kq, hkq⟩ : ∃ q, kindP ⟨d, kd, S.toList, at_, D.toList⟩ (decide (k = 0)) = q := ⟨_, rfl⟩
      rw [hkq] at rm hR1
      obtain ⟨nx, hnx⟩ : ∃ z, nextD ⟨d, kd, S.toList, at_, D.toList⟩ = z := ⟨_, rfl⟩
      rw [hnx] at hR1
      have HNX : Hid ((if (decide (kd = 1) && !voidP S.toList) = true then d + 1 else d) = nx) := hnx
      have HR1 : Hid ((!(decide (d < 0) || decide (d > most)) && kq && soundP nx false (l.drop (k + 1))) = R) := hR1
      have HCW : Hid (∀ X, Kept (fun k => k < w.heap.size) w X → X.cell? ⟨g, o + k * 5, none⟩ = some (.int .i64 d) ∧ X.cell? ⟨g, o + k * 5 + 1, none⟩ = some (.int .u8 (kd : Int)) ∧ X.cell? ⟨g, o + k * 5 + 2, none⟩ = some (.string S)) := fun X hX => ⟨(hX.cell (p := ⟨g, o + k * 5, none⟩) hgl).trans cw0, (hX.cell (p := ⟨g, o + k * 5 + 1, none⟩) hgl).trans cw1, (hX.cell (p := ⟨g, o + k * 5 + 2, none⟩) hgl).trans cw2⟩
      clear hRk hA hc hszk hS hD hm hSl hDl hR1 hkq hnx hgl hx hac cw0 cw1 cw2 cw3 cw4 hKk
      by_cases hd0 : d < 0
      · have hR : R = false := by
          rw [← HR1.out, decide_eq_true hd0]
          rfl
        subst hR
        have hd0' : decide (d < 0) = true := decide_eq_true hd0
        clear HR1 rm HCW
        go_wp2
        go_ret
        exact ⟨by simp, HK.out⟩
      · have hd0' : decide (d < 0) = false := decide_eq_false hd0
        by_cases hdm : d > most
        · have hR : R = false := by
            rw [← HR1.out, decide_eq_true hdm]
            simp
          subst hR
          have hdm' : decide (d > most) = true := decide_eq_true hdm
          clear HR1 rm HCW
          go_wp2
          go_ret
          exact ⟨by simp, HK.out⟩
        · have hdm' : decide (d > most) = false := decide_eq_false hdm
          cases kq with
          | false =>
            have hR : R = false := by
              rw [← HR1.out]
              simp
            subst hR
            clear HR1 HCW
            go_wp2_with (go_at_call 119; refine rm.mono ?_; rintro e1 w3 ⟨rfl, hk3⟩)
            go_ret
            exact ⟨by simp, HK.out.trans (hk3.mono fun k h => Nat.lt_of_lt_of_le h HK.out.size)⟩
          | true =>
            have HR2 : Hid (soundP nx false (l.drop (k + 1)) = R) := by
              have := HR1.out
              rw [hd0', hdm'] at this
              exact (show Hid _ from this)
            clear HR1
            go_upto_region 7 with (go_at_call 119; refine rm.mono ?_; rintro e1 w3 ⟨rfl, hk3⟩)
            have k3 : Kept (fun k => k < w.heap.size) w w3 := HK.out.trans (hk3.mono fun k h => Nat.lt_of_lt_of_le h HK.out.size)
            obtain ⟨f0, f1, f2⟩ := HCW.out w3 k3
            have HK3 : Hid (Kept (fun k => k < w.heap.size) w w3) := k3
            have rv := rvoid_any S (fun k => k < w3.heap.size) w3
            clear rm c0 c1 c2 c3 c4 hk3 k3 HCW
            by_cases q1 : kd = 1
            · subst q1
              obtain ⟨vv, hvv⟩ : ∃ v, voidP S.toList = v := ⟨_, rfl⟩
              rw [hvv] at rv
              have hnxx := HNX.out
              rw [hvv] at hnxx
              cases vv with
              | true =>
                have hnx2 : nx = d := by rw [← hnxx]; simp
                subst hnx2
                clear hnxx HNX hvv
                go_wp2_with (go_at_call 108; refine rv.mono ?_; rintro e1 w4 ⟨rfl, hk4⟩)
                go_roundg (n - (k + 1))
                case rel => exact ⟨k + 1, nx, rfl, by omega, by go_num, rfl, by omega, by omega, by rw [decide_eq_false (by omega)]; exact HR2.out, HK3.out.trans (hk4.mono fun k h => Nat.lt_of_lt_of_le h HK3.out.size)⟩
                case measure => omega
              | false =>
                have hnx2 : nx = d + 1 := by rw [← hnxx]; simp
                subst hnx2
                clear hnxx HNX hvv
                go_wp2_with (go_at_call 108; refine rv.mono ?_; rintro e1 w4 ⟨rfl, hk4⟩)
                go_roundg (n - (k + 1))
                case rel => exact ⟨k + 1, d + 1, rfl, by omega, by go_num, by go_num, by omega, by omega, by rw [decide_eq_false (by omega)]; exact HR2.out, HK3.out.trans (hk4.mono fun k h => Nat.lt_of_lt_of_le h HK3.out.size)⟩
                case measure => omega
            · have p1 : ((kd : Int) == 1) = false := by simp; omega
              have hnx2 : nx = d := by rw [← HNX.out, decide_eq_false q1]; rfl
              subst hnx2
              clear HNX rv
              go_wp2
              go_roundg (n - (k + 1))
              case rel => exact ⟨k + 1, nx, rfl, by omega, by go_num, rfl, by omega, by omega, by rw [decide_eq_false (by omega)]; exact HR2.out, HK3.out⟩
              case measure => omega
    · have hkn : n = k := by omega
      subst hkn
      have hA : R = true := by
        rw [← hRk, List.drop_eq_nil_of_le (by rw [HL.out]; exact Nat.le_refl _)]
        rfl
      subst hA
      clear hRk hKk
      go_wp2
      go_ret
      exact ⟨by simp, HK.out⟩
end Go.Proofs.YthhoicmfmfeehaaGreat
