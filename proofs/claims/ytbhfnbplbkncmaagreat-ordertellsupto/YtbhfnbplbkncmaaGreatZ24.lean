/-
  The document's own may, Sound.
  The document's own right.
  The document's own Limit, Drop, Set: what they refuse; what append of attributes leaves.
-/
import Derived.Test.YtbhfnbplbkncmaaGreatZ17
import Derived.Test.YtbhfnbplbkncmaaGreatZ23
import Derived.Test.YtbhfnbplbkncmaaGreatZ16
namespace Go.Proofs.YtbhfnbplbkncmaaGreat
open Go.RowKit Go.Sort
set_option linter.unusedVariables false

set_option maxRecDepth 20000 in
set_option maxHeartbeats 2000000 in
theorem rmay_any (d : Int) (kd : Nat) (S D : ByteArray) (l : List Atr) (aa : Option Addr) (n ac : Nat) (hln : l.length = n) (hn : n ≤ 1000000) (hca : n ≤ ac) (hsz : ∀ x ∈ l, x.name.length < 1000000) (hS : S.size < 1000000) (k : Nat) (w : World) (ha : AtsAt (fun k => k < w.heap.size) w aa l) :
    Calls Tryz.prog 199 #[.agg (izV d kd S D aa n ac), .int .i64 (k : Int)] w fun e w' => e = .returned (.bool (kindP ⟨d, kd, S.toList, l, D.toList⟩ (decide (k = 0)))) ∧ Kept (fun k => k < w.heap.size) w w' := by
  obtain ⟨W, hW⟩ : ∃ W, w.alloc (.cells (izV d kd S D aa n ac) 165) = W := ⟨_, rfl⟩
  obtain ⟨N, hN⟩ : ∃ N, w.heap.size = N := ⟨_, rfl⟩
  have kW : Kept (fun k => k < w.heap.size) w W := by rw [← hW]; exact (Kept.refl _ w).alloc (fun _ h => h) _
  have hb : W.heap[N]? = some (.cells (izV d kd S D aa n ac) 165 (0, 0)) := by rw [← hW, ← hN]; exact heap_alloc_new w _
  have haW : AtsAt (fun k => k < W.heap.size) W aa l := ha.kept kW fun k h => Nat.lt_of_lt_of_le h kW.size
  have HK : Hid (Kept (fun k => k < w.heap.size) w W) := kW
  have HW : Hid (w.alloc (.cells (izV d kd S D aa n ac) 165) = W) := hW
  have HN : Hid (w.heap.size = N) := hN
  have c0 : W.cell? ⟨N, 0, none⟩ = some (.int .i64 d) := by rw [cell_block hb]; rfl
  have c1 : W.cell? ⟨N, 1, none⟩ = some (.int .u8 (kd : Int)) := by rw [cell_block hb]; rfl
  have c2 : W.cell? ⟨N, 2, none⟩ = some (.string S) := by rw [cell_block hb]; rfl
  have c3 : W.cell? ⟨N, 3, none⟩ = some (.string D) := by rw [cell_block hb]; rfl
  have c4 : W.cell? ⟨N, 4, none⟩ = some (.slice aa n ac) := by rw [cell_block hb]; rfl
  obtain ⟨s, hs⟩ : ∃ s, (S.toList == []) = s := ⟨_, rfl⟩
  obtain ⟨e, he⟩ : ∃ e, (D.toList == []) = e := ⟨_, rfl⟩
  obtain ⟨z, hz⟩ : ∃ z, decide (n = 0) = z := ⟨_, rfl⟩
  have hz' : ((n : Int) == 0) = z := by rw [← hz, Bool.eq_iff_iff]; simp
  obtain ⟨f, hf⟩ : ∃ f, decide (k = 0) = f := ⟨_, rfl⟩
  have hf' : ((k : Int) == 0) = f := by rw [← hf, Bool.eq_iff_iff]; simp
  rw [hf]
  by_cases q1 : kd = 1
  · subst q1
    have re := relement_any d 1 S D l aa n ac hln hn hca hsz hS W haW
    have HE : Hid (kindP ⟨d, 1, S.toList, l, D.toList⟩ f = ((validP S.toList && D.toList == []) && soundA l)) := if_pos rfl
    obtain ⟨b, hbe⟩ : ∃ b, ((validP S.toList && D.toList == []) && soundA l) = b := ⟨_, rfl⟩
    rw [HE.out, hbe]
    rw [hbe] at re
    clear hW hN kW hb haW ha hs he hz hz' hf hf' hbe HE
    go_enter Tryz.func199, Tryz.ntmps199
    go_upto_region 1 with fail
    rw [HW.out, HN.out]
    go_wp2_with (go_at_call 205; refine re.mono ?_; rintro e1 w3 ⟨rfl, hk3⟩)
    go_ret
    exact ⟨rfl, HK.out.trans (hk3.mono fun k h => Nat.lt_of_lt_of_le h HK.out.size)⟩
  have p1 : ((kd : Int) == 1) = false := by simp; omega
  by_cases q2 : kd = 2
  · subst q2
    have HE : Hid (kindP ⟨d, 2, S.toList, l, D.toList⟩ f = ((s && !e) && z)) := by
      show Hid _
      have : kindP ⟨d, 2, S.toList, l, D.toList⟩ f = ((S.toList == [] && !(D.toList == [])) && decide (l.length = 0)) := rfl
      rw [hs, he, hln, hz] at this
      exact this
    rw [HE.out]
    clear hW hN kW hb haW ha hz hf hf' HE hln
    cases e <;> cases s
    all_goals
      go_enter Tryz.func199, Tryz.ntmps199
      go_upto_region 1 with fail
      rw [HW.out, HN.out]
      go_wp2
      go_ret
      exact ⟨by simp, HK.out⟩
  have p2 : ((kd : Int) == 2) = false := by simp; omega
  by_cases q3 : kd = 3
  · subst q3
    have HE : Hid (kindP ⟨d, 3, S.toList, l, D.toList⟩ f = (s && z)) := by
      show Hid _
      have : kindP ⟨d, 3, S.toList, l, D.toList⟩ f = (S.toList == [] && decide (l.length = 0)) := rfl
      rw [hs, hln, hz] at this
      exact this
    rw [HE.out]
    clear hW hN kW hb haW ha hz hf hf' HE hln he
    cases s
    all_goals
      go_enter Tryz.func199, Tryz.ntmps199
      go_upto_region 1 with fail
      rw [HW.out, HN.out]
      go_wp2
      go_ret
      exact ⟨by simp, HK.out⟩
  have p3 : ((kd : Int) == 3) = false := by simp; omega
  by_cases q6 : kd = 6
  · subst q6
    have HE : Hid (kindP ⟨d, 6, S.toList, l, D.toList⟩ f = ((f && e) && z)) := by
      show Hid _
      have : kindP ⟨d, 6, S.toList, l, D.toList⟩ f = ((f && D.toList == []) && decide (l.length = 0)) := rfl
      rw [he, hln, hz] at this
      exact this
    rw [HE.out]
    clear hW hN kW hb haW ha hz hf HE hln hs
    cases f <;> cases e
    all_goals
      go_enter Tryz.func199, Tryz.ntmps199
      go_upto_region 1 with fail
      rw [HW.out, HN.out]
      go_wp2
      go_ret
      exact ⟨by simp, HK.out⟩
  have p6 : ((kd : Int) == 6) = false := by simp; omega
  have HE : Hid (kindP ⟨d, kd, S.toList, l, D.toList⟩ f = false) := by
    show Hid _
    have : kindP ⟨d, kd, S.toList, l, D.toList⟩ f = false := by
      unfold kindP
      rw [if_neg q1, if_neg q2, if_neg q3, if_neg q6]
    exact this
  rw [HE.out]
  clear hW hN kW hb haW ha hz hf HE hln hs
  go_enter Tryz.func199, Tryz.ntmps199
  go_upto_region 1 with fail
  rw [HW.out, HN.out]
  go_wp2
  go_ret
  exact ⟨rfl, HK.out⟩
/-- Items lie at a slice, wherever it begins. -/
def IzAt (w : World) (ia : Option Addr) (l : List Iz) : Prop :=
  ∀ j (_ : j < l.length), ∃ g o aa ac, ia = some ⟨g, o, none⟩ ∧ g < w.heap.size ∧ AtsAt (fun k => k < w.heap.size) w aa l[j].attrs ∧ l[j].attrs.length ≤ ac ∧ ∀ i u, (izCells l[j] aa ac)[i]? = some u → w.cell? ⟨g, o + j * 5 + i, none⟩ = some u
set_option maxRecDepth 20000 in
set_option maxHeartbeats 4000000 in
theorem rsound_any (l : List Iz) (la : Option Addr) (n cap : Nat) (hln : l.length = n) (hn : n ≤ 1000000) (hsz : ∀ y ∈ l, y.name.length < 1000000 ∧ y.attrs.length ≤ 1000000 ∧ ∀ x ∈ y.attrs, x.name.length < 1000000) (w : World) (h : IzAt w la l) :
    Calls Tryz.prog 190 #[.slice la n cap] w fun e w' => e = .returned (.bool (soundL l)) ∧ Kept (fun k => k < w.heap.size) w w' := by
  obtain ⟨R, hR⟩ : ∃ R, soundP 0 true l = R := ⟨_, rfl⟩
  have hR0 : soundL l = (decide (l.length ≤ 5000) && soundP 0 true l) := rfl
  rw [hR, hln] at hR0
  rw [hR0]
  obtain ⟨b5, hb5⟩ : ∃ b, decide (n ≤ 5000) = b := ⟨_, rfl⟩
  have hb5' : decide ((n : Int) ≤ 5000) = b5 := by
    rw [← hb5, Bool.eq_iff_iff]
    simp
    omega
  rw [hb5]
  have HR : Hid (soundP 0 true (l.drop 0) = R) := hR
  have HL : Hid (l.length = n) := hln
  have HI : Hid (IzAt w la l) := h
  have HSZ : Hid (∀ y ∈ l, y.name.length < 1000000 ∧ y.attrs.length ≤ 1000000 ∧ ∀ x ∈ y.attrs, x.name.length < 1000000) := hsz
  clear hR hR0 hln h hsz hb5
  go_enter Tryz.func190, Tryz.ntmps190
  go_upto_region 3 with fail
  go_loopg [4, 3] n (fun g v m wr => ∃ (k : Nat) (most : Int), g = n - k ∧ k ≤ n ∧ v = .int .i64 k ∧ m = .int .i64 most ∧ 0 ≤ most ∧ most ≤ k ∧ soundP most (decide (k = 0)) (l.drop k) = R ∧ Kept (fun k => k < w.heap.size) w wr)
  case atStart => exact ⟨0, 0, rfl, Nat.zero_le _, rfl, rfl, Int.le_refl _, Int.le_refl _, HR.out, Kept.refl _ _⟩
  case round =>
    clear HR
    obtain ⟨k, most, hgk, hk, rfl, rfl, hm0, hm1, hRk, hKk⟩ := hrel
    have HK : Hid (Kept (fun k => k < w.heap.size) w wr) := hKk
    by_cases hlt : k < n
    · have hl : k < l.length := by rw [HL.out]; exact hlt
      rw [List.drop_eq_getElem_cons hl] at hRk
      obtain ⟨g, o, aa, ac, hg', hgl, hA, hac, hc⟩ := HI.out k hl
      have hszk := HSZ.out l[k] (List.getElem_mem hl)
      subst hg'
      obtain ⟨x, hx⟩ : ∃ x, l[k] = x := ⟨_, rfl⟩
      rw [hx] at hRk hA hc hszk hac
      obtain ⟨d, kd, nm, at_, dt⟩ := x
      obtain ⟨S, hS⟩ : ∃ S : ByteArray, (⟨nm.toArray⟩ : ByteArray) = S := ⟨_, rfl⟩
      obtain ⟨D, hD⟩ : ∃ D : ByteArray, (⟨dt.toArray⟩ : ByteArray) = D := ⟨_, rfl⟩
      obtain ⟨m, hm⟩ : ∃ m, at_.length = m := ⟨_, rfl⟩
      have hSl : S.toList = nm := by rw [ByteArray.toList_eq, ← hS]
      have hDl : D.toList = dt := by rw [ByteArray.toList_eq, ← hD]
      have hSs : S.size < 1000000 := by rw [← hS]; show nm.toArray.size < _; simpa using hszk.1
      have cw0 : w.cell? ⟨g, o + k * 5, none⟩ = some (.int .i64 d) := hc 0 _ rfl
      have cw1 : w.cell? ⟨g, o + k * 5 + 1, none⟩ = some (.int .u8 (kd : Int)) := hc 1 _ rfl
      have cw2 : w.cell? ⟨g, o + k * 5 + 2, none⟩ = some (.string S) := by rw [← hS]; exact hc 2 _ rfl
      have cw3 : w.cell? ⟨g, o + k * 5 + 3, none⟩ = some (.string D) := by rw [← hD]; exact hc 3 _ rfl
      have cw4 : w.cell? ⟨g, o + k * 5 + 4, none⟩ = some (.slice aa m ac) := by rw [← hm]; exact hc 4 _ rfl
      have c0 : wr.cell? ⟨g, o + k * 5, none⟩ = some (.int .i64 d) := (hKk.cell (p := ⟨g, o + k * 5, none⟩) hgl).trans cw0
      have c1 : wr.cell? ⟨g, o + k * 5 + 1, none⟩ = some (.int .u8 (kd : Int)) := (hKk.cell (p := ⟨g, o + k * 5 + 1, none⟩) hgl).trans cw1
      have c2 : wr.cell? ⟨g, o + k * 5 + 2, none⟩ = some (.string S) := (hKk.cell (p := ⟨g, o + k * 5 + 2, none⟩) hgl).trans cw2
      have c3 : wr.cell? ⟨g, o + k * 5 + 3, none⟩ = some (.string D) := (hKk.cell (p := ⟨g, o + k * 5 + 3, none⟩) hgl).trans cw3
      have c4 : wr.cell? ⟨g, o + k * 5 + 4, none⟩ = some (.slice aa m ac) := (hKk.cell (p := ⟨g, o + k * 5 + 4, none⟩) hgl).trans cw4
      have hR1 : ((!(decide (d < 0) || decide (d > most))) && kindP ⟨d, kd, nm, at_, dt⟩ (decide (k = 0)) && soundP (nextD ⟨d, kd, nm, at_, dt⟩) false (l.drop (k + 1))) = R := hRk
      rw [← hSl, ← hDl] at hR1
      have rm := rmay_any d kd S D at_ aa m ac hm (by rw [← hm]; exact hszk.2.1) (by rw [← hm]; exact hac) hszk.2.2 hSs k wr (hA.kept hKk fun k h => Nat.lt_of_lt_of_le h hKk.size)
      obtain ⟨kq, hkq⟩ : ∃ q, kindP ⟨d, kd, S.toList, at_, D.toList⟩ (decide (k = 0)) = q := ⟨_, rfl⟩
      rw [hkq] at rm hR1
      obtain ⟨nx, hnx⟩ : ∃ z, nextD ⟨d, kd, S.toList, at_, D.toList⟩ = z := ⟨_, rfl⟩
      rw [hnx] at hR1
      have HNX : Hid ((if (decide (kd = 1) && !voidP S.toList) = true then d + 1 else d) = nx) := hnx
      have HR1 : Hid ((!(decide (d < 0) || decide (d > most)) && kq && soundP nx false (l.drop (k + 1))) = R) := hR1
      have HCW : Hid (∀ X, Kept (fun k => k < w.heap.size) w X → X.cell? ⟨g, o + k * 5, none⟩ = some (.int .i64 d) ∧ X.cell? ⟨g, o + k * 5 + 1, none⟩ = some (.int .u8 (kd : Int)) ∧ X.cell? ⟨g, o + k * 5 + 2, none⟩ = some (.string S)) := fun X hX => ⟨(hX.cell (p := ⟨g, o + k * 5, none⟩) hgl).trans cw0, (hX.cell (p := ⟨g, o + k * 5 + 1, none⟩) hgl).trans cw1, (hX.cell (p := ⟨g, o + k * 5 + 2, none⟩) hgl).trans cw2⟩
      clear hRk hA hc hszk hS hD hm hSl hDl hR1 hkq hnx hgl hx hac cw0 cw1 cw2 cw3 cw4 hKk
      by_cases hd0 : d < 0
      · have hR : R = false := by
          rw [← HR1.out, decide_eq_true hd0]
          rfl
        subst hR
        have hd0' : decide (d < 0) = true := decide_eq_true hd0
        clear HR1 rm HCW
        go_wp2
        go_ret
        exact ⟨by simp, HK.out⟩
      · have hd0' : decide (d < 0) = false := decide_eq_false hd0
        by_cases hdm : d > most
        · have hR : R = false := by
            rw [← HR1.out, decide_eq_true hdm]
            simp
          subst hR
          have hdm' : decide (d > most) = true := decide_eq_true hdm
          clear HR1 rm HCW
          go_wp2
          go_ret
          exact ⟨by simp, HK.out⟩
        · have hdm' : decide (d > most) = false := decide_eq_false hdm
          cases kq with
          | false =>
            have hR : R = false := by
              rw [← HR1.out]
              simp
            subst hR
            clear HR1 HCW
            go_wp2_with (go_at_call 199; refine rm.mono ?_; rintro e1 w3 ⟨rfl, hk3⟩)
            go_ret
            exact ⟨by simp, HK.out.trans (hk3.mono fun k h => Nat.lt_of_lt_of_le h HK.out.size)⟩
          | true =>
            have HR2 : Hid (soundP nx false (l.drop (k + 1)) = R) := by
              have := HR1.out
              rw [hd0', hdm'] at this
              exact (show Hid _ from this)
            clear HR1
            go_upto_region 7 with (go_at_call 199; refine rm.mono ?_; rintro e1 w3 ⟨rfl, hk3⟩)
            have k3 : Kept (fun k => k < w.heap.size) w w3 := HK.out.trans (hk3.mono fun k h => Nat.lt_of_lt_of_le h HK.out.size)
            obtain ⟨f0, f1, f2⟩ := HCW.out w3 k3
            have HK3 : Hid (Kept (fun k => k < w.heap.size) w w3) := k3
            have rv := rvoid_any S (fun k => k < w3.heap.size) w3
            clear rm c0 c1 c2 c3 c4 hk3 k3 HCW
            by_cases q1 : kd = 1
            · subst q1
              obtain ⟨vv, hvv⟩ : ∃ v, voidP S.toList = v := ⟨_, rfl⟩
              rw [hvv] at rv
              have hnxx := HNX.out
              rw [hvv] at hnxx
              cases vv with
              | true =>
                have hnx2 : nx = d := by rw [← hnxx]; simp
                subst hnx2
                clear hnxx HNX hvv
                go_wp2_with (go_at_call 182; refine rv.mono ?_; rintro e1 w4 ⟨rfl, hk4⟩)
                go_roundg (n - (k + 1))
                case rel => exact ⟨k + 1, nx, rfl, by omega, by go_num, rfl, by omega, by omega, by rw [decide_eq_false (by omega)]; exact HR2.out, HK3.out.trans (hk4.mono fun k h => Nat.lt_of_lt_of_le h HK3.out.size)⟩
                case measure => omega
              | false =>
                have hnx2 : nx = d + 1 := by rw [← hnxx]; simp
                subst hnx2
                clear hnxx HNX hvv
                go_wp2_with (go_at_call 182; refine rv.mono ?_; rintro e1 w4 ⟨rfl, hk4⟩)
                go_roundg (n - (k + 1))
                case rel => exact ⟨k + 1, d + 1, rfl, by omega, by go_num, by go_num, by omega, by omega, by rw [decide_eq_false (by omega)]; exact HR2.out, HK3.out.trans (hk4.mono fun k h => Nat.lt_of_lt_of_le h HK3.out.size)⟩
                case measure => omega
            · have p1 : ((kd : Int) == 1) = false := by simp; omega
              have hnx2 : nx = d := by rw [← HNX.out, decide_eq_false q1]; rfl
              subst hnx2
              clear HNX rv
              go_wp2
              go_roundg (n - (k + 1))
              case rel => exact ⟨k + 1, nx, rfl, by omega, by go_num, rfl, by omega, by omega, by rw [decide_eq_false (by omega)]; exact HR2.out, HK3.out⟩
              case measure => omega
    · have hkn : n = k := by omega
      subst hkn
      have hA : R = true := by
        rw [← hRk, List.drop_eq_nil_of_le (by rw [HL.out]; exact Nat.le_refl _)]
        rfl
      subst hA
      clear hRk hKk
      go_wp2
      go_ret
      exact ⟨by simp, HK.out⟩
end Go.Proofs.YtbhfnbplbkncmaaGreat

namespace Go.Proofs.YtbhfnbplbkncmaaGreat
open Go.RowKit Go.Sort
set_option linter.unusedVariables false
theorem soundN_4 (S D : List UInt8) (l : List Atr) : soundN ⟨4, S, D, l⟩ = ((S == [] && D == []) && decide (l.length = 0)) := rfl
theorem soundN_2 (S D : List UInt8) (l : List Atr) : soundN ⟨2, S, D, l⟩ = ((S == []) && decide (l.length = 0)) := by
  obtain ⟨d, hd, hne⟩ : ∃ d, (if (2 : Nat) = 2 ∧ D = [] then [45] else D) = d ∧ (d == []) = false := by
    refine ⟨_, rfl, ?_⟩
    by_cases c : D = []
    · rw [if_pos ⟨rfl, c⟩]; rfl
    · rw [if_neg (fun h => c h.2)]
      cases D with
      | nil => exact absurd rfl c
      | cons a r => rfl
  show (if (2 : Nat) = 4 then _ else soundL [⟨0, 2, S, l, if (2 : Nat) = 2 ∧ D = [] then [45] else D⟩]) = _
  rw [if_neg (by decide), hd]
  show (decide (1 ≤ 5000) && soundP 0 true [⟨0, 2, S, l, d⟩]) = _
  simp [soundP, kindP, hne]
theorem soundN_o (kd : Nat) (h4 : kd ≠ 4) (h2 : kd ≠ 2) (S D : List UInt8) (l : List Atr) : soundN ⟨kd, S, D, l⟩ = soundL [⟨0, kd, S, l, D⟩] := by
  show (if kd = 4 then _ else soundL [⟨0, kd, S, l, if kd = 2 ∧ D = [] then [45] else D⟩]) = _
  rw [if_neg h4, if_neg (fun h => h2 h.1)]
set_option maxRecDepth 20000 in
set_option maxHeartbeats 4000000 in
theorem rright_any (kd : Nat) (S D : ByteArray) (l : List Atr) (aa : Option Addr) (n ac : Nat) (hln : l.length = n) (hn : n ≤ 1000000) (hac : n ≤ ac) (hsz : ∀ x ∈ l, x.name.length < 1000000) (hS : S.size < 1000000) (up : Int) (ka : Option Addr) (kn kc : Nat) (sh ho co : Int) (f : Fg) (w : World) (ha : AtsAt (fun k => k < w.heap.size) w aa l) :
    Calls Tryz.prog 169 #[.agg (rV (kd : Int) S D aa n ac up ka kn kc sh ho co f)] w fun e w' => e = .returned (.bool (soundN ⟨kd, S.toList, D.toList, l⟩)) ∧ Kept (fun k => k < w.heap.size) w w' := by
  obtain ⟨W, hW⟩ : ∃ W, w.alloc (.cells (rV (kd : Int) S D aa n ac up ka kn kc sh ho co f) 36) = W := ⟨_, rfl⟩
  obtain ⟨N, hN⟩ : ∃ N, w.heap.size = N := ⟨_, rfl⟩
  have kW : Kept (fun k => k < w.heap.size) w W := by rw [← hW]; exact (Kept.refl _ w).alloc (fun _ h => h) _
  have hb : W.heap[N]? = some (.cells (rV (kd : Int) S D aa n ac up ka kn kc sh ho co f) 36 (0, 0)) := by rw [← hW, ← hN]; exact heap_alloc_new w _
  have c0 : W.cell? ⟨N, 0, none⟩ = some (.int .u8 (kd : Int)) := by rw [cell_block hb]; rfl
  have c1 : W.cell? ⟨N, 1, none⟩ = some (.string S) := by rw [cell_block hb]; rfl
  have c2 : W.cell? ⟨N, 2, none⟩ = some (.string D) := by rw [cell_block hb]; rfl
  have c3 : W.cell? ⟨N, 3, none⟩ = some (.slice aa n ac) := by rw [cell_block hb]; rfl
  have HK : Hid (Kept (fun k => k < w.heap.size) w W) := kW
  have HW : Hid (w.alloc (.cells (rV (kd : Int) S D aa n ac up ka kn kc sh ho co f) 36) = W) := hW
  have HN : Hid (w.heap.size = N) := hN
  obtain ⟨s, hs⟩ : ∃ s, (S.toList == []) = s := ⟨_, rfl⟩
  obtain ⟨e, he⟩ : ∃ e, (D.toList == []) = e := ⟨_, rfl⟩
  obtain ⟨z, hz⟩ : ∃ z, decide (n = 0) = z := ⟨_, rfl⟩
  have hz' : ((n : Int) == 0) = z := by rw [← hz, Bool.eq_iff_iff]; simp
  have haW : AtsAt (fun k => k < W.heap.size) W aa l := ha.kept kW fun k h => Nat.lt_of_lt_of_le h kW.size
  by_cases q4 : kd = 4
  · subst q4
    have HWk : Hid (w.alloc (.cells (rV 4 S D aa n ac up ka kn kc sh ho co f) 36) = W) := HW.out
    have c0k : W.cell? ⟨N, 0, none⟩ = some (.int .u8 4) := c0
    clear HW c0
    rw [soundN_4, hs, he, hln, hz]
    clear hW hN kW hb ha haW hz hln
    cases s <;> cases e
    all_goals
      go_enter Tryz.func169, Tryz.ntmps169
      go_upto_region 1 with fail
      rw [HWk.out, HN.out]
      go_wp2
      go_ret
      exact ⟨by simp, HK.out⟩
  have p4 : ((kd : Int) == 4) = false := by simp; omega
  by_cases q2 : kd = 2
  · subst q2
    have HWk : Hid (w.alloc (.cells (rV 2 S D aa n ac up ka kn kc sh ho co f) 36) = W) := HW.out
    have c0k : W.cell? ⟨N, 0, none⟩ = some (.int .u8 2) := c0
    clear HW c0
    rw [soundN_2, hs, hln, hz]
    clear hW hN kW hb ha haW hz hln he
    cases s
    all_goals
      go_enter Tryz.func169, Tryz.ntmps169
      go_upto_region 1 with fail
      rw [HWk.out, HN.out]
      go_wp2
      go_ret
      exact ⟨by simp, HK.out⟩
  have p2 : ((kd : Int) == 2) = false := by simp; omega
  rw [soundN_o kd q4 q2]
  obtain ⟨V, hV⟩ : ∃ V, W.alloc (.cells #[.int .i64 0, .int .u8 (kd : Int), .string S, .string D, .slice aa n ac] 165) = V := ⟨_, rfl⟩
  obtain ⟨N2, hN2⟩ : ∃ N2, W.heap.size = N2 := ⟨_, rfl⟩
  have kV : Kept (fun k => k < W.heap.size) W V := by rw [← hV]; exact (Kept.refl _ W).alloc (fun _ h => h) _
  have hb2 : V.heap[N2]? = some (.cells #[.int .i64 0, .int .u8 (kd : Int), .string S, .string D, .slice aa n ac] 165 (0, 0)) := by rw [← hV, ← hN2]; exact heap_alloc_new W _
  have rs := rsound_any [⟨0, kd, S.toList, l, D.toList⟩] (some ⟨N2, 0, none⟩) 1 1 rfl (by decide) (fun y hy => by
    rw [List.mem_singleton.1 hy]
    refine ⟨?_, by show l.length ≤ _; rw [hln]; exact hn, hsz⟩
    show S.toList.length < _
    rw [ByteArray.toList_eq]; exact hS) V (fun j hj => by
    have : j = 0 := by simp at hj; exact hj
    subst this
    refine ⟨N2, 0, aa, ac, rfl, lt_block hb2, haW.kept kV fun k h => Nat.lt_of_lt_of_le h kV.size, by show l.length ≤ ac; rw [hln]; exact hac, fun i u hu => ?_⟩
    rw [show 0 + 0 * 5 + i = i by omega, cell_block hb2, ← hu, ← Array.getElem?_toList]
    congr 1
    show _ = izCells ⟨0, kd, S.toList, l, D.toList⟩ aa ac
    simp only [izCells, sv, ByteArray.toList_eq, hln])
  obtain ⟨b, hbe⟩ : ∃ b, soundL [⟨0, kd, S.toList, l, D.toList⟩] = b := ⟨_, rfl⟩
  rw [hbe] at rs ⊢
  have HV : Hid (W.alloc (.cells #[.int .i64 0, .int .u8 (kd : Int), .string S, .string D, .slice aa n ac] 165) = V) := hV
  have HN2 : Hid (W.heap.size = N2) := hN2
  have HKV : Hid (Kept (fun k => k < w.heap.size) w V) := kW.trans (kV.mono fun k h => Nat.lt_of_lt_of_le h kW.size)
  clear hW hN kW hb ha haW hz hln he hs hV hN2 kV hb2 hbe
  go_enter Tryz.func169, Tryz.ntmps169
  go_upto_region 1 with fail
  rw [HW.out, HN.out]
  go_wp2_with fail
  rw [HV.out, HN2.out]
  refine rs.mono ?_
  rintro e1 w3 ⟨rfl, hk3⟩
  have HK3 : Hid (Kept (fun k => k < w.heap.size) w w3) := HKV.out.trans (hk3.mono fun k h => Nat.lt_of_lt_of_le h HKV.out.size)
  clear rs hk3
  go_wp2
  go_ret
  exact ⟨rfl, HK3.out⟩
end Go.Proofs.YtbhfnbplbkncmaaGreat

namespace Go.Proofs.YtbhfnbplbkncmaaGreat
open Go.RowKit Go.Sort
set_option linter.unusedVariables false
theorem FindA.ex (l : List Atr) (nm : List UInt8) : ∃ z, FindA l nm z := by
  by_cases h : ∃ x ∈ l, x.name = nm
  · have h' : ∃ x ∈ l, (fun x : Atr => x.name == nm) x = true := by
      obtain ⟨x, hx, e⟩ := h
      exact ⟨x, hx, by simpa using e⟩
    have hk := List.findIdx_lt_length.2 h'
    refine ⟨_, .yes hk (by have := List.findIdx_getElem (w := hk); simpa using this) fun x hx e => ?_⟩
    obtain ⟨j, hj, rfl⟩ := List.mem_take_iff_getElem.1 hx
    have hj' : j < l.findIdx (fun x : Atr => x.name == nm) := by omega
    have := List.not_of_lt_findIdx hj'
    simp [e] at this
  · exact ⟨_, .no fun x hx e => h ⟨x, hx, e⟩⟩
theorem FindA.one {l : List Atr} {nm : List UInt8} {z z' : Int} (h : FindA l nm z) (h' : FindA l nm z') : z = z' := by
  cases h with
  | no hn =>
    cases h' with
    | no _ => rfl
    | yes hk e _ => exact absurd e (hn _ (List.getElem_mem hk))
  | @yes k hk e ha =>
    cases h' with
    | no hn => exact absurd e (hn _ (List.getElem_mem hk))
    | @yes k' hk' e' ha' =>
      rcases Nat.lt_trichotomy k k' with c | c | c
      · exact absurd e (ha' _ (List.mem_take_iff_getElem.2 ⟨k, by omega, rfl⟩))
      · rw [c]
      · exact absurd e' (ha _ (List.mem_take_iff_getElem.2 ⟨k', by omega, rfl⟩))
set_option maxRecDepth 20000 in
theorem rlimit_any (K : Nat → Prop) (p : Nat) (M : Dm) (R G : Nat → List Nat) (w : World) (h : RX K w p M R G) :
    Calls Tryz.prog 105 #[.pointer (some ⟨p, 0, none⟩)] w fun e w' => e = .returned (.int .i64 (M.limit : Int)) ∧ w' = w := by
  obtain ⟨A, h⟩ := h
  have c0 := h.c0
  clear h
  go_enter Tryz.func105, Tryz.ntmps105
  go_wp2
  go_ret
  exact ⟨rfl, rfl⟩
theorem AtsAt.drop {F : Nat → Prop} {w : World} {g o : Nat} {l : List Atr} (h : AtsAt F w (some ⟨g, o, none⟩) l) (k : Nat) : AtsAt F w (some ⟨g, o + k * 2, none⟩) (l.drop k) := fun j hj => by
  have hj' : k + j < l.length := by rw [List.length_drop] at hj; omega
  obtain ⟨g1, o1, e, hF, a, b⟩ := h (k + j) hj'
  injection e with e
  injection e with e1 e2
  subst e1 e2
  refine ⟨g, o + k * 2, rfl, hF, ?_, ?_⟩
  · rw [List.getElem_drop, ← a]; congr 2; omega
  · rw [List.getElem_drop, ← b]; congr 2; omega
theorem appAs {K : Nat → Prop} {w : World} {ao : Option Addr} {n cap : Nat} {l : List Atr} (h : OwnZ K w 140 2 ao n cap (atrCells l)) (hKl : ∀ k, K k → k < w.heap.size) (hn : n ≤ 1000000) (r : List Atr) (ba : Option Addr) (m bc : Nat) (hrm : r.length = m) (hm : m ≤ 1000000) (hr : AtsAt (fun k => k < w.heap.size) w ba r) :
    ∃ ao' cap' w', (Builtin.append_ #[31, 31] 31 #[.slice ao n cap, .slice ba m bc]).run Tryz.prog w = .ok (.slice ao' (n + m) cap') w' ∧ OwnZ K w' 140 2 ao' (n + m) cap' (atrCells (l ++ r)) ∧ Kept K w w' := by
  obtain ⟨i, hi, hip⟩ := Option.map_eq_some_iff.1 infoA
  have hz : i.zero = _ := congrArg (·.1) hip
  have hsz : i.size = 2 := congrArg (·.2.1) hip
  have hby : i.bytes = 32 := congrArg (·.2.2) hip
  by_cases h0 : m = 0
  · subst h0
    have hl0 : r = [] := List.eq_nil_of_length_eq_zero hrm
    subst hl0
    have hs : Src Tryz.prog i.size 31 (.slice ba 0 bc) 0 [] w := by
      cases ba with
      | none => exact Src.ofNil w Tryz.underlying31 _
      | some a => exact Src.ofSlice w Tryz.underlying31 a 0 bc [] (by simp) (fun j u hj => by simp at hj) (fun u hu => by cases hu)
    refine ⟨ao, cap, w, ?_, ?_, Kept.refl _ _⟩
    · rw [Nat.add_zero]
      exact run_append_nothing w 31 31 31 140 i Tryz.underlying31 hi ao n cap h.2.1 _ hs
    · rw [Nat.add_zero, List.append_nil]
      exact h
  · obtain ⟨g, o, rfl, hg, hc⟩ := hr.cells (by omega)
    have hs : Src Tryz.prog 2 31 (.slice (some ⟨g, o, none⟩) m bc) m (atrCells r) w := by
      refine Src.ofSlice w Tryz.underlying31 _ m bc (atrCells r) (by rw [atr_len, hrm]) (fun j u hj => ?_) (atr_one r)
      rw [Addr.add_lit]
      exact hc j u hj
    obtain ⟨ao', c, w', hr', ho, hk⟩ := run_appM (P := Tryz.prog) (K := K) w 31 31 31 140 i _ Tryz.underlying31 hi hz 2 hsz rfl (by omega) h _ m (by omega) (by omega) _ hs hKl (by omega)
    exact ⟨ao', c, w', hr', by rw [atrCells_append]; exact ho, hk⟩
set_option maxRecDepth 20000 in
theorem rdrop_no (K : Nat → Prop) (p : Nat) (M : Dm) (R G : Nat → List Nat) (i : Int) (S : ByteArray) (w : World) (h : RX K w p M R G) (hn : M.n ≤ 1000000) (z : Int) (hz : (if 0 ≤ i ∧ i < (M.n : Int) then (if (M.nd i.toNat).kind = 1 then 0 else 81) else 80) = z) (h0 : z ≠ 0) :
    Calls Tryz.prog 96 #[.pointer (some ⟨p, 0, none⟩), .int .i64 i, .string S] w fun e w' => e = .returned (.int .i64 z) ∧ w' = w := by
  have re := relem_any K p M R G i w h hn
  rw [hz] at re
  have z0 : (z != 0) = true := by simpa using h0
  clear h hz
  go_enter Tryz.func96, Tryz.ntmps96
  go_wp2_with (go_at_call 157; refine re.mono ?_; rintro e1 w3 ⟨rfl, hw3⟩; replace hw3 := hw3.symm; subst hw3)
  go_ret
  exact ⟨rfl, rfl⟩
set_option maxRecDepth 20000 in
theorem rset_no (K : Nat → Prop) (p : Nat) (M : Dm) (R G : Nat → List Nat) (i : Int) (S T : ByteArray) (w : World) (h : RX K w p M R G) (hn : M.n ≤ 1000000) (z : Int) (hz : (if 0 ≤ i ∧ i < (M.n : Int) then (if (M.nd i.toNat).kind = 1 then 0 else 81) else 80) = z) (h0 : z ≠ 0) :
    Calls Tryz.prog 94 #[.pointer (some ⟨p, 0, none⟩), .int .i64 i, .string S, .string T] w fun e w' => e = .returned (.int .i64 z) ∧ w' = w := by
  have re := relem_any K p M R G i w h hn
  rw [hz] at re
  have z0 : (z != 0) = true := by simpa using h0
  clear h hz
  go_enter Tryz.func94, Tryz.ntmps94
  go_wp2_with (go_at_call 157; refine re.mono ?_; rintro e1 w3 ⟨rfl, hw3⟩; replace hw3 := hw3.symm; subst hw3)
  go_ret
  exact ⟨rfl, rfl⟩
end Go.Proofs.YtbhfnbplbkncmaaGreat
