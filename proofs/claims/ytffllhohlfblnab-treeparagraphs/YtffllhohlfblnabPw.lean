/-
  TreeParagraphs: the walk.
-/
import Derived.Test.YtffllhohlfblnabED
import Derived.Test.YtffllhohlfblnabPg
import Derived.Deep.CutBlock
namespace Go.Proofs.Ytffllhohlfblnab
open Go.RowKit Go.Sort

/-- The names that are open, in a row of the call's own. -/
structure SOwn (w0 w : World) (oa : Option Addr) (n cap : Nat) (o : List (List UInt8)) : Prop where
  own : OwnZ (fun k => k < w0.heap.size) w 9 1 oa n cap (svs o)
  len : o.length = n
  kept : Kept (fun k => k < w0.heap.size) w0 w
theorem SOwn.nil (w : World) : SOwn w w none 0 0 [] := ⟨OwnZ.nil _ _ _ _, rfl, Kept.refl _ _⟩
theorem SOwn.take {w0 w : World} {oa : Option Addr} {n cap : Nat} {o : List (List UInt8)} (h : SOwn w0 w oa n cap o) (k : Nat) (hk : k ≤ n) : SOwn w0 w oa k cap (o.take k) :=
  ⟨by
    have := h.own.take k hk
    rw [Nat.mul_one] at this
    have e : svs (o.take k) = (svs o).take k := by simp [svs, List.map_take]
    rw [e]
    exact this, by rw [List.length_take, h.len]; omega, h.kept⟩
theorem SOwn.app {w0 w : World} {oa : Option Addr} {n cap : Nat} {o : List (List UInt8)} (h : SOwn w0 w oa n cap o) (hn : n ≤ 1000000) (x : List UInt8) :
    ∃ oa' cap' w', (Builtin.append_ #[28, 28] 28 #[.slice oa n cap, .slice (some ⟨w.heap.size, 0, none⟩) 1 1]).run Try.prog (w.alloc (.cells #[sv x] 9)) = .ok (.slice oa' (n + 1) cap') w' ∧ SOwn w0 w' oa' (n + 1) cap' (o ++ [x]) := by
  obtain ⟨i, hi, hip⟩ := Option.map_eq_some_iff.1 infoS
  have hz0 : i.zero = some (.string ⟨#[]⟩) := congrArg (·.1) hip
  have hsz : i.size = 1 := congrArg (·.2.1) hip
  have hby : i.bytes = 16 := congrArg (·.2.2) hip
  obtain ⟨W, hW⟩ : ∃ W, w.alloc (.cells #[sv x] 9) = W := ⟨_, rfl⟩
  rw [hW]
  have kW : Kept (fun k => k < w.heap.size) w W := by rw [← hW]; exact (Kept.refl _ w).alloc (fun _ h => h) _
  have hsrc : Src Try.prog 1 28 (.slice (some ⟨w.heap.size, 0, none⟩) 1 1) 1 [sv x] W := by
    rw [← hW]
    exact src_newZ w w.heap.size [sv x] _ Try.underlying28 (by intro u hu; simp at hu; subst hu; rfl) rfl rfl
  have ho : OwnZ (fun k => k < w0.heap.size) W 9 1 oa n cap (svs o) := h.own.to (fun g hg => (h.own.out hg).1) (fun g hg => kW.block g (h.own.out hg).2)
  obtain ⟨oa', cap', w', hr, ho', hk'⟩ := run_appZ (P := Try.prog) W 28 28 28 9 i _ Try.underlying28 hi hz0 1 hsz rfl (by omega) ho _ _ hsrc (fun k hk => Nat.lt_of_lt_of_le (Nat.lt_of_lt_of_le hk h.kept.size) kW.size) (by omega)
  refine ⟨oa', cap', w', hr, ?_, by rw [List.length_append, h.len]; rfl, (h.kept.trans (kW.mono fun k hk => Nat.lt_of_lt_of_le hk h.kept.size)).trans hk'⟩
  have e : svs (o ++ [x]) = svs o ++ [sv x] := by simp
  rw [e]
  exact ho'
theorem SOwn.cell {w0 w : World} {oa : Option Addr} {n cap : Nat} {o : List (List UInt8)} (h : SOwn w0 w oa n cap o) (j : Nat) (hj : j < o.length) : ∃ g, oa = some ⟨g, 0, none⟩ ∧ w.cell? ⟨g, j, none⟩ = some (sv o[j]) := h.own.cell (by simp [svs, hj])

set_option maxRecDepth 20000 in
set_option maxHeartbeats 4000000 in
theorem paras_any (a0 : ByteArray) (w : World) :
    Calls Try.prog 6 #[.string a0] w fun e w' => e = .returned (.bool true) ∧ Kept (fun k => k < w.heap.size) w w' := by
  have rk := known_any w
  by_cases hz : a0.size ≤ 1500
  · have hz' : decide ((a0.size : Int) > 1500) = false := decide_eq_false (by omega)
    obtain ⟨s, hs⟩ : ∃ s : List UInt8, a0 = ⟨s.toArray⟩ := ⟨a0.data.toList, by rw [Array.toArray_toList]⟩
    have hsl : s.length ≤ 1500 := by rw [hs, sv_size] at hz; exact hz
    obtain ⟨c, hc, hci, hcf, hwt, hsz⟩ := tok_build s (by omega)
    have hcnt := tok_count s
    have hpar := Par.build _ Par.new hc
    obtain ⟨N, hN⟩ : ∃ N, (tokL s).toks.length = N := ⟨_, rfl⟩
    obtain ⟨M, hM⟩ : ∃ M, (tokL s).flts.length = M := ⟨_, rfl⟩
    have r1 := fun X => dtokens s (by omega) (fun k => k < X.heap.size) X (fun _ h => h)
    have r2 := fun X ta tc hT => build_any (tokL s).toks ta N tc hN (by omega) (by omega) hsz X hT
    simp only [hN, hM] at r1
    simp only [hc] at r2
    obtain ⟨n, hn⟩ : ∃ n, c.items.length = n := ⟨_, rfl⟩
    obtain ⟨nf, hnf⟩ : ∃ n, c.flts.length = n := ⟨_, rfl⟩
    have r2' : ∀ X ta tc, ToksIn (fun k => k < X.heap.size) X ta (tokL s).toks → Calls Try.prog 11 #[.slice ta N tc] X fun e w' => (∃ ia ic fa fc, e = .returned (.tuple #[.slice ia n ic, .slice fa nf fc, .int .u16 0]) ∧ ItsIn w' ia c.items) ∧ Kept (fun k => k < X.heap.size) X w' := fun X ta tc hT => (r2 X ta tc hT).mono (by
      rintro e w' ⟨⟨ia, ic, fa, fc, q1, q2, -⟩, q6⟩
      rw [hn, hnf] at q1
      exact ⟨⟨ia, ic, fa, fc, q1, q2⟩, q6⟩)
    have HSC : Hid (scanP [] (c.items.drop 0) = true) := hpar.scan
    have HN : Hid (c.items.length = n) := hn
    rw [hn] at hci
    have r1' : ∀ X, Calls Try.prog 12 #[.string a0] X _ := fun X => by rw [hs]; exact r1 X
    clear r1 r2 hs hc hsz hwt hcnt hpar hN hM hn hnf hcf hsl
    go_enter Try.func6, Try.ntmps6
    go_wp2_with fail
    refine rk.mono ?_
    rintro e w1 ⟨rfl, k1⟩
    have HK1 : Hid (Kept (fun k => k < w.heap.size) w w1) := k1
    clear rk k1
    go_wp2_with fail
    refine (r1' w1).mono ?_
    rintro e w2 ⟨ta, tc, fa, fc, rfl, hT, -, k2, -, -⟩
    have HK2 : Hid (Kept (fun k => k < w.heap.size) w w2) := HK1.out.trans (k2.mono fun k h => Nat.lt_of_lt_of_le h HK1.out.size)
    have r4 := r2' w2 ta tc hT
    clear r1' r2' hT k2 HK1
    go_wp2_with fail
    refine r4.mono ?_
    rintro e w3 ⟨⟨ia, ic, fa1, fc1, rfl, hI⟩, k3⟩
    have HI : Hid (ItsIn w3 ia c.items) := hI
    have HK3 : Hid (Kept (fun k => k < w.heap.size) w w3) := HK2.out.trans (k3.mono fun k h => Nat.lt_of_lt_of_le h HK2.out.size)
    clear r4 hI k3 HK2
    go_upto_region 9 with fail
    go_loopg [9, 8] n (fun g v x wr => ∃ (k : Nat) (o : List (List UInt8)) (oa : Option Addr) (m cap : Nat), g = n - k ∧ k ≤ n ∧ v = .int .i64 k ∧ x = .slice oa m cap ∧ m ≤ k ∧ scanP o (c.items.drop k) = true ∧ SOwn w3 wr oa m cap o)
    case atStart => exact ⟨0, [], none, 0, 0, rfl, Nat.zero_le _, rfl, rfl, Nat.le_refl _, HSC.out, SOwn.nil w3⟩
    case round =>
      clear HSC
      obtain ⟨k, o, oa, m, cap, hgk, hk, rfl, rfl, hmk, hsc, hO⟩ := hrel
      by_cases hlt : k < n
      · have hl : k < c.items.length := by rw [HN.out]; exact hlt
        rw [List.drop_eq_getElem_cons hl] at hsc
        obtain ⟨g, aa, ac, hg, hgl, -, -, hcc⟩ := HI.out k hl
        subst hg
        obtain ⟨x, hx⟩ : ∃ x, c.items[k] = x := ⟨_, rfl⟩
        rw [hx] at hsc hcc
        have hsc' : (chkP o x && scanP (nextO o x) (c.items.drop (k + 1))) = true := hsc
        rw [Bool.and_eq_true] at hsc'
        obtain ⟨hch, hsc2⟩ := hsc'
        obtain ⟨dp, kd, nm, at_, dt⟩ := x
        have hch' : (decide (dp ≤ o.length) && !((decide (kd = 1) && nm == [112]) && visP (o.take dp))) = true := hch
        rw [Bool.and_eq_true, decide_eq_true_eq, hO.len] at hch'
        obtain ⟨hdm, hvis⟩ := hch'
        have kO : ∀ i, wr.cell? ⟨g, i, none⟩ = w3.cell? ⟨g, i, none⟩ := fun i => hO.kept.cell (p := ⟨g, i, none⟩) hgl
        obtain ⟨S, hS⟩ : ∃ S : ByteArray, (⟨nm.toArray⟩ : ByteArray) = S := ⟨_, rfl⟩
        have c0 : wr.cell? ⟨g, k * 5, none⟩ = some (.int .i64 (dp : Int)) := (kO _).trans (hcc 0 _ rfl)
        have c1 : wr.cell? ⟨g, k * 5 + 1, none⟩ = some (.int .u8 (kd : Int)) := (kO _).trans (hcc 1 _ rfl)
        have c2 : wr.cell? ⟨g, k * 5 + 2, none⟩ = some (.string S) := by rw [← hS]; exact (kO _).trans (hcc 2 _ rfl)
        have hT := hO.take dp hdm
        obtain ⟨oa', cap', w', hrun, hO'⟩ := hT.app (by omega) nm
        have hrun' : (Builtin.append_ #[28, 28] 28 #[.slice oa dp cap, .slice (some ⟨wr.heap.size, 0, none⟩) 1 1]).run Try.prog (wr.alloc (.cells #[.string S] 9)) = .ok (.slice oa' (dp + 1) cap') w' := by rw [← hS]; exact hrun
        have hSl : S.toList = nm := by rw [ByteArray.toList_eq, ← hS]
        have HO' : Hid (SOwn w3 w' oa' (dp + 1) cap' (o.take dp ++ [nm]) ∧ scanP (o.take dp ++ [nm]) (c.items.drop (k + 1)) = true) := ⟨hO', hsc2⟩
        have HT : Hid (SOwn w3 wr oa dp cap (o.take dp)) := hT
        have HSL : Hid (S.toList = nm) := hSl
        have hcp : dp ≤ cap := Nat.le_trans hdm hO.own.2.1
        have hgt : decide ((dp : Int) > (m : Int)) = false := decide_eq_false (by omega)
        have hkl : decide ((k : Int) < (n : Int)) = true := decide_eq_true (by omega)
        have hdmi : (dp : Int) ≤ (m : Int) := by omega
        have hnil : oa = none → dp = 0 := fun e => by
          have h4 := hT.own.2.2.2
          rcases h4 with ⟨_, hc0⟩ | ⟨g', cur, e', _⟩
          · omega
          · rw [e] at e'; cases e'
        have hvis' : (decide (kd = 1) && S.toList == [112]) = true → seek (isIn [[112]]) (isIn boundL) (o.take dp) = none := fun hh => by
          rw [hSl] at hh
          rw [hh] at hvis
          have : visP (o.take dp) = false := by simpa using hvis
          unfold visP at this
          cases hq : seek (isIn [[112]]) (isIn boundL) (o.take dp) with
          | none => rfl
          | some q => rw [hq] at this; cases this
        have HV : Hid ((decide (kd = 1) && S.toList == [112]) = true → seek (isIn [[112]]) (isIn boundL) (o.take dp) = none) := hvis'
        clear hsc hsc2 hch hvis hcc hx kO hS hT hO' hrun hO hvis' hSl hl
        by_cases hk1 : kd = 1
        · subst hk1
          by_cases hp : (S.toList == [112]) = true
          · have hseek : seek (isIn [[112]]) (isIn boundL) ((o.take dp).take dp) = none := by
              rw [List.take_take, Nat.min_self]
              exact HV.out (by rw [hp]; rfl)
            have HSK : Hid (seek (isIn [[112]]) (isIn boundL) ((o.take dp).take dp) = none) := hseek
            have HLO : Hid ((o.take dp).length = dp) := HT.out.len
            clear hseek HV HSL hnil
            go_upto_if 66 with fail
            go_cut [] (fun wx => wx = wr)
            case first =>
              clear c0 c1 c2 hrun' HO'
              go_wp2_with fail
              go_loopg [10] dp (fun g v wx => ∃ j : Nat, g = j ∧ j ≤ dp ∧ v = .int .i64 ((j : Int) - 1) ∧ seek (isIn [[112]]) (isIn boundL) ((o.take dp).take j) = none ∧ wx = wr)
              case atStart => exact ⟨dp, rfl, Nat.le_refl _, rfl, HSK.out, rfl⟩
              case round =>
                obtain ⟨j, hgj, hj, rfl, hsj, hwx⟩ := hrel
                subst hwx
                cases j with
                | zero =>
                  clear HSK HT HLO hsj
                  go_wp2
                  go_meet
                  case rel => rfl
                | succ j =>
                  have hjl : j < (o.take dp).length := by rw [HLO.out]; omega
                  obtain ⟨g1, hg1, cj⟩ := HT.out.cell j hjl
                  rw [seek_take _ _ _ j hjl] at hsj
                  have ei : (((j + 1 : Nat) : Int) - 1) = (j : Int) := by omega
                  rw [ei]
                  obtain ⟨Y, hY⟩ : ∃ S : ByteArray, (⟨(o.take dp)[j].toArray⟩ : ByteArray) = S := ⟨_, rfl⟩
                  have cj' : wr.cell? ⟨g1, j, none⟩ = some (.string Y) := by rw [← hY]; exact cj
                  have hYl : Y.toList = (o.take dp)[j] := by rw [ByteArray.toList_eq, ← hY]
                  rw [← hYl] at hsj
                  have hnp : (Y.toList == [112]) = false := by
                    cases hq : (Y.toList == [112]) with
                    | false => rfl
                    | true =>
                      have : isIn [[112]] Y.toList = true := by simp only [isIn, List.any_cons, hq, Bool.true_or]
                      rw [if_pos this] at hsj
                      cases hsj
                  have hnp2 : isIn [[112]] Y.toList = false := by simp [isIn, hnp]
                  rw [if_neg (by rw [hnp2]; exact Bool.false_ne_true)] at hsj
                  subst hg1
                  have HSJ : Hid ((if isIn boundL Y.toList = true then none else seek (isIn [[112]]) (isIn boundL) ((o.take dp).take j)) = none) := hsj
                  clear cj hY hYl hsj hnp2 ei hjl
                  obtain ⟨b1, hb1⟩ : ∃ b, (Y.toList == [116, 101, 109, 112, 108, 97, 116, 101]) = b := ⟨_, rfl⟩
                  obtain ⟨b2, hb2⟩ : ∃ b, (Y.toList == [98, 117, 116, 116, 111, 110]) = b := ⟨_, rfl⟩
                  obtain ⟨b3, hb3⟩ : ∃ b, (Y.toList == [111, 98, 106, 101, 99, 116]) = b := ⟨_, rfl⟩
                  cases b1 with
                  | true =>
                    clear HSK HT HLO HSJ
                    go_wp2
                    go_meet
                    case rel => rfl
                  | false =>
                    cases b2 with
                    | true =>
                      clear HSK HT HLO HSJ
                      go_wp2
                      go_meet
                      case rel => rfl
                    | false =>
                      cases b3 with
                      | true =>
                        clear HSK HT HLO HSJ
                        go_wp2
                        go_meet
                        case rel => rfl
                      | false =>
                        have hnb : isIn boundL Y.toList = false := by simp [isIn, boundL, hb1, hb2, hb3]
                        have hs3 := HSJ.out
                        rw [if_neg (by rw [hnb]; exact Bool.false_ne_true)] at hs3
                        have HS3 : Hid (seek (isIn [[112]]) (isIn boundL) ((o.take dp).take j) = none) := hs3
                        clear hnb hs3 HSJ HSK HT HLO
                        go_wp2
                        go_roundg j
                        case rel => exact ⟨j, rfl, by omega, by go_num, HS3.out, rfl⟩
                        case measure => omega
            case rest =>
              subst hcut
              clear HSK HT HLO
              go_wp2_with (at_builtin; refine wpList_appR (w' := w') rfl (.tmp 105) (.tmp 111) 28 28 rfl _ _ (.slice oa' (dp + 1) cap') rfl rfl hrun' ?_)
              go_roundg (n - (k + 1))
              case rel => exact ⟨k + 1, _, oa', dp + 1, cap', rfl, by omega, by go_num, rfl, by omega, HO'.out.2, HO'.out.1⟩
              case measure => omega
          · have hp' : (S.toList == [112]) = false := by simpa using hp
            clear HV HSL HT hnil
            go_wp2_with (at_builtin; refine wpList_appR (w' := w') rfl (.tmp 105) (.tmp 111) 28 28 rfl _ _ (.slice oa' (dp + 1) cap') rfl rfl hrun' ?_)
            go_roundg (n - (k + 1))
            case rel => exact ⟨k + 1, _, oa', dp + 1, cap', rfl, by omega, by go_num, rfl, by omega, HO'.out.2, HO'.out.1⟩
            case measure => omega
        · have q1 : ((kd : Int) == 1) = false := by
            have : (kd : Int) ≠ 1 := by omega
            simpa using this
          clear HV HSL HT hnil
          go_wp2_with (at_builtin; refine wpList_appR (w' := w') rfl (.tmp 105) (.tmp 111) 28 28 rfl _ _ (.slice oa' (dp + 1) cap') rfl rfl hrun' ?_)
          go_roundg (n - (k + 1))
          case rel => exact ⟨k + 1, _, oa', dp + 1, cap', rfl, by omega, by go_num, rfl, by omega, HO'.out.2, HO'.out.1⟩
          case measure => omega
      · have hkk : k = n := by omega
        subst hkk
        have hkl : decide ((k : Int) < (k : Int)) = false := decide_eq_false (by omega)
        have HKO : Hid (Kept (fun k => k < w3.heap.size) w3 wr) := hO.kept
        clear hsc hO HI
        go_wp2
        go_ret
        exact ⟨rfl, HK3.out.trans (HKO.out.mono fun x hx => Nat.lt_of_lt_of_le hx HK3.out.size)⟩
  · have hz' : decide ((a0.size : Int) > 1500) = true := decide_eq_true (by omega)
    go_enter Try.func6, Try.ntmps6
    go_wp2_with fail
    refine rk.mono ?_
    rintro e w1 ⟨rfl, k1⟩
    clear rk
    go_wp2
    go_ret
    exact ⟨rfl, k1⟩
end Go.Proofs.Ytffllhohlfblnab
