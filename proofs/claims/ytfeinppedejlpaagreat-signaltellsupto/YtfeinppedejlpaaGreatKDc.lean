/-
  The document's own Board: See, Pending, Take.
-/
import Derived.Test.YtfeinppedejlpaaGreatKDb
import Derived.Test.YtfeinppedejlpaaGreatKFa
namespace Go.Proofs.YtfeinppedejlpaaGreat
set_option maxRecDepth 100000
open Go.RowKit
set_option linter.unusedVariables false
set_option maxRecDepth 20000
set_option maxHeartbeats 4000000
theorem zj5 {E : Nat -> Prop} {w : World} {b m : Nat} {kn : Nat -> List Nat} {pd : List Nat} (h : DBo E w b m kn pd) (hp : pd.length <= 100000) :
  Calls Tryz.prog 37 #[.pointer (some ⟨b, 0, none⟩)] w (Lst w pd) := by
 obtain ⟨lp, lc, c1, hI⟩ := h.row
 obtain ⟨pl, hpl⟩ : ∃ pl, pd.length = pl := ⟨_, rfl⟩
 rw [hpl] at c1 hp
 obtain ⟨ao', c', w', hrun, hR⟩ := zk5 lc (N := w.heap.size) (hI.to (fun g hg => h.lt g hg.1) (fun _ _ => rfl)) hpl hp
 have HR : Hid (Lst w pd (.returned (.slice ao' pl c')) w') := hR
 clear h hI hR hpl
 go_enter Tryz.func37, Tryz.ntmps37
 go_wp2_with (at_builtin; refine zae (w' := w') rfl (.tmp 4) (.tmp 8) 33 33 rfl _ _ (.slice ao' pl c') rfl rfl hrun ?_)
 go_ret
 exact HR.out
theorem zod {E : Nat -> Prop} {w : World} {b m : Nat} {kn : Nat -> List Nat} {pd : List Nat} (h : DBo E w b m kn pd) :
  Calls Tryz.prog 35 #[.pointer (some ⟨b, 0, none⟩)] w fun e w' => (∃ lp lc, e = .returned (.slice lp pd.length lc) /\ Zad (fun k => k < w'.heap.size) w' lp pd) /\ DBo E w' b m kn [] /\ Kept (fun k => k < w.heap.size /\ ¬ E k) w w' := by
 obtain ⟨lp, lc, c1, hI⟩ := h.row
 obtain ⟨f1, hN, hk⟩ := h.clear
 obtain ⟨pl, hpl⟩ : ∃ pl, pd.length = pl := ⟨_, rfl⟩
 rw [hpl] at c1
 obtain ⟨W, hW⟩ : ∃ W, w.setCell ⟨b, 1, none⟩ (.slice none 0 0) = W := ⟨_, rfl⟩
 rw [hW] at hN hk
 have HR : Hid ((∃ lp' lc', Ending.returned (.slice lp pl lc) = .returned (.slice lp' pd.length lc') /\ Zad (fun k => k < W.heap.size) W lp' pd) /\ DBo E W b m kn [] /\ Kept (fun k => k < w.heap.size /\ ¬ E k) w W) :=
  ⟨⟨lp, lc, by rw [hpl], hI.to (fun g hg => ltl (h.lt g hg.1) hk.size) (fun g hg => hk.block g hg.2)⟩, hN, hk.mono fun k hk' e => hk'.2 (e ▸ h.eb)⟩
 have HW : Hid (w.setCell ⟨b, 1, none⟩ (.slice none 0 0) = W) := hW
 clear h hI hN hk hpl hW
 go_enter Tryz.func35, Tryz.ntmps35
 go_wp2
 go_ret
 first | exact HR.out | (rw [HW.out]; exact HR.out)
theorem zta {asg kn : Nat -> List Nat} (i : Nat) : zck asg kn i i = kn i := by unfold zck; rw [if_neg (Nat.lt_irrefl _)]
theorem zp0 {E : Nat -> Prop} {w : World} {b m r mn : Nat} {kn asg : Nat -> List Nat} {pd : List Nat} (h : DBo E w b m kn pd) (hmn : mn <= 90000) (hm : m <= 90000) (hp : pd.length + mn <= 90000) (hkn : ∀ i, (kn i).length <= 1000000) (hasg : ∀ i, i < mn -> (asg i).length <= 90000)
  (hA : ∀ X E', Gr E E' w X -> (∀ k, E' k -> k < X.heap.size) -> (∃ g nc, X.cell? ⟨r, 1, none⟩ = some (.slice g mn nc)) /\ ∀ i, i < mn -> Calls Tryz.prog 20 #[.pointer (some ⟨r, 0, none⟩), .int .i64 (i : Int)] X (Lst X (asg i))) :
  Calls Tryz.prog 33 #[.pointer (some ⟨b, 0, none⟩), .pointer (some ⟨r, 0, none⟩)] w fun e w' => e = .returned (.tuple #[]) /\ ∃ E' m', DBo E' w' b m' (zck asg kn mn) (seeP asg kn pd mn) /\ m' <= 90000 /\ Gr E E' w w' := by
 have HB : Hid (DBo E w b m kn pd) := h
 have HA : Hid (∀ X E', Gr E E' w X -> (∀ k, E' k -> k < X.heap.size) -> (∃ g nc, X.cell? ⟨r, 1, none⟩ = some (.slice g mn nc)) /\ ∀ i, i < mn -> Calls Tryz.prog 20 #[.pointer (some ⟨r, 0, none⟩), .int .i64 (i : Int)] X (Lst X (asg i))) := hA
 have HKN : Hid (∀ i, (kn i).length <= 1000000) := hkn
 have HASG : Hid (∀ i, i < mn -> (asg i).length <= 90000) := hasg
 clear h hA hkn hasg
 go_enter Tryz.func33, Tryz.ntmps33
 go_upto_region 1 with fail
 go_loopg [4] mn (fun gh v wr => ∃ (i m' : Nat) (E' : Nat -> Prop), gh = mn - i /\ i <= mn /\ i <= m' /\ m' <= 90000 /\ v = .int .i64 (i : Int) /\ DBo E' wr b m' (zck asg kn i) (seeP asg kn pd i) /\ Gr E E' w wr)
 case atStart => exact ⟨0, m, E, rfl, Nat.zero_le _, Nat.zero_le _, hm, rfl, HB.out, Gr.refl _ _⟩
 case round =>
  clear HB hm
  obtain ⟨i, m1, E1, hgi, hi, him, hm1, rfl, hb, hg⟩ := hrel
  have HBI : Hid (DBo E1 wr b m1 (zck asg kn i) (seeP asg kn pd i)) := hb
  have HG : Hid (Gr E E1 w wr) := hg
  have HPL : Hid ((seeP asg kn pd i).length <= 90000) := by
   have := zif asg kn pd i
   have h : (seeP asg kn pd i).length <= 90000 := by omega
   exact h
  obtain ⟨⟨g0, nc, c1⟩, -⟩ := HA.out wr E1 hg hb.lt
  by_cases hlt : i < mn
  ·obtain ⟨kp, kc, c2⟩ := hb.len
   clear hb hg
   go_upto_if 23 with fail
   go_cut [] (fun wx => ∃ (m2 : Nat) (E2 : Nat -> Prop), i < m2 /\ m2 <= 90000 /\ DBo E2 wx b m2 (zck asg kn i) (seeP asg kn pd i) /\ Gr E E2 w wx)
   case first =>
    by_cases him2 : i < m1
    ·have i1 : decide (m1 <= i) = false := decide_eq_false (by omega)
     try rw [i1]
     go_wp2_with fail
     go_meet
     case rel => exact ⟨m1, E1, him2, hm1, HBI.out, HG.out⟩
    ·have i1 : decide (m1 <= i) = true := decide_eq_true (by omega)
     try rw [i1]
     obtain ⟨kp, kc, kp', kc', w1, d1, hrun, d2, d3, E2, hB2, hG2⟩ := HBI.out.grow (by omega)
     have HB2 : Hid (DBo E2 (w1.setCell ⟨b, 0, none⟩ (.slice kp' (m1 + 1) kc')) b (m1 + 1) (zck asg kn i) (seeP asg kn pd i)) := hB2
     have HG2 : Hid (Gr E E2 w (w1.setCell ⟨b, 0, none⟩ (.slice kp' (m1 + 1) kc'))) := HG.out.trans hG2
     clear hB2 hG2 c2 c1
     go_wp2_with (at_builtin; refine zae (w' := w1) rfl (.tmp 28) (.tmp 29) 95 95 rfl _ _ (.slice kp' (m1 + 1) kc') rfl rfl hrun ?_)
     go_meet
     case rel => exact ⟨m1 + 1, E2, by omega, by omega, HB2.out, HG2.out⟩
   case rest =>
    clear HBI HG c1 c2 him hm1
    obtain ⟨m2, E2, him, hm2, hb, hg⟩ := hcut
    have HBI : Hid (DBo E2 wc b m2 (zck asg kn i) (seeP asg kn pd i)) := hb
    have HG : Hid (Gr E E2 w wc) := hg
    have ra := (HA.out wc E2 hg hb.lt).2 i hlt
    have hal := HASG.out i hlt
    obtain ⟨q, hq⟩ : ∃ q, (asg i).length = q := ⟨_, rfl⟩
    have HQ : Hid ((asg i).length = q) := hq
    rw [hq] at hal
    clear hb hg hq
    go_wp2_with fail
    refine ra.mono ?_
    rintro e v1 ⟨a, ac, rfl, hO, k1⟩
    rw [HQ.out]
    have HB1 : Hid (DBo E2 v1 b m2 (zck asg kn i) (seeP asg kn pd i)) := HBI.out.keptA k1
    have HROW : Hid (∀ g, zaf a g -> ¬ E2 g /\ g < v1.heap.size) := fun g hg => ⟨fun he => (hO.out hg).1 (HBI.out.lt g he), (hO.out hg).2⟩
    have HNEW : Hid (∀ g, zaf a g -> w.heap.size <= g) := fun g hg => Nat.le_trans HG.out.kept.size (Nat.le_of_not_lt (hO.out hg).1)
    have HINT : Hid (Zad (fun g => zaf a g) v1 a (asg i)) := hO.intsAt fun g hg => hg
    have HG1 : Hid (Gr E E2 w v1) := HG.out.trans (Gr.any k1)
    obtain ⟨kb, kc, ka, kcc, d1, d2, -, hKI, -, -⟩ := HB1.out.put him HQ.out (cc := ac) HROW.out HINT.out
    rw [zta] at d2 hKI
    obtain ⟨q2, hq2⟩ : ∃ q2, (kn i).length = q2 := ⟨_, rfl⟩
    have hq2b : q2 <= 1000000 := by rw [<- hq2]; exact HKN.out i
    rw [hq2] at d2
    have re := zby (asg i) (kn i) a ka q q2 ac kcc HQ.out hq2 (by omega) (by omega) v1 (HINT.out.to (fun g hg => (HROW.out g hg).2) (fun _ _ => rfl)) hKI
    clear ra hO k1 hKI hq2 HBI HG
    go_wp2_with fail
    refine re.mono ?_
    rintro e v2 ⟨rfl, k2⟩
    have HB2 : Hid (DBo E2 v2 b m2 (zck asg kn i) (seeP asg kn pd i)) := HB1.out.keptA k2
    have HG2 : Hid (Gr E E2 w v2) := HG1.out.trans (Gr.any k2)
    by_cases heq : asg i = kn i
    ·rw [decide_eq_true heq]
     have HS : Hid (zck asg kn (i + 1) = zck asg kn i /\ seeP asg kn pd (i + 1) = seeP asg kn pd i) := ⟨zjf heq, by show (if asg i = kn i then _ else _) = _; rw [if_pos heq]⟩
     clear re k2 heq d1 d2 HB1 HG1 HROW HINT
     go_wp2
     go_roundg (mn - (i + 1))
     case rel => exact ⟨i + 1, m2, E2, rfl, by omega, by omega, hm2, by go_num, by rw [HS.out.1, HS.out.2]; exact HB2.out, HG2.out⟩
     case measure => omega
    ·rw [decide_eq_false heq]
     have HS : Hid (seeP asg kn pd (i + 1) = mkP (seeP asg kn pd i) i) := by
      have h : seeP asg kn pd (i + 1) = mkP (seeP asg kn pd i) i := by show (if asg i = kn i then _ else _) = _; rw [if_neg heq]
      exact h
     have HROW2 : Hid (∀ g, zaf a g -> ¬ E2 g /\ g < v2.heap.size) := fun g hg => ⟨(HROW.out g hg).1, ltl (HROW.out g hg).2 k2.size⟩
     obtain ⟨kb, kc, ka, kcc, e1, e2, e3, -, hB3, k3⟩ := HB2.out.put him HQ.out (cc := ac) HROW2.out (HINT.out.to (fun g hg => hg) (fun g hg => k2.block g (HROW.out g hg).2))
     rw [zlw] at hB3
     obtain ⟨V, hV⟩ : ∃ V, v2.setCell ⟨kb, i, none⟩ (.slice a q ac) = V := ⟨_, rfl⟩
     rw [hV] at hB3 k3
     have HV : Hid (v2.setCell ⟨kb, i, none⟩ (.slice a q ac) = V) := hV
     have HB3 : Hid (DBo (fun k => E2 k \/ zaf a k) V b m2 (zck asg kn (i + 1)) (seeP asg kn pd i)) := hB3
     have HG3 : Hid (Gr E (fun k => E2 k \/ zaf a k) w V) := ⟨fun k hk => .inl (HG2.out.sub k hk), fun k hk => by
      rcases hk with hk | hk
      ·exact HG2.out.new k hk
      ·exact .inr (HNEW.out k hk), HG2.out.kept.trans (k3.mono fun k hk => ⟨ltl hk.1 HG2.out.kept.size, fun he => by
      rcases HG2.out.new k he with h | h
      ·exact hk.2 h
      ·omega⟩)⟩
     obtain ⟨lp, lc, f1, hPI⟩ := hB3.row
     obtain ⟨P, hP⟩ : ∃ P, seeP asg kn pd i = P := ⟨_, rfl⟩
     rw [hP] at HS HB3 HPL f1 hPI
     obtain ⟨pl, hpl⟩ : ∃ pl, P.length = pl := ⟨_, rfl⟩
     have HPP : Hid (P.length = pl) := hpl
     have hpl9 : pl <= 90000 := by rw [<- hpl]; exact HPL.out
     rw [hpl] at f1
     have HPI : Hid (Zad (fun k => (E2 k \/ zaf a k) /\ k ≠ b) V lp P) := hPI
     have hi9 : i <= 90000 := by omega
     clear re k2 heq d1 d2 HB1 HG1 HROW HINT HROW2 hB3 k3 hV HB2 HG2 hPI hP hpl HPL HNEW
     go_upto_region 8 with fail
     rw [HV.out]
     clear e1 e2 e3 HV
     go_upto_region 10 with fail
     go_loopg [6, 7] pl (fun gh v6 v7 wr => ∃ j : Nat, gh = pl - j /\ j <= pl /\ v7 = .int .i64 (j : Int) /\ v6 = .bool (decide (i ∈ P.take j)) /\ wr = V)
     case atStart => exact ⟨0, rfl, Nat.zero_le _, rfl, rfl, rfl⟩
     case round =>
      obtain ⟨j, hgj, hj, rfl, rfl, hw⟩ := hrel
      replace hw := hw.symm
      subst hw
      by_cases hjl : j < pl
      ·have hjP : j < P.length := by rw [HPP.out]; exact hjl
       obtain ⟨gq, o, rfl, -, dq⟩ := HPI.out j hjP
       have htk : P.take (j + 1) = P.take j ++ [P[j]] := List.take_succ_eq_append_getElem hjP
       obtain ⟨x, hx⟩ : ∃ x, P[j] = x := ⟨_, rfl⟩
       rw [hx] at dq htk
       obtain ⟨t, ht⟩ : ∃ t, decide (i ∈ P.take j) = t := ⟨_, rfl⟩
       rw [ht]
       cases t with
       | true =>
        have HT : Hid (decide (i ∈ P.take (j + 1)) = true) := by
         rw [htk]
         exact decide_eq_true (List.mem_append.2 (.inl (of_decide_eq_true ht)))
        clear htk hx ht dq hjP
        go_wp2
        go_roundg (pl - (j + 1))
        case rel => exact ⟨j + 1, rfl, by omega, by go_num, by rw [HT.out], rfl⟩
        case measure => omega
       | false =>
        obtain ⟨t2, ht2⟩ : ∃ t2, ((x : Int) == (i : Int)) = t2 := ⟨_, rfl⟩
        have hT : decide (i ∈ P.take (j + 1)) = t2 := by
         rw [htk, <- ht2]
         have hn : i ∉ P.take j := of_decide_eq_false ht
         by_cases hxi : x = i
         ·subst hxi
          rw [decide_eq_true (List.mem_append.2 (.inr (List.mem_singleton.2 rfl)))]
          simp
         ·rw [decide_eq_false (fun hh => by
           rcases List.mem_append.1 hh with h | h
           ·exact hn h
           ·exact hxi (List.mem_singleton.1 h).symm)]
          have h2 : ((x : Int) == (i : Int)) = false := by simp; omega
          exact h2.symm
        have HT : Hid (decide (i ∈ P.take (j + 1)) = t2) := hT
        clear hT
        clear htk hx ht hjP
        go_wp2
        go_roundg (pl - (j + 1))
        case rel => exact ⟨j + 1, rfl, by omega, by go_num, by rw [HT.out], rfl⟩
        case measure => omega
      ·have hjn : j = pl := by omega
       subst hjn
       have hall : P.take j = P := List.take_of_length_le (by rw [HPP.out]; exact Nat.le_refl _)
       rw [hall]
       by_cases hin : i ∈ P
       ·rw [decide_eq_true hin]
        have HM : Hid (mkP P i = P) := by unfold mkP; rw [if_pos hin]; exact rfl
        clear hall hin
        go_wp2
        go_roundg (mn - (i + 1))
        case rel => exact ⟨i + 1, m2, _, rfl, by omega, by omega, hm2, by go_num, by rw [HS.out, HM.out]; exact HB3.out, HG3.out⟩
        case measure => omega
       ·rw [decide_eq_false hin]
        have HM : Hid (mkP P i = P ++ [i]) := by unfold mkP; rw [if_neg hin]; exact rfl
        obtain ⟨lp2, lc2, lp', lc', w1, g1, hrun, g2, g3, E4, hB4, hG4⟩ := HB3.out.add (by rw [HPP.out]; omega) i
        rw [HPP.out] at g1 hrun g2 hB4 hG4
        have HB4 : Hid (DBo E4 (w1.setCell ⟨b, 1, none⟩ (.slice lp' (j + 1) lc')) b m2 (zck asg kn (i + 1)) (P ++ [i])) := hB4
        have HG4 : Hid (Gr E E4 w (w1.setCell ⟨b, 1, none⟩ (.slice lp' (j + 1) lc'))) := HG3.out.trans hG4
        clear hall hin hB4 hG4 f1
        go_wp2_with (at_builtin; refine zae (w' := w1) rfl (.tmp 79) (.tmp 81) 33 33 rfl _ _ (.slice lp' (j + 1) lc') rfl rfl hrun ?_)
        go_roundg (mn - (i + 1))
        case rel => exact ⟨i + 1, m2, E4, rfl, by omega, by omega, hm2, by go_num, by rw [HS.out, HM.out]; exact HB4.out, HG4.out⟩
        case measure => omega
  ·have hin : i = mn := by omega
   have HE : Hid (∃ E' m', DBo E' wr b m' (zck asg kn mn) (seeP asg kn pd mn) /\ m' <= 90000 /\ Gr E E' w wr) := by
    rw [hin] at HBI
    exact ⟨E1, m1, HBI.out, hm1, HG.out⟩
   clear hin hb hg
   go_wp2
   go_end0
   exact ⟨rfl, HE.out⟩
end Go.Proofs.YtfeinppedejlpaaGreat
