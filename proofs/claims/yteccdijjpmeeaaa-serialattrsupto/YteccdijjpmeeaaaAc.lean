/-
  The walk of SerialAttrs, to its end.
-/
import Derived.Test.YteccdijjpmeeaaaAb
namespace Go.Proofs.Yteccdijjpmeeaaa
open Go.RowKit
set_option linter.unusedVariables false
set_option maxRecDepth 100000
set_option maxHeartbeats 8000000
def sumT (l : List ByteArray) (j : Nat) : Nat := ((l.take j).map fun s => s.size).sum
theorem sumT_succ (l : List ByteArray) (j : Nat) (h : j < l.length) : sumT l (j + 1) = sumT l j + l[j].size := by
  unfold sumT; rw [List.take_succ_eq_append_getElem h, List.map_append, List.sum_append]; simp
theorem sumT_le (l : List ByteArray) : ∀ j, sumT l j ≤ totT l := by
  induction l with
  | nil => intro j; simp [sumT]
  | cons a l ih =>
    intro j
    cases j with
    | zero => simp [sumT]
    | succ j =>
      have := ih j
      unfold sumT totT at *
      simp only [List.take_succ_cons, List.map_cons, List.sum_cons] at *
      omega
theorem totT_len (l : List ByteArray) : l.length ≤ totT l := by
  induction l with
  | nil => simp
  | cons a l ih => unfold totT at *; simp only [List.map_cons, List.sum_cons, List.length_cons]; omega
theorem size_le_sum (l : List ByteArray) : ∀ i (h : i < l.length), l[i].size ≤ sumT l l.length := by
  induction l with
  | nil => intro i h; cases h
  | cons a l ih =>
    intro i h
    unfold sumT at *
    simp only [List.take_length, List.map_cons, List.sum_cons] at *
    cases i with
    | zero => simp
    | succ i => have := ih i (by simpa using h); simp only [List.getElem_cons_succ]; omega
theorem attrs_go (l : List ByteArray) (n : Nat) (hn : l.length = n) (hb : totT l ≤ 1048576) (a : Option Addr) (c : Nat) (w : World) (hr : RowT w a l) :
    Calls Try.prog 4 #[.slice a n c] w fun e w' => e = .returned (.bool true) ∧ Kept (fun k => k < w.heap.size) w w' := by
  have hnt := totT_len l
  have HR : Hid (RowT w a l) := hr
  have HN : Hid (l.length = n) := hn
  have HB : Hid (totT l ≤ 1048576) := hb
  have hnb : n ≤ 1048576 := by omega
  have RR : Hid (∀ X, Kept (fun k => k < w.heap.size) w X → ∀ j (h : j < l.length), ∃ g o, a = some ⟨g, o, none⟩ ∧ X.cell? ⟨g, o + j, none⟩ = some (.string l[j])) := fun X hX j h => by
    obtain ⟨g, o, e, hg, hc⟩ := HR.out j h
    exact ⟨g, o, e, (hX.cell (p := ⟨g, o + j, none⟩) hg).trans hc⟩
  clear hr hn hb hnt
  go_enter Try.func4, Try.ntmps4
  go_wp2_with fail
  go_loopg [3, 4] n (fun gm vn vi wr => ∃ j : Nat, gm = n - j ∧ j ≤ n ∧ vi = .int .i64 j ∧ vn = .int .i64 (sumT l j : Int) ∧ wr = w)
  case atStart => exact ⟨0, rfl, Nat.zero_le _, rfl, rfl, rfl⟩
  case round =>
    obtain ⟨j, hg, hj, rfl, rfl, rfl⟩ := hrel
    by_cases hlt : j < n
    · have hjl : j < l.length := by rw [HN.out]; exact hlt
      obtain ⟨g, o, ha, hc⟩ := RR.out wr (Kept.refl _ _) j hjl
      subst ha
      have hs := sumT_succ l j hjl
      have hle := Nat.le_trans (sumT_le l (j + 1)) HB.out
      obtain ⟨s, hsj⟩ : ∃ s, l[j] = s := ⟨_, rfl⟩
      rw [hsj] at hc hs
      obtain ⟨t0, ht0⟩ : ∃ t, sumT l j = t := ⟨_, rfl⟩
      rw [ht0] at hs ⊢
      have HS : Hid (sumT l (j + 1) = t0 + s.size) := hs
      have hts : t0 + s.size ≤ 1048576 := by omega
      clear hs hle hsj ht0
      go_wp2
      go_roundg (n - (j + 1))
      case rel => exact ⟨j + 1, rfl, by omega, by go_num, by rw [HS.out]; go_num, rfl⟩
      case measure => omega
    · obtain ⟨wb, hwb⟩ : ∃ X, X = wr := ⟨_, rfl⟩
      subst hwb
      obtain ⟨jz, hjz⟩ : ∃ x, x = j := ⟨_, rfl⟩
      subst hjz
      have hjn : jz = n := by omega
      have hnl : ¬ jz < n := hlt
      obtain ⟨tn, htn⟩ : ∃ t, sumT l jz = t := ⟨_, rfl⟩
      have htot : tn ≤ 1048576 := by rw [← htn]; exact Nat.le_trans (sumT_le l jz) HB.out
      have HTN : Hid (sumT l l.length = tn) := by show sumT l l.length = tn; rw [← htn, HN.out, hjn]
      rw [htn]
      have r0 := new_yes 20 wb (by decide) (by decide)
      clear htn hjn
      by_cases hbig : 2000 < tn
      · have e1 : decide ((tn : Int) > 2000) = true := decide_eq_true (by omega)
        go_wp2_with fail
        refine r0.mono ?_
        rintro e w1 ⟨p, rfl, hp, hX1, hK1⟩
        have rk := known_any w1
        have HK1 : Hid (Kept (fun k => k < wb.heap.size) wb w1) := hK1
        clear r0 hX1 hK1 hp
        go_wp2_with fail
        refine rk.mono ?_
        rintro e w2 ⟨rfl, hK2⟩
        have HK2 : Hid (Kept (fun k => k < wb.heap.size) wb w2) := HK1.out.trans (hK2.mono fun k h => Nat.lt_of_lt_of_le h HK1.out.size)
        clear rk hK2 HK1
        go_wp2
        go_ret
        exact ⟨rfl, HK2.out⟩
      · have e1 : decide ((tn : Int) > 2000) = false := decide_eq_false (by omega)
        by_cases hmany : 40 < n
        · have e2 : decide ((n : Int) > 40) = true := decide_eq_true (by omega)
          go_wp2_with fail
          refine r0.mono ?_
          rintro e w1 ⟨p, rfl, hp, hX1, hK1⟩
          have rk := known_any w1
          have HK1 : Hid (Kept (fun k => k < wb.heap.size) wb w1) := hK1
          clear r0 hX1 hK1 hp
          go_wp2_with fail
          refine rk.mono ?_
          rintro e w2 ⟨rfl, hK2⟩
          have HK2 : Hid (Kept (fun k => k < wb.heap.size) wb w2) := HK1.out.trans (hK2.mono fun k h => Nat.lt_of_lt_of_le h HK1.out.size)
          clear rk hK2 HK1
          go_wp2
          go_ret
          exact ⟨rfl, HK2.out⟩
        · have e2 : decide ((n : Int) > 40) = false := decide_eq_false (by omega)
          have hsz : ∀ i, i < 40 → (l.getD i ⟨#[]⟩).size ≤ 2000 := fun i hi => by
            by_cases c : i < l.length
            · rw [List.getD_eq_getElem?_getD, List.getElem?_eq_getElem c, Option.getD_some]
              have := size_le_sum l i c
              rw [HTN.out] at this
              omega
            · rw [List.getD_eq_getElem?_getD, List.getElem?_eq_none (by omega)]; exact Nat.zero_le _
          have HSZ : Hid _ := hsz
          clear hsz HTN
          go_wp2_with fail
          refine r0.mono ?_
          rintro e w1 ⟨p, rfl, hp, hX1, hK1⟩
          have r1 := (Dq.start (by decide) (by decide) hX1).makeA 1 ⟨#[98, 114]⟩ ⟨#[]⟩ [] none 0 0 rest0 [98, 114] [] (by rw [ByteArray.toList_eq]) (by rw [ByteArray.toList_eq]) rfl (by decide) (AtsAt.nil _ _ _) (by decide) (by decide +kernel) (by decide) rfl (by decide) (by decide)
          have HK1 : Hid (Kept (fun k => k < wb.heap.size) wb w1) := hK1
          clear r0 hX1 hK1 hp
          go_wp2_with fail
          refine r1.mono ?_
          rintro e w2 ⟨rfl, s2, hK2⟩
          have HS2 : Hid (Dq 20 (fun k => k < wb.heap.size) w2 p (xB (atA l 0)) (fun _ => [])) := s2
          have HK2 : Hid (Kept (fun k => k < wb.heap.size) wb w2) := HK1.out.trans hK2
          clear r1 s2 hK2 HK1 e1 e2
          go_upto_region 11 with fail
          go_wp2_with fail
          go_loopg [6, 7] n (fun gm vw vi wz => ∃ j : Nat, gm = n - j ∧ j ≤ n ∧ vi = .int .i64 j ∧ vw = .string ⟨(wA l j).toArray⟩ ∧ Dq 20 (fun k => k < wb.heap.size) wz p (xB (atA l j)) (fun _ => []) ∧ Kept (fun k => k < wb.heap.size) wb wz)
          case atStart => exact ⟨0, rfl, Nat.zero_le _, rfl, rfl, HS2.out, HK2.out⟩
          case round =>
            obtain ⟨j, hg2, hj2, rfl, rfl, hS, hK⟩ := hrel
            clear HS2 HK2
            obtain ⟨wq, hwq⟩ : ∃ X, X = wr := ⟨_, rfl⟩
            subst hwq
            obtain ⟨jq, hjq⟩ : ∃ x, x = j := ⟨_, rfl⟩
            subst hjq
            have hwl := wA_len HSZ.out jq (by omega)
            by_cases hlt2 : jq < n
            · have hjl : jq < l.length := by rw [HN.out]; exact hlt2
              obtain ⟨s, hsj⟩ : ∃ s, l[jq] = s := ⟨_, rfl⟩
              have hgd : l.getD jq ⟨#[]⟩ = s := by rw [List.getD_eq_getElem?_getD, List.getElem?_eq_getElem hjl, Option.getD_some]; exact hsj
              have hs2000 := HSZ.out jq (by omega)
              rw [hgd] at hs2000
              obtain ⟨g, o, ha, hc0⟩ := RR.out wq hK jq hjl
              have CC : Hid (∀ X, Kept (fun k => k < wb.heap.size) wb X → X.cell? ⟨g, o + jq, none⟩ = some (.string s)) := fun X hX => by
                obtain ⟨g', o', ha', hc'⟩ := RR.out X hX jq hjl
                rw [ha] at ha'
                injection ha' with ha'
                injection ha' with e1 e2
                subst e1
                subst e2
                rw [← hsj]; exact hc'
              subst ha
              rw [hsj] at hc0
              have HGD : Hid (l.getD jq ⟨#[]⟩ = s) := hgd
              have HSS : Hid (Dq 20 (fun k => k < wb.heap.size) wq p (xB (atA l jq)) (fun _ => [])) := hS
              have HKQ : Hid (Kept (fun k => k < wb.heap.size) wb wq) := hK
              have hcv := fun (X : World) (n : Int) => conv_new X n X.heap.size rfl
              obtain ⟨WS, hWS⟩ : ∃ b : ByteArray, ⟨(wA l jq).toArray⟩ = b := ⟨_, rfl⟩
              have HWS : Hid ((⟨(wA l jq).toArray⟩ : ByteArray) = WS) := hWS
              have hwsz : WS.size ≤ 200000 := by rw [← hWS]; show (wA l jq).length ≤ 200000; omega
              rw [hWS]
              clear hsj hgd hS hK hWS hwl
              go_upto_region 15 with fail
              go_wp2_with fail
              go_loopg [8, 9] s.size (fun gm vv vk wi => ∃ k : Nat, gm = s.size - k ∧ k ≤ s.size ∧ vk = .int .i64 k ∧ vv = .string ⟨(leL (s.data.toList.take k)).toArray⟩ ∧ Kept (fun x => x < wq.heap.size) wq wi)
              case atStart => exact ⟨0, rfl, Nat.zero_le _, rfl, rfl, Kept.refl _ _⟩
              case round =>
                obtain ⟨k, hg3, hk3, rfl, rfl, hKi⟩ := hrel
                obtain ⟨wi, hwi⟩ : ∃ X, X = wr := ⟨_, rfl⟩
                subst hwi
                have hci := CC.out wi (HKQ.out.trans (hKi.mono fun x h => Nat.lt_of_lt_of_le h HKQ.out.size))
                have hpl : (leL (s.data.toList.take k)).length ≤ 2000 := by
                  unfold leL
                  rw [List.length_map, List.length_take]
                  omega
                obtain ⟨tl, htl⟩ : ∃ tl, leL (s.data.toList.take k) = tl := ⟨_, rfl⟩
                have HT : Hid (leL (s.data.toList.take k) = tl) := htl
                rw [htl] at hpl ⊢
                clear htl hc0
                by_cases hlt3 : k < s.size
                · have HS3 : Hid (leL (s.data.toList.take (k + 1)) = tl ++ [97 + UInt8.ofNat (s[k].toNat % 26)]) := by
                    have h1 : k < s.data.toList.length := hlt3
                    show leL _ = _
                    rw [List.take_succ_eq_append_getElem h1, leL_snoc, HT.out, leB_eq]
                    rfl
                  have HKA : Hid (∀ ob, Kept (fun x => x < wq.heap.size) wq (wi.alloc ob)) := fun ob => hKi.alloc (fun x h => Nat.lt_of_lt_of_le h hKi.size) ob
                  clear HT hKi
                  go_wp2
                  go_roundg (s.size - (k + 1))
                  case rel => exact ⟨k + 1, rfl, by omega, by go_num, by rw [HS3.out]; exact congrArg Value.string (ByteArray.mk_append_mk tl [_]), HKA.out _⟩
                  case measure => omega
                · have hks : k = s.size := by omega
                  have ev : tl = leL s.data.toList := by rw [← HT.out, hks]; rw [show s.data.toList.take s.size = s.data.toList from List.take_length]
                  have HKI : Hid (Kept (fun x => x < wq.heap.size) wq wi) := hKi
                  have HEV : Hid (tl = leL s.data.toList) := ev
                  clear HT hKi ev hks hcv
                  obtain ⟨a26, ha26⟩ : ∃ x, jq % 26 = x := ⟨_, rfl⟩
                  obtain ⟨b26, hb26⟩ : ∃ x, jq / 26 = x := ⟨_, rfl⟩
                  have q1 : (jq : Int) % 26 = (a26 : Int) := by omega
                  have q1' : (jq : Int).tmod 26 = (a26 : Int) := by rw [← ha26]; rfl
                  have q2 : (jq : Int) / 26 = (b26 : Int) := by omega
                  have q2' : (jq : Int).tdiv 26 = (b26 : Int) := by rw [← hb26]; rfl
                  have la : a26 < 26 := by omega
                  have lb : b26 < 2 := by omega
                  have hcv2 := fun (X : World) (n m : Int) => conv_new2 X n m X.heap.size rfl
                  go_upto_region 20 with fail
                  obtain ⟨NB, hNB⟩ : ∃ b : ByteArray, (⟨#[107]⟩ : ByteArray) ++ ⟨#[97 + UInt8.ofNat a26, 97 + UInt8.ofNat b26]⟩ = b := ⟨_, rfl⟩
                  have hNBl : NB.toList = nmA jq := by
                    have u : ∀ x, x < 26 → UInt8.ofNat (97 + x) = 97 + UInt8.ofNat x := by decide
                    rw [← hNB, ByteArray.toList_eq, ByteArray.data_append, Array.toList_append]
                    unfold nmA
                    rw [ha26, hb26, u a26 la, u b26 (by omega)]
                    rfl
                  have hNBs : NB.size = 3 := by
                    have : NB.toList.length = NB.size := by rw [ByteArray.toList_eq]; rfl
                    rw [← this, hNBl]; rfl
                  rw [hNB]
                  obtain ⟨VB, hVB⟩ : ∃ b : ByteArray, ⟨tl.toArray⟩ = b := ⟨_, rfl⟩
                  have hVBl : VB.toList = leL s.data.toList := by rw [← hVB, ByteArray.toList_eq]; exact HEV.out
                  have hVBs : VB.size ≤ 2000 := by rw [← hVB]; exact hpl
                  rw [hVB]
                  have hWS' : WS.toList = wA l jq := by rw [← HWS.out, ByteArray.toList_eq]
                  have HNW : Hid (WS ++ ⟨#[32]⟩ ++ NB ++ ⟨#[61, 34]⟩ ++ VB ++ ⟨#[34]⟩ = ⟨(wA l (jq + 1)).toArray⟩) := by
                    show WS ++ ⟨#[32]⟩ ++ NB ++ ⟨#[61, 34]⟩ ++ VB ++ ⟨#[34]⟩ = _
                    rw [wA_succ, HGD.out, ← hWS', ← hNBl, ← hVBl]
                    apply ByteArray.ext
                    simp only [ByteArray.data_append, ByteArray.toList_eq]
                    simp
                  obtain ⟨wj, Nj, hwj, hNj, hbj, hkj, hzj⟩ := alloc_bx wi #[.int .u8 (97 + (a26 : Int)), .int .u8 (97 + (b26 : Int))] 5
                  have hkq : Kept (fun x => x < wq.heap.size) wq wj := HKI.out.trans (hkj.mono fun x h => Nat.lt_of_lt_of_le h HKI.out.size)
                  have rs := bSet HSZ.out (by omega) (HSS.out.kept hkq) NB VB hNBl (by rw [HGD.out]; exact hVBl)
                  have HKJ : Hid (Kept (fun k => k < wb.heap.size) wb wj) := HKQ.out.trans (hkq.mono fun x h => Nat.lt_of_lt_of_le h HKQ.out.size)
                  rw [hwj]
                  clear q1 q1' q2 q2' la lb hcv2 ha26 hb26 hNB hNBl hVB hVBl hWS' hwj hNj hbj hkj hzj hkq HKI HEV hci hpl hlt3 HWS HSS HKQ
                  go_wp2_with fail
                  refine rs.mono ?_
                  rintro e wk ⟨rfl, hSk, hKk⟩
                  have HSK : Hid (Dq 20 (fun k => k < wb.heap.size) wk p (xB (atA l (jq + 1))) (fun _ => [])) := hSk
                  have HKK : Hid (Kept (fun k => k < wb.heap.size) wb wk) := HKJ.out.trans hKk
                  clear rs hSk hKk HKJ
                  go_wp2
                  go_roundg (n - (jq + 1))
                  case rel => exact ⟨jq + 1, rfl, by omega, by go_num, by rw [HNW.out], HSK.out, HKK.out⟩
                  case measure => omega
            · have hjn2 : jq = n := by omega
              have r1 := fun X (hX : Kept (fun k => k < wq.heap.size) wq X) => bOuter HSZ.out (by omega : jq ≤ 40) (hS.kept hX)
              have r2 := fun X (hX : Kept (fun k => k < wq.heap.size) wq X) => bInner HSZ.out (by omega : jq ≤ 40) (hS.kept hX)
              obtain ⟨WS, hWS⟩ : ∃ b : ByteArray, ⟨(wA l jq).toArray⟩ = b := ⟨_, rfl⟩
              have hwsz : WS.size ≤ 200000 := by rw [← hWS]; show (wA l jq).length ≤ 200000; omega
              obtain ⟨T, hT⟩ : ∃ b : ByteArray, ⟨(wA l jq ++ [62]).toArray⟩ = b := ⟨_, rfl⟩
              have HTE : Hid ((T.toList == (WS ++ ⟨#[62]⟩).toList) = true) := by
                show (T.toList == (WS ++ ⟨#[62]⟩).toList) = true
                rw [beq_iff_eq, ← hT, ← hWS]
                simp only [ByteArray.toList_eq, ByteArray.data_append, Array.toList_append]
              rw [hT] at r1
              rw [hWS]
              have R1 : Hid (∀ X, Kept (fun k => k < wq.heap.size) wq X → Calls Try.prog 14 #[.pointer (some ⟨p, 0, none⟩), .int .i64 1, .agg #[.bool false, .slice none 0 0]] X fun e w' => e = .returned (.string T) ∧ Kept (fun k => k < X.heap.size) X w') := r1
              have R2 : Hid (∀ X, Kept (fun k => k < wq.heap.size) wq X → Calls Try.prog 11 #[.pointer (some ⟨p, 0, none⟩), .int .i64 1, .agg #[.bool false, .slice none 0 0]] X fun e w' => e = .returned (.string ⟨#[]⟩) ∧ Kept (fun k => k < X.heap.size) X w') := r2
              have HKQ : Hid (Kept (fun k => k < wb.heap.size) wb wq) := hK
              have rk := known_any wq
              clear r1 r2 hS hK hWS hT hwl hjn2
              go_wp2_with fail
              refine rk.mono ?_
              rintro e w5 ⟨rfl, hK5⟩
              have r1 := R1.out w5 hK5
              have HK5 : Hid (Kept (fun k => k < wq.heap.size) wq w5) := hK5
              clear rk hK5 R1
              go_wp2_with fail
              refine r1.mono ?_
              rintro e w6 ⟨rfl, hK6⟩
              have k6 : Kept (fun k => k < wq.heap.size) wq w6 := HK5.out.trans (hK6.mono fun k h => Nat.lt_of_lt_of_le h HK5.out.size)
              have r2 := R2.out w6 k6
              have HK6 : Hid (Kept (fun k => k < wq.heap.size) wq w6) := k6
              have hte := HTE.out
              clear r1 hK6 k6 R2 HK5
              go_wp2_with fail
              refine r2.mono ?_
              rintro e w7 ⟨rfl, hK7⟩
              have k7 : Kept (fun k => k < wq.heap.size) wq w7 := HK6.out.trans (hK7.mono fun k h => Nat.lt_of_lt_of_le h HK6.out.size)
              have HK7 : Hid (Kept (fun k => k < wb.heap.size) wb w7) := HKQ.out.trans (k7.mono fun k h => Nat.lt_of_lt_of_le h HKQ.out.size)
              clear r2 hK7 k7 HK6
              go_wp2
              go_ret
              exact ⟨rfl, HK7.out⟩
end Go.Proofs.Yteccdijjpmeeaaa
