/-
  The walk of QuerySets.
-/
import Derived.Test.YtojbjiopilkbgaaGreatVSq
namespace Go.Proofs.YtojbjiopilkbgaaGreat
open Go.RowKit Go.Sort
set_option linter.unusedVariables false
set_option maxRecDepth 20000 in
set_option maxHeartbeats 16000000 in
theorem qsets_go (l : List Opx) (n : Nat) (hln : l.length = n) (hnn : n ≤ 60) (a : Option Addr) (c : Nat) (hok : ∀ o ∈ l, Zkz o) (hb : zcd l ≤ 6000) (w : World) (h : Zfo (fun k => k < w.heap.size) w a l) (za : Nat) (hza : za < 65536) (T : ByteArray) (hT : T.size ≤ 300) (hT0 : T.toList ≠ []) :
    Calls Tryz.prog 9 #[.slice a n c, .int .u16 (za : Int), .string T] w fun e w' => e = .returned (.bool true) ∧ Kept (fun k => k < w.heap.size) w w' := by
  have s1 : decide ((T.size : Int) > 300) = false := decide_eq_false (by omega)
  have s2 : (T.toList == []) = false := beq_eq_false_iff_ne.2 hT0
  have HT0 : Hid (T.toList ≠ []) := hT0
  clear hT0
  have rh := zbw l n hln hnn a c (by omega) w h
  rw [decide_eq_false (by omega : ¬ 6000 < zcd l)] at rh
  have RG : Hid (∀ X, Kept (fun k => k < w.heap.size) w X → Calls Tryz.prog 36 #[.slice a n c] X fun e w' => ∃ p r E M R G rk, e = .returned (.tuple #[.pointer (some ⟨p, 0, none⟩), .pointer (some ⟨r, 0, none⟩)]) ∧ Grown (fun k => k < X.heap.size) E w' p r M R G rk 300 ∧ Kept (fun k => k < X.heap.size) X w') := fun X hX => zfb l n hln (by omega) a c hok (by omega) X (h.kept hX fun k hk => ltl hk hX.size)
  clear hln hok hb h
  go_enter Tryz.func9, Tryz.ntmps9
  go_wp2_with fail
  refine rh.mono ?_
  rintro e w1 ⟨rfl, k1⟩
  have rk0 := zbf w1
  clear rh
  go_wp2_with fail
  refine rk0.mono ?_
  rintro e w2 ⟨rfl, k2⟩
  have k12 : Kept (fun k => k < w.heap.size) w w2 := k1.trans (k2.mono fun k h => ltl h k1.size)
  have rg := RG.out w2 k12
  have HK12 : Hid (Kept (fun k => k < w.heap.size) w w2) := k12
  clear rk0 k1 k2 k12 RG
  go_wp2_with fail
  refine rg.mono ?_
  rintro e W ⟨p, r, E, M, R, G, rk, rfl, hG, hK⟩
  have HKW : Hid (Kept (fun k => k < w.heap.size) w W) := HK12.out.trans (hK.mono fun k h => ltl h HK12.out.size)
  obtain ⟨m, hm⟩ : ∃ m, M.n = m := ⟨_, rfl⟩
  have HM : Hid (M.n = m) := hm
  have hm300 : m ≤ 300 := by have h1 := hG.le; rw [hG.lim, hm] at h1; exact h1
  have hm1 : 1 ≤ m := by rw [← hm]; exact hG.inv.core.pos
  have hn5 : M.n ≤ 100000 := by omega
  have rl : ∀ X, Kept (fun k => k < W.heap.size) W X → Calls Tryz.prog 15 #[.pointer (some ⟨p, 0, none⟩)] X fun e w' => e = .returned (.int .i64 (m : Int)) ∧ w' = X := fun X hX => by rw [← hm]; exact hG.len hX
  have NODE : Hid (∀ i, i < m → ∀ X, Kept (fun k => k < W.heap.size) W X → Calls Tryz.prog 23 #[.pointer (some ⟨p, 0, none⟩), .int .i64 (i : Int)] X fun e w' => Told X (M.nd i) (M.pl i).up (R i) e w') := fun i hi X hX => hG.node (by decide) (by rw [hm]; exact hi) hX
  obtain ⟨i, hi⟩ : ∃ i, za % m = i := ⟨_, rfl⟩
  have him : i < m := by rw [← hi]; exact Nat.mod_lt _ (by omega)
  have hi' : (za : Int).tmod (m : Int) = (i : Int) := by rw [← hi]; rfl
  have hin : i < M.n := by rw [hm]; exact him
  have rl0 := rl W (Kept.refl _ _)
  have rn := NODE.out i him W (Kept.refl _ _)
  have HG : Hid (Grown (fun k => k < w2.heap.size) E W p r M R G rk 300) := hG
  have HN5 : Hid (M.n ≤ 100000 ∧ i < M.n) := ⟨hn5, hin⟩
  have HW2 : Hid (Kept (fun k => k < w2.heap.size) w2 W) := hK
  have hi300 : i < 300 := by omega
  obtain ⟨u, hu⟩ : ∃ u, (M.pl i).up = u := ⟨_, rfl⟩
  have HU : Hid ((M.pl i).up = u) := hu
  have hu1 : u = -1 ∨ 0 ≤ u := by
    rcases hG.inv.good.wf.inn i hin with e | ⟨q, _, e, _⟩
    · exact .inl (by rw [← hu]; exact e)
    · exact .inr (by omega)
  rw [hu] at rn
  clear rg hG hK hm hi hin rl hn5 hu
  go_upto_region 7 with (go_at_call 15; refine rl0.mono ?_; rintro e1 w3 ⟨rfl, hw3⟩; replace hw3 := hw3.symm; subst hw3)
  clear rl0
  go_wp2_with fail
  refine rn.mono ?_
  rintro e v1 ⟨ao, ac, ko, kc, rfl, -, -, hKa⟩
  obtain ⟨V1, N1, hV1, hN1, hb1, kV1, sV1⟩ := za9 v1 (zm7 (M.nd i).kind ⟨(M.nd i).name.toArray⟩ ⟨(M.nd i).data.toArray⟩ ao (M.nd i).attrs.length ac u ko (R i).length kc (M.nd i).shadow (M.nd i).host (M.nd i).content (M.nd i).fl) 46
  have hkV : Kept (fun k => k < W.heap.size) W V1 := hKa.trans (kV1.mono fun k h => ltl h hKa.size)
  have hNW : W.heap.size ≤ N1 := by rw [← hN1]; exact hKa.size
  have hNV : N1 < V1.heap.size := zae hb1
  obtain ⟨K', hK'⟩ : ∃ K' : Nat → Prop, K' = fun k => k < w2.heap.size ∨ (W.heap.size ≤ k ∧ k < V1.heap.size) := ⟨_, rfl⟩
  have hw2W : w2.heap.size ≤ W.heap.size := HW2.out.size
  have h2 : Two K' E V1 p r M R G := HG.out.two.more hkV (fun k hk hk2 => by rw [hK'] at hk2; rcases hk2 with h | h <;> omega) (fun k hk => by rw [hK'] at hk; have := hkV.size; rcases hk with h | h <;> omega)
  have HKN : Hid (K' N1) := by rw [hK']; exact (show Hid _ from .inr ⟨hNW, hNV⟩)
  have HKw : Hid (∀ k, k < w.heap.size → K' k) := fun k hk => by rw [hK']; exact .inl (ltl hk HK12.out.size)
  have H2 : Hid (Two K' E V1 p r M R G) := h2
  have HB1 : Hid (V1.cell? ⟨N1, 4, none⟩ = some (.int .i64 u)) := by rw [zaa hb1]; exact (show Hid _ from rfl)
  have HV1 : Hid (v1.alloc (.cells (zm7 (M.nd i).kind ⟨(M.nd i).name.toArray⟩ ⟨(M.nd i).data.toArray⟩ ao (M.nd i).attrs.length ac u ko (R i).length kc (M.nd i).shadow (M.nd i).host (M.nd i).content (M.nd i).fl) 46) = V1) := hV1
  have HN1 : Hid (v1.heap.size = N1) := hN1
  have HKV1 : Hid (Kept (fun k => k < w.heap.size) w V1) := HKW.out.trans (hkV.mono fun k h => ltl h HKW.out.size)
  clear rn hKa hV1 hN1 hb1 kV1 sV1 hkV hNW hNV hK' hw2W h2 NODE
  go_upto_region 8 with fail
  rw [HV1.out, HN1.out]
  clear HV1 HN1
  rcases setQ HG.out.inv HN5.out.1 HN5.out.2 T (by omega) with ⟨z, hz, hset⟩ | ⟨A1, A2, hkd, hA1, hA2, hI1, hI2, hset, hdrop⟩
  · have rs := hset _ V1 p H2.out.d
    have z1 : (z != 0) = true := by simpa using hz
    clear hset hz
    go_wp2_with fail
    refine rs.mono ?_
    rintro e w4 ⟨rfl, hk4⟩
    have HK4 : Hid (Kept (fun k => k < w.heap.size) w w4) := HKV1.out.trans (hk4.mono fun k hk => .inl (HKw.out k hk))
    clear rs hk4
    go_wp2
    go_ret
    exact ⟨rfl, HK4.out⟩
  · have rs := hset _ V1 p H2.out.d
    have HDROP : Hid _ := hdrop
    have HAA : Hid ((M.nd i).kind = 1 ∧ A1.any (isA idN T.toList) = true ∧ A2.any (isA idN T.toList) = false ∧ Inv (M.setN i { M.nd i with attrs := A1 }) R G rk ∧ Inv (M.setN i { M.nd i with attrs := A2 }) R G rk) := ⟨hkd, hA1, hA2, hI1, hI2⟩
    clear hset hdrop hkd hA1 hA2 hI1 hI2
    go_wp2_with fail
    refine rs.mono ?_
    rintro e w4 ⟨rfl, hd4, hk4⟩
    obtain ⟨hd4, hr4, hk4K⟩ := H2.out.byD hk4 hd4
    have b4 : w4.cell? ⟨N1, 4, none⟩ = some (.int .i64 u) := (hk4K.cell (p := ⟨N1, 4, none⟩) HKN.out).trans HB1.out
    have HK4 : Hid (Kept (fun k => k < w.heap.size) w w4) := HKV1.out.trans (hk4K.mono HKw.out)
    have HD4 : Hid (DX (TK K' E) w4 p (M.setN i { M.nd i with attrs := A1 }) ∧ RX (TL K' E w4) TT w4 r M R G) := ⟨hd4, hr4⟩
    have HKw4 : Hid (∀ k, k < w.heap.size → TK K' E k) := fun k hk => .inl (HKw.out k hk)
    clear rs hd4 hr4 hk4 hk4K
    rcases hu1 with hu1 | hu1
    · have i1 : decide (u < 0) = true := decide_eq_true (by omega)
      clear hu1
      go_wp2
      go_ret
      exact ⟨rfl, HK4.out⟩
    · have i1 : decide (u < 0) = false := decide_eq_false (by omega)
      obtain ⟨t, htn, hTi, -⟩ := HG.out.inv.good.top _ i (Nat.lt_succ_self _) HN5.out.2
      have rr := Zfd.pcalls (.inr ⟨i, t, HN5.out.2, rfl, hTi, htn, rfl⟩ : Zfd M (i : Int) (t : Int)) HD4.out.2 HG.out.inv.good HN5.out.1
      have ht300 : t < 300 := by have := HM.out; omega
      obtain ⟨hlen, hmem⟩ := sets_lens HG.out.inv HN5.out.2 htn hTi (by rw [HU.out]; omega) idN T.toList A1 A2 HAA.out.1 HAA.out.2.1 HAA.out.2.2.1
      have hn1 : (M.setN i { M.nd i with attrs := A1 }).n ≤ 100000 := HN5.out.1
      have hn2 : (M.setN i { M.nd i with attrs := A2 }).n ≤ 100000 := HN5.out.1
      have HX : Hid (∀ X, Kept (fun k => k < w4.heap.size) w4 X → Calls Tryz.prog 45 #[.pointer (some ⟨p, 0, none⟩), .int .i64 (t : Int), .string ⟨#[105, 100]⟩, .string T] X (Lst X (qL (M.setN i { M.nd i with attrs := A1 }) R (zh8 idN T.toList) (t : Int)))) := fun X hX => by
        have := zfx (HD4.out.1.kept hX) HAA.out.2.2.2.1.good hn1 ⟨#[105, 100]⟩ T (t : Int)
        rw [zjk [105, 100]] at this; exact this
      have HI : Hid (∀ X, Kept (fun k => k < w4.heap.size) w4 X → Calls Tryz.prog 38 #[.pointer (some ⟨p, 0, none⟩), .int .i64 (t : Int), .string T] X fun e w' => e = .returned (.int .i64 (idI T.toList (qL (M.setN i { M.nd i with attrs := A1 }) R (zh8 idN T.toList) (t : Int)))) ∧ Kept (fun k => k < X.heap.size) X w') := fun X hX => zgn (HD4.out.1.kept hX) HAA.out.2.2.2.1.good hn1 T (t : Int) _ rfl
      have HY : Hid (∀ K X, DX K X p (M.setN i { M.nd i with attrs := A2 }) → Calls Tryz.prog 45 #[.pointer (some ⟨p, 0, none⟩), .int .i64 (t : Int), .string ⟨#[105, 100]⟩, .string T] X (Lst X (qL (M.setN i { M.nd i with attrs := A2 }) R (zh8 idN T.toList) (t : Int)))) := fun K X hX => by
        have := zfx hX HAA.out.2.2.2.2.good hn2 ⟨#[105, 100]⟩ T (t : Int)
        rw [zjk [105, 100]] at this; exact this
      have hl1 : (qL (M.setN i { M.nd i with attrs := A1 }) R (zh8 idN T.toList) (t : Int)).length ≤ 300 := Nat.le_trans (zi1 HAA.out.2.2.2.1.good.only _ _) (by show M.n ≤ 300; have := HM.out; omega)
      obtain ⟨L1, hL1⟩ : ∃ L, qL (M.setN i { M.nd i with attrs := A1 }) R (zh8 idN T.toList) (t : Int) = L := ⟨_, rfl⟩
      obtain ⟨L2, hL2⟩ : ∃ L, qL (M.setN i { M.nd i with attrs := A2 }) R (zh8 idN T.toList) (t : Int) = L := ⟨_, rfl⟩
      rw [hL1] at HX HI hlen hmem hl1
      rw [hL2] at HY hlen
      have eid : idI T.toList L1 = zrv L1 := if_neg HT0.out
      rw [eid] at HI
      obtain ⟨y, L, rfl⟩ : ∃ y L, L1 = y :: L := by
        cases L1 with
        | nil => cases hmem
        | cons y L => exact ⟨y, L, rfl⟩
      have HI2 : Hid (∀ X, Kept (fun k => k < w4.heap.size) w4 X → Calls Tryz.prog 38 #[.pointer (some ⟨p, 0, none⟩), .int .i64 (t : Int), .string T] X fun e w' => e = .returned (.int .i64 (y : Int)) ∧ Kept (fun k => k < X.heap.size) X w') := HI
      have HMEM : Hid (i ∈ y :: L) := hmem
      obtain ⟨ln, hln⟩ : ∃ ln, (y :: L).length = ln := ⟨_, rfl⟩
      have HLN : Hid ((y :: L).length = ln) := hln
      have HL2 : Hid (L2.length + 1 = ln) := by rw [hlen]; exact hln
      rw [hln] at hl1
      have hln1 : 1 ≤ ln := by rw [← hln]; exact Nat.succ_pos _
      clear htn hTi hn1 hn2 hL1 hL2 eid HI hmem hlen hu1 hln
      go_upto_region 10 with fail
      clear b4
      go_wp2_with fail
      refine rr.mono ?_
      rintro e1 w5 ⟨rfl, hw5⟩
      subst hw5
      have rx := HX.out w5 (Kept.refl _ _)
      clear rr
      go_wp2_with fail
      refine rx.mono ?_
      rintro e U ⟨ta, tc, rfl, hO, hkU⟩
      have HROW : Hid (Zah (fun g => w5.heap.size ≤ g ∧ g < U.heap.size) U ta (y :: L)) := hO.intsAt fun g hg => ⟨Nat.le_of_not_lt (hO.out hg).1, (hO.out hg).2⟩
      have HKU : Hid (Kept (fun k => k < w5.heap.size) w5 U) := hkU
      rw [HLN.out]
      clear rx hO hkU HX
      go_upto_region 14 with fail
      go_loopg [14, 15] ln (fun gh v14 v15 wr => wr = U ∧ ∃ j : Nat, gh = ln - j ∧ j ≤ ln ∧ v15 = .int .i64 (j : Int) ∧ v14 = .bool (decide (i ∈ (y :: L).take j)))
      case atStart => exact ⟨rfl, 0, rfl, Nat.zero_le _, rfl, by simp⟩
      case round =>
        obtain ⟨hwr, j, hgj, hj, rfl, rfl⟩ := hrel
        subst hwr
        by_cases hlt : j < ln
        · have hjl : j < (y :: L).length := by rw [HLN.out]; exact hlt
          obtain ⟨g, o, rfl, hg, d⟩ := HROW.out j hjl
          have htk : decide (i ∈ (y :: L).take (j + 1)) = (decide (i ∈ (y :: L).take j) || decide (((y :: L)[j] : Int) = (i : Int))) := by
            rw [List.take_succ_eq_append_getElem hjl]
            by_cases c1 : i ∈ (y :: L).take j
            · rw [decide_eq_true c1, decide_eq_true (List.mem_append_left _ c1)]; rfl
            · rw [decide_eq_false c1, Bool.false_or]
              by_cases c2 : i = (y :: L)[j]
              · rw [decide_eq_true (by omega : ((y :: L)[j] : Int) = (i : Int)), decide_eq_true (List.mem_append_right _ (List.mem_singleton.2 c2))]
              · rw [decide_eq_false (by omega : ¬ ((y :: L)[j] : Int) = (i : Int)), decide_eq_false (fun h => by
                  rcases List.mem_append.1 h with h | h
                  · exact c1 h
                  · exact c2 (List.mem_singleton.1 h))]
          obtain ⟨x, hx⟩ : ∃ x, (y :: L)[j] = x := ⟨_, rfl⟩
          rw [hx] at d htk
          have d1 : wr.cell? ⟨g, o + j, none⟩ = some (.int .i64 (x : Int)) := d
          obtain ⟨b, hb⟩ : ∃ b, decide (i ∈ (y :: L).take j) = b := ⟨_, rfl⟩
          rw [hb] at htk ⊢
          obtain ⟨b2, hb2⟩ : ∃ b, decide ((x : Int) = (i : Int)) = b := ⟨_, rfl⟩
          have e2 : ((x : Int) == (i : Int)) = b2 := by rw [← hb2]; exact (Bool.beq_eq_decide_eq _ _).trans rfl
          rw [hb2] at htk
          have HTK : Hid (decide (i ∈ (y :: L).take (j + 1)) = (b || b2)) := htk
          clear d hx hjl htk hb hb2
          cases b
          · go_wp2
            go_roundg (ln - (j + 1))
            case rel => exact ⟨rfl, j + 1, rfl, by omega, by go_num, by rw [HTK.out]; rfl⟩
            case measure => omega
          · go_wp2
            go_roundg (ln - (j + 1))
            case rel => exact ⟨rfl, j + 1, rfl, by omega, by go_num, by rw [HTK.out]; rfl⟩
            case measure => omega
        · have hjn : ln = j := by omega
          subst hjn
          have hall : (y :: L).take ln = y :: L := List.take_of_length_le (by rw [HLN.out]; exact Nat.le_refl _)
          rw [hall, decide_eq_true HMEM.out]
          have ri := HI2.out wr HKU.out
          clear hall
          go_wp2_with fail
          refine ri.mono ?_
          rintro e u6 ⟨rfl, k6⟩
          have k56 : Kept (fun k => k < w5.heap.size) w5 u6 := HKU.out.trans (k6.mono fun k h => ltl h HKU.out.size)
          obtain ⟨K7, hK7⟩ : ∃ K7 : Nat → Prop, K7 = fun k => TK K' E k ∨ (w5.heap.size ≤ k ∧ k < u6.heap.size) := ⟨_, rfl⟩
          have hd6 : DX K7 u6 p (M.setN i { M.nd i with attrs := A1 }) := HD4.out.1.more k56 (fun k hk => by
            rw [hK7] at hk
            rcases hk with h | h
            · exact .inl h
            · exact .inr h.1) (fun k hk => by
            rw [hK7] at hk
            rcases hk with h | h
            · exact ltl (HD4.out.1.lt k h) k56.size
            · exact h.2)
          have rd := HDROP.out K7 u6 p hd6
          obtain ⟨g, o, rfl, hg, d⟩ := HROW.out 0 (Nat.succ_pos _)
          have d6 : u6.cell? ⟨g, o, none⟩ = some (.int .i64 (y : Int)) := (k6.cell (p := ⟨g, o, none⟩) hg.2).trans d
          have HG7 : Hid (K7 g) := by rw [hK7]; exact (show Hid _ from .inr ⟨hg.1, ltl hg.2 k6.size⟩)
          have HK7 : Hid (∀ k, k < w.heap.size → K7 k) := fun k hk => by rw [hK7]; exact .inl (HKw4.out k hk)
          have HK6 : Hid (Kept (fun k => k < w.heap.size) w u6) := HK4.out.trans (k56.mono fun k hk => ltl hk HK4.out.size)
          clear ri k6 k56 hK7 hd6 hg d
          go_wp2_with fail
          refine rd.mono ?_
          rintro e u7 ⟨rfl, hd7, k7⟩
          have d7 : u7.cell? ⟨g, o, none⟩ = some (.int .i64 (y : Int)) := (k7.cell (p := ⟨g, o, none⟩) HG7.out).trans d6
          have ry := HY.out K7 u7 hd7
          have HK8 : Hid (Kept (fun k => k < w.heap.size) w u7 ∧ g < u7.heap.size) := ⟨HK6.out.trans (k7.mono HK7.out), hd7.lt g HG7.out⟩
          clear rd hd7 k7 d6
          go_wp2_with fail
          refine ry.mono ?_
          rintro e u8 ⟨sa, sc, rfl, hO8, k8⟩
          have d8 : u8.cell? ⟨g, o, none⟩ = some (.int .i64 (y : Int)) := (k8.cell (p := ⟨g, o, none⟩) HK8.out.2).trans d7
          obtain ⟨l2, hl2⟩ : ∃ l2, L2.length = l2 := ⟨_, rfl⟩
          rw [hl2]
          have e1 : (l2 : Int) = (ln : Int) - 1 := by have := HL2.out; omega
          have e2 : (ln : Int) - 1 = (l2 : Int) := e1.symm
          have e4 : IntKind.i64.wrap (l2 : Int) = (l2 : Int) := by rw [IntKind.wrap_i64]; omega
          have HK9 : Hid (Kept (fun k => k < w.heap.size) w u8) := HK8.out.1.trans (k8.mono fun k hk => ltl hk HK8.out.1.size)
          clear ry hO8 k8 d7 hl2 e1
          go_wp2
          go_ret
          exact ⟨by simp, HK9.out⟩
theorem qsets_no (a : Option Addr) (n c : Nat) (w : World) (za : Nat) (T : ByteArray) (hb : Bool) (rh : Calls Tryz.prog 34 #[.slice a n c] w fun e w' => e = .returned (.bool hb) ∧ Kept (fun k => k < w.heap.size) w w') (hc : hb = true ∨ 300 < T.size ∨ T.toList = []) :
    Calls Tryz.prog 9 #[.slice a n c, .int .u16 (za : Int), .string T] w fun e w' => e = .returned (.bool true) ∧ Kept (fun k => k < w.heap.size) w w' := by
  obtain ⟨b1, h1⟩ : ∃ b, decide ((T.size : Int) > 300) = b := ⟨_, rfl⟩
  obtain ⟨b2, h2⟩ : ∃ b, (T.toList == []) = b := ⟨_, rfl⟩
  have hor : (hb || b1 || b2) = true := by
    rcases hc with h | h | h
    · rw [h]; rfl
    · rw [← h1, decide_eq_true (by omega : (T.size : Int) > 300)]; simp
    · rw [← h2, h]; simp
  clear hc
  cases hb <;> cases b1 <;> cases b2 <;> first | (exact absurd hor (by decide)) | skip
  all_goals
    clear hor
    go_enter Tryz.func9, Tryz.ntmps9
    go_wp2_with fail
    refine rh.mono ?_
    rintro e w1 ⟨rfl, k1⟩
    have rk := zbf w1
    have HK1 : Hid (Kept (fun k => k < w.heap.size) w w1) := k1
    clear rh k1
    go_wp2_with fail
    refine rk.mono ?_
    rintro e w2 ⟨rfl, hk2⟩
    have HK2 : Hid (Kept (fun k => k < w.heap.size) w w2) := HK1.out.trans (hk2.mono fun k h => ltl h HK1.out.size)
    clear rk hk2
    go_wp2
    go_ret
    exact ⟨rfl, HK2.out⟩
theorem qorder_no (a : Option Addr) (n c : Nat) (w : World) (za kz : Nat) (rh : Calls Tryz.prog 34 #[.slice a n c] w fun e w' => e = .returned (.bool true) ∧ Kept (fun k => k < w.heap.size) w w') :
    Calls Tryz.prog 10 #[.slice a n c, .int .u16 (za : Int), .int .u8 (kz : Int)] w fun e w' => e = .returned (.bool true) ∧ Kept (fun k => k < w.heap.size) w w' := by
  go_enter Tryz.func10, Tryz.ntmps10
  go_wp2_with fail
  refine rh.mono ?_
  rintro e w1 ⟨rfl, k1⟩
  have rk := zbf w1
  have HK1 : Hid (Kept (fun k => k < w.heap.size) w w1) := k1
  clear rh k1
  go_wp2_with fail
  refine rk.mono ?_
  rintro e w2 ⟨rfl, hk2⟩
  have HK2 : Hid (Kept (fun k => k < w.heap.size) w w2) := HK1.out.trans (hk2.mono fun k h => ltl h HK1.out.size)
  clear rk hk2
  go_wp2
  go_ret
  exact ⟨rfl, HK2.out⟩
end Go.Proofs.YtojbjiopilkbgaaGreat
