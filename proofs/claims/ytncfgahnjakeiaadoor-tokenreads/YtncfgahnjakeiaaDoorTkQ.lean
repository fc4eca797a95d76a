/-
  What attribute does to the reader, and to the row of attributes.
-/
import Derived.Test.YtncfgahnjakeiaaDoorMe
namespace Go.Proofs.YtncfgahnjakeiaaDoor
open Go.RowKit

theorem Fit.val2 {b : Nat} {st : TS} (h : Fit b st) : Fit (b + 1) st.val2.st ∧ st.val2.v.length ≤ st.rest.length := by
  have fr : ∀ (s : TS) p, (s.front p).length ≤ s.rest.length := fun s p => by unfold TS.front; rw [List.length_take]; omega
  have cu : ∀ (s : TS) n, (s.cut n).rest.length ≤ s.rest.length := fun s n => by simp only [TS.cut, List.length_drop]; omega
  unfold TS.val2
  split
  · rename_i hp
    have f1 := (h.cut (n := 1) (pre_length hp)).mono (b' := b) (by omega)
    exact ⟨((f1.cutTo _).cutIf _).mono (by omega), Nat.le_trans (fr _ _) (cu _ _)⟩
  · split
    · rename_i hp
      have f1 := (h.cut (n := 1) (pre_length hp)).mono (b' := b) (by omega)
      exact ⟨((f1.cutTo _).cutIf _).mono (by omega), Nat.le_trans (fr _ _) (cu _ _)⟩
    · split
      · exact ⟨h.flt _ _, Nat.zero_le _⟩
      · exact ⟨(h.cutTo _).mono (by omega), fr _ _⟩
theorem Fit.value {b : Nat} {st : TS} (h : Fit b st) : Fit (b + 1) st.value.st ∧ st.value.v.length ≤ st.rest.length := by
  have cu : ∀ (s : TS) n, (s.cut n).rest.length ≤ s.rest.length := fun s n => by simp only [TS.cut, List.length_drop]; omega
  unfold TS.value
  split
  · rename_i hp
    have f1 := ((h.cutTo (hdOut blk)).cut (n := 1) (pre_length hp)).mono (b' := b) (by omega)
    have := (f1.cutTo (hdOut blk)).val2
    exact ⟨this.1, Nat.le_trans this.2 (Nat.le_trans (cu _ _) (Nat.le_trans (cu _ _) (cu _ _)))⟩
  · exact ⟨(h.cutTo _).mono (by omega), Nat.zero_le _⟩

abbrev atE : List UInt8 := [9, 10, 12, 32, 47, 62, 61]

set_option maxRecDepth 20000 in
set_option maxHeartbeats 2000000 in
theorem attrX (K : Nat → Prop) (p : Nat) (st : TS) (attrs : List Atr) (aa : Option Addr) (ac : Nat) (w : World) (h : TX (fun k => K k ∨ blkOf aa k) w p st) (ho : OwnZ K w 36 2 aa attrs.length ac (atrCells attrs)) (b : Nat) (hf : Fit b st) (hb : b ≤ 800000000) (hsm : st.rest.length < 300000)
    (c : UInt8) (r : List UInt8) (hr : st.rest = c :: r) (hal : attrs.length ≤ 50) (h0 : K 0) (h1 : K 1) :
    Calls Tryd.prog 72 #[.pointer (some ⟨p, 0, none⟩), .slice aa attrs.length ac] w fun e w' => ∃ aa' ac', e = .returned (.slice aa' (st.attr attrs).attrs.length ac') ∧ TX (fun k => K k ∨ blkOf aa' k) w' p (st.attr attrs).st ∧ OwnZ K w' 36 2 aa' (st.attr attrs).attrs.length ac' (atrCells (st.attr attrs).attrs) ∧ Kept K w w' := by
  have HD : Hid (st.attr attrs = if (st.first.cutTo (hdIn atE)).value.ok = true then
      (if 50 ≤ attrs.length ∨ hasN attrs st.aname = true then ⟨(st.first.cutTo (hdIn atE)).value.st.flt 5 st.pl, attrs⟩
      else ⟨(st.first.cutTo (hdIn atE)).value.st, attrs ++ [⟨st.aname, allL true (cleanL (st.first.cutTo (hdIn atE)).value.v)⟩]⟩)
    else ⟨(st.first.cutTo (hdIn atE)).value.st, attrs⟩) := rfl
  obtain ⟨c0, c1⟩ := h.cells
  obtain ⟨K1, hK1⟩ : ∃ K1 : Nat → Prop, (fun k => K k ∨ blkOf aa k) = K1 := ⟨_, rfl⟩
  have HA0 := ho.ats
  rw [hK1] at h HA0
  have HA : Hid (∀ X, Kept K1 w X → AtsIn K1 X aa attrs) := fun X hX => HA0.kept hX (fun _ h => h)
  have HK1 : Hid ((fun k => K k ∨ blkOf aa k) = K1) := hK1
  have HO : Hid (∀ X, Kept K1 w X → OwnZ K X 36 2 aa attrs.length ac (atrCells attrs)) := fun X hX => ho.to (fun g hg => (ho.out hg).1) (fun g hg => hX.block g (by rw [← hK1]; exact .inr hg))
  have hKK : ∀ k, K k → K1 k := fun k hk => by rw [← hK1]; exact .inl hk
  have hn1 : 1 ≤ st.rest.length := by rw [hr]; simp
  have f0 := (hf.cut (n := 1) hn1).mono (b' := b) (by omega)
  have r1 := cutX K1 p st w h 1 hn1 hf.le
  have e1 : st.rest.take 1 = [c] := by rw [hr]; rfl
  rw [e1] at r1
  have f1 : Fit (b + 1) st.first := by
    unfold TS.first
    split
    · exact f0.flt _ _
    · exact f0.mono (by omega)
  have r2 := fun X hX => faultX K1 p (st.cut 1) X hX (by have := f0.room; omega) 5 st.pl
  have HF : Hid (st.first = if c = 61 then (st.cut 1).flt 5 st.pl else st.cut 1) := by
    show TS.first _ = _
    unfold TS.first
    rw [e1]
    by_cases hc : c = 61
    · rw [if_pos hc, if_pos (by rw [hc])]
    · rw [if_neg hc, if_neg (by intro e; injection e with e; exact hc e)]
  have HN : Hid (st.aname = nmL (c :: st.first.front (hdIn atE))) := by
    show TS.aname _ = _
    unfold TS.aname
    rw [e1]
    rfl
  obtain ⟨s1, es1⟩ : ∃ s, st.first = s := ⟨_, rfl⟩
  rw [es1] at HD HF HN f1
  have f2 := f1.cutTo (hdIn atE)
  have fr := f1.front1 (hdIn atE)
  have r3 := fun X hX => oneX K1 p s1 X hX atE
  have r4 := fun X hX => cutOneX K1 p s1 X hX f1.le atE
  have hs1 : s1.rest.length ≤ st.rest.length := by
    rw [HF.out]
    split <;> simp only [TS.flt, TS.cut, List.length_drop] <;> omega
  have hs2 : (s1.cutTo (hdIn atE)).rest.length ≤ st.rest.length := by simp only [TS.cutTo, TS.cut, List.length_drop]; omega
  have hfrl : (s1.front (hdIn atE)).length ≤ s1.rest.length := by unfold TS.front; rw [List.length_take]; omega
  obtain ⟨s2, es2⟩ : ∃ s, s1.cutTo (hdIn atE) = s := ⟨_, rfl⟩
  obtain ⟨nf, enf⟩ : ∃ s, s1.front (hdIn atE) = s := ⟨_, rfl⟩
  rw [es2] at HD f2 hs2
  rw [enf] at HN hfrl fr
  simp only [es2, enf] at r4
  have r5 := fun X hX => smallX K1 p s2 X hX (c :: nf) (by simp only [List.length_cons]; omega)
  have ecat : (⟨[c].toArray⟩ : ByteArray) ++ ⟨nf.toArray⟩ = ⟨(c :: nf).toArray⟩ := by
    apply ByteArray.ext
    rw [ByteArray.data_append]
    simp
  obtain ⟨nm, enm⟩ : ∃ s, nmL (c :: nf) = s := ⟨_, rfl⟩
  rw [enm] at HN
  simp only [enm] at r5
  rw [HN.out] at HD
  have f3 := f2.value
  have r6 := fun X hX => valueX K1 p s2 X hX (b + 1) f2 (by omega)
  obtain ⟨V, eV⟩ : ∃ V, s2.value = V := ⟨_, rfl⟩
  rw [eV] at HD f3
  simp only [eV] at r6
  obtain ⟨s3, v, ok⟩ := V
  dsimp only at HD f3 r6
  obtain ⟨f3, hv⟩ := f3
  replace hv : v.length < 300000 := by omega
  have hcl := cleanL_length v
  have r7 := fun X hX ha => hasX K1 p s3 X hX attrs nm aa ac (by omega) ha
  have r8 := fun X hX => faultX K1 p s3 X hX (by have := f3.room; omega) 5 st.pl
  have r9 := fun X hX => cleanX K1 p s3 X hX v (by omega)
  have r10 := fun X hX => allX K1 p s3 X hX (cleanL v) true (by omega)
  obtain ⟨cl, ecl⟩ : ∃ s, cleanL v = s := ⟨_, rfl⟩
  rw [ecl] at HD
  simp only [ecl] at r9 r10
  obtain ⟨al, eal⟩ : ∃ s, allL true cl = s := ⟨_, rfl⟩
  rw [eal] at HD
  simp only [eal] at r10
  have HAP : Hid (∀ X, TX K1 X p s3 → Kept K1 w X → ∃ aa' ac' w', (Builtin.append_ #[27, 27] 27 #[.slice aa attrs.length ac, .slice (some ⟨X.heap.size, 0, none⟩) 1 1]).run Tryd.prog (X.alloc (.cells #[sv nm, sv al] 36)) = .ok (.slice aa' (attrs.length + 1) ac') w' ∧
      TX (fun k => K k ∨ blkOf aa' k) w' p s3 ∧ OwnZ K w' 36 2 aa' (attrs.length + 1) ac' (atrCells (attrs ++ [⟨nm, al⟩])) ∧ Kept K X w') := by
    intro X hX hk
    rw [← HK1.out] at hX
    exact hX.appA (HO.out X hk) (by omega) h0 h1 ⟨nm, al⟩
  have hatl : attrs.length < 1000 := by omega
  clear h hf f0 f1 f2 f3 hs1 hs2 es1 es2 enf enm eV ecl eal hK1 HA0 ho hn1 hcl hv HN e1
  by_cases hc : c = 61
  · subst hc
    replace HF : Hid ((st.cut 1).flt 5 st.pl = s1) := by show _ = s1; rw [HF.out, if_pos rfl]
    go_enter Tryd.func72, Tryd.ntmps72
    go_wp2_with fail
    refine r1.mono ?_
    rintro e w1 ⟨rfl, t1, k1⟩
    clear r1 c0 c1
    have r2 := r2 _ t1
    go_wp2_with fail
    refine r2.mono ?_
    rintro e w2 ⟨rfl, t2, k2⟩
    rw [HF.out] at t2
    have r3 := r3 _ t2.drew
    replace k2 := k1.trans k2
    clear r2 k1 t1
    go_wp2_with fail
    go_region_with (first | (refine r3.mono ?_; rintro e w3 ⟨rfl, t3, l3, d3, k3⟩; have r4 := r4 w3 t3 _ l3 d3) | (refine r4.mono ?_; rintro e w4 ⟨rfl, t4, k4⟩; have r5 := r5 w4 t4) | (refine r5.mono ?_; rintro e w5 ⟨rfl, t5, k5⟩))
    have r6 := r6 _ t5
    replace k5 : Kept K1 w w5 := ((k2.drew.trans k3).trans k4).trans k5
    clear t3 l3 d3 k3 t4 k4 k2 r3 r4 r5
    go_wp2_with fail
    refine r6.mono ?_
    rintro e w6 ⟨rfl, t6, k6⟩
    replace k6 := k5.trans k6
    clear r6 k5 t5
    cases ok with
    | false =>
      rw [if_neg (by decide)] at HD
      clear r7 r8 r9 r10 HAP
      go_wp2
      go_ret
      have ho := HO.out _ k6
      rw [HD.out]
      exact ⟨aa, ac, rfl, by rw [HK1.out]; exact t6, ho, k6.mono hKK⟩
    | true =>
      rw [if_pos rfl] at HD
      by_cases hfull : 50 ≤ attrs.length
      · have e50 : decide ((attrs.length : Int) ≥ 50) = true := decide_eq_true (by omega)
        rw [if_pos (.inl hfull)] at HD
        have r8 := r8 _ t6
        clear r7 r9 r10 HAP
        go_wp2_with fail
        refine r8.mono ?_
        rintro e w7 ⟨rfl, t7, k7⟩
        replace k7 := k6.trans k7
        go_wp2
        go_ret
        have ho := HO.out _ k7
        rw [HD.out]
        exact ⟨aa, ac, rfl, by rw [HK1.out]; exact t7, ho, k7.mono hKK⟩
      · have e50 : decide ((attrs.length : Int) ≥ 50) = false := decide_eq_false (by omega)
        have r7 := r7 _ t6 (HA.out _ k6)
        obtain ⟨q, hq⟩ : ∃ q, hasN attrs nm = q := ⟨_, rfl⟩
        rw [hq] at HD r7
        clear hq
        cases q with
        | true =>
          rw [if_pos (.inr rfl)] at HD
          clear hfull r9 r10 HAP
          go_wp2_with fail
          refine r7.mono ?_
          rintro e w7 ⟨rfl, t7, k7⟩
          replace k7 := k6.trans k7
          have r8 := r8 _ t7
          clear r7
          go_wp2_with fail
          refine r8.mono ?_
          rintro e w8 ⟨rfl, t8, k8⟩
          replace k8 := k7.trans k8
          go_wp2
          go_ret
          have ho := HO.out _ k8
          rw [HD.out]
          exact ⟨aa, ac, rfl, by rw [HK1.out]; exact t8, ho, k8.mono hKK⟩
        | false =>
          rw [if_neg (by rintro (hh | hh); exact hfull hh; cases hh)] at HD
          clear hfull r8
          go_wp2_with fail
          refine r7.mono ?_
          rintro e w7 ⟨rfl, t7, k7⟩
          replace k7 := k6.trans k7
          have r9 := r9 _ t7
          clear r7
          go_wp2_with fail
          refine r9.mono ?_
          rintro e w8 ⟨rfl, t8, k8⟩
          replace k8 := k7.trans k8
          have r10 := r10 _ t8
          clear r9
          go_wp2_with fail
          refine r10.mono ?_
          rintro e w9 ⟨rfl, t9, k9⟩
          replace k9 := k8.trans k9
          obtain ⟨aa', ac', w10, hrun, t10, o10, k10⟩ := HAP.out w9 t9 k9
          have HT10 : Hid (TX (fun k => K k ∨ blkOf aa' k) w10 p s3) := t10
          have HO10 : Hid (OwnZ K w10 36 2 aa' (attrs.length + 1) ac' (atrCells (attrs ++ [⟨nm, al⟩]))) := o10
          clear r10 HAP t10 o10
          go_wp2_with (at_builtin; refine wpList_appR (w' := w10) rfl (.tmp 52) (.tmp 58) 27 27 rfl _ _ (.slice aa' (attrs.length + 1) ac') rfl rfl hrun ?_)
          go_wp2
          go_ret
          rw [HD.out]
          dsimp only
          rw [show (attrs ++ [(⟨nm, al⟩ : Atr)]).length = attrs.length + 1 by simp]
          exact ⟨aa', ac', rfl, HT10.out, HO10.out, (k9.mono hKK).trans k10⟩
  · have hcq : (c == 61) = false := by simpa using hc
    replace HF : Hid (st.cut 1 = s1) := by show _ = s1; rw [HF.out, if_neg hc]
    clear hc
    go_enter Tryd.func72, Tryd.ntmps72
    go_wp2_with fail
    refine r1.mono ?_
    rintro e w1 ⟨rfl, t1, k1⟩
    clear r1 c0 c1
    rw [HF.out] at t1
    have r3 := r3 _ t1.drew
    have k2 := k1
    clear r2 k1
    go_wp2_with fail
    go_region_with (first | (refine r3.mono ?_; rintro e w3 ⟨rfl, t3, l3, d3, k3⟩; have r4 := r4 w3 t3 _ l3 d3) | (refine r4.mono ?_; rintro e w4 ⟨rfl, t4, k4⟩; have r5 := r5 w4 t4) | (refine r5.mono ?_; rintro e w5 ⟨rfl, t5, k5⟩))
    have r6 := r6 _ t5
    replace k5 : Kept K1 w w5 := ((k2.drew.trans k3).trans k4).trans k5
    clear t3 l3 d3 k3 t4 k4 k2 r3 r4 r5
    go_wp2_with fail
    refine r6.mono ?_
    rintro e w6 ⟨rfl, t6, k6⟩
    replace k6 := k5.trans k6
    clear r6 k5 t5
    cases ok with
    | false =>
      rw [if_neg (by decide)] at HD
      clear r7 r8 r9 r10 HAP
      go_wp2
      go_ret
      have ho := HO.out _ k6
      rw [HD.out]
      exact ⟨aa, ac, rfl, by rw [HK1.out]; exact t6, ho, k6.mono hKK⟩
    | true =>
      rw [if_pos rfl] at HD
      by_cases hfull : 50 ≤ attrs.length
      · have e50 : decide ((attrs.length : Int) ≥ 50) = true := decide_eq_true (by omega)
        rw [if_pos (.inl hfull)] at HD
        have r8 := r8 _ t6
        clear r7 r9 r10 HAP
        go_wp2_with fail
        refine r8.mono ?_
        rintro e w7 ⟨rfl, t7, k7⟩
        replace k7 := k6.trans k7
        go_wp2
        go_ret
        have ho := HO.out _ k7
        rw [HD.out]
        exact ⟨aa, ac, rfl, by rw [HK1.out]; exact t7, ho, k7.mono hKK⟩
      · have e50 : decide ((attrs.length : Int) ≥ 50) = false := decide_eq_false (by omega)
        have r7 := r7 _ t6 (HA.out _ k6)
        obtain ⟨q, hq⟩ : ∃ q, hasN attrs nm = q := ⟨_, rfl⟩
        rw [hq] at HD r7
        clear hq
        cases q with
        | true =>
          rw [if_pos (.inr rfl)] at HD
          clear hfull r9 r10 HAP
          go_wp2_with fail
          refine r7.mono ?_
          rintro e w7 ⟨rfl, t7, k7⟩
          replace k7 := k6.trans k7
          have r8 := r8 _ t7
          clear r7
          go_wp2_with fail
          refine r8.mono ?_
          rintro e w8 ⟨rfl, t8, k8⟩
          replace k8 := k7.trans k8
          go_wp2
          go_ret
          have ho := HO.out _ k8
          rw [HD.out]
          exact ⟨aa, ac, rfl, by rw [HK1.out]; exact t8, ho, k8.mono hKK⟩
        | false =>
          rw [if_neg (by rintro (hh | hh); exact hfull hh; cases hh)] at HD
          clear hfull r8
          go_wp2_with fail
          refine r7.mono ?_
          rintro e w7 ⟨rfl, t7, k7⟩
          replace k7 := k6.trans k7
          have r9 := r9 _ t7
          clear r7
          go_wp2_with fail
          refine r9.mono ?_
          rintro e w8 ⟨rfl, t8, k8⟩
          replace k8 := k7.trans k8
          have r10 := r10 _ t8
          clear r9
          go_wp2_with fail
          refine r10.mono ?_
          rintro e w9 ⟨rfl, t9, k9⟩
          replace k9 := k8.trans k9
          obtain ⟨aa', ac', w10, hrun, t10, o10, k10⟩ := HAP.out w9 t9 k9
          have HT10 : Hid (TX (fun k => K k ∨ blkOf aa' k) w10 p s3) := t10
          have HO10 : Hid (OwnZ K w10 36 2 aa' (attrs.length + 1) ac' (atrCells (attrs ++ [⟨nm, al⟩]))) := o10
          clear r10 HAP t10 o10
          go_wp2_with (at_builtin; refine wpList_appR (w' := w10) rfl (.tmp 52) (.tmp 58) 27 27 rfl _ _ (.slice aa' (attrs.length + 1) ac') rfl rfl hrun ?_)
          go_wp2
          go_ret
          rw [HD.out]
          dsimp only
          rw [show (attrs ++ [(⟨nm, al⟩ : Atr)]).length = attrs.length + 1 by simp]
          exact ⟨aa', ac', rfl, HT10.out, HO10.out, (k9.mono hKK).trans k10⟩
end Go.Proofs.YtncfgahnjakeiaaDoor
