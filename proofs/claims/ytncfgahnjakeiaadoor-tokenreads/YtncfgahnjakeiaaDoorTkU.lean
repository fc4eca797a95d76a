/-
  What tag does to the reader.
-/
import Derived.Test.YtncfgahnjakeiaaDoorMf
namespace Go.Proofs.YtncfgahnjakeiaaDoor
open Go.RowKit

/-- A block more that is kept. -/
theorem TX.allocK {K : Nat → Prop} {w : World} {p : Nat} {st : TS} (h : TX K w p st) (o : Obj) : TX (fun k => K k ∨ k = w.heap.size) (w.alloc o) p st := by
  obtain ⟨⟨t1, t2, t3⟩, l1, A, l2, l3⟩ := h
  have hk : Kept (fun k => k < w.heap.size) w (w.alloc o) := (Kept.refl _ w).alloc (fun _ h => h) o
  have hs : (w.alloc o).heap.size = w.heap.size + 1 := by simp
  refine ⟨⟨t1.kept hk (l1 0 t2) (l1 1 t3), .inl t2, .inl t3⟩, ?_, A, ?_, ?_⟩
  · rintro k (hh | rfl)
    · have := l1 k hh; omega
    · omega
  · intro k hk'
    have := l2 k hk'
    refine ⟨by omega, ?_⟩
    rintro (hh | rfl)
    · exact this.2 hh
    · omega
  · refine l3.move (fun g hg _ => hk.block g hg) ?_ (fun _ h => .inr h) (hk.mono fun k hk' => (l2 k hk').1)
    rintro g ((hh | rfl) | hh) hl
    · exact .inl hh
    · omega
    · exact .inr hh

theorem blk_none (K : Nat → Prop) : (fun k => K k ∨ blkOf none k) = K := by
  funext k
  apply propext
  constructor
  · rintro (h | h)
    · exact h
    · cases h
  · exact .inl

theorem tagF_enough : ∀ (f g : Nat) (s : TS) (attrs : List Atr), s.rest.length < f → s.rest.length < g → TS.tagF f s attrs = TS.tagF g s attrs
  | 0, _, _, _, h, _ => absurd h (Nat.not_lt_zero _)
  | _ + 1, 0, _, _, _, h => absurd h (Nat.not_lt_zero _)
  | f + 1, g + 1, s, attrs, hf, hg => by
    rw [tagF_succ, tagF_succ]
    split
    · rfl
    · rename_i hne
      split
      · rfl
      · have h1 := attr_lt hne attrs
        have h2 : (s.cutTo (hdOut sla)).rest.length ≤ s.rest.length := by simp only [TS.cutTo, TS.cut, List.length_drop]; omega
        exact tagF_enough f g _ _ (by omega) (by omega)

/-- The token that is made, in its block. -/
abbrev tokB (kind : Nat) (nm : List UInt8) (aa : Option Addr) (n ac : Nat) (self : Bool) (a : Nat) : Obj := .cells #[.int .u8 (kind : Int), sv nm, .slice aa n ac, .bool self, sv [], .int .i64 (a : Int)] 29 (0, 0)

set_option maxRecDepth 20000 in
set_option maxHeartbeats 4000000 in
theorem tagX (K : Nat → Prop) (p : Nat) (st : TS) (w : World) (h : TX K w p st) (b : Nat) (hf : Fit b st) (hb : b ≤ 700000000) (hsm : st.rest.length < 200000) (kind : Nat) (hk12 : kind = 1 ∨ kind = 2) (a : Nat) :
    Calls Tryd.prog 46 #[.pointer (some ⟨p, 0, none⟩), .int .u8 kind, .int .i64 a] w fun e w' => e = .returned (.tuple #[]) ∧ TX K w' p (st.tag kind a) ∧ Kept K w w' := by
  have hK0 : K 0 := h.1.2.1
  have hK1 : K 1 := h.1.2.2
  obtain ⟨N, hN⟩ : ∃ N, w.heap.size = N := ⟨_, rfl⟩
  have hN0 : N ≠ 0 := by have := h.lt 0 hK0; omega
  have hN1 : N ≠ 1 := by have := h.lt 1 hK1; omega
  have hKN : ¬ K N := fun hh => by have := h.lt N hh; omega
  obtain ⟨KN, hKNe⟩ : ∃ KN : Nat → Prop, (fun k => K k ∨ k = N) = KN := ⟨_, rfl⟩
  have hNK : KN N := by rw [← hKNe]; exact .inr rfl
  have hKK : ∀ k, K k → KN k := fun k hk => by rw [← hKNe]; exact .inl hk
  obtain ⟨W0, hW0⟩ : ∃ W0, w.alloc (.cells #[.int .u8 (kind : Int), sv [], .slice none 0 0, .bool false, sv [], .int .i64 (a : Int)] 29) = W0 := ⟨_, rfl⟩
  have t0 : TX KN W0 p st := by rw [← hW0, ← hKNe, ← hN]; exact h.allocK _
  have b0 : W0.heap[N]? = some (tokB kind [] none 0 0 false a) := by rw [← hW0, ← hN]; exact heap_alloc_new w _
  have kw0 : Kept K w W0 := by rw [← hW0]; exact (Kept.refl K w).alloc h.lt _
  have hW0' : w.alloc (.cells #[.int .u8 (kind : Int), .string ⟨#[]⟩, .slice none 0 0, .bool false, .string ⟨#[]⟩, .int .i64 (a : Int)] 29) = W0 := hW0
  have f1 := hf.cutTo (hdIn tgE)
  have fr := hf.front1 (hdIn tgE)
  have hsm1 : (st.cutTo (hdIn tgE)).rest.length < 200000 := by simp only [TS.cutTo, TS.cut, List.length_drop]; omega
  have r1 := oneX KN p st W0.drew t0.drew tgE
  have r2 := fun X hX => cutOneX KN p st X hX hf.le tgE
  have HT : Hid (st.tag kind a = if ((st.cutTo (hdIn tgE)).tagF (st.cutTo (hdIn tgE)).rest.length.succ []).ok = true then
      (if kind = 2 then ((st.cutTo (hdIn tgE)).tagF (st.cutTo (hdIn tgE)).rest.length.succ []).st.add ⟨2, nmL (st.front (hdIn tgE)), [], false, [], a⟩
      else (((st.cutTo (hdIn tgE)).tagF (st.cutTo (hdIn tgE)).rest.length.succ []).st.add ⟨kind, nmL (st.front (hdIn tgE)), ((st.cutTo (hdIn tgE)).tagF (st.cutTo (hdIn tgE)).rest.length.succ []).attrs, ((st.cutTo (hdIn tgE)).tagF (st.cutTo (hdIn tgE)).rest.length.succ []).self, [], a⟩).inside (nmL (st.front (hdIn tgE))))
    else ((st.cutTo (hdIn tgE)).tagF (st.cutTo (hdIn tgE)).rest.length.succ []).st) := rfl
  obtain ⟨s1, es1⟩ : ∃ s, st.cutTo (hdIn tgE) = s := ⟨_, rfl⟩
  obtain ⟨nf, enf⟩ : ∃ s, st.front (hdIn tgE) = s := ⟨_, rfl⟩
  rw [es1, enf] at HT
  rw [es1] at f1 hsm1
  rw [enf] at fr
  simp only [es1, enf] at r2
  have r3 := fun X hX => smallX KN p s1 X hX nf fr
  obtain ⟨nm, enm⟩ : ∃ s, nmL nf = s := ⟨_, rfl⟩
  rw [enm] at HT
  simp only [enm] at r3
  obtain ⟨R, eR⟩ : ∃ R, s1.tagF s1.rest.length.succ [] = R := ⟨_, rfl⟩
  rw [eR] at HT
  have HR : Hid (s1.tagF s1.rest.length.succ [] = R) := eR
  clear h hf hsm es1 enf enm eR hW0 fr t0
  go_enter Tryd.func46, Tryd.ntmps46
  go_wp2_with fail
  clear hW0'
  go_region_with (first | (refine r1.mono ?_; rintro e w1 ⟨rfl, t1, l1, d1, k1⟩; have r2 := r2 w1 t1 _ l1 d1) | (refine r2.mono ?_; rintro e w2 ⟨rfl, t2, k2⟩; have r3 := r3 w2 t2) | (refine r3.mono ?_; rintro e w3 ⟨rfl, t3, k3⟩; have b3 := (k3.block N hNK).trans ((k2.block N hNK).trans ((k1.block N hNK).trans b0)); have d3 : w3.cell? ⟨N, 1, none⟩ = some (sv []) := by {rw [cell_block b3]; rfl}; have g3 : w3.frozen? ⟨N, 1, none⟩ = false := frozen_block b3 1))
  have k4 : Kept K w (w3.setCell ⟨N, 1, none⟩ (sv nm)) := (kw0.trans ((((Kept.refl KN W0).drew.trans (k1.trans (k2.trans k3)))).mono hKK)).setCell (p := ⟨N, 1, none⟩) hKN _
  have t4 : TX KN (w3.setCell ⟨N, 1, none⟩ (sv nm)) p s1 := t3.setK hNK hN0 hN1 1 _
  have b4 : (w3.setCell ⟨N, 1, none⟩ (sv nm)).heap[N]? = some (tokB kind nm none 0 0 false a) := heap_setCell_at b3 1 _
  obtain ⟨W1, hW1⟩ : ∃ W1, w3.setCell ⟨N, 1, none⟩ (sv nm) = W1 := ⟨_, rfl⟩
  rw [hW1] at k4 t4 b4 ⊢
  clear hW1 t1 l1 d1 k1 t2 k2 t3 k3 b3 d3 g3 r1 r2 r3 b0 kw0
  go_wp2_with fail
  go_loopg [7] s1.rest.length.succ (fun gm pv wr => ∃ (s : TS) (attrs : List Atr) (aa : Option Addr) (ac : Nat), gm = s.rest.length.succ ∧ s.tagF s.rest.length.succ attrs = R ∧ TX (fun k => KN k ∨ blkOf aa k) wr p s ∧ OwnZ KN wr 36 2 aa attrs.length ac (atrCells attrs) ∧ wr.heap[N]? = some (tokB kind nm aa attrs.length ac false a) ∧ attrs.length ≤ 50 ∧ Fit b s ∧ s.rest.length < 200000 ∧ Kept K w wr)
  case atStart =>
    exact ⟨s1, [], none, 0, rfl, HR.out, by rw [blk_none]; exact t4, OwnZ.nil _ _ _ _, b4, by decide, f1, hsm1, k4⟩
  case round =>
    clear t4 b4 k4 f1 hsm1 HR
    obtain ⟨s, attrs, aa, ac, hgm, hR, t, o, bN, hal, fit, hsm, kp⟩ := hrel
    obtain ⟨K2, hK2⟩ : ∃ K2 : Nat → Prop, (fun k => KN k ∨ blkOf aa k) = K2 := ⟨_, rfl⟩
    have HK2 : Hid ((fun k => KN k ∨ blkOf aa k) = K2) := hK2
    have h2N : K2 N := by rw [← hK2]; exact .inl hNK
    have h2K : ∀ k, KN k → K2 k := fun k hk => by rw [← hK2]; exact .inl hk
    have h2w : ∀ k, K k → K2 k := fun k hk => h2K k (hKK k hk)
    have HO : Hid (∀ X, Kept K2 wr X → OwnZ KN X 36 2 aa attrs.length ac (atrCells attrs)) := fun X hX => o.to (fun g hg => (o.out hg).1) (fun g hg => hX.block g (by rw [← hK2]; exact .inr hg))
    have HB : Hid (∀ X, Kept K2 wr X → X.heap[N]? = some (tokB kind nm aa attrs.length ac false a)) := fun X hX => (hX.block N h2N).trans bN
    have HW : Hid (∀ X, Kept K2 wr X → Kept K w X) := fun X hX => kp.trans (hX.mono h2w)
    rw [hK2] at t
    have r1 := noneX K2 p s wr.drew t.drew sla
    have r2 := fun X hX => cutNoneX K2 p s X hX fit.le sla
    have f1 := fit.cutTo (hdOut sla)
    have fr := fit.front1 (hdOut sla)
    have hs' : (s.cutTo (hdOut sla)).rest.length ≤ s.rest.length := by simp only [TS.cutTo, TS.cut, List.length_drop]; omega
    rw [tagF_succ] at hR
    obtain ⟨s', es'⟩ : ∃ x, s.cutTo (hdOut sla) = x := ⟨_, rfl⟩
    obtain ⟨ps, eps⟩ : ∃ x, s.front (hdOut sla) = x := ⟨_, rfl⟩
    rw [es', eps] at hR
    rw [es'] at f1 hs'
    rw [eps] at fr
    simp only [es', eps] at r2
    have HRR : Hid ((if s'.rest = [] then ⟨s'.flt 6 s'.pl, attrs, false, false⟩ else if pre [62] s'.rest = true then ⟨s'.cut 1, attrs, ps.getLast? == some 47, true⟩ else TS.tagF s.rest.length (s'.attr attrs).st (s'.attr attrs).attrs) = R) := hR
    have r3 := fun X hX => atEndX K2 p s' X hX
    clear hR es' eps hK2 t o bN kp fit hKNe
    by_cases hE : s'.rest = []
    · have HE : Hid (st.tag kind a = s'.flt 6 s'.pl) := by
        show TS.tag _ _ _ = _
        rw [HT.out, ← HRR.out, if_pos hE]
        rfl
      have r4 := fun X hX => faultX K2 p s' X hX (by have := f1.room; omega) 6 s'.pl
      simp only [hE] at r3
      clear HRR HT hE f1 fr HB HO hal
      go_wp2_with fail
      go_region_with (first | (refine r1.mono ?_; rintro e w1 ⟨rfl, t1, l1, d1, k1⟩; have r2 := r2 w1 t1 _ l1 d1) | (refine r2.mono ?_; rintro e w2 ⟨rfl, t2, k2⟩))
      replace k2 : Kept K2 wr w2 := (Kept.refl K2 wr).drew.trans (k1.trans k2)
      have r3 := r3 w2 t2
      clear t1 l1 d1 k1 r1 r2
      go_wp2_with fail
      refine r3.mono ?_
      rintro e w3 ⟨rfl, rfl⟩
      clear r3
      have r4 := r4 w3 t2
      obtain ⟨c0, c1⟩ := t2.cells
      go_wp2_with fail
      refine r4.mono ?_
      rintro e w4 ⟨rfl, t4, k4⟩
      go_wp2
      refine bodyPost_ret (results_none rfl _ _ _) rfl ?_
      exact ⟨rfl, by rw [HE.out]; exact t4.weaken h2w hK0 hK1, HW.out _ (k2.trans k4)⟩
    · have hEq : s'.rest.isEmpty = false := by cases hh : s'.rest with | nil => exact absurd hh hE | cons => rfl
      simp only [hEq] at r3
      by_cases hP : pre [62] s'.rest = true
      · have r4 := cutYes K2 p s' [62] hP f1.le
        have f2 := (f1.cut (n := 1) (pre_length hP)).mono (b' := b) (by omega)
        have hsm2 : (s'.cut 1).rest.length < 200000 := by simp only [TS.cut, List.length_drop]; omega
        have ecut : s'.cut ([62] : List UInt8).length = s'.cut 1 := rfl
        rw [ecut] at r4
        have r5 := fun X => suffix_any ps (by omega) X
        obtain ⟨sf, esf⟩ : ∃ q, (ps.getLast? == some 47) = q := ⟨_, rfl⟩
        have HE : Hid (R = ⟨s'.cut 1, attrs, sf, true⟩) := by
          show R = _
          rw [← HRR.out, if_neg hE, if_pos hP, esf]
        simp only [esf] at r5
        obtain ⟨s2, es2⟩ : ∃ x, s'.cut 1 = x := ⟨_, rfl⟩
        rw [es2] at HE f2 hsm2
        simp only [es2] at r4
        have HB2 : Hid (∀ X, Kept K2 wr X → (X.setCell ⟨N, 3, none⟩ (.bool sf)).heap[N]? = some (tokB kind nm aa attrs.length ac sf a)) := fun X hX => heap_setCell_at (HB.out X hX) 3 _
        have HO2 : Hid (∀ X, Kept K2 wr X → OwnZ KN (X.setCell ⟨N, 3, none⟩ (.bool sf)) 36 2 aa attrs.length ac (atrCells attrs)) := fun X hX => (HO.out X hX).to (fun g hg => ((HO.out X hX).out hg).1) (fun g hg => Below.heap_setCell _ _ _ _ (fun e => ((HO.out X hX).out hg).1 (e ▸ hNK)))
        have HT2 : Hid (∀ X, TX K2 X p s2 → TX K2 (X.setCell ⟨N, 3, none⟩ (.bool sf)) p s2) := fun X hX => hX.setK h2N hN0 hN1 3 _
        have HW2 : Hid (∀ X, Kept K2 wr X → Kept K w (X.setCell ⟨N, 3, none⟩ (.bool sf))) := fun X hX => (HW.out X hX).setCell (p := ⟨N, 3, none⟩) hKN _
        clear HRR hE hP hEq f1 fr esf es2 ecut
        rcases hk12 with rfl | rfl
        · have HE : Hid (st.tag 1 a = (s2.add ⟨1, nm, attrs, sf, [], a⟩).inside nm) := by
            show TS.tag _ _ _ = _
            rw [HT.out, HE.out]
            rfl
          have r6 := fun X hX ho => addA KN p s2 X attrs aa ac hX ho (by have := f2.room; omega) 1 nm sf a (hKK 0 hK0) (hKK 1 hK1)
          have f3 := f2.add ⟨1, nm, attrs, sf, [], a⟩
          have hrs : (s2.add ⟨1, nm, attrs, sf, [], a⟩).rest = s2.rest := by
            unfold TS.add TS.endT
            split <;> rfl
          have r7 := fun X hX => insideX KN p (s2.add ⟨1, nm, attrs, sf, [], a⟩) X hX (b + 1) f3 (by omega) (by rw [hrs]; omega) nm
          obtain ⟨s3, es3⟩ : ∃ x, s2.add ⟨1, nm, attrs, sf, [], a⟩ = x := ⟨_, rfl⟩
          rw [es3] at HE
          simp only [es3] at r6 r7
          clear es3 hrs f3 f2 hsm2 HT hal
          go_wp2_with fail
          go_region_with (first | (refine r1.mono ?_; rintro e w1 ⟨rfl, t1, l1, d1, k1⟩; have r2 := r2 w1 t1 _ l1 d1) | (refine r2.mono ?_; rintro e w2 ⟨rfl, t2, k2⟩))
          replace k2 : Kept K2 wr w2 := (Kept.refl K2 wr).drew.trans (k1.trans k2)
          have r3 := r3 w2 t2
          clear t1 l1 d1 k1 r1 r2
          go_wp2_with fail
          refine r3.mono ?_
          rintro e w3 ⟨rfl, rfl⟩
          clear r3
          have r4 := r4 w3 t2
          go_wp2_with fail
          refine r4.mono ?_
          rintro e w4 ⟨rfl, t4, k4⟩
          replace k4 := k2.trans k4
          have r5 := r5 w4
          clear r4
          go_wp2_with fail
          refine r5.mono ?_
          rintro e w5 ⟨rfl, rfl⟩
          have bq := HB.out w5 k4
          have d3 : w5.cell? ⟨N, 3, none⟩ = some (.bool false) := by rw [cell_block bq]; rfl
          have g3 : w5.frozen? ⟨N, 3, none⟩ = false := frozen_block bq 3
          have b6 := HB2.out w5 k4
          have t6 := HT2.out w5 t4
          have o6 := HO2.out w5 k4
          have k6 := HW2.out w5 k4
          rw [← HK2.out] at t6
          obtain ⟨W6, hW6⟩ : ∃ W6, w5.setCell ⟨N, 3, none⟩ (.bool sf) = W6 := ⟨_, rfl⟩
          rw [hW6] at b6 t6 o6 k6
          have n0 : W6.cell? ⟨N, 0, none⟩ = some (.int .u8 1) := by rw [cell_block b6]; rfl
          have n1 : W6.cell? ⟨N, 1, none⟩ = some (sv nm) := by rw [cell_block b6]; rfl
          have n2 : W6.cell? ⟨N, 2, none⟩ = some (.slice aa attrs.length ac) := by rw [cell_block b6]; rfl
          have n3 : W6.cell? ⟨N, 3, none⟩ = some (.bool sf) := by rw [cell_block b6]; rfl
          have n4 : W6.cell? ⟨N, 4, none⟩ = some (sv []) := by rw [cell_block b6]; rfl
          have n5 : W6.cell? ⟨N, 5, none⟩ = some (.int .i64 (a : Int)) := by rw [cell_block b6]; rfl
          have r6 := r6 W6 t6 o6
          clear r5 bq b6 t6 o6
          go_wp2_with fail
          refine r6.mono ?_
          rintro e w7 ⟨rfl, t7, k7⟩
          have m1 : w7.cell? ⟨N, 1, none⟩ = some (sv nm) := by rw [k7.cell (p := ⟨N, 1, none⟩) hNK]; exact n1
          have r7 := r7 w7 t7
          clear r6 n0 n1 n2 n3 n4 n5
          go_wp2_with fail
          refine r7.mono ?_
          rintro e w8 ⟨rfl, t8, k8⟩
          go_wp2
          go_end0
          exact ⟨rfl, by rw [HE.out]; exact t8.weaken hKK hK0 hK1, k6.trans ((k7.trans k8).mono hKK)⟩
        · have HE : Hid (st.tag 2 a = s2.add ⟨2, nm, [], false, [], a⟩) := by
            show TS.tag _ _ _ = _
            rw [HT.out, HE.out]
            rfl
          have r6 := fun X hX => addX K2 p s2 X hX (by have := f2.room; omega) 2 nm [] false a
          obtain ⟨s3, es3⟩ : ∃ x, s2.add ⟨2, nm, [], false, [], a⟩ = x := ⟨_, rfl⟩
          rw [es3] at HE
          simp only [es3] at r6
          clear es3 f2 hsm2 HT hal
          go_wp2_with fail
          go_region_with (first | (refine r1.mono ?_; rintro e w1 ⟨rfl, t1, l1, d1, k1⟩; have r2 := r2 w1 t1 _ l1 d1) | (refine r2.mono ?_; rintro e w2 ⟨rfl, t2, k2⟩))
          replace k2 : Kept K2 wr w2 := (Kept.refl K2 wr).drew.trans (k1.trans k2)
          have r3 := r3 w2 t2
          clear t1 l1 d1 k1 r1 r2
          go_wp2_with fail
          refine r3.mono ?_
          rintro e w3 ⟨rfl, rfl⟩
          clear r3
          have r4 := r4 w3 t2
          go_wp2_with fail
          refine r4.mono ?_
          rintro e w4 ⟨rfl, t4, k4⟩
          replace k4 := k2.trans k4
          have r5 := r5 w4
          clear r4
          go_wp2_with fail
          refine r5.mono ?_
          rintro e w5 ⟨rfl, rfl⟩
          have bq := HB.out w5 k4
          have d3 : w5.cell? ⟨N, 3, none⟩ = some (.bool false) := by rw [cell_block bq]; rfl
          have g3 : w5.frozen? ⟨N, 3, none⟩ = false := frozen_block bq 3
          have b6 := HB2.out w5 k4
          have t6 := HT2.out w5 t4
          have k6 := HW2.out w5 k4
          obtain ⟨W6, hW6⟩ : ∃ W6, w5.setCell ⟨N, 3, none⟩ (.bool sf) = W6 := ⟨_, rfl⟩
          rw [hW6] at b6 t6 k6
          have n1 : W6.cell? ⟨N, 1, none⟩ = some (sv nm) := by rw [cell_block b6]; rfl
          have r6 := r6 W6 t6
          clear r5 bq b6 t6
          go_wp2_with fail
          refine r6.mono ?_
          rintro e w7 ⟨rfl, t7, k7⟩
          go_wp2
          refine bodyPost_ret (results_none rfl _ _ _) rfl ?_
          exact ⟨rfl, by rw [HE.out]; exact t7.weaken h2w hK0 hK1, k6.trans (k7.mono h2w)⟩
      · replace hP : pre [62] s'.rest = false := by simpa using hP
        have r4 := cutNo K2 p s' [62] hP f1.le
        have hlt := attr_lt hE attrs
        have fit' := f1.attr hE attrs
        have hal' := attr_few (st := s') hal
        have HE : Hid (TS.tagF (s'.attr attrs).st.rest.length.succ (s'.attr attrs).st (s'.attr attrs).attrs = R) := by
          show TS.tagF _ _ _ = R
          rw [← HRR.out, if_neg hE, if_neg (by rw [hP]; decide)]
          exact tagF_enough _ _ _ _ (Nat.lt_succ_self _) (by omega)
        obtain ⟨c, r, hcr⟩ : ∃ c r, s'.rest = c :: r := by
          cases hh : s'.rest with
          | nil => exact absurd hh hE
          | cons c r => exact ⟨c, r, rfl⟩
        have r5 := fun X hX ho => attrX KN p s' attrs aa ac X hX ho b f1 (by omega) (by omega) c r hcr hal (hKK 0 hK0) (hKK 1 hK1)
        obtain ⟨s2, es2⟩ : ∃ x, (s'.attr attrs).st = x := ⟨_, rfl⟩
        obtain ⟨at2, ea2⟩ : ∃ x, (s'.attr attrs).attrs = x := ⟨_, rfl⟩
        rw [es2, ea2] at HE
        rw [es2] at hlt fit'
        rw [ea2] at hal'
        simp only [es2, ea2] at r5
        clear HRR hP hEq fr es2 ea2 hE hcr HT
        go_wp2_with fail
        go_region_with (first | (refine r1.mono ?_; rintro e w1 ⟨rfl, t1, l1, d1, k1⟩; have r2 := r2 w1 t1 _ l1 d1) | (refine r2.mono ?_; rintro e w2 ⟨rfl, t2, k2⟩))
        replace k2 : Kept K2 wr w2 := (Kept.refl K2 wr).drew.trans (k1.trans k2)
        have r3 := r3 w2 t2
        clear t1 l1 d1 k1 r1 r2
        go_wp2_with fail
        refine r3.mono ?_
        rintro e w3 ⟨rfl, rfl⟩
        clear r3
        have r4 := r4 w3 t2
        go_wp2_with fail
        refine r4.mono ?_
        rintro e w4 ⟨rfl, t4, k4⟩
        replace k4 := k2.trans k4
        have bq := HB.out w4 k4
        have n2 : w4.cell? ⟨N, 2, none⟩ = some (.slice aa attrs.length ac) := by rw [cell_block bq]; rfl
        have o4 := HO.out w4 k4
        have kw4 := HW.out w4 k4
        rw [← HK2.out] at t4
        have r5 := r5 w4 t4 o4
        clear r4 o4
        go_wp2_with fail
        refine r5.mono ?_
        rintro e w5 ⟨aa', ac', rfl, t5, o5, k5⟩
        have b5 := (k5.block N hNK).trans bq
        have m2 : w5.cell? ⟨N, 2, none⟩ = some (.slice aa attrs.length ac) := by rw [cell_block b5]; rfl
        have g2 : w5.frozen? ⟨N, 2, none⟩ = false := frozen_block b5 2
        have b6 : (w5.setCell ⟨N, 2, none⟩ (.slice aa' at2.length ac')).heap[N]? = some (tokB kind nm aa' at2.length ac' false a) := heap_setCell_at b5 2 _
        have t6 : TX (fun k => KN k ∨ blkOf aa' k) (w5.setCell ⟨N, 2, none⟩ (.slice aa' at2.length ac')) p s2 := t5.setK (.inl hNK) hN0 hN1 2 _
        have o6 : OwnZ KN (w5.setCell ⟨N, 2, none⟩ (.slice aa' at2.length ac')) 36 2 aa' at2.length ac' (atrCells at2) := o5.to (fun g hg => (o5.out hg).1) (fun g hg => Below.heap_setCell _ _ _ _ (fun e => (o5.out hg).1 (e ▸ hNK)))
        have k6 : Kept K w (w5.setCell ⟨N, 2, none⟩ (.slice aa' at2.length ac')) := (kw4.trans (k5.mono hKK)).setCell (p := ⟨N, 2, none⟩) hKN _
        clear r5 n2 b5 t5 o5 k5 bq
        go_wp2
        go_roundg s2.rest.length.succ
        case rel => exact ⟨s2, at2, aa', ac', rfl, HE.out, t6, o6, b6, hal', fit', by omega, k6⟩
        case measure => omega
end Go.Proofs.YtncfgahnjakeiaaDoor
