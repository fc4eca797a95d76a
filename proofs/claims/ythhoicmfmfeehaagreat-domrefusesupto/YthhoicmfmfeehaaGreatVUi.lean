/-
  The walk of DomRefuses.
-/
import Derived.Test.YthhoicmfmfeehaaGreatVUg
import Derived.Test.YthhoicmfmfeehaaGreatZ36
import Derived.Deep.CutBlock
namespace Go.Proofs.YthhoicmfmfeehaaGreat
open Go.RowKit Go.Sort
set_option linter.unusedVariables false
/-- A box that is kept is written anew. -/
theorem Two.setRow {K E : Nat → Prop} {w : World} {p r : Nat} {M : Dm} {R G : Nat → List Nat} (h : Two K E w p r M R G) {N : Nat} (hN : K N) (cs : Array Value) : Two K E (w.setRow N cs) p r M R G := by
  have hs : (w.setRow N cs).heap.size = w.heap.size := setRow_size _ _ _
  refine ⟨h.d.move (fun g hg hn => setRow_other _ _ _ _ (fun e => hn (.inl (e ▸ hN)))) (fun k _ hh => hh) (fun k hh => by rw [hs]; exact h.d.lt k hh), h.r.move (fun g hg hn => setRow_other _ _ _ _ (fun e => hn (.inl (e ▸ hN)))) (by rw [hs]; exact Nat.le_refl _) (fun k _ hh => ?_) (fun k hh => ?_), h.nk⟩
  · rcases hh with hh | hh
    · exact .inl hh
    · exact .inr ⟨by have := hh.1; rw [hs] at this; exact this, hh.2⟩
  · rw [hs]
    rcases hh with hh | hh
    · exact h.lt k hh
    · have := hh.1; rw [hs] at this; exact this
/-- A box with the call, both documents beside it; what is not the box stays. -/
structure RefSt (K E : Nat → Prop) (W : World) (p r : Nat) (M : Dm) (R G : Nat → List Nat) (o : Opx) (N : Nat) (K1 : Nat → Prop) (A : OpA) (V : World) : Prop where
  blk : V.heap[N]? = some (.cells (opC o A).toArray 37 (0, 0))
  two : Two K1 E V p r M R G
  ats : AtsAt K1 V A.aa o.ats
  al : o.ats.length ≤ A.ac
  ints : IntsZ K1 V A.la o.l
  il : o.l.length ≤ A.lc
  kk : ∀ k, K k → K1 k
  keep : Kept (fun k => K k ∧ k ≠ N) W V
/-- Behind Within. -/
theorem ref_pre (K E : Nat → Prop) (p r : Nat) (M : Dm) (R G : Nat → List Nat) (W : World) (h2 : Two K E W p r M R G) (o : Opx) (A : OpA) (N : Nat) (hN : K N) (cs : Array Value) (hb : W.heap[N]? = some (.cells cs 37 (0, 0))) (hat : OpAt (fun k => K k ∧ k ≠ N) W A o) :
    ∀ A' w3, A'.aa = A.aa → A'.ac = A.ac → (o.within M.n).l.length ≤ A'.lc → (A'.la = A.la ∧ (o.within M.n).l = o.l ∨ IntsZ (fun k => W.heap.size ≤ k ∧ k < w3.heap.size) w3 A'.la (o.within M.n).l) → Kept (fun k => k < W.heap.size) W w3 → RefSt K E W p r M R G (o.within M.n) N (fun k => K k ∨ (W.heap.size ≤ k ∧ k < w3.heap.size)) A' (w3.setRow N (opC (o.within M.n) A').toArray) := fun A' w3 a1 a2 a3 a4 k3 => by
  have hlt := h2.lt
  have hbN : w3.heap[N]? = some (.cells cs 37 (0, 0)) := (k3.block N (lt_block hb)).trans hb
  have hT : Two (fun k => K k ∨ (W.heap.size ≤ k ∧ k < w3.heap.size)) E w3 p r M R G := h2.more k3 (fun k hl hk => by
    rcases hk with hk | hk
    · exact hk
    · omega) (fun k hk => by
    rcases hk with hk | hk
    · exact Nat.lt_of_lt_of_le (hlt k hk) k3.size
    · exact hk.2)
  have kS : Kept (fun k => K k ∧ k ≠ N) W (w3.setRow N (opC (o.within M.n) A').toArray) := kept_setRow (k3.mono fun k h => hlt k h.1) (fun h => h.2 rfl) _
  have he := within_eq o M.n
  refine ⟨setRow_heap _ _ _ _ _ _ hbN, hT.setRow (.inl hN) _, ?_, by rw [he.2.2.2.2.2.1, a2]; exact hat.2.1, ?_, a3, fun k hk => .inl hk, kS⟩
  · rw [he.2.2.2.2.2.1, a1]
    exact hat.1.kept kS (fun g hg => .inl hg.1)
  · rcases a4 with ⟨a4, a5⟩ | a4
    · rw [a4, a5]
      exact hat.2.2.1.kept kS (fun g hg => .inl hg.1)
    · intro j hj
      obtain ⟨g, o', e, hg, hc⟩ := a4 j hj
      refine ⟨g, o', e, .inr hg, ?_⟩
      rw [cell_setRow_other _ _ _ _ (by show g ≠ N; have := lt_block hb; omega)]
      exact hc
/-- One call in a row of its own. -/
theorem ops_one {w : World} {o : Opx} {A : OpA} (hA : OpAt (fun k => k < w.heap.size) w A o) : OpsAt (fun k => k < (w.alloc (.cells (opC o A).toArray 37)).heap.size) (w.alloc (.cells (opC o A).toArray 37)) (some ⟨w.heap.size, 0, none⟩) [o] := fun j hj => by
  have hk : Kept (fun k => k < w.heap.size) w (w.alloc (.cells (opC o A).toArray 37)) := (Kept.refl _ w).alloc (fun _ h => h) _
  have hb := heap_alloc_new w (.cells (opC o A).toArray 37)
  have hj0 : j = 0 := by simp at hj; exact hj
  subst hj0
  refine ⟨w.heap.size, 0, A, rfl, by simp, hA.kept hk (fun g hg => Nat.lt_of_lt_of_le hg hk.size), fun f u hu => ?_⟩
  rw [show 0 + 0 * 17 + f = f by omega, cell_block hb, ← hu, ← Array.getElem?_toList]
  rfl
set_option maxRecDepth 20000 in
set_option maxHeartbeats 8000000 in
theorem refuses_go (l : List Opx) (n : Nat) (hln : l.length = n) (hnn : n ≤ 40) (a : Option Addr) (c : Nat) (hok : ∀ o ∈ l, OpOk o) (hb : opsH l ≤ 5000) (w : World) (h : OpsAt (fun k => k < w.heap.size) w a l)
    (o : Opx) (A : OpA) (hoo : OpOk o) (hbo : opH o ≤ 2000) (hA : OpAt (fun k => k < w.heap.size) w A o) :
    Calls Tryz.prog 5 #[.slice a n c, opV o A] w fun e w' => e = .returned (.bool true) ∧ Kept (fun k => k < w.heap.size) w w' := by
  obtain ⟨N, hN⟩ : ∃ N, w.heap.size = N := ⟨_, rfl⟩
  obtain ⟨cs, hcs⟩ : ∃ cs, (opC o A).toArray = cs := ⟨_, rfl⟩
  have hsz : cs.size = 17 := by rw [← hcs]; rfl
  obtain ⟨W, hW⟩ : ∃ W, w.alloc (.cells cs 37) = W := ⟨_, rfl⟩
  have kW : Kept (fun k => k < w.heap.size) w W := by rw [← hW]; exact (Kept.refl _ w).alloc (fun _ h => h) _
  have hbW : W.heap[N]? = some (.cells cs 37 (0, 0)) := by rw [← hW, ← hN]; exact heap_alloc_new w _
  have rh := heavy_any l n hln (by omega) a c (by omega) W (h.kept kW fun g hg => Nat.lt_of_lt_of_le hg kW.size)
  have hg40 : decide ((n : Int) > 40) = false := decide_eq_false (by omega)
  obtain ⟨hv, hhv⟩ : ∃ hv, opsH l = hv := ⟨_, rfl⟩
  rw [hhv] at rh
  have hg5 : decide ((hv : Int) > 5000) = false := decide_eq_false (by omega)
  obtain ⟨ov, hov⟩ : ∃ ov, opH o = ov := ⟨_, rfl⟩
  have hg2 : decide ((ov : Int) > 2000) = false := decide_eq_false (by omega)
  have RH1 : Hid (∀ X, Kept (fun k => k < w.heap.size) w X → Calls Tryz.prog 9 #[.slice (some ⟨X.heap.size, 0, none⟩) 1 1] (X.alloc (.cells cs 37)) fun e w' => e = .returned (.int .i64 (ov : Int)) ∧ Kept (fun k => k < (X.alloc (.cells cs 37)).heap.size) (X.alloc (.cells cs 37)) w') := fun X hX => by
    have := heavy_any [o] 1 rfl (by omega) (some ⟨X.heap.size, 0, none⟩) 1 (by simp only [opsH]; omega) (X.alloc (.cells (opC o A).toArray 37)) (ops_one (hA.kept hX fun g hg => Nat.lt_of_lt_of_le hg hX.size))
    rw [hcs] at this
    simp only [opsH, Nat.add_zero, hov] at this
    exact this
  have RG : Hid (∀ X, Kept (fun k => k < w.heap.size) w X → Calls Tryz.prog 16 #[.slice a n c] X fun e w' => ∃ p r E M R G rk, e = .returned (.tuple #[.pointer (some ⟨p, 0, none⟩), .pointer (some ⟨r, 0, none⟩)]) ∧ Grown (fun k => k < X.heap.size) E w' p r M R G rk 300 ∧ Kept (fun k => k < X.heap.size) X w') := fun X hX => grown_any l n hln (by omega) a c hok (by omega) X (h.kept hX fun g hg => Nat.lt_of_lt_of_le hg hX.size)
  have HW : Hid (w.alloc (.cells cs 37) = W) := hW
  have HN : Hid (w.heap.size = N) := hN
  have HBW : Hid (W.heap[N]? = some (.cells cs 37 (0, 0))) := hbW
  have HKW : Hid (Kept (fun k => k < w.heap.size) w W) := kW
  have HA : Hid (OpAt (fun k => k < w.heap.size) w A o) := hA
  have HCS : Hid ((opC o A).toArray = cs) := hcs
  have HOO : Hid (OpOk o ∧ opH o ≤ 2000) := ⟨hoo, hbo⟩
  have hvv : opV o A = .agg cs := by rw [← hcs]
  rw [hvv]
  clear hvv hW hN hbW kW hln hok hb h hhv hov hoo hbo hA hcs
  go_enter Tryz.func5, Tryz.ntmps5
  go_upto_region 1 with fail
  rw [HW.out, HN.out]
  clear HW
  go_wp2_with fail
  refine rh.mono ?_
  rintro e w1 ⟨rfl, k1⟩
  have k01 : Kept (fun k => k < w.heap.size) w w1 := HKW.out.trans (k1.mono fun k h => Nat.lt_of_lt_of_le h HKW.out.size)
  have hb1 : w1.heap[N]? = some (.cells cs 37 (0, 0)) := (k1.block N (lt_block HBW.out)).trans HBW.out
  have rh1 := RH1.out w1 k01
  have HK01 : Hid (Kept (fun k => k < w.heap.size) w w1) := k01
  have HB1 : Hid (w1.heap[N]? = some (.cells cs 37 (0, 0))) := hb1
  have cell : ∀ f u, (opC o A)[f]? = some u → w1.cell? ⟨N, f, none⟩ = some u := fun f u hu => by rw [cell_block hb1, ← HCS.out, ← hu, ← Array.getElem?_toList]
  have e0 := cell 0 _ rfl
  have e1 := cell 1 _ rfl
  have e2 := cell 2 _ rfl
  have e3 := cell 3 _ rfl
  have e4 := cell 4 _ rfl
  have e5 := cell 5 _ rfl
  have e6 := cell 6 _ rfl
  have e7 := cell 7 _ rfl
  have e8 := cell 8 _ rfl
  have e9 := cell 9 _ rfl
  have e10 := cell 10 _ rfl
  have e11 := cell 11 _ rfl
  have e12 := cell 12 _ rfl
  have e13 := cell 13 _ rfl
  have e14 := cell 14 _ rfl
  have e15 := cell 15 _ rfl
  have e16 := cell 16 _ rfl
  rw [← HCS.out] at rh1
  have HRH1 : Hid (Calls Tryz.prog 9 #[.slice (some ⟨w1.heap.size, 0, none⟩) 1 1] (w1.alloc (.cells (opC o A).toArray 37)) fun e w' => e = .returned (.int .i64 (ov : Int)) ∧ Kept (fun k => k < (w1.alloc (.cells (opC o A).toArray 37)).heap.size) (w1.alloc (.cells (opC o A).toArray 37)) w') := rh1
  clear rh k1 k01 RH1 cell hb1 rh1
  go_wp2_with fail
  refine HRH1.out.mono ?_
  rintro e w2 ⟨rfl, k2⟩
  have k12 : Kept (fun k => k < w1.heap.size) w1 w2 := ((Kept.refl _ w1).alloc (fun _ h => h) _).trans (k2.mono fun k h => by simp; omega)
  have rk0 := known_any w2
  have HK12 : Hid (Kept (fun k => k < w1.heap.size) w1 w2) := k12
  clear HRH1 k2 k12 e0 e1 e2 e3 e4 e5 e6 e7 e8 e9 e10 e11 e12 e13 e14 e15 e16
  go_wp2_with fail
  refine rk0.mono ?_
  rintro e w3 ⟨rfl, k3⟩
  have HK13 : Hid (Kept (fun k => k < w1.heap.size) w1 w3) := HK12.out.trans (k3.mono fun k h => Nat.lt_of_lt_of_le h HK12.out.size)
  have k03 : Kept (fun k => k < w.heap.size) w w3 := HK01.out.trans (HK13.out.mono fun k h => Nat.lt_of_lt_of_le h HK01.out.size)
  have HK03 : Hid (Kept (fun k => k < w.heap.size) w w3) := k03
  have rg := RG.out w3 k03
  have HB3 : Hid (w3.heap[N]? = some (.cells cs 37 (0, 0))) := (HK13.out.block N (lt_block HB1.out)).trans HB1.out
  clear rk0 k3 k03 RG HK12 HK13
  go_wp2_with fail
  refine rg.mono ?_
  rintro e W4 ⟨p, r, E, M, R, G, rk, rfl, hG, hK⟩
  have HG : Hid (Grown (fun k => k < w3.heap.size) E W4 p r M R G rk 300) := hG
  have hb4 : W4.heap[N]? = some (.cells cs 37 (0, 0)) := (hK.block N (lt_block HB3.out)).trans HB3.out
  have HB4 : Hid (W4.heap[N]? = some (.cells cs 37 (0, 0))) := hb4
  have HB4d : Hid (W4.drew.heap[N]? = some (.cells cs 37 (0, 0))) := hb4
  have hNW := lt_block hb4
  have HK34 : Hid (Kept (fun k => k < w3.heap.size) w3 W4) := hK
  have hm3 : M.n ≤ 300 := by have h1 := hG.le; rw [hG.lim] at h1; exact h1
  have hat4 : OpAt (fun k => k < w3.heap.size ∧ k ≠ N) W4 A o := ((HA.out.kept HK03.out (fun g hg => hg)).kept (hK.mono fun k h => Nat.lt_of_lt_of_le h HK03.out.size) (fun g hg => ⟨Nat.lt_of_lt_of_le hg HK03.out.size, by have := HN.out; omega⟩))
  have hpre := ref_pre _ E p r M R G W4 hG.two o A N (lt_block HB3.out) cs hb4 hat4
  have rl := rlen_any _ r M R G W4.drew (hG.two.kept ((Kept.refl _ W4).drew)).r
  have rw0 := opWithin_any o A M.n hG.inv.core.pos (by omega) (by have := HOO.out.2; unfold opH at this; omega) W4.drew (hat4.2.2.1.kept (w' := W4.drew) ((Kept.refl _ W4).drew) (fun g hg => Nat.lt_of_lt_of_le hg.1 hK.size)) hat4.2.2.2
  obtain ⟨o', ho'⟩ : ∃ o', o.within M.n = o' := ⟨_, rfl⟩
  have hwe := within_eq o M.n
  rw [ho'] at hpre rw0 hwe
  obtain ⟨mn, hmn⟩ : ∃ mn, M.n = mn := ⟨_, rfl⟩
  rw [hmn] at rl rw0
  have HRW : Hid (∀ A' w3', A'.aa = A.aa → A'.ac = A.ac → o'.l.length ≤ A'.lc → (A'.la = A.la ∧ o'.l = o.l ∨ IntsZ (fun k => W4.heap.size ≤ k ∧ k < w3'.heap.size) w3' A'.la o'.l) → Kept (fun k => k < W4.heap.size) W4 w3' → RefSt (fun k => k < w3.heap.size) E W4 p r M R G o' N (fun k => k < w3.heap.size ∨ (W4.heap.size ≤ k ∧ k < w3'.heap.size)) A' (w3'.setRow N (opC o' A').toArray)) := hpre
  have HRL : Hid (Calls Tryz.prog 20 #[.pointer (some ⟨r, 0, none⟩)] W4.drew fun e w' => e = .returned (.int .i64 (mn : Int)) ∧ w' = W4.drew) := rl
  have HR0 : Hid (Calls Tryz.prog 19 #[.agg cs, .int .i64 (mn : Int)] W4.drew fun e w' => ∃ A' : OpA, e = .returned (opV o' A') ∧ A'.aa = A.aa ∧ A'.ac = A.ac ∧ o'.l.length ≤ A'.lc ∧ (A'.la = A.la ∧ o'.l = o.l ∨ IntsZ (fun k => W4.drew.heap.size ≤ k ∧ k < w'.heap.size) w' A'.la o'.l) ∧ Kept (fun k => k < W4.drew.heap.size) W4.drew w') := by rw [← HCS.out]; exact rw0
  have HWI : Hid (o'.k = o.k ∧ o'.inn = o.inn ∧ o'.nk = o.nk ∧ o'.nn = o.nn ∧ o'.nd = o.nd ∧ o'.ats = o.ats ∧ o'.s = o.s ∧ o'.t = o.t ∧ o'.f = o.f ∧ o'.l.length = o.l.length) := hwe
  have HMN : Hid (M.n = mn) := hmn
  clear rg hG hK hb4 hat4 hpre rl rw0 ho' hwe hmn
  go_upto_region 6 with fail
  go_cut [] (fun wx => ∃ K1 A', RefSt (fun k => k < w3.heap.size) E W4 p r M R G o' N K1 A' wx)
  case first =>
    refine wp_region_any (by kernel_rfl) ?_
    change wpAny _ _ _ _ _ _ _ (World.drew _)
    refine wpAny_take (i := 1) (v := .pointer (some ⟨r, 0, none⟩)) rfl (by kernel_rfl) (by kernel_rfl) (by kernel_rfl) (fun _ _ _ h => h) (Or.inl ⟨by rfl, by intro w; go_simp; try with_reducible rfl⟩) ?_
    refine wpAny_ready (rs := [0, 2]) (by kernel_rfl) (by simp) ?_
    refine AllReady.cons rfl (fun Kx hKx => ?_) (AllReady.cons rfl (fun Kx hKx => ?_) AllReady.nil)
    · refine step_load17 rfl (.tmp 3) rfl N rfl cs HB4d.out hsz ?_
      refine hKx _ _ ?_
      clear hKx Kx
      refine wpAny_ready (rs := [2]) (by kernel_rfl) (by simp) ?_
      refine AllReady.cons rfl (fun Kx hKx => ?_) AllReady.nil
      refine step_callE rfl 20 #[.tmp 35] #[27] rfl #[.pointer (some ⟨r, 0, none⟩)] (by first | rfl | (simp [Act.eval]; done) | (simp [Act.eval, Act.put]; done)) (enter20 _ _) _ HRL.out ?_
      rintro e Y ⟨rfl, hY⟩
      subst hY
      refine ⟨_, rfl, hKx _ _ ?_⟩
      clear hKx Kx
      refine wpAny_ready (rs := [3]) (by kernel_rfl) (by simp) ?_
      refine AllReady.cons rfl (fun Kx hKx => ?_) AllReady.nil
      refine step_callE rfl 19 #[.tmp 34, .tmp 36] #[37, 3] rfl #[.agg cs, .int .i64 (mn : Int)] (by first | rfl | (simp [Act.eval]; done) | (simp [Act.eval, Act.put]; done)) (enter19 _ _) _ HR0.out ?_
      rintro e w9 ⟨A', rfl, a1, a2, a3, a4, k3⟩
      refine ⟨_, rfl, hKx _ _ ?_⟩
      clear hKx Kx
      have hdone := HRW.out A' w9 a1 a2 a3 a4 (((Kept.refl _ W4).drew).trans k3)
      have hb3 : w9.heap[N]? = some (.cells cs 37 (0, 0)) := (k3.block N hNW).trans HB4.out
      refine wpAny_ready (rs := [4]) (by kernel_rfl) (by simp) ?_
      refine AllReady.cons rfl (fun Kx hKx => ?_) AllReady.nil
      refine step_store17 rfl (.tmp 3) (.tmp 37) rfl N (opC o' A').toArray rfl rfl cs hb3 rfl hsz (opC_one _ _) ?_
      refine hKx _ _ ?_
      clear hKx Kx
      refine wpAny_done (by kernel_rfl) ?_ _
      go_wp2_with fail
      go_meet
      case rel => exact ⟨_, A', hdone⟩
    · refine step_callE rfl 20 #[.tmp 35] #[27] rfl #[.pointer (some ⟨r, 0, none⟩)] (by first | rfl | (simp [Act.eval]; done) | (simp [Act.eval, Act.put]; done)) (enter20 _ _) _ HRL.out ?_
      rintro e Y ⟨rfl, hY⟩
      subst hY
      refine ⟨_, rfl, hKx _ _ ?_⟩
      clear hKx Kx
      refine wpAny_ready (rs := [0]) (by kernel_rfl) (by simp) ?_
      refine AllReady.cons rfl (fun Kx hKx => ?_) AllReady.nil
      refine step_load17 rfl (.tmp 3) rfl N rfl cs HB4d.out hsz ?_
      refine hKx _ _ ?_
      clear hKx Kx
      refine wpAny_ready (rs := [3]) (by kernel_rfl) (by simp) ?_
      refine AllReady.cons rfl (fun Kx hKx => ?_) AllReady.nil
      refine step_callE rfl 19 #[.tmp 34, .tmp 36] #[37, 3] rfl #[.agg cs, .int .i64 (mn : Int)] (by first | rfl | (simp [Act.eval]; done) | (simp [Act.eval, Act.put]; done)) (enter19 _ _) _ HR0.out ?_
      rintro e w9 ⟨A', rfl, a1, a2, a3, a4, k3⟩
      refine ⟨_, rfl, hKx _ _ ?_⟩
      clear hKx Kx
      have hdone := HRW.out A' w9 a1 a2 a3 a4 (((Kept.refl _ W4).drew).trans k3)
      have hb3 : w9.heap[N]? = some (.cells cs 37 (0, 0)) := (k3.block N hNW).trans HB4.out
      refine wpAny_ready (rs := [4]) (by kernel_rfl) (by simp) ?_
      refine AllReady.cons rfl (fun Kx hKx => ?_) AllReady.nil
      refine step_store17 rfl (.tmp 3) (.tmp 37) rfl N (opC o' A').toArray rfl rfl cs hb3 rfl hsz (opC_one _ _) ?_
      refine hKx _ _ ?_
      clear hKx Kx
      refine wpAny_done (by kernel_rfl) ?_ _
      go_wp2_with fail
      go_meet
      case rel => exact ⟨_, A', hdone⟩
  case rest =>
    obtain ⟨K1, A', hst⟩ := hcut
    have HST : Hid (RefSt (fun k => k < w3.heap.size) E W4 p r M R G o' N K1 A' wc) := hst
    have hbl := hst.blk
    clear hst HRW HRL HR0 HB4 HB4d
    obtain ⟨kd, hkd⟩ : ∃ kd, o'.k = kd := ⟨_, rfl⟩
    have cN : ∀ f u, (opC o' A')[f]? = some u → wc.cell? ⟨N, f, none⟩ = some u := fun f u hu => by rw [cell_block hbl, ← hu, ← Array.getElem?_toList]
    have hk0 : wc.cell? ⟨N, 0, none⟩ = some (.int .u8 (kd : Int)) := by rw [← hkd]; exact cN 0 _ rfl
    obtain ⟨q, hq⟩ : ∃ q, kd % 7 = q := ⟨_, rfl⟩
    have hkm : (kd : Int).tmod 7 = (q : Int) := by rw [← hq]; rfl
    have hq7 : q < 7 := by omega
    obtain ⟨za, hza⟩ : ∃ z, o'.a = z := ⟨_, rfl⟩
    obtain ⟨zb, hzb0⟩ : ∃ z, o'.b = z := ⟨_, rfl⟩
    obtain ⟨zc, hzc⟩ : ∃ z, o'.c = z := ⟨_, rfl⟩
    obtain ⟨S, hS⟩ : ∃ z, o'.s = z := ⟨_, rfl⟩
    obtain ⟨T, hT⟩ : ∃ z, o'.t = z := ⟨_, rfl⟩
    obtain ⟨ln, hln⟩ : ∃ z, o'.l.length = z := ⟨_, rfl⟩
    obtain ⟨fg, hfg⟩ : ∃ z, o'.f = z := ⟨_, rfl⟩
    have c1 : wc.cell? ⟨N, 1, none⟩ = some (.int .i64 za) := by rw [← hza]; exact cN 1 _ rfl
    have c2 : wc.cell? ⟨N, 2, none⟩ = some (.int .i64 zb) := by rw [← hzb0]; exact cN 2 _ rfl
    have c3 : wc.cell? ⟨N, 3, none⟩ = some (.int .i64 zc) := by rw [← hzc]; exact cN 3 _ rfl
    have c9 : wc.cell? ⟨N, 9, none⟩ = some (.string S) := by rw [← hS]; exact cN 9 _ rfl
    have c10 : wc.cell? ⟨N, 10, none⟩ = some (.string T) := by rw [← hT]; exact cN 10 _ rfl
    have c11 : wc.cell? ⟨N, 11, none⟩ = some (.slice A'.la ln A'.lc) := by rw [← hln]; exact cN 11 _ rfl
    have f0 : wc.cell? ⟨N, 12, none⟩ = some (.bool fg.a) := by rw [← hfg]; exact cN 12 _ rfl
    have f1 : wc.cell? ⟨N, 13, none⟩ = some (.bool fg.b) := by rw [← hfg]; exact cN 13 _ rfl
    have f2 : wc.cell? ⟨N, 14, none⟩ = some (.bool fg.c) := by rw [← hfg]; exact cN 14 _ rfl
    have f3 : wc.cell? ⟨N, 15, none⟩ = some (.bool fg.d) := by rw [← hfg]; exact cN 15 _ rfl
    have f4 : wc.cell? ⟨N, 16, none⟩ = some (.bool fg.e) := by rw [← hfg]; exact cN 16 _ rfl
    have d5 : wc.cell? ⟨N, 5, none⟩ = some (.int .u8 (o'.nk : Int)) := cN 5 _ rfl
    have d6 : wc.cell? ⟨N, 6, none⟩ = some (.string o'.nn) := cN 6 _ rfl
    have d7 : wc.cell? ⟨N, 7, none⟩ = some (.string o'.nd) := cN 7 _ rfl
    have d8 : wc.cell? ⟨N, 8, none⟩ = some (.slice A'.aa o'.ats.length A'.ac) := cN 8 _ rfl
    have d4 : wc.cell? ⟨N, 4, none⟩ = some (.bool o'.inn) := cN 4 _ rfl
    have hn5 : M.n ≤ 100000 := by omega
    have hvy : opH o ≤ 2000 := HOO.out.2
    unfold opH at hvy
    have hSz : S.size ≤ 900000 := by rw [← hS, HWI.out.2.2.2.2.2.2.1]; omega
    have hTz : T.size ≤ 900000 := by rw [← hT, HWI.out.2.2.2.2.2.2.2.1]; omega
    have hlz : ln ≤ 900000 := by rw [← hln, HWI.out.2.2.2.2.2.2.2.2.2]; omega
    have hnn' : o'.nn.size ≤ 900000 := by rw [HWI.out.2.2.2.1]; omega
    have hnk : o'.nk < 256 := by rw [HWI.out.2.2.1]; exact HOO.out.1.nk
    have hah : atsH o'.ats ≤ 900000 := by rw [HWI.out.2.2.2.2.2.1]; omega
    clear hbl cN hkd hq hza hzb0 hzc hS hT hfg hvy
    go_upto_block 0 with fail
    obtain ⟨wc0, rfl⟩ : ∃ X, X = wc := ⟨_, rfl⟩
    go_cut [7] (fun v7 wx => ∃ z, v7 = .int .u16 z ∧ (0 ≤ z ∧ z ≤ 200) ∧ (z = 0 ∨ Two K1 E wx p r M R G) ∧ Kept K1 wc0 wx)
    case first =>
      by_cases q1 : q = 1
      · subst q1
        obtain ⟨z, M', R', rk', hI', hG', hsame, hzb, hd, -⟩ := both_ins HG.out.inv hn5 za zb zc
        have hd1 := hd _ wc0 p HST.out.two.d
        go_wp2_with fail
        refine hd1.mono ?_
        rintro e Y ⟨rfl, hDY, hKY⟩
        obtain ⟨hDY2, hRY, hKK⟩ := HST.out.two.byD hKY hDY
        have HREL : Hid ((0 ≤ z ∧ z ≤ 200) ∧ (z = 0 ∨ Two K1 E Y p r M R G) ∧ Kept K1 wc0 Y) := ⟨hzb, by
          rcases hsame with e | e
          · exact .inl e
          · right
            obtain ⟨rfl, rfl⟩ := e
            exact ⟨hDY2, hRY, HST.out.two.nk⟩, hKK⟩
        clear hd1 hDY hKY hDY2 hRY hKK hI' hG' hsame hd
        go_wp2
        go_meet
        case rel => exact ⟨z, rfl, HREL.out⟩
      by_cases q2 : q = 2
      · subst q2
        obtain ⟨z, M', R', rk', hI', hG', hsame, hzb, hd, -⟩ := both_rem HG.out.inv hn5 za
        have hd1 := hd _ wc0 p HST.out.two.d
        go_wp2_with fail
        refine hd1.mono ?_
        rintro e Y ⟨rfl, hDY, hKY⟩
        obtain ⟨hDY2, hRY, hKK⟩ := HST.out.two.byD hKY hDY
        have HREL : Hid ((0 ≤ z ∧ z ≤ 200) ∧ (z = 0 ∨ Two K1 E Y p r M R G) ∧ Kept K1 wc0 Y) := ⟨hzb, by
          rcases hsame with e | e
          · exact .inl e
          · right
            obtain ⟨rfl, rfl⟩ := e
            exact ⟨hDY2, hRY, HST.out.two.nk⟩, hKK⟩
        clear hd1 hDY hKY hDY2 hRY hKK hI' hG' hsame hd
        go_wp2
        go_meet
        case rel => exact ⟨z, rfl, HREL.out⟩
      by_cases q3 : q = 3
      · subst q3
        obtain ⟨v, z, M', R', G', rk', hI', hG', hsame, hzb, hd, -⟩ := both_root HG.out.inv hn5 (by rw [HG.out.lim]; decide) za fg
        have hd1 := hd _ wc0 p HST.out.two.d
        go_wp2_with fail
        refine hd1.mono ?_
        rintro e Y ⟨rfl, hDY, hKY⟩
        obtain ⟨hDY2, hRY, hKK⟩ := HST.out.two.byD hKY hDY
        have HREL : Hid ((0 ≤ z ∧ z ≤ 200) ∧ (z = 0 ∨ Two K1 E Y p r M R G) ∧ Kept K1 wc0 Y) := ⟨hzb, by
          rcases hsame with e | e
          · exact .inl e
          · right
            obtain ⟨rfl, rfl, rfl⟩ := e
            exact ⟨hDY2, hRY, HST.out.two.nk⟩, hKK⟩
        clear hd1 hDY hKY hDY2 hRY hKK hI' hG' hsame hd
        go_wp2
        go_meet
        case rel => exact ⟨z, rfl, HREL.out⟩
      by_cases q4 : q = 4
      · subst q4
        obtain ⟨z, M', rk', hI', hG', hsame, hzb, hd, -⟩ := both_set HG.out.inv hn5 za S T (by omega) (by omega)
        have hd1 := hd _ wc0 p HST.out.two.d
        go_wp2_with fail
        refine hd1.mono ?_
        rintro e Y ⟨rfl, hDY, hKY⟩
        obtain ⟨hDY2, hRY, hKK⟩ := HST.out.two.byD hKY hDY
        have HREL : Hid ((0 ≤ z ∧ z ≤ 200) ∧ (z = 0 ∨ Two K1 E Y p r M R G) ∧ Kept K1 wc0 Y) := ⟨hzb, by
          rcases hsame with e | e
          · exact .inl e
          · right
            subst e
            exact ⟨hDY2, hRY, HST.out.two.nk⟩, hKK⟩
        clear hd1 hDY hKY hDY2 hRY hKK hI' hG' hsame hd
        go_wp2
        go_meet
        case rel => exact ⟨z, rfl, HREL.out⟩
      by_cases q5 : q = 5
      · subst q5
        obtain ⟨z, M', rk', hI', hG', hsame, hzb, hd, -⟩ := both_drop HG.out.inv hn5 za S
        have hd1 := hd _ wc0 p HST.out.two.d
        go_wp2_with fail
        refine hd1.mono ?_
        rintro e Y ⟨rfl, hDY, hKY⟩
        obtain ⟨hDY2, hRY, hKK⟩ := HST.out.two.byD hKY hDY
        have HREL : Hid ((0 ≤ z ∧ z ≤ 200) ∧ (z = 0 ∨ Two K1 E Y p r M R G) ∧ Kept K1 wc0 Y) := ⟨hzb, by
          rcases hsame with e | e
          · exact .inl e
          · right
            subst e
            exact ⟨hDY2, hRY, HST.out.two.nk⟩, hKK⟩
        clear hd1 hDY hKY hDY2 hRY hKK hI' hG' hsame hd
        go_wp2
        go_meet
        case rel => exact ⟨z, rfl, HREL.out⟩
      by_cases q0 : q = 0
      · subst q0
        have rn : ∀ X, Calls Tryz.prog 22 #[.agg #[.int .u8 (o'.nk : Int), .string o'.nn, .string o'.nd, .slice A'.aa o'.ats.length A'.ac], .bool o'.inn] X fun e w' => e = .returned (.agg (nodeC (o'.nKind : Int) o'.nName o'.nData (A'.nAa o') o'.nAts.length (A'.nAc o'))) ∧ Kept (fun j => j < X.heap.size) X w' := fun X => by
          cases hi : o'.inn with
          | false => rw [← hi]; exact node_out o' A' hi X
          | true => rw [← hi]; exact node_in o' A' hi hnk (by omega) X
        obtain ⟨nKd, hnKd⟩ : ∃ z, o'.nKind = z := ⟨_, rfl⟩
        obtain ⟨nNm, hnNm⟩ : ∃ z, o'.nName = z := ⟨_, rfl⟩
        obtain ⟨nDt, hnDt⟩ : ∃ z, o'.nData = z := ⟨_, rfl⟩
        obtain ⟨nAt, hnAt⟩ : ∃ z, o'.nAts = z := ⟨_, rfl⟩
        obtain ⟨nAa, hnAa⟩ : ∃ z, A'.nAa o' = z := ⟨_, rfl⟩
        obtain ⟨nAc, hnAc⟩ : ∃ z, A'.nAc o' = z := ⟨_, rfl⟩
        obtain ⟨nLn, hnLn⟩ : ∃ z, nAt.length = z := ⟨_, rfl⟩
        have hnS : nNm.size < 1000000 := by
          rw [← hnNm]
          exact Nat.lt_of_le_of_lt (nName_size o') (by omega)
        have hatk : AtsAt K1 wc0 nAa nAt ∧ nAt.length ≤ nAc ∧ atsH nAt ≤ 900000 := by
          rw [← hnAa, ← hnAt, ← hnAc]
          unfold Opx.nAts OpA.nAa OpA.nAc
          cases hi : o'.inn with
          | false => exact ⟨by simpa using HST.out.ats, by simpa using HST.out.al, by simpa using hah⟩
          | true => exact ⟨by simpa using AtsAt.nil _ _ _, by simp, by simp [atsH]⟩
        have hsz5 : ∀ x ∈ nAt, x.name.length < 1000000 ∧ x.value.length < 1000000 := fun x hx => by have := atsH_mem hx; omega
        obtain ⟨v, z, M', R', G', rk', hI', hG', hsame, hzb, hd, -⟩ := both_make HG.out.inv hn5 (by rw [HG.out.lim]; decide) nKd nNm nDt nAt nLn hnLn (by have := atsH_len nAt; omega) hsz5 hnS nAa nAc (by rw [← hnLn]; exact hatk.2.1)
        rw [hnKd, hnNm, hnDt, hnAt, hnAa, hnAc, hnLn] at rn
        obtain ⟨i4, hi4⟩ : ∃ z, o'.inn = z := ⟨_, rfl⟩
        obtain ⟨k5, hk5⟩ : ∃ z, o'.nk = z := ⟨_, rfl⟩
        obtain ⟨n6, hn6⟩ : ∃ z, o'.nn = z := ⟨_, rfl⟩
        obtain ⟨n7, hn7⟩ : ∃ z, o'.nd = z := ⟨_, rfl⟩
        obtain ⟨n8, hn8⟩ : ∃ z, o'.ats.length = z := ⟨_, rfl⟩
        rw [hi4, hk5, hn6, hn7, hn8] at rn
        rw [hk5] at d5
        rw [hn6] at d6
        rw [hn7] at d7
        rw [hn8] at d8
        rw [hi4] at d4
        have RN : Hid (∀ X, Calls Tryz.prog 22 #[.agg #[.int .u8 (k5 : Int), .string n6, .string n7, .slice A'.aa n8 A'.ac], .bool i4] X fun e w' => e = .returned (.agg (nodeC (nKd : Int) nNm nDt nAa nLn nAc)) ∧ Kept (fun j => j < X.heap.size) X w') := rn
        have HAT : Hid (AtsAt K1 wc0 nAa nAt) := hatk.1
        clear rn hatk hsz5 hnKd hnNm hnDt hnAt hnAa hnAc hnLn hi4 hk5 hn6 hn7 hn8
        go_wp2_with fail
        refine (RN.out _).mono ?_
        rintro e X1 ⟨rfl, k1⟩
        have hT1 := HST.out.two.kept k1
        have hA1 : AtsAt (fun k => k < X1.heap.size) X1 nAa nAt := HAT.out.kept (k1.mono HST.out.two.lt) (fun g hg => Nat.lt_of_lt_of_le (HST.out.two.lt g hg) k1.size)
        have hd1 := hd _ X1 p hT1.d hA1
        have HK1X : Hid (Kept K1 wc0 X1) := k1.mono HST.out.two.lt
        have HT1 : Hid (Two K1 E X1 p r M R G) := hT1
        clear k1 hT1 hA1
        go_wp2_with fail
        refine hd1.mono ?_
        rintro e Y ⟨rfl, hDY, hKY⟩
        obtain ⟨hDY2, hRY, hKK⟩ := HT1.out.byD hKY hDY
        have HREL : Hid ((0 ≤ z ∧ z ≤ 200) ∧ (z = 0 ∨ Two K1 E Y p r M R G) ∧ Kept K1 wc0 Y) := ⟨hzb, by
          rcases hsame with e | e
          · exact .inl e
          · right
            obtain ⟨rfl, rfl, rfl⟩ := e
            exact ⟨hDY2, hRY, HT1.out.nk⟩, HK1X.out.trans hKK⟩
        clear hd1 hDY hKY hDY2 hRY hKK hI' hG' hsame hd
        go_wp2
        go_meet
        case rel => exact ⟨z, rfl, HREL.out⟩
      have hq6 : q = 6 := by omega
      subst hq6
      obtain ⟨z, M', G', rk', hI', hG', hsame, hzb, hd, -⟩ := both_give HG.out.inv hn5 za o'.l ln hln (by omega) A'.la A'.lc
      have hd1 := hd _ wc0 p HST.out.two.d (HST.out.ints.kept (Kept.refl _ _) (fun g hg => .inl hg))
      go_wp2_with fail
      refine hd1.mono ?_
      rintro e Y ⟨rfl, hDY, hKY⟩
      obtain ⟨hDY2, hRY, hKK⟩ := HST.out.two.byD hKY hDY
      have HREL : Hid ((0 ≤ z ∧ z ≤ 200) ∧ (z = 0 ∨ Two K1 E Y p r M R G) ∧ Kept K1 wc0 Y) := ⟨hzb, by
        rcases hsame with e | e
        · exact .inl e
        · right
          obtain ⟨rfl, rfl⟩ := e
          exact ⟨hDY2, hRY, HST.out.two.nk⟩, hKK⟩
      clear hd1 hDY hKY hDY2 hRY hKK hI' hG' hsame hd
      go_wp2
      go_meet
      case rel => exact ⟨z, rfl, HREL.out⟩
    case rest =>
      obtain ⟨z, rfl, hzb, hzt, hKz⟩ := hcut
      have HKZ : Hid (Kept (fun k => k < w.heap.size) w wc) := by
        have h34 : Kept (fun k => k < w.heap.size) w W4 := HK03.out.trans (HK34.out.mono fun k h => Nat.lt_of_lt_of_le h HK03.out.size)
        have hst : Kept (fun k => k < w.heap.size) W4 wc0 := HST.out.keep.mono fun k h => ⟨Nat.lt_of_lt_of_le h HK03.out.size, by have := HN.out; omega⟩
        exact (show Hid _ from (h34.trans hst).trans (hKz.mono fun k h => HST.out.kk k (Nat.lt_of_lt_of_le h HK03.out.size)))
      clear hKz
      by_cases z0 : z = 0
      · subst z0
        go_wp2
        go_ret
        exact ⟨rfl, HKZ.out⟩
      · have zn : (z == 0) = false := by simpa using z0
        have hT9 : Two K1 E wc p r M R G := by
          rcases hzt with e | e
          · exact absurd e z0
          · exact e
        have rs := same_any _ _ wc p r M R G rk hT9 HG.out.inv (by omega)
        clear hzt hT9
        go_wp2_with fail
        refine rs.mono ?_
        rintro e w8 ⟨rfl, k8⟩
        have HKE : Hid (Kept (fun k => k < w.heap.size) w w8) := HKZ.out.trans (k8.mono fun k h => Nat.lt_of_lt_of_le h HKZ.out.size)
        clear rs k8
        go_wp2
        go_ret
        exact ⟨rfl, HKE.out⟩
end Go.Proofs.YthhoicmfmfeehaaGreat
