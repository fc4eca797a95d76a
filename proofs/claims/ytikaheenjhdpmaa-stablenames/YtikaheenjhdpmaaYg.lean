/-
  What stable.Same answers.
-/
import Derived.Test.YtikaheenjhdpmaaYf
namespace Go.Proofs.Ytikaheenjhdpmaa
open Go.RowKit Go.Sort
set_option linter.unusedVariables false
set_option maxRecDepth 100000
set_option maxHeartbeats 16000000
theorem yieldsN {o : Oper} {a : Act} {X : World} {x : Operand} {N : Nat} {cs : Array Value} (ho : o.op = .load 35 x) (hx : a.eval x = .pointer (some ⟨N, 0, none⟩)) (hb : X.heap[N]? = some (.cells cs 35 (0, 0))) (hc : cs.size = 14) :
    (execOp a.eval o).run Try.prog X = .ok (.value (.agg cs)) X := by
  unfold execOp
  simp only [ho, hx, Instr.loadAt, Instr.sureAddr, Sem.run_bind, Sem.run_pure, Result.andThen_ok, run_loadVar_row X N 35 35 cs (0, 0) _ hb Try.underlying35 rfl (sizeN cs hc)]
theorem sizeP2 (cs : Array Value) (h : cs.size = 2) : (Try.prog.info? 72).map (·.size) = some cs.size := by rw [h]; kernel_rfl
theorem yieldsP {o : Oper} {a : Act} {X : World} {x : Operand} {N : Nat} {cs : Array Value} (ho : o.op = .load 72 x) (hx : a.eval x = .pointer (some ⟨N, 0, none⟩)) (hb : X.heap[N]? = some (.cells cs 72 (0, 0))) (hc : cs.size = 2) :
    (execOp a.eval o).run Try.prog X = .ok (.value (.agg cs)) X := by
  unfold execOp
  simp only [ho, hx, Instr.loadAt, Instr.sureAddr, Sem.run_bind, Sem.run_pure, Result.andThen_ok, run_loadVar_row X N 72 72 cs (0, 0) _ hb Try.underlying72 rfl (sizeP2 cs hc)]
theorem enterFace (args : Array Value) (X : World) : (callFunc 48 args).run Try.prog X = .ok (.enter 48 args) X := entersE Try.func48 (by kernel_rfl) (c := _) rfl args X
theorem enterEqA (args : Array Value) (X : World) : (callFunc 49 args).run Try.prog X = .ok (.enter 49 args) X := entersE Try.func49 (by kernel_rfl) (c := _) rfl args X
theorem enterBes (args : Array Value) (X : World) : (callFunc 50 args).run Try.prog X = .ok (.enter 50 args) X := entersE Try.func50 (by kernel_rfl) (c := _) rfl args X
theorem enterAlk (args : Array Value) (X : World) : (callFunc 29 args).run Try.prog X = .ok (.enter 29 args) X := entersE Try.func29 (by kernel_rfl) (c := _) rfl args X
section
variable {w0 : World} {p p' : Nat} {M M' : Dm} {R R' : Nat → List Nat} {f : Nat}
def BesC (w0 : World) (p p' : Nat) (s t : Int) (v : Bool) : Prop := ∀ X, Kept (fun k => k < w0.heap.size) w0 X → Calls Try.prog 50 #[prV p p', .int .i64 s, .int .i64 t] X fun e w' => e = .returned (.bool v) ∧ Kept (fun k => k < X.heap.size) X w'
theorem alike1_F (rd : Rd2 w0 p p' M M' R R') (a b : Nat) (ha : a < M.n) (hb : b < M'.n) (hA : AlkC w0 p p' M M' R R' f a b) (bs bc : Bool) (hS : BesC w0 p p' (M.nd a).shadow (M'.nd b).shadow bs) (hC : BesC w0 p p' (M.nd a).content (M'.nd b).content bc) (h50 : (M.nd a).attrs.length ≤ 100000 ∧ (M'.nd b).attrs.length ≤ 100000) (h0 : faceB (M.nd a) (M'.nd b) = false) (X : World) (hX : Kept (fun k => k < w0.heap.size) w0 X) (N : Nat) (hN : X.heap[N]? = some (.cells #[.pointer (some ⟨p, 0, none⟩), .pointer (some ⟨p', 0, none⟩)] 72 (0, 0))) :
    Calls Try.prog 47 #[.int .i64 (a : Int), .int .i64 (b : Int), .pointer (some ⟨N, 0, none⟩)] X fun e w' => e = .returned (.bool false) ∧ Kept (fun k => k < X.heap.size) X w' := by
  have r1 := rd.n1 a ha X hX
  have R2 : Hid (∀ V, Kept (fun k => k < w0.heap.size) w0 V → Calls Try.prog 20 #[.pointer (some ⟨p', 0, none⟩), .int .i64 (b : Int)] V fun e w' => Told V (M'.nd b) (M'.pl b).up (R' b) e w') := rd.n2 b hb
  have HA : Hid (AlkC w0 p p' M M' R R' f a b) := hA
  obtain ⟨x, hx⟩ : ∃ x, M.nd a = x := ⟨_, rfl⟩
  obtain ⟨y, hy⟩ : ∃ x, M'.nd b = x := ⟨_, rfl⟩
  obtain ⟨up, hup⟩ : ∃ u, (M.pl a).up = u := ⟨_, rfl⟩
  obtain ⟨up', hup'⟩ : ∃ u, (M'.pl b).up = u := ⟨_, rfl⟩
  obtain ⟨kn, hkn⟩ : ∃ u, (R a).length = u := ⟨_, rfl⟩
  obtain ⟨kn', hkn'⟩ : ∃ u, (R' b).length = u := ⟨_, rfl⟩
  have HKN : Hid ((R a).length = kn) := hkn
  have HKN' : Hid ((R' b).length = kn') := hkn'
  unfold Told at r1
  rw [hx, hup, hkn] at r1
  rw [hx, hy] at hS hC h50 h0
  have p0 : X.cell? ⟨N, 0, none⟩ = some (.pointer (some ⟨p, 0, none⟩)) := by rw [cell_block hN]; rfl
  have HB : Hid (∀ Y, Kept (fun k => k < X.heap.size) X Y → Y.heap[N]? = some (.cells #[.pointer (some ⟨p, 0, none⟩), .pointer (some ⟨p', 0, none⟩)] 72 (0, 0))) := fun Y hY => (hY.block N (lt_block hN)).trans hN
  have H0X : Hid (Kept (fun k => k < w0.heap.size) w0 X) := hX
  have HY : Hid (M'.nd b = y ∧ (M'.pl b).up = up') := ⟨hy, hup'⟩
  obtain ⟨al, hal⟩ : ∃ v, alk M M' R R' f a b = v := ⟨_, rfl⟩
  have HAL : Hid (alk M M' R R' f a b = al) := hal
  have H50 : Hid _ := h50
  have HF0 : Hid _ := h0
  obtain ⟨qa, hqa⟩ : ∃ q, atrsB x.attrs y.attrs = q := ⟨_, rfl⟩
  have HQA : Hid (atrsB x.attrs y.attrs = qa) := hqa
  obtain ⟨sh, hsh⟩ : ∃ q, x.shadow = q := ⟨_, rfl⟩
  obtain ⟨sh', hsh'⟩ : ∃ q, y.shadow = q := ⟨_, rfl⟩
  obtain ⟨ct, hct⟩ : ∃ q, x.content = q := ⟨_, rfl⟩
  obtain ⟨ct', hct'⟩ : ∃ q, y.content = q := ⟨_, rfl⟩
  have HSS : Hid (x.shadow = sh ∧ y.shadow = sh' ∧ x.content = ct ∧ y.content = ct') := ⟨hsh, hsh', hct, hct'⟩
  rw [hsh, hsh'] at hS
  rw [hct, hct'] at hC
  have BS : Hid (BesC w0 p p' sh sh' bs) := hS
  have BC : Hid (BesC w0 p p' ct ct' bc) := hC
  clear rd ha hb hA hS hC h50 h0 hX hN hx hy hup hup' hkn hkn' hal hqa hsh hsh' hct hct'
  go_enter Try.func47, Try.ntmps47
  go_wp2_with fail
  refine r1.mono ?_
  rintro e w1 ⟨ao, ac, ko, kc, rfl, hA1, hQ1, hK1⟩
  obtain ⟨V, N1, hV, hN1, hb1, hk1, hz1⟩ := alloc_bx w1 (nW x ao ac up ko kn kc) 35
  have hkV : Kept (fun k => k < X.heap.size) X V := hK1.trans (hk1.mono fun k h => Nat.lt_of_lt_of_le h hK1.size)
  have h0V : Kept (fun k => k < w0.heap.size) w0 V := H0X.out.trans (hkV.mono fun k h => Nat.lt_of_lt_of_le h H0X.out.size)
  have hI : IntsAt (fun k => k < V.heap.size) V ko (R a) := by
    have h1 : IntsAt (fun k => k < w1.heap.size) w1 ko (R a) := by rw [← HKN.out] at hQ1; exact hQ1.intsAt fun g hg => (OwnZ.out hQ1 hg).2
    exact h1.to (fun k h => Nat.lt_of_lt_of_le h hk1.size) (fun k h => hk1.block k h)
  have HI : Hid (IntsAt (fun k => k < V.heap.size) V ko (R a)) := hI
  have HAT : Hid (AtsAt (fun k => k < V.heap.size) V ao x.attrs) := (hA1.atsAt (K' := fun k => k < w1.heap.size) fun g hg => (OwnZ.out hA1 hg).2).kept hk1 fun k h => Nat.lt_of_lt_of_le h hk1.size
  have hbV := HB.out V hkV
  have p1 : V.cell? ⟨N, 1, none⟩ = some (.pointer (some ⟨p', 0, none⟩)) := by rw [cell_block hbV]; rfl
  have r2 := R2.out V h0V
  unfold Told at r2
  rw [HY.out.1, HY.out.2, HKN'.out] at r2
  have HV : Hid (w1.alloc (.cells (nW x ao ac up ko kn kc) 35) = V) := hV
  have HN1 : Hid (w1.heap.size = N1) := hN1
  have HB1 : Hid (∀ Y, Kept (fun k => k < V.heap.size) V Y → Y.heap[N1]? = some (.cells (nW x ao ac up ko kn kc) 35 (0, 0))) := fun Y hY => (hY.block N1 (lt_block hb1)).trans hb1
  have HKV : Hid (Kept (fun k => k < X.heap.size) X V) := hkV
  have H0V : Hid (Kept (fun k => k < w0.heap.size) w0 V) := h0V
  clear r1 hA1 hQ1 hK1 hV hN1 hb1 hk1 hz1 hkV h0V hI hbV p0
  go_upto_region 2 with fail
  rw [HV.out, HN1.out]
  clear HV HN1
  go_wp2_with fail
  refine r2.mono ?_
  rintro e w2 ⟨ao', ac', ko', kc', rfl, hA2, hQ2, hK2⟩
  obtain ⟨Z, N2, hZ, hN2, hb2, hk2, hz2⟩ := alloc_bx w2 (nW y ao' ac' up' ko' kn' kc') 35
  have hkZ : Kept (fun k => k < V.heap.size) V Z := hK2.trans (hk2.mono fun k h => Nat.lt_of_lt_of_le h hK2.size)
  have h0Z : Kept (fun k => k < w0.heap.size) w0 Z := H0V.out.trans (hkZ.mono fun k h => Nat.lt_of_lt_of_le h H0V.out.size)
  have hI2 : IntsAt (fun k => k < Z.heap.size) Z ko' (R' b) := by
    have h1 : IntsAt (fun k => k < w2.heap.size) w2 ko' (R' b) := by rw [← HKN'.out] at hQ2; exact hQ2.intsAt fun g hg => (OwnZ.out hQ2 hg).2
    exact h1.to (fun k h => Nat.lt_of_lt_of_le h hk2.size) (fun k h => hk2.block k h)
  have hI1 : IntsAt (fun k => k < Z.heap.size) Z ko (R a) := HI.out.to (fun k h => Nat.lt_of_lt_of_le h hkZ.size) (fun k h => hkZ.block k h)
  have hT1 : AtsAt (fun k => k < Z.heap.size) Z ao x.attrs := HAT.out.kept hkZ fun k h => Nat.lt_of_lt_of_le h hkZ.size
  have hT2 : AtsAt (fun k => k < Z.heap.size) Z ao' y.attrs := (hA2.atsAt (K' := fun k => k < w2.heap.size) fun g hg => (OwnZ.out hA2 hg).2).kept hk2 fun k h => Nat.lt_of_lt_of_le h hk2.size
  have RA : Hid (∀ Y, Kept (fun k => k < Z.heap.size) Z Y → Calls Try.prog 29 #[prV p p', .agg (nW x ao ac up ko kn kc), .agg (nW y ao' ac' up' ko' kn' kc')] Y fun e w' => e = .returned (.bool al) ∧ Kept (fun k => k < Y.heap.size) Y w') := fun Y hY => by
    have r := HA.out Y (h0Z.trans (hY.mono fun k h => Nat.lt_of_lt_of_le h h0Z.size)) x y ao ao' ac ac' up up' ko ko' kc kc' (hI1.to (fun k h => Nat.lt_of_lt_of_le h hY.size) fun k h => hY.block k h) (hI2.to (fun k h => Nat.lt_of_lt_of_le h hY.size) fun k h => hY.block k h)
    rw [HAL.out, HKN.out, HKN'.out] at r
    exact r
  obtain ⟨an, han⟩ : ∃ n, x.attrs.length = n := ⟨_, rfl⟩
  obtain ⟨an', han'⟩ : ∃ n, y.attrs.length = n := ⟨_, rfl⟩
  have EQA : Hid (∀ Y, Kept (fun k => k < Z.heap.size) Z Y → Calls Try.prog 49 #[.slice ao an ac, .slice ao' an' ac'] Y fun e w' => e = .returned (.bool qa) ∧ Kept (fun k => k < Y.heap.size) Y w') := fun Y hY =>
    eqAttrs_any x.attrs y.attrs ao ao' an an' ac ac' han han' _ (by rw [← atrsB_iff, HQA.out]) (by have := H50.out.1; omega) (by have := H50.out.2; omega) Y (hT1.kept hY fun k h => Nat.lt_of_lt_of_le h hY.size) (hT2.kept hY fun k h => Nat.lt_of_lt_of_le h hY.size)
  have FX : Hid (∀ Y, Calls Try.prog 48 #[.agg (nW x ao ac up ko kn kc)] Y fun e w' => e = .returned (.agg (faceV x)) ∧ Kept (fun k => k < Y.heap.size) Y w') := fun Y => face_any x ao ac up ko kn kc Y
  have FY : Hid (∀ Y, Calls Try.prog 48 #[.agg (nW y ao' ac' up' ko' kn' kc')] Y fun e w' => e = .returned (.agg (faceV y)) ∧ Kept (fun k => k < Y.heap.size) Y w') := fun Y => face_any y ao' ac' up' ko' kn' kc' Y
  have HFP : Hid ((x.kind : Int) = (y.kind : Int) → x.name = y.name → ¬x.data = y.data) := by
    have e := HF0.out
    unfold faceB at e
    exact (show Hid _ from fun h1 h2 h3 => by rw [h1, h2, h3] at e; simp at e)
  have B1 : Hid (∀ Y, Kept (fun k => k < Z.heap.size) Z Y → Y.heap[N1]? = some (.cells (nW x ao ac up ko kn kc) 35 (0, 0))) := fun Y hY => HB1.out Y (hkZ.trans (hY.mono fun k h => Nat.lt_of_lt_of_le h hkZ.size))
  have B2 : Hid (∀ Y, Kept (fun k => k < Z.heap.size) Z Y → Y.heap[N2]? = some (.cells (nW y ao' ac' up' ko' kn' kc') 35 (0, 0))) := fun Y hY => (hY.block N2 (lt_block hb2)).trans hb2
  have BP : Hid (∀ Y, Kept (fun k => k < Z.heap.size) Z Y → Y.heap[N]? = some (.cells #[.pointer (some ⟨p, 0, none⟩), .pointer (some ⟨p', 0, none⟩)] 72 (0, 0))) := fun Y hY => HB.out Y (HKV.out.trans ((hkZ.trans (hY.mono fun k h => Nat.lt_of_lt_of_le h hkZ.size)).mono fun k h => Nat.lt_of_lt_of_le h HKV.out.size))
  have C13 : Hid (∀ Y, Kept (fun k => k < Z.heap.size) Z Y → Y.cell? ⟨N1, 3, none⟩ = some (.slice ao an ac)) := fun Y hY => by rw [cell_block (B1.out Y hY), ← han]; rfl
  have C23 : Hid (∀ Y, Kept (fun k => k < Z.heap.size) Z Y → Y.cell? ⟨N2, 3, none⟩ = some (.slice ao' an' ac')) := fun Y hY => by rw [cell_block (B2.out Y hY), ← han']; rfl
  have C16 : Hid (∀ Y, Kept (fun k => k < Z.heap.size) Z Y → Y.cell? ⟨N1, 6, none⟩ = some (.int .i64 sh)) := fun Y hY => by rw [cell_block (B1.out Y hY), ← HSS.out.1]; rfl
  have C26 : Hid (∀ Y, Kept (fun k => k < Z.heap.size) Z Y → Y.cell? ⟨N2, 6, none⟩ = some (.int .i64 sh')) := fun Y hY => by rw [cell_block (B2.out Y hY), ← HSS.out.2.1]; rfl
  have C18 : Hid (∀ Y, Kept (fun k => k < Z.heap.size) Z Y → Y.cell? ⟨N1, 8, none⟩ = some (.int .i64 ct)) := fun Y hY => by rw [cell_block (B1.out Y hY), ← HSS.out.2.2.1]; rfl
  have C28 : Hid (∀ Y, Kept (fun k => k < Z.heap.size) Z Y → Y.cell? ⟨N2, 8, none⟩ = some (.int .i64 ct')) := fun Y hY => by rw [cell_block (B2.out Y hY), ← HSS.out.2.2.2]; rfl
  have HZ : Hid (w2.alloc (.cells (nW y ao' ac' up' ko' kn' kc') 35) = Z) := hZ
  have HN2 : Hid (w2.heap.size = N2) := hN2
  have H0Z : Hid (Kept (fun k => k < w0.heap.size) w0 Z) := h0Z
  have HKZ : Hid (Kept (fun k => k < X.heap.size) X Z) := HKV.out.trans (hkZ.mono fun k h => Nat.lt_of_lt_of_le h HKV.out.size)
  clear r2 hA2 hQ2 hK2 hZ hN2 hb2 hk2 hz2 hkZ h0Z hI2 hI1 hT1 hT2 han han' p1
  go_upto_region 3 with fail
  rw [HZ.out, HN2.out]
  clear HZ HN2
  refine wp_region_held_drew (S := fun Y => Kept (fun k => k < Z.heap.size) Z Y) (by kernel_rfl) ((Kept.refl _ Z).drew) (fun hHeld => ?_)
  refine tkH 0 24 (.agg (nW x ao ac up ko kn kc)) rfl rfl (by kernel_rfl) (by rfl) (by intro Y hY; exact yieldsN rfl rfl (B1.out Y hY) rfl) (fun _ _ _ h => h) hHeld ?_
  try simp only [Act.put, List.setIfInBounds_toArray, List.set_cons_zero, List.set_cons_succ]
  refine tkH 2 26 (.agg (nW y ao' ac' up' ko' kn' kc')) rfl rfl (by kernel_rfl) (by rfl) (by intro Y hY; exact yieldsN rfl rfl (B2.out Y hY) rfl) (fun _ _ _ h => h) hHeld ?_
  try simp only [Act.put, List.setIfInBounds_toArray, List.set_cons_zero, List.set_cons_succ]
  refine clH 1 25 48 #[.agg (nW x ao ac up ko kn kc)] rfl rfl (by kernel_rfl) (by rfl) rfl (by first | rfl | (simp [Act.eval]; done) | (simp [Act.eval, Act.put]; done)) (enterFace _ _) (FX.out _) ?_
  rintro e Y1 ⟨rfl, hk1⟩
  refine ⟨_, rfl, hHeld.trans (hk1.mono fun k h => Nat.lt_of_lt_of_le h hHeld.size), fun hHeld2 => ?_⟩
  replace hHeld := hHeld2
  clear hHeld2
  try simp only [Act.put, List.setIfInBounds_toArray, List.set_cons_zero, List.set_cons_succ]
  refine clH 3 27 48 #[.agg (nW y ao' ac' up' ko' kn' kc')] rfl rfl (by kernel_rfl) (by rfl) rfl (by first | rfl | (simp [Act.eval]; done) | (simp [Act.eval, Act.put]; done)) (enterFace _ _) (FY.out _) ?_
  rintro e Y3 ⟨rfl, hk3⟩
  refine ⟨_, rfl, hHeld.trans (hk3.mono fun k h => Nat.lt_of_lt_of_le h hHeld.size), fun hHeld2 => ?_⟩
  replace hHeld := hHeld2
  clear hHeld2
  try simp only [Act.put, List.setIfInBounds_toArray, List.set_cons_zero, List.set_cons_succ]
  refine tkH 4 28 (.bool false) rfl rfl (by kernel_rfl) (by rfl) (by intro Y hY; have hg := grdF; go_simp; exact HFP.out) (fun _ _ _ h => h) hHeld ?_
  try simp only [Act.put, List.setIfInBounds_toArray, List.set_cons_zero, List.set_cons_succ]
  refine tkH 5 29 (.bool false) rfl rfl (by kernel_rfl) (by rfl) (by intro Y hY; go_simp; try with_reducible rfl) (fun _ _ _ h => h) hHeld ?_
  try simp only [Act.put, List.setIfInBounds_toArray, List.set_cons_zero, List.set_cons_succ]
  refine tkU 6 30 rfl rfl (by kernel_rfl) (by rfl) (fun _ _ _ h => h) hHeld ?_
  try simp only [Act.put, List.setIfInBounds_toArray, List.set_cons_zero, List.set_cons_succ]
  refine tkU 7 31 rfl rfl (by kernel_rfl) (by rfl) (fun _ _ _ h => h) hHeld ?_
  try simp only [Act.put, List.setIfInBounds_toArray, List.set_cons_zero, List.set_cons_succ]
  refine tkU 8 32 rfl rfl (by kernel_rfl) (by rfl) (fun _ _ _ h => h) hHeld ?_
  try simp only [Act.put, List.setIfInBounds_toArray, List.set_cons_zero, List.set_cons_succ]
  refine tkU 9 33 rfl rfl (by kernel_rfl) (by rfl) (fun _ _ _ h => h) hHeld ?_
  try simp only [Act.put, List.setIfInBounds_toArray, List.set_cons_zero, List.set_cons_succ]
  refine tkU 10 34 rfl rfl (by kernel_rfl) (by rfl) (fun _ _ _ h => h) hHeld ?_
  try simp only [Act.put, List.setIfInBounds_toArray, List.set_cons_zero, List.set_cons_succ]
  refine tkH 11 35 (.bool false) rfl rfl (by kernel_rfl) (by rfl) (by intro Y hY; go_simp; try with_reducible rfl) (fun _ _ _ h => h) hHeld ?_
  try simp only [Act.put, List.setIfInBounds_toArray, List.set_cons_zero, List.set_cons_succ]
  refine tkH 12 36 (.bool false) rfl rfl (by kernel_rfl) (by rfl) (by intro Y hY; go_simp; try with_reducible rfl) (fun _ _ _ h => h) hHeld ?_
  try simp only [Act.put, List.setIfInBounds_toArray, List.set_cons_zero, List.set_cons_succ]
  refine tkU 13 37 rfl rfl (by kernel_rfl) (by rfl) (fun _ _ _ h => h) hHeld ?_
  try simp only [Act.put, List.setIfInBounds_toArray, List.set_cons_zero, List.set_cons_succ]
  refine tkU 14 38 rfl rfl (by kernel_rfl) (by rfl) (fun _ _ _ h => h) hHeld ?_
  try simp only [Act.put, List.setIfInBounds_toArray, List.set_cons_zero, List.set_cons_succ]
  refine tkU 15 39 rfl rfl (by kernel_rfl) (by rfl) (fun _ _ _ h => h) hHeld ?_
  try simp only [Act.put, List.setIfInBounds_toArray, List.set_cons_zero, List.set_cons_succ]
  refine tkU 16 40 rfl rfl (by kernel_rfl) (by rfl) (fun _ _ _ h => h) hHeld ?_
  try simp only [Act.put, List.setIfInBounds_toArray, List.set_cons_zero, List.set_cons_succ]
  refine tkU 17 41 rfl rfl (by kernel_rfl) (by rfl) (fun _ _ _ h => h) hHeld ?_
  try simp only [Act.put, List.setIfInBounds_toArray, List.set_cons_zero, List.set_cons_succ]
  refine tkU 18 42 rfl rfl (by kernel_rfl) (by rfl) (fun _ _ _ h => h) hHeld ?_
  try simp only [Act.put, List.setIfInBounds_toArray, List.set_cons_zero, List.set_cons_succ]
  refine tkH 19 43 (.bool false) rfl rfl (by kernel_rfl) (by rfl) (by intro Y hY; go_simp; try with_reducible rfl) (fun _ _ _ h => h) hHeld ?_
  try simp only [Act.put, List.setIfInBounds_toArray, List.set_cons_zero, List.set_cons_succ]
  refine tkH 20 44 (.bool false) rfl rfl (by kernel_rfl) (by rfl) (by intro Y hY; go_simp; try with_reducible rfl) (fun _ _ _ h => h) hHeld ?_
  try simp only [Act.put, List.setIfInBounds_toArray, List.set_cons_zero, List.set_cons_succ]
  refine tkU 21 45 rfl rfl (by kernel_rfl) (by rfl) (fun _ _ _ h => h) hHeld ?_
  try simp only [Act.put, List.setIfInBounds_toArray, List.set_cons_zero, List.set_cons_succ]
  refine tkU 22 46 rfl rfl (by kernel_rfl) (by rfl) (fun _ _ _ h => h) hHeld ?_
  try simp only [Act.put, List.setIfInBounds_toArray, List.set_cons_zero, List.set_cons_succ]
  refine tkU 23 47 rfl rfl (by kernel_rfl) (by rfl) (fun _ _ _ h => h) hHeld ?_
  try simp only [Act.put, List.setIfInBounds_toArray, List.set_cons_zero, List.set_cons_succ]
  refine tkU 24 48 rfl rfl (by kernel_rfl) (by rfl) (fun _ _ _ h => h) hHeld ?_
  try simp only [Act.put, List.setIfInBounds_toArray, List.set_cons_zero, List.set_cons_succ]
  refine tkU 25 49 rfl rfl (by kernel_rfl) (by rfl) (fun _ _ _ h => h) hHeld ?_
  try simp only [Act.put, List.setIfInBounds_toArray, List.set_cons_zero, List.set_cons_succ]
  refine tkU 26 50 rfl rfl (by kernel_rfl) (by rfl) (fun _ _ _ h => h) hHeld ?_
  try simp only [Act.put, List.setIfInBounds_toArray, List.set_cons_zero, List.set_cons_succ]
  refine tkH 27 51 (.bool false) rfl rfl (by kernel_rfl) (by rfl) (by intro Y hY; go_simp; try with_reducible rfl) (fun _ _ _ h => h) hHeld ?_
  try simp only [Act.put, List.setIfInBounds_toArray, List.set_cons_zero, List.set_cons_succ]
  refine tkH 28 52 (.bool false) rfl rfl (by kernel_rfl) (by rfl) (by intro Y hY; go_simp; try with_reducible rfl) (fun _ _ _ h => h) hHeld ?_
  try simp only [Act.put, List.setIfInBounds_toArray, List.set_cons_zero, List.set_cons_succ]
  refine tkU 29 53 rfl rfl (by kernel_rfl) (by rfl) (fun _ _ _ h => h) hHeld ?_
  try simp only [Act.put, List.setIfInBounds_toArray, List.set_cons_zero, List.set_cons_succ]
  refine tkU 30 54 rfl rfl (by kernel_rfl) (by rfl) (fun _ _ _ h => h) hHeld ?_
  try simp only [Act.put, List.setIfInBounds_toArray, List.set_cons_zero, List.set_cons_succ]
  refine tkU 31 55 rfl rfl (by kernel_rfl) (by rfl) (fun _ _ _ h => h) hHeld ?_
  try simp only [Act.put, List.setIfInBounds_toArray, List.set_cons_zero, List.set_cons_succ]
  refine tkU 32 56 rfl rfl (by kernel_rfl) (by rfl) (fun _ _ _ h => h) hHeld ?_
  try simp only [Act.put, List.setIfInBounds_toArray, List.set_cons_zero, List.set_cons_succ]
  refine tkH 33 57 (.bool false) rfl rfl (by kernel_rfl) (by rfl) (by intro Y hY; go_simp; try with_reducible rfl) (fun _ _ _ h => h) hHeld ?_
  try simp only [Act.put, List.setIfInBounds_toArray, List.set_cons_zero, List.set_cons_succ]
  refine tkH 34 5 (.bool false) rfl rfl (by kernel_rfl) (by rfl) (by intro Y hY; go_simp; try with_reducible rfl) (fun _ _ _ h => h) hHeld ?_
  try simp only [Act.put, List.setIfInBounds_toArray, List.set_cons_zero, List.set_cons_succ]
  refine wpAnyH_done (by kernel_rfl) ?_ _
  go_wp2
  go_ret
  exact ⟨rfl, HKZ.out.trans (hHeld.mono fun k h => Nat.lt_of_lt_of_le h HKZ.out.size)⟩
theorem alike1_A (rd : Rd2 w0 p p' M M' R R') (a b : Nat) (ha : a < M.n) (hb : b < M'.n) (hA : AlkC w0 p p' M M' R R' f a b) (bs bc : Bool) (hS : BesC w0 p p' (M.nd a).shadow (M'.nd b).shadow bs) (hC : BesC w0 p p' (M.nd a).content (M'.nd b).content bc) (h50 : (M.nd a).attrs.length ≤ 100000 ∧ (M'.nd b).attrs.length ≤ 100000) (h0 : faceB (M.nd a) (M'.nd b) = true) (h1 : atrsB (M.nd a).attrs (M'.nd b).attrs = false) (X : World) (hX : Kept (fun k => k < w0.heap.size) w0 X) (N : Nat) (hN : X.heap[N]? = some (.cells #[.pointer (some ⟨p, 0, none⟩), .pointer (some ⟨p', 0, none⟩)] 72 (0, 0))) :
    Calls Try.prog 47 #[.int .i64 (a : Int), .int .i64 (b : Int), .pointer (some ⟨N, 0, none⟩)] X fun e w' => e = .returned (.bool false) ∧ Kept (fun k => k < X.heap.size) X w' := by
  have r1 := rd.n1 a ha X hX
  have R2 : Hid (∀ V, Kept (fun k => k < w0.heap.size) w0 V → Calls Try.prog 20 #[.pointer (some ⟨p', 0, none⟩), .int .i64 (b : Int)] V fun e w' => Told V (M'.nd b) (M'.pl b).up (R' b) e w') := rd.n2 b hb
  have HA : Hid (AlkC w0 p p' M M' R R' f a b) := hA
  obtain ⟨x, hx⟩ : ∃ x, M.nd a = x := ⟨_, rfl⟩
  obtain ⟨y, hy⟩ : ∃ x, M'.nd b = x := ⟨_, rfl⟩
  obtain ⟨up, hup⟩ : ∃ u, (M.pl a).up = u := ⟨_, rfl⟩
  obtain ⟨up', hup'⟩ : ∃ u, (M'.pl b).up = u := ⟨_, rfl⟩
  obtain ⟨kn, hkn⟩ : ∃ u, (R a).length = u := ⟨_, rfl⟩
  obtain ⟨kn', hkn'⟩ : ∃ u, (R' b).length = u := ⟨_, rfl⟩
  have HKN : Hid ((R a).length = kn) := hkn
  have HKN' : Hid ((R' b).length = kn') := hkn'
  unfold Told at r1
  rw [hx, hup, hkn] at r1
  rw [hx, hy] at hS hC h50 h0 h1
  have p0 : X.cell? ⟨N, 0, none⟩ = some (.pointer (some ⟨p, 0, none⟩)) := by rw [cell_block hN]; rfl
  have HB : Hid (∀ Y, Kept (fun k => k < X.heap.size) X Y → Y.heap[N]? = some (.cells #[.pointer (some ⟨p, 0, none⟩), .pointer (some ⟨p', 0, none⟩)] 72 (0, 0))) := fun Y hY => (hY.block N (lt_block hN)).trans hN
  have H0X : Hid (Kept (fun k => k < w0.heap.size) w0 X) := hX
  have HY : Hid (M'.nd b = y ∧ (M'.pl b).up = up') := ⟨hy, hup'⟩
  obtain ⟨al, hal⟩ : ∃ v, alk M M' R R' f a b = v := ⟨_, rfl⟩
  have HAL : Hid (alk M M' R R' f a b = al) := hal
  have H50 : Hid _ := h50
  have HF0 : Hid _ := h0
  obtain ⟨qa, hqa⟩ : ∃ q, atrsB x.attrs y.attrs = q := ⟨_, rfl⟩
  have HQA : Hid (atrsB x.attrs y.attrs = qa) := hqa
  obtain ⟨sh, hsh⟩ : ∃ q, x.shadow = q := ⟨_, rfl⟩
  obtain ⟨sh', hsh'⟩ : ∃ q, y.shadow = q := ⟨_, rfl⟩
  obtain ⟨ct, hct⟩ : ∃ q, x.content = q := ⟨_, rfl⟩
  obtain ⟨ct', hct'⟩ : ∃ q, y.content = q := ⟨_, rfl⟩
  have HSS : Hid (x.shadow = sh ∧ y.shadow = sh' ∧ x.content = ct ∧ y.content = ct') := ⟨hsh, hsh', hct, hct'⟩
  rw [hsh, hsh'] at hS
  rw [hct, hct'] at hC
  have BS : Hid (BesC w0 p p' sh sh' bs) := hS
  have BC : Hid (BesC w0 p p' ct ct' bc) := hC
  rw [hqa] at h1
  subst h1
  clear rd ha hb hA hS hC h50 h0 hX hN hx hy hup hup' hkn hkn' hal hqa hsh hsh' hct hct'
  go_enter Try.func47, Try.ntmps47
  go_wp2_with fail
  refine r1.mono ?_
  rintro e w1 ⟨ao, ac, ko, kc, rfl, hA1, hQ1, hK1⟩
  obtain ⟨V, N1, hV, hN1, hb1, hk1, hz1⟩ := alloc_bx w1 (nW x ao ac up ko kn kc) 35
  have hkV : Kept (fun k => k < X.heap.size) X V := hK1.trans (hk1.mono fun k h => Nat.lt_of_lt_of_le h hK1.size)
  have h0V : Kept (fun k => k < w0.heap.size) w0 V := H0X.out.trans (hkV.mono fun k h => Nat.lt_of_lt_of_le h H0X.out.size)
  have hI : IntsAt (fun k => k < V.heap.size) V ko (R a) := by
    have h1 : IntsAt (fun k => k < w1.heap.size) w1 ko (R a) := by rw [← HKN.out] at hQ1; exact hQ1.intsAt fun g hg => (OwnZ.out hQ1 hg).2
    exact h1.to (fun k h => Nat.lt_of_lt_of_le h hk1.size) (fun k h => hk1.block k h)
  have HI : Hid (IntsAt (fun k => k < V.heap.size) V ko (R a)) := hI
  have HAT : Hid (AtsAt (fun k => k < V.heap.size) V ao x.attrs) := (hA1.atsAt (K' := fun k => k < w1.heap.size) fun g hg => (OwnZ.out hA1 hg).2).kept hk1 fun k h => Nat.lt_of_lt_of_le h hk1.size
  have hbV := HB.out V hkV
  have p1 : V.cell? ⟨N, 1, none⟩ = some (.pointer (some ⟨p', 0, none⟩)) := by rw [cell_block hbV]; rfl
  have r2 := R2.out V h0V
  unfold Told at r2
  rw [HY.out.1, HY.out.2, HKN'.out] at r2
  have HV : Hid (w1.alloc (.cells (nW x ao ac up ko kn kc) 35) = V) := hV
  have HN1 : Hid (w1.heap.size = N1) := hN1
  have HB1 : Hid (∀ Y, Kept (fun k => k < V.heap.size) V Y → Y.heap[N1]? = some (.cells (nW x ao ac up ko kn kc) 35 (0, 0))) := fun Y hY => (hY.block N1 (lt_block hb1)).trans hb1
  have HKV : Hid (Kept (fun k => k < X.heap.size) X V) := hkV
  have H0V : Hid (Kept (fun k => k < w0.heap.size) w0 V) := h0V
  clear r1 hA1 hQ1 hK1 hV hN1 hb1 hk1 hz1 hkV h0V hI hbV p0
  go_upto_region 2 with fail
  rw [HV.out, HN1.out]
  clear HV HN1
  go_wp2_with fail
  refine r2.mono ?_
  rintro e w2 ⟨ao', ac', ko', kc', rfl, hA2, hQ2, hK2⟩
  obtain ⟨Z, N2, hZ, hN2, hb2, hk2, hz2⟩ := alloc_bx w2 (nW y ao' ac' up' ko' kn' kc') 35
  have hkZ : Kept (fun k => k < V.heap.size) V Z := hK2.trans (hk2.mono fun k h => Nat.lt_of_lt_of_le h hK2.size)
  have h0Z : Kept (fun k => k < w0.heap.size) w0 Z := H0V.out.trans (hkZ.mono fun k h => Nat.lt_of_lt_of_le h H0V.out.size)
  have hI2 : IntsAt (fun k => k < Z.heap.size) Z ko' (R' b) := by
    have h1 : IntsAt (fun k => k < w2.heap.size) w2 ko' (R' b) := by rw [← HKN'.out] at hQ2; exact hQ2.intsAt fun g hg => (OwnZ.out hQ2 hg).2
    exact h1.to (fun k h => Nat.lt_of_lt_of_le h hk2.size) (fun k h => hk2.block k h)
  have hI1 : IntsAt (fun k => k < Z.heap.size) Z ko (R a) := HI.out.to (fun k h => Nat.lt_of_lt_of_le h hkZ.size) (fun k h => hkZ.block k h)
  have hT1 : AtsAt (fun k => k < Z.heap.size) Z ao x.attrs := HAT.out.kept hkZ fun k h => Nat.lt_of_lt_of_le h hkZ.size
  have hT2 : AtsAt (fun k => k < Z.heap.size) Z ao' y.attrs := (hA2.atsAt (K' := fun k => k < w2.heap.size) fun g hg => (OwnZ.out hA2 hg).2).kept hk2 fun k h => Nat.lt_of_lt_of_le h hk2.size
  have RA : Hid (∀ Y, Kept (fun k => k < Z.heap.size) Z Y → Calls Try.prog 29 #[prV p p', .agg (nW x ao ac up ko kn kc), .agg (nW y ao' ac' up' ko' kn' kc')] Y fun e w' => e = .returned (.bool al) ∧ Kept (fun k => k < Y.heap.size) Y w') := fun Y hY => by
    have r := HA.out Y (h0Z.trans (hY.mono fun k h => Nat.lt_of_lt_of_le h h0Z.size)) x y ao ao' ac ac' up up' ko ko' kc kc' (hI1.to (fun k h => Nat.lt_of_lt_of_le h hY.size) fun k h => hY.block k h) (hI2.to (fun k h => Nat.lt_of_lt_of_le h hY.size) fun k h => hY.block k h)
    rw [HAL.out, HKN.out, HKN'.out] at r
    exact r
  obtain ⟨an, han⟩ : ∃ n, x.attrs.length = n := ⟨_, rfl⟩
  obtain ⟨an', han'⟩ : ∃ n, y.attrs.length = n := ⟨_, rfl⟩
  have EQA : Hid (∀ Y, Kept (fun k => k < Z.heap.size) Z Y → Calls Try.prog 49 #[.slice ao an ac, .slice ao' an' ac'] Y fun e w' => e = .returned (.bool false) ∧ Kept (fun k => k < Y.heap.size) Y w') := fun Y hY =>
    eqAttrs_any x.attrs y.attrs ao ao' an an' ac ac' han han' _ (by rw [← atrsB_iff, HQA.out]) (by have := H50.out.1; omega) (by have := H50.out.2; omega) Y (hT1.kept hY fun k h => Nat.lt_of_lt_of_le h hY.size) (hT2.kept hY fun k h => Nat.lt_of_lt_of_le h hY.size)
  have FX : Hid (∀ Y, Calls Try.prog 48 #[.agg (nW x ao ac up ko kn kc)] Y fun e w' => e = .returned (.agg (faceV x)) ∧ Kept (fun k => k < Y.heap.size) Y w') := fun Y => face_any x ao ac up ko kn kc Y
  have FY : Hid (∀ Y, Calls Try.prog 48 #[.agg (nW y ao' ac' up' ko' kn' kc')] Y fun e w' => e = .returned (.agg (faceV y)) ∧ Kept (fun k => k < Y.heap.size) Y w') := fun Y => face_any y ao' ac' up' ko' kn' kc' Y
  have HFP : Hid ((x.kind : Int) = (y.kind : Int) ∧ x.name = y.name ∧ x.data = y.data) := by
    have e := HF0.out
    unfold faceB at e
    simp only [Bool.and_eq_true, beq_iff_eq] at e
    exact e
  have B1 : Hid (∀ Y, Kept (fun k => k < Z.heap.size) Z Y → Y.heap[N1]? = some (.cells (nW x ao ac up ko kn kc) 35 (0, 0))) := fun Y hY => HB1.out Y (hkZ.trans (hY.mono fun k h => Nat.lt_of_lt_of_le h hkZ.size))
  have B2 : Hid (∀ Y, Kept (fun k => k < Z.heap.size) Z Y → Y.heap[N2]? = some (.cells (nW y ao' ac' up' ko' kn' kc') 35 (0, 0))) := fun Y hY => (hY.block N2 (lt_block hb2)).trans hb2
  have BP : Hid (∀ Y, Kept (fun k => k < Z.heap.size) Z Y → Y.heap[N]? = some (.cells #[.pointer (some ⟨p, 0, none⟩), .pointer (some ⟨p', 0, none⟩)] 72 (0, 0))) := fun Y hY => HB.out Y (HKV.out.trans ((hkZ.trans (hY.mono fun k h => Nat.lt_of_lt_of_le h hkZ.size)).mono fun k h => Nat.lt_of_lt_of_le h HKV.out.size))
  have C13 : Hid (∀ Y, Kept (fun k => k < Z.heap.size) Z Y → Y.cell? ⟨N1, 3, none⟩ = some (.slice ao an ac)) := fun Y hY => by rw [cell_block (B1.out Y hY), ← han]; rfl
  have C23 : Hid (∀ Y, Kept (fun k => k < Z.heap.size) Z Y → Y.cell? ⟨N2, 3, none⟩ = some (.slice ao' an' ac')) := fun Y hY => by rw [cell_block (B2.out Y hY), ← han']; rfl
  have C16 : Hid (∀ Y, Kept (fun k => k < Z.heap.size) Z Y → Y.cell? ⟨N1, 6, none⟩ = some (.int .i64 sh)) := fun Y hY => by rw [cell_block (B1.out Y hY), ← HSS.out.1]; rfl
  have C26 : Hid (∀ Y, Kept (fun k => k < Z.heap.size) Z Y → Y.cell? ⟨N2, 6, none⟩ = some (.int .i64 sh')) := fun Y hY => by rw [cell_block (B2.out Y hY), ← HSS.out.2.1]; rfl
  have C18 : Hid (∀ Y, Kept (fun k => k < Z.heap.size) Z Y → Y.cell? ⟨N1, 8, none⟩ = some (.int .i64 ct)) := fun Y hY => by rw [cell_block (B1.out Y hY), ← HSS.out.2.2.1]; rfl
  have C28 : Hid (∀ Y, Kept (fun k => k < Z.heap.size) Z Y → Y.cell? ⟨N2, 8, none⟩ = some (.int .i64 ct')) := fun Y hY => by rw [cell_block (B2.out Y hY), ← HSS.out.2.2.2]; rfl
  have HZ : Hid (w2.alloc (.cells (nW y ao' ac' up' ko' kn' kc') 35) = Z) := hZ
  have HN2 : Hid (w2.heap.size = N2) := hN2
  have H0Z : Hid (Kept (fun k => k < w0.heap.size) w0 Z) := h0Z
  have HKZ : Hid (Kept (fun k => k < X.heap.size) X Z) := HKV.out.trans (hkZ.mono fun k h => Nat.lt_of_lt_of_le h HKV.out.size)
  clear r2 hA2 hQ2 hK2 hZ hN2 hb2 hk2 hz2 hkZ h0Z hI2 hI1 hT1 hT2 han han' p1
  go_upto_region 3 with fail
  rw [HZ.out, HN2.out]
  clear HZ HN2
  refine wp_region_held_drew (S := fun Y => Kept (fun k => k < Z.heap.size) Z Y) (by kernel_rfl) ((Kept.refl _ Z).drew) (fun hHeld => ?_)
  refine tkH 0 24 (.agg (nW x ao ac up ko kn kc)) rfl rfl (by kernel_rfl) (by rfl) (by intro Y hY; exact yieldsN rfl rfl (B1.out Y hY) rfl) (fun _ _ _ h => h) hHeld ?_
  try simp only [Act.put, List.setIfInBounds_toArray, List.set_cons_zero, List.set_cons_succ]
  refine tkH 2 26 (.agg (nW y ao' ac' up' ko' kn' kc')) rfl rfl (by kernel_rfl) (by rfl) (by intro Y hY; exact yieldsN rfl rfl (B2.out Y hY) rfl) (fun _ _ _ h => h) hHeld ?_
  try simp only [Act.put, List.setIfInBounds_toArray, List.set_cons_zero, List.set_cons_succ]
  refine clH 1 25 48 #[.agg (nW x ao ac up ko kn kc)] rfl rfl (by kernel_rfl) (by rfl) rfl (by first | rfl | (simp [Act.eval]; done) | (simp [Act.eval, Act.put]; done)) (enterFace _ _) (FX.out _) ?_
  rintro e Y1 ⟨rfl, hk1⟩
  refine ⟨_, rfl, hHeld.trans (hk1.mono fun k h => Nat.lt_of_lt_of_le h hHeld.size), fun hHeld2 => ?_⟩
  replace hHeld := hHeld2
  clear hHeld2
  try simp only [Act.put, List.setIfInBounds_toArray, List.set_cons_zero, List.set_cons_succ]
  refine clH 3 27 48 #[.agg (nW y ao' ac' up' ko' kn' kc')] rfl rfl (by kernel_rfl) (by rfl) rfl (by first | rfl | (simp [Act.eval]; done) | (simp [Act.eval, Act.put]; done)) (enterFace _ _) (FY.out _) ?_
  rintro e Y3 ⟨rfl, hk3⟩
  refine ⟨_, rfl, hHeld.trans (hk3.mono fun k h => Nat.lt_of_lt_of_le h hHeld.size), fun hHeld2 => ?_⟩
  replace hHeld := hHeld2
  clear hHeld2
  try simp only [Act.put, List.setIfInBounds_toArray, List.set_cons_zero, List.set_cons_succ]
  refine tkH 4 28 (.bool true) rfl rfl (by kernel_rfl) (by rfl) (by intro Y hY; have hg := grdF; go_simp; rw [if_pos HFP.out.1, if_pos HFP.out.2.1, if_pos HFP.out.2.2]) (fun _ _ _ h => h) hHeld ?_
  try simp only [Act.put, List.setIfInBounds_toArray, List.set_cons_zero, List.set_cons_succ]
  refine tkH 5 29 (.bool true) rfl rfl (by kernel_rfl) (by rfl) (by intro Y hY; go_simp; try with_reducible rfl) (fun _ _ _ h => h) hHeld ?_
  try simp only [Act.put, List.setIfInBounds_toArray, List.set_cons_zero, List.set_cons_succ]
  refine tkH 6 30 (.pointer (some ⟨N1, 3, none⟩)) rfl rfl (by kernel_rfl) (by rfl) (by intro Y hY; go_simp; try with_reducible rfl) (fun _ _ _ h => h) hHeld ?_
  try simp only [Act.put, List.setIfInBounds_toArray, List.set_cons_zero, List.set_cons_succ]
  refine tkH 7 31 (.slice ao an ac) rfl rfl (by kernel_rfl) (by rfl) (by intro Y hY; have hc := C13.out Y hY; go_simp; try with_reducible rfl) (fun _ _ _ h => h) hHeld ?_
  try simp only [Act.put, List.setIfInBounds_toArray, List.set_cons_zero, List.set_cons_succ]
  refine tkH 8 32 (.pointer (some ⟨N2, 3, none⟩)) rfl rfl (by kernel_rfl) (by rfl) (by intro Y hY; go_simp; try with_reducible rfl) (fun _ _ _ h => h) hHeld ?_
  try simp only [Act.put, List.setIfInBounds_toArray, List.set_cons_zero, List.set_cons_succ]
  refine tkH 9 33 (.slice ao' an' ac') rfl rfl (by kernel_rfl) (by rfl) (by intro Y hY; have hc := C23.out Y hY; go_simp; try with_reducible rfl) (fun _ _ _ h => h) hHeld ?_
  try simp only [Act.put, List.setIfInBounds_toArray, List.set_cons_zero, List.set_cons_succ]
  refine clH 10 34 49 #[.slice ao an ac, .slice ao' an' ac'] rfl rfl (by kernel_rfl) (by rfl) rfl (by first | rfl | (simp [Act.eval]; done) | (simp [Act.eval, Act.put]; done)) (enterEqA _ _) (EQA.out _ hHeld) ?_
  rintro e Y10 ⟨rfl, hk10⟩
  refine ⟨_, rfl, hHeld.trans (hk10.mono fun k h => Nat.lt_of_lt_of_le h hHeld.size), fun hHeld2 => ?_⟩
  replace hHeld := hHeld2
  clear hHeld2
  try simp only [Act.put, List.setIfInBounds_toArray, List.set_cons_zero, List.set_cons_succ]
  refine tkH 11 35 (.bool false) rfl rfl (by kernel_rfl) (by rfl) (by intro Y hY; go_simp; try with_reducible rfl) (fun _ _ _ h => h) hHeld ?_
  try simp only [Act.put, List.setIfInBounds_toArray, List.set_cons_zero, List.set_cons_succ]
  refine tkH 12 36 (.bool false) rfl rfl (by kernel_rfl) (by rfl) (by intro Y hY; go_simp; try with_reducible rfl) (fun _ _ _ h => h) hHeld ?_
  try simp only [Act.put, List.setIfInBounds_toArray, List.set_cons_zero, List.set_cons_succ]
  refine tkU 13 37 rfl rfl (by kernel_rfl) (by rfl) (fun _ _ _ h => h) hHeld ?_
  try simp only [Act.put, List.setIfInBounds_toArray, List.set_cons_zero, List.set_cons_succ]
  refine tkU 14 38 rfl rfl (by kernel_rfl) (by rfl) (fun _ _ _ h => h) hHeld ?_
  try simp only [Act.put, List.setIfInBounds_toArray, List.set_cons_zero, List.set_cons_succ]
  refine tkU 15 39 rfl rfl (by kernel_rfl) (by rfl) (fun _ _ _ h => h) hHeld ?_
  try simp only [Act.put, List.setIfInBounds_toArray, List.set_cons_zero, List.set_cons_succ]
  refine tkU 16 40 rfl rfl (by kernel_rfl) (by rfl) (fun _ _ _ h => h) hHeld ?_
  try simp only [Act.put, List.setIfInBounds_toArray, List.set_cons_zero, List.set_cons_succ]
  refine tkU 17 41 rfl rfl (by kernel_rfl) (by rfl) (fun _ _ _ h => h) hHeld ?_
  try simp only [Act.put, List.setIfInBounds_toArray, List.set_cons_zero, List.set_cons_succ]
  refine tkU 18 42 rfl rfl (by kernel_rfl) (by rfl) (fun _ _ _ h => h) hHeld ?_
  try simp only [Act.put, List.setIfInBounds_toArray, List.set_cons_zero, List.set_cons_succ]
  refine tkH 19 43 (.bool false) rfl rfl (by kernel_rfl) (by rfl) (by intro Y hY; go_simp; try with_reducible rfl) (fun _ _ _ h => h) hHeld ?_
  try simp only [Act.put, List.setIfInBounds_toArray, List.set_cons_zero, List.set_cons_succ]
  refine tkH 20 44 (.bool false) rfl rfl (by kernel_rfl) (by rfl) (by intro Y hY; go_simp; try with_reducible rfl) (fun _ _ _ h => h) hHeld ?_
  try simp only [Act.put, List.setIfInBounds_toArray, List.set_cons_zero, List.set_cons_succ]
  refine tkU 21 45 rfl rfl (by kernel_rfl) (by rfl) (fun _ _ _ h => h) hHeld ?_
  try simp only [Act.put, List.setIfInBounds_toArray, List.set_cons_zero, List.set_cons_succ]
  refine tkU 22 46 rfl rfl (by kernel_rfl) (by rfl) (fun _ _ _ h => h) hHeld ?_
  try simp only [Act.put, List.setIfInBounds_toArray, List.set_cons_zero, List.set_cons_succ]
  refine tkU 23 47 rfl rfl (by kernel_rfl) (by rfl) (fun _ _ _ h => h) hHeld ?_
  try simp only [Act.put, List.setIfInBounds_toArray, List.set_cons_zero, List.set_cons_succ]
  refine tkU 24 48 rfl rfl (by kernel_rfl) (by rfl) (fun _ _ _ h => h) hHeld ?_
  try simp only [Act.put, List.setIfInBounds_toArray, List.set_cons_zero, List.set_cons_succ]
  refine tkU 25 49 rfl rfl (by kernel_rfl) (by rfl) (fun _ _ _ h => h) hHeld ?_
  try simp only [Act.put, List.setIfInBounds_toArray, List.set_cons_zero, List.set_cons_succ]
  refine tkU 26 50 rfl rfl (by kernel_rfl) (by rfl) (fun _ _ _ h => h) hHeld ?_
  try simp only [Act.put, List.setIfInBounds_toArray, List.set_cons_zero, List.set_cons_succ]
  refine tkH 27 51 (.bool false) rfl rfl (by kernel_rfl) (by rfl) (by intro Y hY; go_simp; try with_reducible rfl) (fun _ _ _ h => h) hHeld ?_
  try simp only [Act.put, List.setIfInBounds_toArray, List.set_cons_zero, List.set_cons_succ]
  refine tkH 28 52 (.bool false) rfl rfl (by kernel_rfl) (by rfl) (by intro Y hY; go_simp; try with_reducible rfl) (fun _ _ _ h => h) hHeld ?_
  try simp only [Act.put, List.setIfInBounds_toArray, List.set_cons_zero, List.set_cons_succ]
  refine tkU 29 53 rfl rfl (by kernel_rfl) (by rfl) (fun _ _ _ h => h) hHeld ?_
  try simp only [Act.put, List.setIfInBounds_toArray, List.set_cons_zero, List.set_cons_succ]
  refine tkU 30 54 rfl rfl (by kernel_rfl) (by rfl) (fun _ _ _ h => h) hHeld ?_
  try simp only [Act.put, List.setIfInBounds_toArray, List.set_cons_zero, List.set_cons_succ]
  refine tkU 31 55 rfl rfl (by kernel_rfl) (by rfl) (fun _ _ _ h => h) hHeld ?_
  try simp only [Act.put, List.setIfInBounds_toArray, List.set_cons_zero, List.set_cons_succ]
  refine tkU 32 56 rfl rfl (by kernel_rfl) (by rfl) (fun _ _ _ h => h) hHeld ?_
  try simp only [Act.put, List.setIfInBounds_toArray, List.set_cons_zero, List.set_cons_succ]
  refine tkH 33 57 (.bool false) rfl rfl (by kernel_rfl) (by rfl) (by intro Y hY; go_simp; try with_reducible rfl) (fun _ _ _ h => h) hHeld ?_
  try simp only [Act.put, List.setIfInBounds_toArray, List.set_cons_zero, List.set_cons_succ]
  refine tkH 34 5 (.bool false) rfl rfl (by kernel_rfl) (by rfl) (by intro Y hY; go_simp; try with_reducible rfl) (fun _ _ _ h => h) hHeld ?_
  try simp only [Act.put, List.setIfInBounds_toArray, List.set_cons_zero, List.set_cons_succ]
  refine wpAnyH_done (by kernel_rfl) ?_ _
  go_wp2
  go_ret
  exact ⟨rfl, HKZ.out.trans (hHeld.mono fun k h => Nat.lt_of_lt_of_le h HKZ.out.size)⟩
theorem alike1_S (rd : Rd2 w0 p p' M M' R R') (a b : Nat) (ha : a < M.n) (hb : b < M'.n) (hA : AlkC w0 p p' M M' R R' f a b) (bs bc : Bool) (hS : BesC w0 p p' (M.nd a).shadow (M'.nd b).shadow bs) (hC : BesC w0 p p' (M.nd a).content (M'.nd b).content bc) (h50 : (M.nd a).attrs.length ≤ 100000 ∧ (M'.nd b).attrs.length ≤ 100000) (h0 : faceB (M.nd a) (M'.nd b) = true) (h1 : atrsB (M.nd a).attrs (M'.nd b).attrs = true) (h2 : bs = false) (X : World) (hX : Kept (fun k => k < w0.heap.size) w0 X) (N : Nat) (hN : X.heap[N]? = some (.cells #[.pointer (some ⟨p, 0, none⟩), .pointer (some ⟨p', 0, none⟩)] 72 (0, 0))) :
    Calls Try.prog 47 #[.int .i64 (a : Int), .int .i64 (b : Int), .pointer (some ⟨N, 0, none⟩)] X fun e w' => e = .returned (.bool false) ∧ Kept (fun k => k < X.heap.size) X w' := by
  have r1 := rd.n1 a ha X hX
  have R2 : Hid (∀ V, Kept (fun k => k < w0.heap.size) w0 V → Calls Try.prog 20 #[.pointer (some ⟨p', 0, none⟩), .int .i64 (b : Int)] V fun e w' => Told V (M'.nd b) (M'.pl b).up (R' b) e w') := rd.n2 b hb
  have HA : Hid (AlkC w0 p p' M M' R R' f a b) := hA
  obtain ⟨x, hx⟩ : ∃ x, M.nd a = x := ⟨_, rfl⟩
  obtain ⟨y, hy⟩ : ∃ x, M'.nd b = x := ⟨_, rfl⟩
  obtain ⟨up, hup⟩ : ∃ u, (M.pl a).up = u := ⟨_, rfl⟩
  obtain ⟨up', hup'⟩ : ∃ u, (M'.pl b).up = u := ⟨_, rfl⟩
  obtain ⟨kn, hkn⟩ : ∃ u, (R a).length = u := ⟨_, rfl⟩
  obtain ⟨kn', hkn'⟩ : ∃ u, (R' b).length = u := ⟨_, rfl⟩
  have HKN : Hid ((R a).length = kn) := hkn
  have HKN' : Hid ((R' b).length = kn') := hkn'
  unfold Told at r1
  rw [hx, hup, hkn] at r1
  rw [hx, hy] at hS hC h50 h0 h1
  have p0 : X.cell? ⟨N, 0, none⟩ = some (.pointer (some ⟨p, 0, none⟩)) := by rw [cell_block hN]; rfl
  have HB : Hid (∀ Y, Kept (fun k => k < X.heap.size) X Y → Y.heap[N]? = some (.cells #[.pointer (some ⟨p, 0, none⟩), .pointer (some ⟨p', 0, none⟩)] 72 (0, 0))) := fun Y hY => (hY.block N (lt_block hN)).trans hN
  have H0X : Hid (Kept (fun k => k < w0.heap.size) w0 X) := hX
  have HY : Hid (M'.nd b = y ∧ (M'.pl b).up = up') := ⟨hy, hup'⟩
  obtain ⟨al, hal⟩ : ∃ v, alk M M' R R' f a b = v := ⟨_, rfl⟩
  have HAL : Hid (alk M M' R R' f a b = al) := hal
  have H50 : Hid _ := h50
  have HF0 : Hid _ := h0
  obtain ⟨qa, hqa⟩ : ∃ q, atrsB x.attrs y.attrs = q := ⟨_, rfl⟩
  have HQA : Hid (atrsB x.attrs y.attrs = qa) := hqa
  obtain ⟨sh, hsh⟩ : ∃ q, x.shadow = q := ⟨_, rfl⟩
  obtain ⟨sh', hsh'⟩ : ∃ q, y.shadow = q := ⟨_, rfl⟩
  obtain ⟨ct, hct⟩ : ∃ q, x.content = q := ⟨_, rfl⟩
  obtain ⟨ct', hct'⟩ : ∃ q, y.content = q := ⟨_, rfl⟩
  have HSS : Hid (x.shadow = sh ∧ y.shadow = sh' ∧ x.content = ct ∧ y.content = ct') := ⟨hsh, hsh', hct, hct'⟩
  rw [hsh, hsh'] at hS
  rw [hct, hct'] at hC
  have BS : Hid (BesC w0 p p' sh sh' bs) := hS
  have BC : Hid (BesC w0 p p' ct ct' bc) := hC
  rw [hqa] at h1
  subst h1
  subst h2
  clear rd ha hb hA hS hC h50 h0 hX hN hx hy hup hup' hkn hkn' hal hqa hsh hsh' hct hct'
  go_enter Try.func47, Try.ntmps47
  go_wp2_with fail
  refine r1.mono ?_
  rintro e w1 ⟨ao, ac, ko, kc, rfl, hA1, hQ1, hK1⟩
  obtain ⟨V, N1, hV, hN1, hb1, hk1, hz1⟩ := alloc_bx w1 (nW x ao ac up ko kn kc) 35
  have hkV : Kept (fun k => k < X.heap.size) X V := hK1.trans (hk1.mono fun k h => Nat.lt_of_lt_of_le h hK1.size)
  have h0V : Kept (fun k => k < w0.heap.size) w0 V := H0X.out.trans (hkV.mono fun k h => Nat.lt_of_lt_of_le h H0X.out.size)
  have hI : IntsAt (fun k => k < V.heap.size) V ko (R a) := by
    have h1 : IntsAt (fun k => k < w1.heap.size) w1 ko (R a) := by rw [← HKN.out] at hQ1; exact hQ1.intsAt fun g hg => (OwnZ.out hQ1 hg).2
    exact h1.to (fun k h => Nat.lt_of_lt_of_le h hk1.size) (fun k h => hk1.block k h)
  have HI : Hid (IntsAt (fun k => k < V.heap.size) V ko (R a)) := hI
  have HAT : Hid (AtsAt (fun k => k < V.heap.size) V ao x.attrs) := (hA1.atsAt (K' := fun k => k < w1.heap.size) fun g hg => (OwnZ.out hA1 hg).2).kept hk1 fun k h => Nat.lt_of_lt_of_le h hk1.size
  have hbV := HB.out V hkV
  have p1 : V.cell? ⟨N, 1, none⟩ = some (.pointer (some ⟨p', 0, none⟩)) := by rw [cell_block hbV]; rfl
  have r2 := R2.out V h0V
  unfold Told at r2
  rw [HY.out.1, HY.out.2, HKN'.out] at r2
  have HV : Hid (w1.alloc (.cells (nW x ao ac up ko kn kc) 35) = V) := hV
  have HN1 : Hid (w1.heap.size = N1) := hN1
  have HB1 : Hid (∀ Y, Kept (fun k => k < V.heap.size) V Y → Y.heap[N1]? = some (.cells (nW x ao ac up ko kn kc) 35 (0, 0))) := fun Y hY => (hY.block N1 (lt_block hb1)).trans hb1
  have HKV : Hid (Kept (fun k => k < X.heap.size) X V) := hkV
  have H0V : Hid (Kept (fun k => k < w0.heap.size) w0 V) := h0V
  clear r1 hA1 hQ1 hK1 hV hN1 hb1 hk1 hz1 hkV h0V hI hbV p0
  go_upto_region 2 with fail
  rw [HV.out, HN1.out]
  clear HV HN1
  go_wp2_with fail
  refine r2.mono ?_
  rintro e w2 ⟨ao', ac', ko', kc', rfl, hA2, hQ2, hK2⟩
  obtain ⟨Z, N2, hZ, hN2, hb2, hk2, hz2⟩ := alloc_bx w2 (nW y ao' ac' up' ko' kn' kc') 35
  have hkZ : Kept (fun k => k < V.heap.size) V Z := hK2.trans (hk2.mono fun k h => Nat.lt_of_lt_of_le h hK2.size)
  have h0Z : Kept (fun k => k < w0.heap.size) w0 Z := H0V.out.trans (hkZ.mono fun k h => Nat.lt_of_lt_of_le h H0V.out.size)
  have hI2 : IntsAt (fun k => k < Z.heap.size) Z ko' (R' b) := by
    have h1 : IntsAt (fun k => k < w2.heap.size) w2 ko' (R' b) := by rw [← HKN'.out] at hQ2; exact hQ2.intsAt fun g hg => (OwnZ.out hQ2 hg).2
    exact h1.to (fun k h => Nat.lt_of_lt_of_le h hk2.size) (fun k h => hk2.block k h)
  have hI1 : IntsAt (fun k => k < Z.heap.size) Z ko (R a) := HI.out.to (fun k h => Nat.lt_of_lt_of_le h hkZ.size) (fun k h => hkZ.block k h)
  have hT1 : AtsAt (fun k => k < Z.heap.size) Z ao x.attrs := HAT.out.kept hkZ fun k h => Nat.lt_of_lt_of_le h hkZ.size
  have hT2 : AtsAt (fun k => k < Z.heap.size) Z ao' y.attrs := (hA2.atsAt (K' := fun k => k < w2.heap.size) fun g hg => (OwnZ.out hA2 hg).2).kept hk2 fun k h => Nat.lt_of_lt_of_le h hk2.size
  have RA : Hid (∀ Y, Kept (fun k => k < Z.heap.size) Z Y → Calls Try.prog 29 #[prV p p', .agg (nW x ao ac up ko kn kc), .agg (nW y ao' ac' up' ko' kn' kc')] Y fun e w' => e = .returned (.bool al) ∧ Kept (fun k => k < Y.heap.size) Y w') := fun Y hY => by
    have r := HA.out Y (h0Z.trans (hY.mono fun k h => Nat.lt_of_lt_of_le h h0Z.size)) x y ao ao' ac ac' up up' ko ko' kc kc' (hI1.to (fun k h => Nat.lt_of_lt_of_le h hY.size) fun k h => hY.block k h) (hI2.to (fun k h => Nat.lt_of_lt_of_le h hY.size) fun k h => hY.block k h)
    rw [HAL.out, HKN.out, HKN'.out] at r
    exact r
  obtain ⟨an, han⟩ : ∃ n, x.attrs.length = n := ⟨_, rfl⟩
  obtain ⟨an', han'⟩ : ∃ n, y.attrs.length = n := ⟨_, rfl⟩
  have EQA : Hid (∀ Y, Kept (fun k => k < Z.heap.size) Z Y → Calls Try.prog 49 #[.slice ao an ac, .slice ao' an' ac'] Y fun e w' => e = .returned (.bool true) ∧ Kept (fun k => k < Y.heap.size) Y w') := fun Y hY =>
    eqAttrs_any x.attrs y.attrs ao ao' an an' ac ac' han han' _ (by rw [← atrsB_iff, HQA.out]) (by have := H50.out.1; omega) (by have := H50.out.2; omega) Y (hT1.kept hY fun k h => Nat.lt_of_lt_of_le h hY.size) (hT2.kept hY fun k h => Nat.lt_of_lt_of_le h hY.size)
  have FX : Hid (∀ Y, Calls Try.prog 48 #[.agg (nW x ao ac up ko kn kc)] Y fun e w' => e = .returned (.agg (faceV x)) ∧ Kept (fun k => k < Y.heap.size) Y w') := fun Y => face_any x ao ac up ko kn kc Y
  have FY : Hid (∀ Y, Calls Try.prog 48 #[.agg (nW y ao' ac' up' ko' kn' kc')] Y fun e w' => e = .returned (.agg (faceV y)) ∧ Kept (fun k => k < Y.heap.size) Y w') := fun Y => face_any y ao' ac' up' ko' kn' kc' Y
  have HFP : Hid ((x.kind : Int) = (y.kind : Int) ∧ x.name = y.name ∧ x.data = y.data) := by
    have e := HF0.out
    unfold faceB at e
    simp only [Bool.and_eq_true, beq_iff_eq] at e
    exact e
  have B1 : Hid (∀ Y, Kept (fun k => k < Z.heap.size) Z Y → Y.heap[N1]? = some (.cells (nW x ao ac up ko kn kc) 35 (0, 0))) := fun Y hY => HB1.out Y (hkZ.trans (hY.mono fun k h => Nat.lt_of_lt_of_le h hkZ.size))
  have B2 : Hid (∀ Y, Kept (fun k => k < Z.heap.size) Z Y → Y.heap[N2]? = some (.cells (nW y ao' ac' up' ko' kn' kc') 35 (0, 0))) := fun Y hY => (hY.block N2 (lt_block hb2)).trans hb2
  have BP : Hid (∀ Y, Kept (fun k => k < Z.heap.size) Z Y → Y.heap[N]? = some (.cells #[.pointer (some ⟨p, 0, none⟩), .pointer (some ⟨p', 0, none⟩)] 72 (0, 0))) := fun Y hY => HB.out Y (HKV.out.trans ((hkZ.trans (hY.mono fun k h => Nat.lt_of_lt_of_le h hkZ.size)).mono fun k h => Nat.lt_of_lt_of_le h HKV.out.size))
  have C13 : Hid (∀ Y, Kept (fun k => k < Z.heap.size) Z Y → Y.cell? ⟨N1, 3, none⟩ = some (.slice ao an ac)) := fun Y hY => by rw [cell_block (B1.out Y hY), ← han]; rfl
  have C23 : Hid (∀ Y, Kept (fun k => k < Z.heap.size) Z Y → Y.cell? ⟨N2, 3, none⟩ = some (.slice ao' an' ac')) := fun Y hY => by rw [cell_block (B2.out Y hY), ← han']; rfl
  have C16 : Hid (∀ Y, Kept (fun k => k < Z.heap.size) Z Y → Y.cell? ⟨N1, 6, none⟩ = some (.int .i64 sh)) := fun Y hY => by rw [cell_block (B1.out Y hY), ← HSS.out.1]; rfl
  have C26 : Hid (∀ Y, Kept (fun k => k < Z.heap.size) Z Y → Y.cell? ⟨N2, 6, none⟩ = some (.int .i64 sh')) := fun Y hY => by rw [cell_block (B2.out Y hY), ← HSS.out.2.1]; rfl
  have C18 : Hid (∀ Y, Kept (fun k => k < Z.heap.size) Z Y → Y.cell? ⟨N1, 8, none⟩ = some (.int .i64 ct)) := fun Y hY => by rw [cell_block (B1.out Y hY), ← HSS.out.2.2.1]; rfl
  have C28 : Hid (∀ Y, Kept (fun k => k < Z.heap.size) Z Y → Y.cell? ⟨N2, 8, none⟩ = some (.int .i64 ct')) := fun Y hY => by rw [cell_block (B2.out Y hY), ← HSS.out.2.2.2]; rfl
  have HZ : Hid (w2.alloc (.cells (nW y ao' ac' up' ko' kn' kc') 35) = Z) := hZ
  have HN2 : Hid (w2.heap.size = N2) := hN2
  have H0Z : Hid (Kept (fun k => k < w0.heap.size) w0 Z) := h0Z
  have HKZ : Hid (Kept (fun k => k < X.heap.size) X Z) := HKV.out.trans (hkZ.mono fun k h => Nat.lt_of_lt_of_le h HKV.out.size)
  clear r2 hA2 hQ2 hK2 hZ hN2 hb2 hk2 hz2 hkZ h0Z hI2 hI1 hT1 hT2 han han' p1
  go_upto_region 3 with fail
  rw [HZ.out, HN2.out]
  clear HZ HN2
  refine wp_region_held_drew (S := fun Y => Kept (fun k => k < Z.heap.size) Z Y) (by kernel_rfl) ((Kept.refl _ Z).drew) (fun hHeld => ?_)
  refine tkH 0 24 (.agg (nW x ao ac up ko kn kc)) rfl rfl (by kernel_rfl) (by rfl) (by intro Y hY; exact yieldsN rfl rfl (B1.out Y hY) rfl) (fun _ _ _ h => h) hHeld ?_
  try simp only [Act.put, List.setIfInBounds_toArray, List.set_cons_zero, List.set_cons_succ]
  refine tkH 2 26 (.agg (nW y ao' ac' up' ko' kn' kc')) rfl rfl (by kernel_rfl) (by rfl) (by intro Y hY; exact yieldsN rfl rfl (B2.out Y hY) rfl) (fun _ _ _ h => h) hHeld ?_
  try simp only [Act.put, List.setIfInBounds_toArray, List.set_cons_zero, List.set_cons_succ]
  refine clH 1 25 48 #[.agg (nW x ao ac up ko kn kc)] rfl rfl (by kernel_rfl) (by rfl) rfl (by first | rfl | (simp [Act.eval]; done) | (simp [Act.eval, Act.put]; done)) (enterFace _ _) (FX.out _) ?_
  rintro e Y1 ⟨rfl, hk1⟩
  refine ⟨_, rfl, hHeld.trans (hk1.mono fun k h => Nat.lt_of_lt_of_le h hHeld.size), fun hHeld2 => ?_⟩
  replace hHeld := hHeld2
  clear hHeld2
  try simp only [Act.put, List.setIfInBounds_toArray, List.set_cons_zero, List.set_cons_succ]
  refine clH 3 27 48 #[.agg (nW y ao' ac' up' ko' kn' kc')] rfl rfl (by kernel_rfl) (by rfl) rfl (by first | rfl | (simp [Act.eval]; done) | (simp [Act.eval, Act.put]; done)) (enterFace _ _) (FY.out _) ?_
  rintro e Y3 ⟨rfl, hk3⟩
  refine ⟨_, rfl, hHeld.trans (hk3.mono fun k h => Nat.lt_of_lt_of_le h hHeld.size), fun hHeld2 => ?_⟩
  replace hHeld := hHeld2
  clear hHeld2
  try simp only [Act.put, List.setIfInBounds_toArray, List.set_cons_zero, List.set_cons_succ]
  refine tkH 4 28 (.bool true) rfl rfl (by kernel_rfl) (by rfl) (by intro Y hY; have hg := grdF; go_simp; rw [if_pos HFP.out.1, if_pos HFP.out.2.1, if_pos HFP.out.2.2]) (fun _ _ _ h => h) hHeld ?_
  try simp only [Act.put, List.setIfInBounds_toArray, List.set_cons_zero, List.set_cons_succ]
  refine tkH 5 29 (.bool true) rfl rfl (by kernel_rfl) (by rfl) (by intro Y hY; go_simp; try with_reducible rfl) (fun _ _ _ h => h) hHeld ?_
  try simp only [Act.put, List.setIfInBounds_toArray, List.set_cons_zero, List.set_cons_succ]
  refine tkH 6 30 (.pointer (some ⟨N1, 3, none⟩)) rfl rfl (by kernel_rfl) (by rfl) (by intro Y hY; go_simp; try with_reducible rfl) (fun _ _ _ h => h) hHeld ?_
  try simp only [Act.put, List.setIfInBounds_toArray, List.set_cons_zero, List.set_cons_succ]
  refine tkH 7 31 (.slice ao an ac) rfl rfl (by kernel_rfl) (by rfl) (by intro Y hY; have hc := C13.out Y hY; go_simp; try with_reducible rfl) (fun _ _ _ h => h) hHeld ?_
  try simp only [Act.put, List.setIfInBounds_toArray, List.set_cons_zero, List.set_cons_succ]
  refine tkH 8 32 (.pointer (some ⟨N2, 3, none⟩)) rfl rfl (by kernel_rfl) (by rfl) (by intro Y hY; go_simp; try with_reducible rfl) (fun _ _ _ h => h) hHeld ?_
  try simp only [Act.put, List.setIfInBounds_toArray, List.set_cons_zero, List.set_cons_succ]
  refine tkH 9 33 (.slice ao' an' ac') rfl rfl (by kernel_rfl) (by rfl) (by intro Y hY; have hc := C23.out Y hY; go_simp; try with_reducible rfl) (fun _ _ _ h => h) hHeld ?_
  try simp only [Act.put, List.setIfInBounds_toArray, List.set_cons_zero, List.set_cons_succ]
  refine clH 10 34 49 #[.slice ao an ac, .slice ao' an' ac'] rfl rfl (by kernel_rfl) (by rfl) rfl (by first | rfl | (simp [Act.eval]; done) | (simp [Act.eval, Act.put]; done)) (enterEqA _ _) (EQA.out _ hHeld) ?_
  rintro e Y10 ⟨rfl, hk10⟩
  refine ⟨_, rfl, hHeld.trans (hk10.mono fun k h => Nat.lt_of_lt_of_le h hHeld.size), fun hHeld2 => ?_⟩
  replace hHeld := hHeld2
  clear hHeld2
  try simp only [Act.put, List.setIfInBounds_toArray, List.set_cons_zero, List.set_cons_succ]
  refine tkH 11 35 (.bool true) rfl rfl (by kernel_rfl) (by rfl) (by intro Y hY; go_simp; try with_reducible rfl) (fun _ _ _ h => h) hHeld ?_
  try simp only [Act.put, List.setIfInBounds_toArray, List.set_cons_zero, List.set_cons_succ]
  refine tkH 12 36 (.bool true) rfl rfl (by kernel_rfl) (by rfl) (by intro Y hY; go_simp; try with_reducible rfl) (fun _ _ _ h => h) hHeld ?_
  try simp only [Act.put, List.setIfInBounds_toArray, List.set_cons_zero, List.set_cons_succ]
  refine tkH 13 37 (prV p p') rfl rfl (by kernel_rfl) (by rfl) (by intro Y hY; exact yieldsP rfl rfl (BP.out Y hY) rfl) (fun _ _ _ h => h) hHeld ?_
  try simp only [Act.put, List.setIfInBounds_toArray, List.set_cons_zero, List.set_cons_succ]
  refine tkH 14 38 (.pointer (some ⟨N1, 6, none⟩)) rfl rfl (by kernel_rfl) (by rfl) (by intro Y hY; go_simp; try with_reducible rfl) (fun _ _ _ h => h) hHeld ?_
  try simp only [Act.put, List.setIfInBounds_toArray, List.set_cons_zero, List.set_cons_succ]
  refine tkH 15 39 (.int .i64 sh) rfl rfl (by kernel_rfl) (by rfl) (by intro Y hY; have hc := C16.out Y hY; go_simp; try with_reducible rfl) (fun _ _ _ h => h) hHeld ?_
  try simp only [Act.put, List.setIfInBounds_toArray, List.set_cons_zero, List.set_cons_succ]
  refine tkH 16 40 (.pointer (some ⟨N2, 6, none⟩)) rfl rfl (by kernel_rfl) (by rfl) (by intro Y hY; go_simp; try with_reducible rfl) (fun _ _ _ h => h) hHeld ?_
  try simp only [Act.put, List.setIfInBounds_toArray, List.set_cons_zero, List.set_cons_succ]
  refine tkH 17 41 (.int .i64 sh') rfl rfl (by kernel_rfl) (by rfl) (by intro Y hY; have hc := C26.out Y hY; go_simp; try with_reducible rfl) (fun _ _ _ h => h) hHeld ?_
  try simp only [Act.put, List.setIfInBounds_toArray, List.set_cons_zero, List.set_cons_succ]
  refine clH 18 42 50 #[prV p p', .int .i64 sh, .int .i64 sh'] rfl rfl (by kernel_rfl) (by rfl) rfl (by first | rfl | (simp [Act.eval]; done) | (simp [Act.eval, Act.put]; done)) (enterBes _ _) (BS.out _ (H0Z.out.trans (hHeld.mono fun k h => Nat.lt_of_lt_of_le h H0Z.out.size))) ?_
  rintro e Y18 ⟨rfl, hk18⟩
  refine ⟨_, rfl, hHeld.trans (hk18.mono fun k h => Nat.lt_of_lt_of_le h hHeld.size), fun hHeld2 => ?_⟩
  replace hHeld := hHeld2
  clear hHeld2
  try simp only [Act.put, List.setIfInBounds_toArray, List.set_cons_zero, List.set_cons_succ]
  refine tkH 19 43 (.bool false) rfl rfl (by kernel_rfl) (by rfl) (by intro Y hY; go_simp; try with_reducible rfl) (fun _ _ _ h => h) hHeld ?_
  try simp only [Act.put, List.setIfInBounds_toArray, List.set_cons_zero, List.set_cons_succ]
  refine tkH 20 44 (.bool false) rfl rfl (by kernel_rfl) (by rfl) (by intro Y hY; go_simp; try with_reducible rfl) (fun _ _ _ h => h) hHeld ?_
  try simp only [Act.put, List.setIfInBounds_toArray, List.set_cons_zero, List.set_cons_succ]
  refine tkU 21 45 rfl rfl (by kernel_rfl) (by rfl) (fun _ _ _ h => h) hHeld ?_
  try simp only [Act.put, List.setIfInBounds_toArray, List.set_cons_zero, List.set_cons_succ]
  refine tkU 22 46 rfl rfl (by kernel_rfl) (by rfl) (fun _ _ _ h => h) hHeld ?_
  try simp only [Act.put, List.setIfInBounds_toArray, List.set_cons_zero, List.set_cons_succ]
  refine tkU 23 47 rfl rfl (by kernel_rfl) (by rfl) (fun _ _ _ h => h) hHeld ?_
  try simp only [Act.put, List.setIfInBounds_toArray, List.set_cons_zero, List.set_cons_succ]
  refine tkU 24 48 rfl rfl (by kernel_rfl) (by rfl) (fun _ _ _ h => h) hHeld ?_
  try simp only [Act.put, List.setIfInBounds_toArray, List.set_cons_zero, List.set_cons_succ]
  refine tkU 25 49 rfl rfl (by kernel_rfl) (by rfl) (fun _ _ _ h => h) hHeld ?_
  try simp only [Act.put, List.setIfInBounds_toArray, List.set_cons_zero, List.set_cons_succ]
  refine tkU 26 50 rfl rfl (by kernel_rfl) (by rfl) (fun _ _ _ h => h) hHeld ?_
  try simp only [Act.put, List.setIfInBounds_toArray, List.set_cons_zero, List.set_cons_succ]
  refine tkH 27 51 (.bool false) rfl rfl (by kernel_rfl) (by rfl) (by intro Y hY; go_simp; try with_reducible rfl) (fun _ _ _ h => h) hHeld ?_
  try simp only [Act.put, List.setIfInBounds_toArray, List.set_cons_zero, List.set_cons_succ]
  refine tkH 28 52 (.bool false) rfl rfl (by kernel_rfl) (by rfl) (by intro Y hY; go_simp; try with_reducible rfl) (fun _ _ _ h => h) hHeld ?_
  try simp only [Act.put, List.setIfInBounds_toArray, List.set_cons_zero, List.set_cons_succ]
  refine tkU 29 53 rfl rfl (by kernel_rfl) (by rfl) (fun _ _ _ h => h) hHeld ?_
  try simp only [Act.put, List.setIfInBounds_toArray, List.set_cons_zero, List.set_cons_succ]
  refine tkU 30 54 rfl rfl (by kernel_rfl) (by rfl) (fun _ _ _ h => h) hHeld ?_
  try simp only [Act.put, List.setIfInBounds_toArray, List.set_cons_zero, List.set_cons_succ]
  refine tkU 31 55 rfl rfl (by kernel_rfl) (by rfl) (fun _ _ _ h => h) hHeld ?_
  try simp only [Act.put, List.setIfInBounds_toArray, List.set_cons_zero, List.set_cons_succ]
  refine tkU 32 56 rfl rfl (by kernel_rfl) (by rfl) (fun _ _ _ h => h) hHeld ?_
  try simp only [Act.put, List.setIfInBounds_toArray, List.set_cons_zero, List.set_cons_succ]
  refine tkH 33 57 (.bool false) rfl rfl (by kernel_rfl) (by rfl) (by intro Y hY; go_simp; try with_reducible rfl) (fun _ _ _ h => h) hHeld ?_
  try simp only [Act.put, List.setIfInBounds_toArray, List.set_cons_zero, List.set_cons_succ]
  refine tkH 34 5 (.bool false) rfl rfl (by kernel_rfl) (by rfl) (by intro Y hY; go_simp; try with_reducible rfl) (fun _ _ _ h => h) hHeld ?_
  try simp only [Act.put, List.setIfInBounds_toArray, List.set_cons_zero, List.set_cons_succ]
  refine wpAnyH_done (by kernel_rfl) ?_ _
  go_wp2
  go_ret
  exact ⟨rfl, HKZ.out.trans (hHeld.mono fun k h => Nat.lt_of_lt_of_le h HKZ.out.size)⟩
theorem alike1_C (rd : Rd2 w0 p p' M M' R R') (a b : Nat) (ha : a < M.n) (hb : b < M'.n) (hA : AlkC w0 p p' M M' R R' f a b) (bs bc : Bool) (hS : BesC w0 p p' (M.nd a).shadow (M'.nd b).shadow bs) (hC : BesC w0 p p' (M.nd a).content (M'.nd b).content bc) (h50 : (M.nd a).attrs.length ≤ 100000 ∧ (M'.nd b).attrs.length ≤ 100000) (h0 : faceB (M.nd a) (M'.nd b) = true) (h1 : atrsB (M.nd a).attrs (M'.nd b).attrs = true) (h2 : bs = true) (h3 : bc = false) (X : World) (hX : Kept (fun k => k < w0.heap.size) w0 X) (N : Nat) (hN : X.heap[N]? = some (.cells #[.pointer (some ⟨p, 0, none⟩), .pointer (some ⟨p', 0, none⟩)] 72 (0, 0))) :
    Calls Try.prog 47 #[.int .i64 (a : Int), .int .i64 (b : Int), .pointer (some ⟨N, 0, none⟩)] X fun e w' => e = .returned (.bool false) ∧ Kept (fun k => k < X.heap.size) X w' := by
  have r1 := rd.n1 a ha X hX
  have R2 : Hid (∀ V, Kept (fun k => k < w0.heap.size) w0 V → Calls Try.prog 20 #[.pointer (some ⟨p', 0, none⟩), .int .i64 (b : Int)] V fun e w' => Told V (M'.nd b) (M'.pl b).up (R' b) e w') := rd.n2 b hb
  have HA : Hid (AlkC w0 p p' M M' R R' f a b) := hA
  obtain ⟨x, hx⟩ : ∃ x, M.nd a = x := ⟨_, rfl⟩
  obtain ⟨y, hy⟩ : ∃ x, M'.nd b = x := ⟨_, rfl⟩
  obtain ⟨up, hup⟩ : ∃ u, (M.pl a).up = u := ⟨_, rfl⟩
  obtain ⟨up', hup'⟩ : ∃ u, (M'.pl b).up = u := ⟨_, rfl⟩
  obtain ⟨kn, hkn⟩ : ∃ u, (R a).length = u := ⟨_, rfl⟩
  obtain ⟨kn', hkn'⟩ : ∃ u, (R' b).length = u := ⟨_, rfl⟩
  have HKN : Hid ((R a).length = kn) := hkn
  have HKN' : Hid ((R' b).length = kn') := hkn'
  unfold Told at r1
  rw [hx, hup, hkn] at r1
  rw [hx, hy] at hS hC h50 h0 h1
  have p0 : X.cell? ⟨N, 0, none⟩ = some (.pointer (some ⟨p, 0, none⟩)) := by rw [cell_block hN]; rfl
  have HB : Hid (∀ Y, Kept (fun k => k < X.heap.size) X Y → Y.heap[N]? = some (.cells #[.pointer (some ⟨p, 0, none⟩), .pointer (some ⟨p', 0, none⟩)] 72 (0, 0))) := fun Y hY => (hY.block N (lt_block hN)).trans hN
  have H0X : Hid (Kept (fun k => k < w0.heap.size) w0 X) := hX
  have HY : Hid (M'.nd b = y ∧ (M'.pl b).up = up') := ⟨hy, hup'⟩
  obtain ⟨al, hal⟩ : ∃ v, alk M M' R R' f a b = v := ⟨_, rfl⟩
  have HAL : Hid (alk M M' R R' f a b = al) := hal
  have H50 : Hid _ := h50
  have HF0 : Hid _ := h0
  obtain ⟨qa, hqa⟩ : ∃ q, atrsB x.attrs y.attrs = q := ⟨_, rfl⟩
  have HQA : Hid (atrsB x.attrs y.attrs = qa) := hqa
  obtain ⟨sh, hsh⟩ : ∃ q, x.shadow = q := ⟨_, rfl⟩
  obtain ⟨sh', hsh'⟩ : ∃ q, y.shadow = q := ⟨_, rfl⟩
  obtain ⟨ct, hct⟩ : ∃ q, x.content = q := ⟨_, rfl⟩
  obtain ⟨ct', hct'⟩ : ∃ q, y.content = q := ⟨_, rfl⟩
  have HSS : Hid (x.shadow = sh ∧ y.shadow = sh' ∧ x.content = ct ∧ y.content = ct') := ⟨hsh, hsh', hct, hct'⟩
  rw [hsh, hsh'] at hS
  rw [hct, hct'] at hC
  have BS : Hid (BesC w0 p p' sh sh' bs) := hS
  have BC : Hid (BesC w0 p p' ct ct' bc) := hC
  rw [hqa] at h1
  subst h1
  subst h2
  subst h3
  clear rd ha hb hA hS hC h50 h0 hX hN hx hy hup hup' hkn hkn' hal hqa hsh hsh' hct hct'
  go_enter Try.func47, Try.ntmps47
  go_wp2_with fail
  refine r1.mono ?_
  rintro e w1 ⟨ao, ac, ko, kc, rfl, hA1, hQ1, hK1⟩
  obtain ⟨V, N1, hV, hN1, hb1, hk1, hz1⟩ := alloc_bx w1 (nW x ao ac up ko kn kc) 35
  have hkV : Kept (fun k => k < X.heap.size) X V := hK1.trans (hk1.mono fun k h => Nat.lt_of_lt_of_le h hK1.size)
  have h0V : Kept (fun k => k < w0.heap.size) w0 V := H0X.out.trans (hkV.mono fun k h => Nat.lt_of_lt_of_le h H0X.out.size)
  have hI : IntsAt (fun k => k < V.heap.size) V ko (R a) := by
    have h1 : IntsAt (fun k => k < w1.heap.size) w1 ko (R a) := by rw [← HKN.out] at hQ1; exact hQ1.intsAt fun g hg => (OwnZ.out hQ1 hg).2
    exact h1.to (fun k h => Nat.lt_of_lt_of_le h hk1.size) (fun k h => hk1.block k h)
  have HI : Hid (IntsAt (fun k => k < V.heap.size) V ko (R a)) := hI
  have HAT : Hid (AtsAt (fun k => k < V.heap.size) V ao x.attrs) := (hA1.atsAt (K' := fun k => k < w1.heap.size) fun g hg => (OwnZ.out hA1 hg).2).kept hk1 fun k h => Nat.lt_of_lt_of_le h hk1.size
  have hbV := HB.out V hkV
  have p1 : V.cell? ⟨N, 1, none⟩ = some (.pointer (some ⟨p', 0, none⟩)) := by rw [cell_block hbV]; rfl
  have r2 := R2.out V h0V
  unfold Told at r2
  rw [HY.out.1, HY.out.2, HKN'.out] at r2
  have HV : Hid (w1.alloc (.cells (nW x ao ac up ko kn kc) 35) = V) := hV
  have HN1 : Hid (w1.heap.size = N1) := hN1
  have HB1 : Hid (∀ Y, Kept (fun k => k < V.heap.size) V Y → Y.heap[N1]? = some (.cells (nW x ao ac up ko kn kc) 35 (0, 0))) := fun Y hY => (hY.block N1 (lt_block hb1)).trans hb1
  have HKV : Hid (Kept (fun k => k < X.heap.size) X V) := hkV
  have H0V : Hid (Kept (fun k => k < w0.heap.size) w0 V) := h0V
  clear r1 hA1 hQ1 hK1 hV hN1 hb1 hk1 hz1 hkV h0V hI hbV p0
  go_upto_region 2 with fail
  rw [HV.out, HN1.out]
  clear HV HN1
  go_wp2_with fail
  refine r2.mono ?_
  rintro e w2 ⟨ao', ac', ko', kc', rfl, hA2, hQ2, hK2⟩
  obtain ⟨Z, N2, hZ, hN2, hb2, hk2, hz2⟩ := alloc_bx w2 (nW y ao' ac' up' ko' kn' kc') 35
  have hkZ : Kept (fun k => k < V.heap.size) V Z := hK2.trans (hk2.mono fun k h => Nat.lt_of_lt_of_le h hK2.size)
  have h0Z : Kept (fun k => k < w0.heap.size) w0 Z := H0V.out.trans (hkZ.mono fun k h => Nat.lt_of_lt_of_le h H0V.out.size)
  have hI2 : IntsAt (fun k => k < Z.heap.size) Z ko' (R' b) := by
    have h1 : IntsAt (fun k => k < w2.heap.size) w2 ko' (R' b) := by rw [← HKN'.out] at hQ2; exact hQ2.intsAt fun g hg => (OwnZ.out hQ2 hg).2
    exact h1.to (fun k h => Nat.lt_of_lt_of_le h hk2.size) (fun k h => hk2.block k h)
  have hI1 : IntsAt (fun k => k < Z.heap.size) Z ko (R a) := HI.out.to (fun k h => Nat.lt_of_lt_of_le h hkZ.size) (fun k h => hkZ.block k h)
  have hT1 : AtsAt (fun k => k < Z.heap.size) Z ao x.attrs := HAT.out.kept hkZ fun k h => Nat.lt_of_lt_of_le h hkZ.size
  have hT2 : AtsAt (fun k => k < Z.heap.size) Z ao' y.attrs := (hA2.atsAt (K' := fun k => k < w2.heap.size) fun g hg => (OwnZ.out hA2 hg).2).kept hk2 fun k h => Nat.lt_of_lt_of_le h hk2.size
  have RA : Hid (∀ Y, Kept (fun k => k < Z.heap.size) Z Y → Calls Try.prog 29 #[prV p p', .agg (nW x ao ac up ko kn kc), .agg (nW y ao' ac' up' ko' kn' kc')] Y fun e w' => e = .returned (.bool al) ∧ Kept (fun k => k < Y.heap.size) Y w') := fun Y hY => by
    have r := HA.out Y (h0Z.trans (hY.mono fun k h => Nat.lt_of_lt_of_le h h0Z.size)) x y ao ao' ac ac' up up' ko ko' kc kc' (hI1.to (fun k h => Nat.lt_of_lt_of_le h hY.size) fun k h => hY.block k h) (hI2.to (fun k h => Nat.lt_of_lt_of_le h hY.size) fun k h => hY.block k h)
    rw [HAL.out, HKN.out, HKN'.out] at r
    exact r
  obtain ⟨an, han⟩ : ∃ n, x.attrs.length = n := ⟨_, rfl⟩
  obtain ⟨an', han'⟩ : ∃ n, y.attrs.length = n := ⟨_, rfl⟩
  have EQA : Hid (∀ Y, Kept (fun k => k < Z.heap.size) Z Y → Calls Try.prog 49 #[.slice ao an ac, .slice ao' an' ac'] Y fun e w' => e = .returned (.bool true) ∧ Kept (fun k => k < Y.heap.size) Y w') := fun Y hY =>
    eqAttrs_any x.attrs y.attrs ao ao' an an' ac ac' han han' _ (by rw [← atrsB_iff, HQA.out]) (by have := H50.out.1; omega) (by have := H50.out.2; omega) Y (hT1.kept hY fun k h => Nat.lt_of_lt_of_le h hY.size) (hT2.kept hY fun k h => Nat.lt_of_lt_of_le h hY.size)
  have FX : Hid (∀ Y, Calls Try.prog 48 #[.agg (nW x ao ac up ko kn kc)] Y fun e w' => e = .returned (.agg (faceV x)) ∧ Kept (fun k => k < Y.heap.size) Y w') := fun Y => face_any x ao ac up ko kn kc Y
  have FY : Hid (∀ Y, Calls Try.prog 48 #[.agg (nW y ao' ac' up' ko' kn' kc')] Y fun e w' => e = .returned (.agg (faceV y)) ∧ Kept (fun k => k < Y.heap.size) Y w') := fun Y => face_any y ao' ac' up' ko' kn' kc' Y
  have HFP : Hid ((x.kind : Int) = (y.kind : Int) ∧ x.name = y.name ∧ x.data = y.data) := by
    have e := HF0.out
    unfold faceB at e
    simp only [Bool.and_eq_true, beq_iff_eq] at e
    exact e
  have B1 : Hid (∀ Y, Kept (fun k => k < Z.heap.size) Z Y → Y.heap[N1]? = some (.cells (nW x ao ac up ko kn kc) 35 (0, 0))) := fun Y hY => HB1.out Y (hkZ.trans (hY.mono fun k h => Nat.lt_of_lt_of_le h hkZ.size))
  have B2 : Hid (∀ Y, Kept (fun k => k < Z.heap.size) Z Y → Y.heap[N2]? = some (.cells (nW y ao' ac' up' ko' kn' kc') 35 (0, 0))) := fun Y hY => (hY.block N2 (lt_block hb2)).trans hb2
  have BP : Hid (∀ Y, Kept (fun k => k < Z.heap.size) Z Y → Y.heap[N]? = some (.cells #[.pointer (some ⟨p, 0, none⟩), .pointer (some ⟨p', 0, none⟩)] 72 (0, 0))) := fun Y hY => HB.out Y (HKV.out.trans ((hkZ.trans (hY.mono fun k h => Nat.lt_of_lt_of_le h hkZ.size)).mono fun k h => Nat.lt_of_lt_of_le h HKV.out.size))
  have C13 : Hid (∀ Y, Kept (fun k => k < Z.heap.size) Z Y → Y.cell? ⟨N1, 3, none⟩ = some (.slice ao an ac)) := fun Y hY => by rw [cell_block (B1.out Y hY), ← han]; rfl
  have C23 : Hid (∀ Y, Kept (fun k => k < Z.heap.size) Z Y → Y.cell? ⟨N2, 3, none⟩ = some (.slice ao' an' ac')) := fun Y hY => by rw [cell_block (B2.out Y hY), ← han']; rfl
  have C16 : Hid (∀ Y, Kept (fun k => k < Z.heap.size) Z Y → Y.cell? ⟨N1, 6, none⟩ = some (.int .i64 sh)) := fun Y hY => by rw [cell_block (B1.out Y hY), ← HSS.out.1]; rfl
  have C26 : Hid (∀ Y, Kept (fun k => k < Z.heap.size) Z Y → Y.cell? ⟨N2, 6, none⟩ = some (.int .i64 sh')) := fun Y hY => by rw [cell_block (B2.out Y hY), ← HSS.out.2.1]; rfl
  have C18 : Hid (∀ Y, Kept (fun k => k < Z.heap.size) Z Y → Y.cell? ⟨N1, 8, none⟩ = some (.int .i64 ct)) := fun Y hY => by rw [cell_block (B1.out Y hY), ← HSS.out.2.2.1]; rfl
  have C28 : Hid (∀ Y, Kept (fun k => k < Z.heap.size) Z Y → Y.cell? ⟨N2, 8, none⟩ = some (.int .i64 ct')) := fun Y hY => by rw [cell_block (B2.out Y hY), ← HSS.out.2.2.2]; rfl
  have HZ : Hid (w2.alloc (.cells (nW y ao' ac' up' ko' kn' kc') 35) = Z) := hZ
  have HN2 : Hid (w2.heap.size = N2) := hN2
  have H0Z : Hid (Kept (fun k => k < w0.heap.size) w0 Z) := h0Z
  have HKZ : Hid (Kept (fun k => k < X.heap.size) X Z) := HKV.out.trans (hkZ.mono fun k h => Nat.lt_of_lt_of_le h HKV.out.size)
  clear r2 hA2 hQ2 hK2 hZ hN2 hb2 hk2 hz2 hkZ h0Z hI2 hI1 hT1 hT2 han han' p1
  go_upto_region 3 with fail
  rw [HZ.out, HN2.out]
  clear HZ HN2
  refine wp_region_held_drew (S := fun Y => Kept (fun k => k < Z.heap.size) Z Y) (by kernel_rfl) ((Kept.refl _ Z).drew) (fun hHeld => ?_)
  refine tkH 0 24 (.agg (nW x ao ac up ko kn kc)) rfl rfl (by kernel_rfl) (by rfl) (by intro Y hY; exact yieldsN rfl rfl (B1.out Y hY) rfl) (fun _ _ _ h => h) hHeld ?_
  try simp only [Act.put, List.setIfInBounds_toArray, List.set_cons_zero, List.set_cons_succ]
  refine tkH 2 26 (.agg (nW y ao' ac' up' ko' kn' kc')) rfl rfl (by kernel_rfl) (by rfl) (by intro Y hY; exact yieldsN rfl rfl (B2.out Y hY) rfl) (fun _ _ _ h => h) hHeld ?_
  try simp only [Act.put, List.setIfInBounds_toArray, List.set_cons_zero, List.set_cons_succ]
  refine clH 1 25 48 #[.agg (nW x ao ac up ko kn kc)] rfl rfl (by kernel_rfl) (by rfl) rfl (by first | rfl | (simp [Act.eval]; done) | (simp [Act.eval, Act.put]; done)) (enterFace _ _) (FX.out _) ?_
  rintro e Y1 ⟨rfl, hk1⟩
  refine ⟨_, rfl, hHeld.trans (hk1.mono fun k h => Nat.lt_of_lt_of_le h hHeld.size), fun hHeld2 => ?_⟩
  replace hHeld := hHeld2
  clear hHeld2
  try simp only [Act.put, List.setIfInBounds_toArray, List.set_cons_zero, List.set_cons_succ]
  refine clH 3 27 48 #[.agg (nW y ao' ac' up' ko' kn' kc')] rfl rfl (by kernel_rfl) (by rfl) rfl (by first | rfl | (simp [Act.eval]; done) | (simp [Act.eval, Act.put]; done)) (enterFace _ _) (FY.out _) ?_
  rintro e Y3 ⟨rfl, hk3⟩
  refine ⟨_, rfl, hHeld.trans (hk3.mono fun k h => Nat.lt_of_lt_of_le h hHeld.size), fun hHeld2 => ?_⟩
  replace hHeld := hHeld2
  clear hHeld2
  try simp only [Act.put, List.setIfInBounds_toArray, List.set_cons_zero, List.set_cons_succ]
  refine tkH 4 28 (.bool true) rfl rfl (by kernel_rfl) (by rfl) (by intro Y hY; have hg := grdF; go_simp; rw [if_pos HFP.out.1, if_pos HFP.out.2.1, if_pos HFP.out.2.2]) (fun _ _ _ h => h) hHeld ?_
  try simp only [Act.put, List.setIfInBounds_toArray, List.set_cons_zero, List.set_cons_succ]
  refine tkH 5 29 (.bool true) rfl rfl (by kernel_rfl) (by rfl) (by intro Y hY; go_simp; try with_reducible rfl) (fun _ _ _ h => h) hHeld ?_
  try simp only [Act.put, List.setIfInBounds_toArray, List.set_cons_zero, List.set_cons_succ]
  refine tkH 6 30 (.pointer (some ⟨N1, 3, none⟩)) rfl rfl (by kernel_rfl) (by rfl) (by intro Y hY; go_simp; try with_reducible rfl) (fun _ _ _ h => h) hHeld ?_
  try simp only [Act.put, List.setIfInBounds_toArray, List.set_cons_zero, List.set_cons_succ]
  refine tkH 7 31 (.slice ao an ac) rfl rfl (by kernel_rfl) (by rfl) (by intro Y hY; have hc := C13.out Y hY; go_simp; try with_reducible rfl) (fun _ _ _ h => h) hHeld ?_
  try simp only [Act.put, List.setIfInBounds_toArray, List.set_cons_zero, List.set_cons_succ]
  refine tkH 8 32 (.pointer (some ⟨N2, 3, none⟩)) rfl rfl (by kernel_rfl) (by rfl) (by intro Y hY; go_simp; try with_reducible rfl) (fun _ _ _ h => h) hHeld ?_
  try simp only [Act.put, List.setIfInBounds_toArray, List.set_cons_zero, List.set_cons_succ]
  refine tkH 9 33 (.slice ao' an' ac') rfl rfl (by kernel_rfl) (by rfl) (by intro Y hY; have hc := C23.out Y hY; go_simp; try with_reducible rfl) (fun _ _ _ h => h) hHeld ?_
  try simp only [Act.put, List.setIfInBounds_toArray, List.set_cons_zero, List.set_cons_succ]
  refine clH 10 34 49 #[.slice ao an ac, .slice ao' an' ac'] rfl rfl (by kernel_rfl) (by rfl) rfl (by first | rfl | (simp [Act.eval]; done) | (simp [Act.eval, Act.put]; done)) (enterEqA _ _) (EQA.out _ hHeld) ?_
  rintro e Y10 ⟨rfl, hk10⟩
  refine ⟨_, rfl, hHeld.trans (hk10.mono fun k h => Nat.lt_of_lt_of_le h hHeld.size), fun hHeld2 => ?_⟩
  replace hHeld := hHeld2
  clear hHeld2
  try simp only [Act.put, List.setIfInBounds_toArray, List.set_cons_zero, List.set_cons_succ]
  refine tkH 11 35 (.bool true) rfl rfl (by kernel_rfl) (by rfl) (by intro Y hY; go_simp; try with_reducible rfl) (fun _ _ _ h => h) hHeld ?_
  try simp only [Act.put, List.setIfInBounds_toArray, List.set_cons_zero, List.set_cons_succ]
  refine tkH 12 36 (.bool true) rfl rfl (by kernel_rfl) (by rfl) (by intro Y hY; go_simp; try with_reducible rfl) (fun _ _ _ h => h) hHeld ?_
  try simp only [Act.put, List.setIfInBounds_toArray, List.set_cons_zero, List.set_cons_succ]
  refine tkH 13 37 (prV p p') rfl rfl (by kernel_rfl) (by rfl) (by intro Y hY; exact yieldsP rfl rfl (BP.out Y hY) rfl) (fun _ _ _ h => h) hHeld ?_
  try simp only [Act.put, List.setIfInBounds_toArray, List.set_cons_zero, List.set_cons_succ]
  refine tkH 14 38 (.pointer (some ⟨N1, 6, none⟩)) rfl rfl (by kernel_rfl) (by rfl) (by intro Y hY; go_simp; try with_reducible rfl) (fun _ _ _ h => h) hHeld ?_
  try simp only [Act.put, List.setIfInBounds_toArray, List.set_cons_zero, List.set_cons_succ]
  refine tkH 15 39 (.int .i64 sh) rfl rfl (by kernel_rfl) (by rfl) (by intro Y hY; have hc := C16.out Y hY; go_simp; try with_reducible rfl) (fun _ _ _ h => h) hHeld ?_
  try simp only [Act.put, List.setIfInBounds_toArray, List.set_cons_zero, List.set_cons_succ]
  refine tkH 16 40 (.pointer (some ⟨N2, 6, none⟩)) rfl rfl (by kernel_rfl) (by rfl) (by intro Y hY; go_simp; try with_reducible rfl) (fun _ _ _ h => h) hHeld ?_
  try simp only [Act.put, List.setIfInBounds_toArray, List.set_cons_zero, List.set_cons_succ]
  refine tkH 17 41 (.int .i64 sh') rfl rfl (by kernel_rfl) (by rfl) (by intro Y hY; have hc := C26.out Y hY; go_simp; try with_reducible rfl) (fun _ _ _ h => h) hHeld ?_
  try simp only [Act.put, List.setIfInBounds_toArray, List.set_cons_zero, List.set_cons_succ]
  refine clH 18 42 50 #[prV p p', .int .i64 sh, .int .i64 sh'] rfl rfl (by kernel_rfl) (by rfl) rfl (by first | rfl | (simp [Act.eval]; done) | (simp [Act.eval, Act.put]; done)) (enterBes _ _) (BS.out _ (H0Z.out.trans (hHeld.mono fun k h => Nat.lt_of_lt_of_le h H0Z.out.size))) ?_
  rintro e Y18 ⟨rfl, hk18⟩
  refine ⟨_, rfl, hHeld.trans (hk18.mono fun k h => Nat.lt_of_lt_of_le h hHeld.size), fun hHeld2 => ?_⟩
  replace hHeld := hHeld2
  clear hHeld2
  try simp only [Act.put, List.setIfInBounds_toArray, List.set_cons_zero, List.set_cons_succ]
  refine tkH 19 43 (.bool true) rfl rfl (by kernel_rfl) (by rfl) (by intro Y hY; go_simp; try with_reducible rfl) (fun _ _ _ h => h) hHeld ?_
  try simp only [Act.put, List.setIfInBounds_toArray, List.set_cons_zero, List.set_cons_succ]
  refine tkH 20 44 (.bool true) rfl rfl (by kernel_rfl) (by rfl) (by intro Y hY; go_simp; try with_reducible rfl) (fun _ _ _ h => h) hHeld ?_
  try simp only [Act.put, List.setIfInBounds_toArray, List.set_cons_zero, List.set_cons_succ]
  refine tkH 21 45 (prV p p') rfl rfl (by kernel_rfl) (by rfl) (by intro Y hY; exact yieldsP rfl rfl (BP.out Y hY) rfl) (fun _ _ _ h => h) hHeld ?_
  try simp only [Act.put, List.setIfInBounds_toArray, List.set_cons_zero, List.set_cons_succ]
  refine tkH 22 46 (.pointer (some ⟨N1, 8, none⟩)) rfl rfl (by kernel_rfl) (by rfl) (by intro Y hY; go_simp; try with_reducible rfl) (fun _ _ _ h => h) hHeld ?_
  try simp only [Act.put, List.setIfInBounds_toArray, List.set_cons_zero, List.set_cons_succ]
  refine tkH 23 47 (.int .i64 ct) rfl rfl (by kernel_rfl) (by rfl) (by intro Y hY; have hc := C18.out Y hY; go_simp; try with_reducible rfl) (fun _ _ _ h => h) hHeld ?_
  try simp only [Act.put, List.setIfInBounds_toArray, List.set_cons_zero, List.set_cons_succ]
  refine tkH 24 48 (.pointer (some ⟨N2, 8, none⟩)) rfl rfl (by kernel_rfl) (by rfl) (by intro Y hY; go_simp; try with_reducible rfl) (fun _ _ _ h => h) hHeld ?_
  try simp only [Act.put, List.setIfInBounds_toArray, List.set_cons_zero, List.set_cons_succ]
  refine tkH 25 49 (.int .i64 ct') rfl rfl (by kernel_rfl) (by rfl) (by intro Y hY; have hc := C28.out Y hY; go_simp; try with_reducible rfl) (fun _ _ _ h => h) hHeld ?_
  try simp only [Act.put, List.setIfInBounds_toArray, List.set_cons_zero, List.set_cons_succ]
  refine clH 26 50 50 #[prV p p', .int .i64 ct, .int .i64 ct'] rfl rfl (by kernel_rfl) (by rfl) rfl (by first | rfl | (simp [Act.eval]; done) | (simp [Act.eval, Act.put]; done)) (enterBes _ _) (BC.out _ (H0Z.out.trans (hHeld.mono fun k h => Nat.lt_of_lt_of_le h H0Z.out.size))) ?_
  rintro e Y26 ⟨rfl, hk26⟩
  refine ⟨_, rfl, hHeld.trans (hk26.mono fun k h => Nat.lt_of_lt_of_le h hHeld.size), fun hHeld2 => ?_⟩
  replace hHeld := hHeld2
  clear hHeld2
  try simp only [Act.put, List.setIfInBounds_toArray, List.set_cons_zero, List.set_cons_succ]
  refine tkH 27 51 (.bool false) rfl rfl (by kernel_rfl) (by rfl) (by intro Y hY; go_simp; try with_reducible rfl) (fun _ _ _ h => h) hHeld ?_
  try simp only [Act.put, List.setIfInBounds_toArray, List.set_cons_zero, List.set_cons_succ]
  refine tkH 28 52 (.bool false) rfl rfl (by kernel_rfl) (by rfl) (by intro Y hY; go_simp; try with_reducible rfl) (fun _ _ _ h => h) hHeld ?_
  try simp only [Act.put, List.setIfInBounds_toArray, List.set_cons_zero, List.set_cons_succ]
  refine tkU 29 53 rfl rfl (by kernel_rfl) (by rfl) (fun _ _ _ h => h) hHeld ?_
  try simp only [Act.put, List.setIfInBounds_toArray, List.set_cons_zero, List.set_cons_succ]
  refine tkU 30 54 rfl rfl (by kernel_rfl) (by rfl) (fun _ _ _ h => h) hHeld ?_
  try simp only [Act.put, List.setIfInBounds_toArray, List.set_cons_zero, List.set_cons_succ]
  refine tkU 31 55 rfl rfl (by kernel_rfl) (by rfl) (fun _ _ _ h => h) hHeld ?_
  try simp only [Act.put, List.setIfInBounds_toArray, List.set_cons_zero, List.set_cons_succ]
  refine tkU 32 56 rfl rfl (by kernel_rfl) (by rfl) (fun _ _ _ h => h) hHeld ?_
  try simp only [Act.put, List.setIfInBounds_toArray, List.set_cons_zero, List.set_cons_succ]
  refine tkH 33 57 (.bool false) rfl rfl (by kernel_rfl) (by rfl) (by intro Y hY; go_simp; try with_reducible rfl) (fun _ _ _ h => h) hHeld ?_
  try simp only [Act.put, List.setIfInBounds_toArray, List.set_cons_zero, List.set_cons_succ]
  refine tkH 34 5 (.bool false) rfl rfl (by kernel_rfl) (by rfl) (by intro Y hY; go_simp; try with_reducible rfl) (fun _ _ _ h => h) hHeld ?_
  try simp only [Act.put, List.setIfInBounds_toArray, List.set_cons_zero, List.set_cons_succ]
  refine wpAnyH_done (by kernel_rfl) ?_ _
  go_wp2
  go_ret
  exact ⟨rfl, HKZ.out.trans (hHeld.mono fun k h => Nat.lt_of_lt_of_le h HKZ.out.size)⟩
theorem alike1_K (rd : Rd2 w0 p p' M M' R R') (a b : Nat) (ha : a < M.n) (hb : b < M'.n) (hA : AlkC w0 p p' M M' R R' f a b) (bs bc : Bool) (hS : BesC w0 p p' (M.nd a).shadow (M'.nd b).shadow bs) (hC : BesC w0 p p' (M.nd a).content (M'.nd b).content bc) (h50 : (M.nd a).attrs.length ≤ 100000 ∧ (M'.nd b).attrs.length ≤ 100000) (h0 : faceB (M.nd a) (M'.nd b) = true) (h1 : atrsB (M.nd a).attrs (M'.nd b).attrs = true) (h2 : bs = true) (h3 : bc = true) (h4 : alk M M' R R' f a b = false) (X : World) (hX : Kept (fun k => k < w0.heap.size) w0 X) (N : Nat) (hN : X.heap[N]? = some (.cells #[.pointer (some ⟨p, 0, none⟩), .pointer (some ⟨p', 0, none⟩)] 72 (0, 0))) :
    Calls Try.prog 47 #[.int .i64 (a : Int), .int .i64 (b : Int), .pointer (some ⟨N, 0, none⟩)] X fun e w' => e = .returned (.bool false) ∧ Kept (fun k => k < X.heap.size) X w' := by
  have r1 := rd.n1 a ha X hX
  have R2 : Hid (∀ V, Kept (fun k => k < w0.heap.size) w0 V → Calls Try.prog 20 #[.pointer (some ⟨p', 0, none⟩), .int .i64 (b : Int)] V fun e w' => Told V (M'.nd b) (M'.pl b).up (R' b) e w') := rd.n2 b hb
  have HA : Hid (AlkC w0 p p' M M' R R' f a b) := hA
  obtain ⟨x, hx⟩ : ∃ x, M.nd a = x := ⟨_, rfl⟩
  obtain ⟨y, hy⟩ : ∃ x, M'.nd b = x := ⟨_, rfl⟩
  obtain ⟨up, hup⟩ : ∃ u, (M.pl a).up = u := ⟨_, rfl⟩
  obtain ⟨up', hup'⟩ : ∃ u, (M'.pl b).up = u := ⟨_, rfl⟩
  obtain ⟨kn, hkn⟩ : ∃ u, (R a).length = u := ⟨_, rfl⟩
  obtain ⟨kn', hkn'⟩ : ∃ u, (R' b).length = u := ⟨_, rfl⟩
  have HKN : Hid ((R a).length = kn) := hkn
  have HKN' : Hid ((R' b).length = kn') := hkn'
  unfold Told at r1
  rw [hx, hup, hkn] at r1
  rw [hx, hy] at hS hC h50 h0 h1
  have p0 : X.cell? ⟨N, 0, none⟩ = some (.pointer (some ⟨p, 0, none⟩)) := by rw [cell_block hN]; rfl
  have HB : Hid (∀ Y, Kept (fun k => k < X.heap.size) X Y → Y.heap[N]? = some (.cells #[.pointer (some ⟨p, 0, none⟩), .pointer (some ⟨p', 0, none⟩)] 72 (0, 0))) := fun Y hY => (hY.block N (lt_block hN)).trans hN
  have H0X : Hid (Kept (fun k => k < w0.heap.size) w0 X) := hX
  have HY : Hid (M'.nd b = y ∧ (M'.pl b).up = up') := ⟨hy, hup'⟩
  obtain ⟨al, hal⟩ : ∃ v, alk M M' R R' f a b = v := ⟨_, rfl⟩
  have HAL : Hid (alk M M' R R' f a b = al) := hal
  have H50 : Hid _ := h50
  have HF0 : Hid _ := h0
  obtain ⟨qa, hqa⟩ : ∃ q, atrsB x.attrs y.attrs = q := ⟨_, rfl⟩
  have HQA : Hid (atrsB x.attrs y.attrs = qa) := hqa
  obtain ⟨sh, hsh⟩ : ∃ q, x.shadow = q := ⟨_, rfl⟩
  obtain ⟨sh', hsh'⟩ : ∃ q, y.shadow = q := ⟨_, rfl⟩
  obtain ⟨ct, hct⟩ : ∃ q, x.content = q := ⟨_, rfl⟩
  obtain ⟨ct', hct'⟩ : ∃ q, y.content = q := ⟨_, rfl⟩
  have HSS : Hid (x.shadow = sh ∧ y.shadow = sh' ∧ x.content = ct ∧ y.content = ct') := ⟨hsh, hsh', hct, hct'⟩
  rw [hsh, hsh'] at hS
  rw [hct, hct'] at hC
  have BS : Hid (BesC w0 p p' sh sh' bs) := hS
  have BC : Hid (BesC w0 p p' ct ct' bc) := hC
  rw [hqa] at h1
  subst h1
  subst h2
  subst h3
  rw [hal] at h4
  subst h4
  clear rd ha hb hA hS hC h50 h0 hX hN hx hy hup hup' hkn hkn' hal hqa hsh hsh' hct hct'
  go_enter Try.func47, Try.ntmps47
  go_wp2_with fail
  refine r1.mono ?_
  rintro e w1 ⟨ao, ac, ko, kc, rfl, hA1, hQ1, hK1⟩
  obtain ⟨V, N1, hV, hN1, hb1, hk1, hz1⟩ := alloc_bx w1 (nW x ao ac up ko kn kc) 35
  have hkV : Kept (fun k => k < X.heap.size) X V := hK1.trans (hk1.mono fun k h => Nat.lt_of_lt_of_le h hK1.size)
  have h0V : Kept (fun k => k < w0.heap.size) w0 V := H0X.out.trans (hkV.mono fun k h => Nat.lt_of_lt_of_le h H0X.out.size)
  have hI : IntsAt (fun k => k < V.heap.size) V ko (R a) := by
    have h1 : IntsAt (fun k => k < w1.heap.size) w1 ko (R a) := by rw [← HKN.out] at hQ1; exact hQ1.intsAt fun g hg => (OwnZ.out hQ1 hg).2
    exact h1.to (fun k h => Nat.lt_of_lt_of_le h hk1.size) (fun k h => hk1.block k h)
  have HI : Hid (IntsAt (fun k => k < V.heap.size) V ko (R a)) := hI
  have HAT : Hid (AtsAt (fun k => k < V.heap.size) V ao x.attrs) := (hA1.atsAt (K' := fun k => k < w1.heap.size) fun g hg => (OwnZ.out hA1 hg).2).kept hk1 fun k h => Nat.lt_of_lt_of_le h hk1.size
  have hbV := HB.out V hkV
  have p1 : V.cell? ⟨N, 1, none⟩ = some (.pointer (some ⟨p', 0, none⟩)) := by rw [cell_block hbV]; rfl
  have r2 := R2.out V h0V
  unfold Told at r2
  rw [HY.out.1, HY.out.2, HKN'.out] at r2
  have HV : Hid (w1.alloc (.cells (nW x ao ac up ko kn kc) 35) = V) := hV
  have HN1 : Hid (w1.heap.size = N1) := hN1
  have HB1 : Hid (∀ Y, Kept (fun k => k < V.heap.size) V Y → Y.heap[N1]? = some (.cells (nW x ao ac up ko kn kc) 35 (0, 0))) := fun Y hY => (hY.block N1 (lt_block hb1)).trans hb1
  have HKV : Hid (Kept (fun k => k < X.heap.size) X V) := hkV
  have H0V : Hid (Kept (fun k => k < w0.heap.size) w0 V) := h0V
  clear r1 hA1 hQ1 hK1 hV hN1 hb1 hk1 hz1 hkV h0V hI hbV p0
  go_upto_region 2 with fail
  rw [HV.out, HN1.out]
  clear HV HN1
  go_wp2_with fail
  refine r2.mono ?_
  rintro e w2 ⟨ao', ac', ko', kc', rfl, hA2, hQ2, hK2⟩
  obtain ⟨Z, N2, hZ, hN2, hb2, hk2, hz2⟩ := alloc_bx w2 (nW y ao' ac' up' ko' kn' kc') 35
  have hkZ : Kept (fun k => k < V.heap.size) V Z := hK2.trans (hk2.mono fun k h => Nat.lt_of_lt_of_le h hK2.size)
  have h0Z : Kept (fun k => k < w0.heap.size) w0 Z := H0V.out.trans (hkZ.mono fun k h => Nat.lt_of_lt_of_le h H0V.out.size)
  have hI2 : IntsAt (fun k => k < Z.heap.size) Z ko' (R' b) := by
    have h1 : IntsAt (fun k => k < w2.heap.size) w2 ko' (R' b) := by rw [← HKN'.out] at hQ2; exact hQ2.intsAt fun g hg => (OwnZ.out hQ2 hg).2
    exact h1.to (fun k h => Nat.lt_of_lt_of_le h hk2.size) (fun k h => hk2.block k h)
  have hI1 : IntsAt (fun k => k < Z.heap.size) Z ko (R a) := HI.out.to (fun k h => Nat.lt_of_lt_of_le h hkZ.size) (fun k h => hkZ.block k h)
  have hT1 : AtsAt (fun k => k < Z.heap.size) Z ao x.attrs := HAT.out.kept hkZ fun k h => Nat.lt_of_lt_of_le h hkZ.size
  have hT2 : AtsAt (fun k => k < Z.heap.size) Z ao' y.attrs := (hA2.atsAt (K' := fun k => k < w2.heap.size) fun g hg => (OwnZ.out hA2 hg).2).kept hk2 fun k h => Nat.lt_of_lt_of_le h hk2.size
  have RA : Hid (∀ Y, Kept (fun k => k < Z.heap.size) Z Y → Calls Try.prog 29 #[prV p p', .agg (nW x ao ac up ko kn kc), .agg (nW y ao' ac' up' ko' kn' kc')] Y fun e w' => e = .returned (.bool false) ∧ Kept (fun k => k < Y.heap.size) Y w') := fun Y hY => by
    have r := HA.out Y (h0Z.trans (hY.mono fun k h => Nat.lt_of_lt_of_le h h0Z.size)) x y ao ao' ac ac' up up' ko ko' kc kc' (hI1.to (fun k h => Nat.lt_of_lt_of_le h hY.size) fun k h => hY.block k h) (hI2.to (fun k h => Nat.lt_of_lt_of_le h hY.size) fun k h => hY.block k h)
    rw [HAL.out, HKN.out, HKN'.out] at r
    exact r
  obtain ⟨an, han⟩ : ∃ n, x.attrs.length = n := ⟨_, rfl⟩
  obtain ⟨an', han'⟩ : ∃ n, y.attrs.length = n := ⟨_, rfl⟩
  have EQA : Hid (∀ Y, Kept (fun k => k < Z.heap.size) Z Y → Calls Try.prog 49 #[.slice ao an ac, .slice ao' an' ac'] Y fun e w' => e = .returned (.bool true) ∧ Kept (fun k => k < Y.heap.size) Y w') := fun Y hY =>
    eqAttrs_any x.attrs y.attrs ao ao' an an' ac ac' han han' _ (by rw [← atrsB_iff, HQA.out]) (by have := H50.out.1; omega) (by have := H50.out.2; omega) Y (hT1.kept hY fun k h => Nat.lt_of_lt_of_le h hY.size) (hT2.kept hY fun k h => Nat.lt_of_lt_of_le h hY.size)
  have FX : Hid (∀ Y, Calls Try.prog 48 #[.agg (nW x ao ac up ko kn kc)] Y fun e w' => e = .returned (.agg (faceV x)) ∧ Kept (fun k => k < Y.heap.size) Y w') := fun Y => face_any x ao ac up ko kn kc Y
  have FY : Hid (∀ Y, Calls Try.prog 48 #[.agg (nW y ao' ac' up' ko' kn' kc')] Y fun e w' => e = .returned (.agg (faceV y)) ∧ Kept (fun k => k < Y.heap.size) Y w') := fun Y => face_any y ao' ac' up' ko' kn' kc' Y
  have HFP : Hid ((x.kind : Int) = (y.kind : Int) ∧ x.name = y.name ∧ x.data = y.data) := by
    have e := HF0.out
    unfold faceB at e
    simp only [Bool.and_eq_true, beq_iff_eq] at e
    exact e
  have B1 : Hid (∀ Y, Kept (fun k => k < Z.heap.size) Z Y → Y.heap[N1]? = some (.cells (nW x ao ac up ko kn kc) 35 (0, 0))) := fun Y hY => HB1.out Y (hkZ.trans (hY.mono fun k h => Nat.lt_of_lt_of_le h hkZ.size))
  have B2 : Hid (∀ Y, Kept (fun k => k < Z.heap.size) Z Y → Y.heap[N2]? = some (.cells (nW y ao' ac' up' ko' kn' kc') 35 (0, 0))) := fun Y hY => (hY.block N2 (lt_block hb2)).trans hb2
  have BP : Hid (∀ Y, Kept (fun k => k < Z.heap.size) Z Y → Y.heap[N]? = some (.cells #[.pointer (some ⟨p, 0, none⟩), .pointer (some ⟨p', 0, none⟩)] 72 (0, 0))) := fun Y hY => HB.out Y (HKV.out.trans ((hkZ.trans (hY.mono fun k h => Nat.lt_of_lt_of_le h hkZ.size)).mono fun k h => Nat.lt_of_lt_of_le h HKV.out.size))
  have C13 : Hid (∀ Y, Kept (fun k => k < Z.heap.size) Z Y → Y.cell? ⟨N1, 3, none⟩ = some (.slice ao an ac)) := fun Y hY => by rw [cell_block (B1.out Y hY), ← han]; rfl
  have C23 : Hid (∀ Y, Kept (fun k => k < Z.heap.size) Z Y → Y.cell? ⟨N2, 3, none⟩ = some (.slice ao' an' ac')) := fun Y hY => by rw [cell_block (B2.out Y hY), ← han']; rfl
  have C16 : Hid (∀ Y, Kept (fun k => k < Z.heap.size) Z Y → Y.cell? ⟨N1, 6, none⟩ = some (.int .i64 sh)) := fun Y hY => by rw [cell_block (B1.out Y hY), ← HSS.out.1]; rfl
  have C26 : Hid (∀ Y, Kept (fun k => k < Z.heap.size) Z Y → Y.cell? ⟨N2, 6, none⟩ = some (.int .i64 sh')) := fun Y hY => by rw [cell_block (B2.out Y hY), ← HSS.out.2.1]; rfl
  have C18 : Hid (∀ Y, Kept (fun k => k < Z.heap.size) Z Y → Y.cell? ⟨N1, 8, none⟩ = some (.int .i64 ct)) := fun Y hY => by rw [cell_block (B1.out Y hY), ← HSS.out.2.2.1]; rfl
  have C28 : Hid (∀ Y, Kept (fun k => k < Z.heap.size) Z Y → Y.cell? ⟨N2, 8, none⟩ = some (.int .i64 ct')) := fun Y hY => by rw [cell_block (B2.out Y hY), ← HSS.out.2.2.2]; rfl
  have HZ : Hid (w2.alloc (.cells (nW y ao' ac' up' ko' kn' kc') 35) = Z) := hZ
  have HN2 : Hid (w2.heap.size = N2) := hN2
  have H0Z : Hid (Kept (fun k => k < w0.heap.size) w0 Z) := h0Z
  have HKZ : Hid (Kept (fun k => k < X.heap.size) X Z) := HKV.out.trans (hkZ.mono fun k h => Nat.lt_of_lt_of_le h HKV.out.size)
  clear r2 hA2 hQ2 hK2 hZ hN2 hb2 hk2 hz2 hkZ h0Z hI2 hI1 hT1 hT2 han han' p1
  go_upto_region 3 with fail
  rw [HZ.out, HN2.out]
  clear HZ HN2
  refine wp_region_held_drew (S := fun Y => Kept (fun k => k < Z.heap.size) Z Y) (by kernel_rfl) ((Kept.refl _ Z).drew) (fun hHeld => ?_)
  refine tkH 0 24 (.agg (nW x ao ac up ko kn kc)) rfl rfl (by kernel_rfl) (by rfl) (by intro Y hY; exact yieldsN rfl rfl (B1.out Y hY) rfl) (fun _ _ _ h => h) hHeld ?_
  try simp only [Act.put, List.setIfInBounds_toArray, List.set_cons_zero, List.set_cons_succ]
  refine tkH 2 26 (.agg (nW y ao' ac' up' ko' kn' kc')) rfl rfl (by kernel_rfl) (by rfl) (by intro Y hY; exact yieldsN rfl rfl (B2.out Y hY) rfl) (fun _ _ _ h => h) hHeld ?_
  try simp only [Act.put, List.setIfInBounds_toArray, List.set_cons_zero, List.set_cons_succ]
  refine clH 1 25 48 #[.agg (nW x ao ac up ko kn kc)] rfl rfl (by kernel_rfl) (by rfl) rfl (by first | rfl | (simp [Act.eval]; done) | (simp [Act.eval, Act.put]; done)) (enterFace _ _) (FX.out _) ?_
  rintro e Y1 ⟨rfl, hk1⟩
  refine ⟨_, rfl, hHeld.trans (hk1.mono fun k h => Nat.lt_of_lt_of_le h hHeld.size), fun hHeld2 => ?_⟩
  replace hHeld := hHeld2
  clear hHeld2
  try simp only [Act.put, List.setIfInBounds_toArray, List.set_cons_zero, List.set_cons_succ]
  refine clH 3 27 48 #[.agg (nW y ao' ac' up' ko' kn' kc')] rfl rfl (by kernel_rfl) (by rfl) rfl (by first | rfl | (simp [Act.eval]; done) | (simp [Act.eval, Act.put]; done)) (enterFace _ _) (FY.out _) ?_
  rintro e Y3 ⟨rfl, hk3⟩
  refine ⟨_, rfl, hHeld.trans (hk3.mono fun k h => Nat.lt_of_lt_of_le h hHeld.size), fun hHeld2 => ?_⟩
  replace hHeld := hHeld2
  clear hHeld2
  try simp only [Act.put, List.setIfInBounds_toArray, List.set_cons_zero, List.set_cons_succ]
  refine tkH 4 28 (.bool true) rfl rfl (by kernel_rfl) (by rfl) (by intro Y hY; have hg := grdF; go_simp; rw [if_pos HFP.out.1, if_pos HFP.out.2.1, if_pos HFP.out.2.2]) (fun _ _ _ h => h) hHeld ?_
  try simp only [Act.put, List.setIfInBounds_toArray, List.set_cons_zero, List.set_cons_succ]
  refine tkH 5 29 (.bool true) rfl rfl (by kernel_rfl) (by rfl) (by intro Y hY; go_simp; try with_reducible rfl) (fun _ _ _ h => h) hHeld ?_
  try simp only [Act.put, List.setIfInBounds_toArray, List.set_cons_zero, List.set_cons_succ]
  refine tkH 6 30 (.pointer (some ⟨N1, 3, none⟩)) rfl rfl (by kernel_rfl) (by rfl) (by intro Y hY; go_simp; try with_reducible rfl) (fun _ _ _ h => h) hHeld ?_
  try simp only [Act.put, List.setIfInBounds_toArray, List.set_cons_zero, List.set_cons_succ]
  refine tkH 7 31 (.slice ao an ac) rfl rfl (by kernel_rfl) (by rfl) (by intro Y hY; have hc := C13.out Y hY; go_simp; try with_reducible rfl) (fun _ _ _ h => h) hHeld ?_
  try simp only [Act.put, List.setIfInBounds_toArray, List.set_cons_zero, List.set_cons_succ]
  refine tkH 8 32 (.pointer (some ⟨N2, 3, none⟩)) rfl rfl (by kernel_rfl) (by rfl) (by intro Y hY; go_simp; try with_reducible rfl) (fun _ _ _ h => h) hHeld ?_
  try simp only [Act.put, List.setIfInBounds_toArray, List.set_cons_zero, List.set_cons_succ]
  refine tkH 9 33 (.slice ao' an' ac') rfl rfl (by kernel_rfl) (by rfl) (by intro Y hY; have hc := C23.out Y hY; go_simp; try with_reducible rfl) (fun _ _ _ h => h) hHeld ?_
  try simp only [Act.put, List.setIfInBounds_toArray, List.set_cons_zero, List.set_cons_succ]
  refine clH 10 34 49 #[.slice ao an ac, .slice ao' an' ac'] rfl rfl (by kernel_rfl) (by rfl) rfl (by first | rfl | (simp [Act.eval]; done) | (simp [Act.eval, Act.put]; done)) (enterEqA _ _) (EQA.out _ hHeld) ?_
  rintro e Y10 ⟨rfl, hk10⟩
  refine ⟨_, rfl, hHeld.trans (hk10.mono fun k h => Nat.lt_of_lt_of_le h hHeld.size), fun hHeld2 => ?_⟩
  replace hHeld := hHeld2
  clear hHeld2
  try simp only [Act.put, List.setIfInBounds_toArray, List.set_cons_zero, List.set_cons_succ]
  refine tkH 11 35 (.bool true) rfl rfl (by kernel_rfl) (by rfl) (by intro Y hY; go_simp; try with_reducible rfl) (fun _ _ _ h => h) hHeld ?_
  try simp only [Act.put, List.setIfInBounds_toArray, List.set_cons_zero, List.set_cons_succ]
  refine tkH 12 36 (.bool true) rfl rfl (by kernel_rfl) (by rfl) (by intro Y hY; go_simp; try with_reducible rfl) (fun _ _ _ h => h) hHeld ?_
  try simp only [Act.put, List.setIfInBounds_toArray, List.set_cons_zero, List.set_cons_succ]
  refine tkH 13 37 (prV p p') rfl rfl (by kernel_rfl) (by rfl) (by intro Y hY; exact yieldsP rfl rfl (BP.out Y hY) rfl) (fun _ _ _ h => h) hHeld ?_
  try simp only [Act.put, List.setIfInBounds_toArray, List.set_cons_zero, List.set_cons_succ]
  refine tkH 14 38 (.pointer (some ⟨N1, 6, none⟩)) rfl rfl (by kernel_rfl) (by rfl) (by intro Y hY; go_simp; try with_reducible rfl) (fun _ _ _ h => h) hHeld ?_
  try simp only [Act.put, List.setIfInBounds_toArray, List.set_cons_zero, List.set_cons_succ]
  refine tkH 15 39 (.int .i64 sh) rfl rfl (by kernel_rfl) (by rfl) (by intro Y hY; have hc := C16.out Y hY; go_simp; try with_reducible rfl) (fun _ _ _ h => h) hHeld ?_
  try simp only [Act.put, List.setIfInBounds_toArray, List.set_cons_zero, List.set_cons_succ]
  refine tkH 16 40 (.pointer (some ⟨N2, 6, none⟩)) rfl rfl (by kernel_rfl) (by rfl) (by intro Y hY; go_simp; try with_reducible rfl) (fun _ _ _ h => h) hHeld ?_
  try simp only [Act.put, List.setIfInBounds_toArray, List.set_cons_zero, List.set_cons_succ]
  refine tkH 17 41 (.int .i64 sh') rfl rfl (by kernel_rfl) (by rfl) (by intro Y hY; have hc := C26.out Y hY; go_simp; try with_reducible rfl) (fun _ _ _ h => h) hHeld ?_
  try simp only [Act.put, List.setIfInBounds_toArray, List.set_cons_zero, List.set_cons_succ]
  refine clH 18 42 50 #[prV p p', .int .i64 sh, .int .i64 sh'] rfl rfl (by kernel_rfl) (by rfl) rfl (by first | rfl | (simp [Act.eval]; done) | (simp [Act.eval, Act.put]; done)) (enterBes _ _) (BS.out _ (H0Z.out.trans (hHeld.mono fun k h => Nat.lt_of_lt_of_le h H0Z.out.size))) ?_
  rintro e Y18 ⟨rfl, hk18⟩
  refine ⟨_, rfl, hHeld.trans (hk18.mono fun k h => Nat.lt_of_lt_of_le h hHeld.size), fun hHeld2 => ?_⟩
  replace hHeld := hHeld2
  clear hHeld2
  try simp only [Act.put, List.setIfInBounds_toArray, List.set_cons_zero, List.set_cons_succ]
  refine tkH 19 43 (.bool true) rfl rfl (by kernel_rfl) (by rfl) (by intro Y hY; go_simp; try with_reducible rfl) (fun _ _ _ h => h) hHeld ?_
  try simp only [Act.put, List.setIfInBounds_toArray, List.set_cons_zero, List.set_cons_succ]
  refine tkH 20 44 (.bool true) rfl rfl (by kernel_rfl) (by rfl) (by intro Y hY; go_simp; try with_reducible rfl) (fun _ _ _ h => h) hHeld ?_
  try simp only [Act.put, List.setIfInBounds_toArray, List.set_cons_zero, List.set_cons_succ]
  refine tkH 21 45 (prV p p') rfl rfl (by kernel_rfl) (by rfl) (by intro Y hY; exact yieldsP rfl rfl (BP.out Y hY) rfl) (fun _ _ _ h => h) hHeld ?_
  try simp only [Act.put, List.setIfInBounds_toArray, List.set_cons_zero, List.set_cons_succ]
  refine tkH 22 46 (.pointer (some ⟨N1, 8, none⟩)) rfl rfl (by kernel_rfl) (by rfl) (by intro Y hY; go_simp; try with_reducible rfl) (fun _ _ _ h => h) hHeld ?_
  try simp only [Act.put, List.setIfInBounds_toArray, List.set_cons_zero, List.set_cons_succ]
  refine tkH 23 47 (.int .i64 ct) rfl rfl (by kernel_rfl) (by rfl) (by intro Y hY; have hc := C18.out Y hY; go_simp; try with_reducible rfl) (fun _ _ _ h => h) hHeld ?_
  try simp only [Act.put, List.setIfInBounds_toArray, List.set_cons_zero, List.set_cons_succ]
  refine tkH 24 48 (.pointer (some ⟨N2, 8, none⟩)) rfl rfl (by kernel_rfl) (by rfl) (by intro Y hY; go_simp; try with_reducible rfl) (fun _ _ _ h => h) hHeld ?_
  try simp only [Act.put, List.setIfInBounds_toArray, List.set_cons_zero, List.set_cons_succ]
  refine tkH 25 49 (.int .i64 ct') rfl rfl (by kernel_rfl) (by rfl) (by intro Y hY; have hc := C28.out Y hY; go_simp; try with_reducible rfl) (fun _ _ _ h => h) hHeld ?_
  try simp only [Act.put, List.setIfInBounds_toArray, List.set_cons_zero, List.set_cons_succ]
  refine clH 26 50 50 #[prV p p', .int .i64 ct, .int .i64 ct'] rfl rfl (by kernel_rfl) (by rfl) rfl (by first | rfl | (simp [Act.eval]; done) | (simp [Act.eval, Act.put]; done)) (enterBes _ _) (BC.out _ (H0Z.out.trans (hHeld.mono fun k h => Nat.lt_of_lt_of_le h H0Z.out.size))) ?_
  rintro e Y26 ⟨rfl, hk26⟩
  refine ⟨_, rfl, hHeld.trans (hk26.mono fun k h => Nat.lt_of_lt_of_le h hHeld.size), fun hHeld2 => ?_⟩
  replace hHeld := hHeld2
  clear hHeld2
  try simp only [Act.put, List.setIfInBounds_toArray, List.set_cons_zero, List.set_cons_succ]
  refine tkH 27 51 (.bool true) rfl rfl (by kernel_rfl) (by rfl) (by intro Y hY; go_simp; try with_reducible rfl) (fun _ _ _ h => h) hHeld ?_
  try simp only [Act.put, List.setIfInBounds_toArray, List.set_cons_zero, List.set_cons_succ]
  refine tkH 28 52 (.bool true) rfl rfl (by kernel_rfl) (by rfl) (by intro Y hY; go_simp; try with_reducible rfl) (fun _ _ _ h => h) hHeld ?_
  try simp only [Act.put, List.setIfInBounds_toArray, List.set_cons_zero, List.set_cons_succ]
  refine tkH 29 53 (prV p p') rfl rfl (by kernel_rfl) (by rfl) (by intro Y hY; exact yieldsP rfl rfl (BP.out Y hY) rfl) (fun _ _ _ h => h) hHeld ?_
  try simp only [Act.put, List.setIfInBounds_toArray, List.set_cons_zero, List.set_cons_succ]
  refine tkH 30 54 (.agg (nW x ao ac up ko kn kc)) rfl rfl (by kernel_rfl) (by rfl) (by intro Y hY; exact yieldsN rfl rfl (B1.out Y hY) rfl) (fun _ _ _ h => h) hHeld ?_
  try simp only [Act.put, List.setIfInBounds_toArray, List.set_cons_zero, List.set_cons_succ]
  refine tkH 31 55 (.agg (nW y ao' ac' up' ko' kn' kc')) rfl rfl (by kernel_rfl) (by rfl) (by intro Y hY; exact yieldsN rfl rfl (B2.out Y hY) rfl) (fun _ _ _ h => h) hHeld ?_
  try simp only [Act.put, List.setIfInBounds_toArray, List.set_cons_zero, List.set_cons_succ]
  refine clH 32 56 29 #[prV p p', .agg (nW x ao ac up ko kn kc), .agg (nW y ao' ac' up' ko' kn' kc')] rfl rfl (by kernel_rfl) (by rfl) rfl (by first | rfl | (simp [Act.eval]; done) | (simp [Act.eval, Act.put]; done)) (enterAlk _ _) (RA.out _ hHeld) ?_
  rintro e Y32 ⟨rfl, hk32⟩
  refine ⟨_, rfl, hHeld.trans (hk32.mono fun k h => Nat.lt_of_lt_of_le h hHeld.size), fun hHeld2 => ?_⟩
  replace hHeld := hHeld2
  clear hHeld2
  try simp only [Act.put, List.setIfInBounds_toArray, List.set_cons_zero, List.set_cons_succ]
  refine tkH 33 57 (.bool false) rfl rfl (by kernel_rfl) (by rfl) (by intro Y hY; go_simp; try with_reducible rfl) (fun _ _ _ h => h) hHeld ?_
  try simp only [Act.put, List.setIfInBounds_toArray, List.set_cons_zero, List.set_cons_succ]
  refine tkH 34 5 (.bool false) rfl rfl (by kernel_rfl) (by rfl) (by intro Y hY; go_simp; try with_reducible rfl) (fun _ _ _ h => h) hHeld ?_
  try simp only [Act.put, List.setIfInBounds_toArray, List.set_cons_zero, List.set_cons_succ]
  refine wpAnyH_done (by kernel_rfl) ?_ _
  go_wp2
  go_ret
  exact ⟨rfl, HKZ.out.trans (hHeld.mono fun k h => Nat.lt_of_lt_of_le h HKZ.out.size)⟩
theorem alike1_T (rd : Rd2 w0 p p' M M' R R') (a b : Nat) (ha : a < M.n) (hb : b < M'.n) (hA : AlkC w0 p p' M M' R R' f a b) (bs bc : Bool) (hS : BesC w0 p p' (M.nd a).shadow (M'.nd b).shadow bs) (hC : BesC w0 p p' (M.nd a).content (M'.nd b).content bc) (h50 : (M.nd a).attrs.length ≤ 100000 ∧ (M'.nd b).attrs.length ≤ 100000) (h0 : faceB (M.nd a) (M'.nd b) = true) (h1 : atrsB (M.nd a).attrs (M'.nd b).attrs = true) (h2 : bs = true) (h3 : bc = true) (h4 : alk M M' R R' f a b = true) (X : World) (hX : Kept (fun k => k < w0.heap.size) w0 X) (N : Nat) (hN : X.heap[N]? = some (.cells #[.pointer (some ⟨p, 0, none⟩), .pointer (some ⟨p', 0, none⟩)] 72 (0, 0))) :
    Calls Try.prog 47 #[.int .i64 (a : Int), .int .i64 (b : Int), .pointer (some ⟨N, 0, none⟩)] X fun e w' => e = .returned (.bool true) ∧ Kept (fun k => k < X.heap.size) X w' := by
  have r1 := rd.n1 a ha X hX
  have R2 : Hid (∀ V, Kept (fun k => k < w0.heap.size) w0 V → Calls Try.prog 20 #[.pointer (some ⟨p', 0, none⟩), .int .i64 (b : Int)] V fun e w' => Told V (M'.nd b) (M'.pl b).up (R' b) e w') := rd.n2 b hb
  have HA : Hid (AlkC w0 p p' M M' R R' f a b) := hA
  obtain ⟨x, hx⟩ : ∃ x, M.nd a = x := ⟨_, rfl⟩
  obtain ⟨y, hy⟩ : ∃ x, M'.nd b = x := ⟨_, rfl⟩
  obtain ⟨up, hup⟩ : ∃ u, (M.pl a).up = u := ⟨_, rfl⟩
  obtain ⟨up', hup'⟩ : ∃ u, (M'.pl b).up = u := ⟨_, rfl⟩
  obtain ⟨kn, hkn⟩ : ∃ u, (R a).length = u := ⟨_, rfl⟩
  obtain ⟨kn', hkn'⟩ : ∃ u, (R' b).length = u := ⟨_, rfl⟩
  have HKN : Hid ((R a).length = kn) := hkn
  have HKN' : Hid ((R' b).length = kn') := hkn'
  unfold Told at r1
  rw [hx, hup, hkn] at r1
  rw [hx, hy] at hS hC h50 h0 h1
  have p0 : X.cell? ⟨N, 0, none⟩ = some (.pointer (some ⟨p, 0, none⟩)) := by rw [cell_block hN]; rfl
  have HB : Hid (∀ Y, Kept (fun k => k < X.heap.size) X Y → Y.heap[N]? = some (.cells #[.pointer (some ⟨p, 0, none⟩), .pointer (some ⟨p', 0, none⟩)] 72 (0, 0))) := fun Y hY => (hY.block N (lt_block hN)).trans hN
  have H0X : Hid (Kept (fun k => k < w0.heap.size) w0 X) := hX
  have HY : Hid (M'.nd b = y ∧ (M'.pl b).up = up') := ⟨hy, hup'⟩
  obtain ⟨al, hal⟩ : ∃ v, alk M M' R R' f a b = v := ⟨_, rfl⟩
  have HAL : Hid (alk M M' R R' f a b = al) := hal
  have H50 : Hid _ := h50
  have HF0 : Hid _ := h0
  obtain ⟨qa, hqa⟩ : ∃ q, atrsB x.attrs y.attrs = q := ⟨_, rfl⟩
  have HQA : Hid (atrsB x.attrs y.attrs = qa) := hqa
  obtain ⟨sh, hsh⟩ : ∃ q, x.shadow = q := ⟨_, rfl⟩
  obtain ⟨sh', hsh'⟩ : ∃ q, y.shadow = q := ⟨_, rfl⟩
  obtain ⟨ct, hct⟩ : ∃ q, x.content = q := ⟨_, rfl⟩
  obtain ⟨ct', hct'⟩ : ∃ q, y.content = q := ⟨_, rfl⟩
  have HSS : Hid (x.shadow = sh ∧ y.shadow = sh' ∧ x.content = ct ∧ y.content = ct') := ⟨hsh, hsh', hct, hct'⟩
  rw [hsh, hsh'] at hS
  rw [hct, hct'] at hC
  have BS : Hid (BesC w0 p p' sh sh' bs) := hS
  have BC : Hid (BesC w0 p p' ct ct' bc) := hC
  rw [hqa] at h1
  subst h1
  subst h2
  subst h3
  rw [hal] at h4
  subst h4
  clear rd ha hb hA hS hC h50 h0 hX hN hx hy hup hup' hkn hkn' hal hqa hsh hsh' hct hct'
  go_enter Try.func47, Try.ntmps47
  go_wp2_with fail
  refine r1.mono ?_
  rintro e w1 ⟨ao, ac, ko, kc, rfl, hA1, hQ1, hK1⟩
  obtain ⟨V, N1, hV, hN1, hb1, hk1, hz1⟩ := alloc_bx w1 (nW x ao ac up ko kn kc) 35
  have hkV : Kept (fun k => k < X.heap.size) X V := hK1.trans (hk1.mono fun k h => Nat.lt_of_lt_of_le h hK1.size)
  have h0V : Kept (fun k => k < w0.heap.size) w0 V := H0X.out.trans (hkV.mono fun k h => Nat.lt_of_lt_of_le h H0X.out.size)
  have hI : IntsAt (fun k => k < V.heap.size) V ko (R a) := by
    have h1 : IntsAt (fun k => k < w1.heap.size) w1 ko (R a) := by rw [← HKN.out] at hQ1; exact hQ1.intsAt fun g hg => (OwnZ.out hQ1 hg).2
    exact h1.to (fun k h => Nat.lt_of_lt_of_le h hk1.size) (fun k h => hk1.block k h)
  have HI : Hid (IntsAt (fun k => k < V.heap.size) V ko (R a)) := hI
  have HAT : Hid (AtsAt (fun k => k < V.heap.size) V ao x.attrs) := (hA1.atsAt (K' := fun k => k < w1.heap.size) fun g hg => (OwnZ.out hA1 hg).2).kept hk1 fun k h => Nat.lt_of_lt_of_le h hk1.size
  have hbV := HB.out V hkV
  have p1 : V.cell? ⟨N, 1, none⟩ = some (.pointer (some ⟨p', 0, none⟩)) := by rw [cell_block hbV]; rfl
  have r2 := R2.out V h0V
  unfold Told at r2
  rw [HY.out.1, HY.out.2, HKN'.out] at r2
  have HV : Hid (w1.alloc (.cells (nW x ao ac up ko kn kc) 35) = V) := hV
  have HN1 : Hid (w1.heap.size = N1) := hN1
  have HB1 : Hid (∀ Y, Kept (fun k => k < V.heap.size) V Y → Y.heap[N1]? = some (.cells (nW x ao ac up ko kn kc) 35 (0, 0))) := fun Y hY => (hY.block N1 (lt_block hb1)).trans hb1
  have HKV : Hid (Kept (fun k => k < X.heap.size) X V) := hkV
  have H0V : Hid (Kept (fun k => k < w0.heap.size) w0 V) := h0V
  clear r1 hA1 hQ1 hK1 hV hN1 hb1 hk1 hz1 hkV h0V hI hbV p0
  go_upto_region 2 with fail
  rw [HV.out, HN1.out]
  clear HV HN1
  go_wp2_with fail
  refine r2.mono ?_
  rintro e w2 ⟨ao', ac', ko', kc', rfl, hA2, hQ2, hK2⟩
  obtain ⟨Z, N2, hZ, hN2, hb2, hk2, hz2⟩ := alloc_bx w2 (nW y ao' ac' up' ko' kn' kc') 35
  have hkZ : Kept (fun k => k < V.heap.size) V Z := hK2.trans (hk2.mono fun k h => Nat.lt_of_lt_of_le h hK2.size)
  have h0Z : Kept (fun k => k < w0.heap.size) w0 Z := H0V.out.trans (hkZ.mono fun k h => Nat.lt_of_lt_of_le h H0V.out.size)
  have hI2 : IntsAt (fun k => k < Z.heap.size) Z ko' (R' b) := by
    have h1 : IntsAt (fun k => k < w2.heap.size) w2 ko' (R' b) := by rw [← HKN'.out] at hQ2; exact hQ2.intsAt fun g hg => (OwnZ.out hQ2 hg).2
    exact h1.to (fun k h => Nat.lt_of_lt_of_le h hk2.size) (fun k h => hk2.block k h)
  have hI1 : IntsAt (fun k => k < Z.heap.size) Z ko (R a) := HI.out.to (fun k h => Nat.lt_of_lt_of_le h hkZ.size) (fun k h => hkZ.block k h)
  have hT1 : AtsAt (fun k => k < Z.heap.size) Z ao x.attrs := HAT.out.kept hkZ fun k h => Nat.lt_of_lt_of_le h hkZ.size
  have hT2 : AtsAt (fun k => k < Z.heap.size) Z ao' y.attrs := (hA2.atsAt (K' := fun k => k < w2.heap.size) fun g hg => (OwnZ.out hA2 hg).2).kept hk2 fun k h => Nat.lt_of_lt_of_le h hk2.size
  have RA : Hid (∀ Y, Kept (fun k => k < Z.heap.size) Z Y → Calls Try.prog 29 #[prV p p', .agg (nW x ao ac up ko kn kc), .agg (nW y ao' ac' up' ko' kn' kc')] Y fun e w' => e = .returned (.bool true) ∧ Kept (fun k => k < Y.heap.size) Y w') := fun Y hY => by
    have r := HA.out Y (h0Z.trans (hY.mono fun k h => Nat.lt_of_lt_of_le h h0Z.size)) x y ao ao' ac ac' up up' ko ko' kc kc' (hI1.to (fun k h => Nat.lt_of_lt_of_le h hY.size) fun k h => hY.block k h) (hI2.to (fun k h => Nat.lt_of_lt_of_le h hY.size) fun k h => hY.block k h)
    rw [HAL.out, HKN.out, HKN'.out] at r
    exact r
  obtain ⟨an, han⟩ : ∃ n, x.attrs.length = n := ⟨_, rfl⟩
  obtain ⟨an', han'⟩ : ∃ n, y.attrs.length = n := ⟨_, rfl⟩
  have EQA : Hid (∀ Y, Kept (fun k => k < Z.heap.size) Z Y → Calls Try.prog 49 #[.slice ao an ac, .slice ao' an' ac'] Y fun e w' => e = .returned (.bool true) ∧ Kept (fun k => k < Y.heap.size) Y w') := fun Y hY =>
    eqAttrs_any x.attrs y.attrs ao ao' an an' ac ac' han han' _ (by rw [← atrsB_iff, HQA.out]) (by have := H50.out.1; omega) (by have := H50.out.2; omega) Y (hT1.kept hY fun k h => Nat.lt_of_lt_of_le h hY.size) (hT2.kept hY fun k h => Nat.lt_of_lt_of_le h hY.size)
  have FX : Hid (∀ Y, Calls Try.prog 48 #[.agg (nW x ao ac up ko kn kc)] Y fun e w' => e = .returned (.agg (faceV x)) ∧ Kept (fun k => k < Y.heap.size) Y w') := fun Y => face_any x ao ac up ko kn kc Y
  have FY : Hid (∀ Y, Calls Try.prog 48 #[.agg (nW y ao' ac' up' ko' kn' kc')] Y fun e w' => e = .returned (.agg (faceV y)) ∧ Kept (fun k => k < Y.heap.size) Y w') := fun Y => face_any y ao' ac' up' ko' kn' kc' Y
  have HFP : Hid ((x.kind : Int) = (y.kind : Int) ∧ x.name = y.name ∧ x.data = y.data) := by
    have e := HF0.out
    unfold faceB at e
    simp only [Bool.and_eq_true, beq_iff_eq] at e
    exact e
  have B1 : Hid (∀ Y, Kept (fun k => k < Z.heap.size) Z Y → Y.heap[N1]? = some (.cells (nW x ao ac up ko kn kc) 35 (0, 0))) := fun Y hY => HB1.out Y (hkZ.trans (hY.mono fun k h => Nat.lt_of_lt_of_le h hkZ.size))
  have B2 : Hid (∀ Y, Kept (fun k => k < Z.heap.size) Z Y → Y.heap[N2]? = some (.cells (nW y ao' ac' up' ko' kn' kc') 35 (0, 0))) := fun Y hY => (hY.block N2 (lt_block hb2)).trans hb2
  have BP : Hid (∀ Y, Kept (fun k => k < Z.heap.size) Z Y → Y.heap[N]? = some (.cells #[.pointer (some ⟨p, 0, none⟩), .pointer (some ⟨p', 0, none⟩)] 72 (0, 0))) := fun Y hY => HB.out Y (HKV.out.trans ((hkZ.trans (hY.mono fun k h => Nat.lt_of_lt_of_le h hkZ.size)).mono fun k h => Nat.lt_of_lt_of_le h HKV.out.size))
  have C13 : Hid (∀ Y, Kept (fun k => k < Z.heap.size) Z Y → Y.cell? ⟨N1, 3, none⟩ = some (.slice ao an ac)) := fun Y hY => by rw [cell_block (B1.out Y hY), ← han]; rfl
  have C23 : Hid (∀ Y, Kept (fun k => k < Z.heap.size) Z Y → Y.cell? ⟨N2, 3, none⟩ = some (.slice ao' an' ac')) := fun Y hY => by rw [cell_block (B2.out Y hY), ← han']; rfl
  have C16 : Hid (∀ Y, Kept (fun k => k < Z.heap.size) Z Y → Y.cell? ⟨N1, 6, none⟩ = some (.int .i64 sh)) := fun Y hY => by rw [cell_block (B1.out Y hY), ← HSS.out.1]; rfl
  have C26 : Hid (∀ Y, Kept (fun k => k < Z.heap.size) Z Y → Y.cell? ⟨N2, 6, none⟩ = some (.int .i64 sh')) := fun Y hY => by rw [cell_block (B2.out Y hY), ← HSS.out.2.1]; rfl
  have C18 : Hid (∀ Y, Kept (fun k => k < Z.heap.size) Z Y → Y.cell? ⟨N1, 8, none⟩ = some (.int .i64 ct)) := fun Y hY => by rw [cell_block (B1.out Y hY), ← HSS.out.2.2.1]; rfl
  have C28 : Hid (∀ Y, Kept (fun k => k < Z.heap.size) Z Y → Y.cell? ⟨N2, 8, none⟩ = some (.int .i64 ct')) := fun Y hY => by rw [cell_block (B2.out Y hY), ← HSS.out.2.2.2]; rfl
  have HZ : Hid (w2.alloc (.cells (nW y ao' ac' up' ko' kn' kc') 35) = Z) := hZ
  have HN2 : Hid (w2.heap.size = N2) := hN2
  have H0Z : Hid (Kept (fun k => k < w0.heap.size) w0 Z) := h0Z
  have HKZ : Hid (Kept (fun k => k < X.heap.size) X Z) := HKV.out.trans (hkZ.mono fun k h => Nat.lt_of_lt_of_le h HKV.out.size)
  clear r2 hA2 hQ2 hK2 hZ hN2 hb2 hk2 hz2 hkZ h0Z hI2 hI1 hT1 hT2 han han' p1
  go_upto_region 3 with fail
  rw [HZ.out, HN2.out]
  clear HZ HN2
  refine wp_region_held_drew (S := fun Y => Kept (fun k => k < Z.heap.size) Z Y) (by kernel_rfl) ((Kept.refl _ Z).drew) (fun hHeld => ?_)
  refine tkH 0 24 (.agg (nW x ao ac up ko kn kc)) rfl rfl (by kernel_rfl) (by rfl) (by intro Y hY; exact yieldsN rfl rfl (B1.out Y hY) rfl) (fun _ _ _ h => h) hHeld ?_
  try simp only [Act.put, List.setIfInBounds_toArray, List.set_cons_zero, List.set_cons_succ]
  refine tkH 2 26 (.agg (nW y ao' ac' up' ko' kn' kc')) rfl rfl (by kernel_rfl) (by rfl) (by intro Y hY; exact yieldsN rfl rfl (B2.out Y hY) rfl) (fun _ _ _ h => h) hHeld ?_
  try simp only [Act.put, List.setIfInBounds_toArray, List.set_cons_zero, List.set_cons_succ]
  refine clH 1 25 48 #[.agg (nW x ao ac up ko kn kc)] rfl rfl (by kernel_rfl) (by rfl) rfl (by first | rfl | (simp [Act.eval]; done) | (simp [Act.eval, Act.put]; done)) (enterFace _ _) (FX.out _) ?_
  rintro e Y1 ⟨rfl, hk1⟩
  refine ⟨_, rfl, hHeld.trans (hk1.mono fun k h => Nat.lt_of_lt_of_le h hHeld.size), fun hHeld2 => ?_⟩
  replace hHeld := hHeld2
  clear hHeld2
  try simp only [Act.put, List.setIfInBounds_toArray, List.set_cons_zero, List.set_cons_succ]
  refine clH 3 27 48 #[.agg (nW y ao' ac' up' ko' kn' kc')] rfl rfl (by kernel_rfl) (by rfl) rfl (by first | rfl | (simp [Act.eval]; done) | (simp [Act.eval, Act.put]; done)) (enterFace _ _) (FY.out _) ?_
  rintro e Y3 ⟨rfl, hk3⟩
  refine ⟨_, rfl, hHeld.trans (hk3.mono fun k h => Nat.lt_of_lt_of_le h hHeld.size), fun hHeld2 => ?_⟩
  replace hHeld := hHeld2
  clear hHeld2
  try simp only [Act.put, List.setIfInBounds_toArray, List.set_cons_zero, List.set_cons_succ]
  refine tkH 4 28 (.bool true) rfl rfl (by kernel_rfl) (by rfl) (by intro Y hY; have hg := grdF; go_simp; rw [if_pos HFP.out.1, if_pos HFP.out.2.1, if_pos HFP.out.2.2]) (fun _ _ _ h => h) hHeld ?_
  try simp only [Act.put, List.setIfInBounds_toArray, List.set_cons_zero, List.set_cons_succ]
  refine tkH 5 29 (.bool true) rfl rfl (by kernel_rfl) (by rfl) (by intro Y hY; go_simp; try with_reducible rfl) (fun _ _ _ h => h) hHeld ?_
  try simp only [Act.put, List.setIfInBounds_toArray, List.set_cons_zero, List.set_cons_succ]
  refine tkH 6 30 (.pointer (some ⟨N1, 3, none⟩)) rfl rfl (by kernel_rfl) (by rfl) (by intro Y hY; go_simp; try with_reducible rfl) (fun _ _ _ h => h) hHeld ?_
  try simp only [Act.put, List.setIfInBounds_toArray, List.set_cons_zero, List.set_cons_succ]
  refine tkH 7 31 (.slice ao an ac) rfl rfl (by kernel_rfl) (by rfl) (by intro Y hY; have hc := C13.out Y hY; go_simp; try with_reducible rfl) (fun _ _ _ h => h) hHeld ?_
  try simp only [Act.put, List.setIfInBounds_toArray, List.set_cons_zero, List.set_cons_succ]
  refine tkH 8 32 (.pointer (some ⟨N2, 3, none⟩)) rfl rfl (by kernel_rfl) (by rfl) (by intro Y hY; go_simp; try with_reducible rfl) (fun _ _ _ h => h) hHeld ?_
  try simp only [Act.put, List.setIfInBounds_toArray, List.set_cons_zero, List.set_cons_succ]
  refine tkH 9 33 (.slice ao' an' ac') rfl rfl (by kernel_rfl) (by rfl) (by intro Y hY; have hc := C23.out Y hY; go_simp; try with_reducible rfl) (fun _ _ _ h => h) hHeld ?_
  try simp only [Act.put, List.setIfInBounds_toArray, List.set_cons_zero, List.set_cons_succ]
  refine clH 10 34 49 #[.slice ao an ac, .slice ao' an' ac'] rfl rfl (by kernel_rfl) (by rfl) rfl (by first | rfl | (simp [Act.eval]; done) | (simp [Act.eval, Act.put]; done)) (enterEqA _ _) (EQA.out _ hHeld) ?_
  rintro e Y10 ⟨rfl, hk10⟩
  refine ⟨_, rfl, hHeld.trans (hk10.mono fun k h => Nat.lt_of_lt_of_le h hHeld.size), fun hHeld2 => ?_⟩
  replace hHeld := hHeld2
  clear hHeld2
  try simp only [Act.put, List.setIfInBounds_toArray, List.set_cons_zero, List.set_cons_succ]
  refine tkH 11 35 (.bool true) rfl rfl (by kernel_rfl) (by rfl) (by intro Y hY; go_simp; try with_reducible rfl) (fun _ _ _ h => h) hHeld ?_
  try simp only [Act.put, List.setIfInBounds_toArray, List.set_cons_zero, List.set_cons_succ]
  refine tkH 12 36 (.bool true) rfl rfl (by kernel_rfl) (by rfl) (by intro Y hY; go_simp; try with_reducible rfl) (fun _ _ _ h => h) hHeld ?_
  try simp only [Act.put, List.setIfInBounds_toArray, List.set_cons_zero, List.set_cons_succ]
  refine tkH 13 37 (prV p p') rfl rfl (by kernel_rfl) (by rfl) (by intro Y hY; exact yieldsP rfl rfl (BP.out Y hY) rfl) (fun _ _ _ h => h) hHeld ?_
  try simp only [Act.put, List.setIfInBounds_toArray, List.set_cons_zero, List.set_cons_succ]
  refine tkH 14 38 (.pointer (some ⟨N1, 6, none⟩)) rfl rfl (by kernel_rfl) (by rfl) (by intro Y hY; go_simp; try with_reducible rfl) (fun _ _ _ h => h) hHeld ?_
  try simp only [Act.put, List.setIfInBounds_toArray, List.set_cons_zero, List.set_cons_succ]
  refine tkH 15 39 (.int .i64 sh) rfl rfl (by kernel_rfl) (by rfl) (by intro Y hY; have hc := C16.out Y hY; go_simp; try with_reducible rfl) (fun _ _ _ h => h) hHeld ?_
  try simp only [Act.put, List.setIfInBounds_toArray, List.set_cons_zero, List.set_cons_succ]
  refine tkH 16 40 (.pointer (some ⟨N2, 6, none⟩)) rfl rfl (by kernel_rfl) (by rfl) (by intro Y hY; go_simp; try with_reducible rfl) (fun _ _ _ h => h) hHeld ?_
  try simp only [Act.put, List.setIfInBounds_toArray, List.set_cons_zero, List.set_cons_succ]
  refine tkH 17 41 (.int .i64 sh') rfl rfl (by kernel_rfl) (by rfl) (by intro Y hY; have hc := C26.out Y hY; go_simp; try with_reducible rfl) (fun _ _ _ h => h) hHeld ?_
  try simp only [Act.put, List.setIfInBounds_toArray, List.set_cons_zero, List.set_cons_succ]
  refine clH 18 42 50 #[prV p p', .int .i64 sh, .int .i64 sh'] rfl rfl (by kernel_rfl) (by rfl) rfl (by first | rfl | (simp [Act.eval]; done) | (simp [Act.eval, Act.put]; done)) (enterBes _ _) (BS.out _ (H0Z.out.trans (hHeld.mono fun k h => Nat.lt_of_lt_of_le h H0Z.out.size))) ?_
  rintro e Y18 ⟨rfl, hk18⟩
  refine ⟨_, rfl, hHeld.trans (hk18.mono fun k h => Nat.lt_of_lt_of_le h hHeld.size), fun hHeld2 => ?_⟩
  replace hHeld := hHeld2
  clear hHeld2
  try simp only [Act.put, List.setIfInBounds_toArray, List.set_cons_zero, List.set_cons_succ]
  refine tkH 19 43 (.bool true) rfl rfl (by kernel_rfl) (by rfl) (by intro Y hY; go_simp; try with_reducible rfl) (fun _ _ _ h => h) hHeld ?_
  try simp only [Act.put, List.setIfInBounds_toArray, List.set_cons_zero, List.set_cons_succ]
  refine tkH 20 44 (.bool true) rfl rfl (by kernel_rfl) (by rfl) (by intro Y hY; go_simp; try with_reducible rfl) (fun _ _ _ h => h) hHeld ?_
  try simp only [Act.put, List.setIfInBounds_toArray, List.set_cons_zero, List.set_cons_succ]
  refine tkH 21 45 (prV p p') rfl rfl (by kernel_rfl) (by rfl) (by intro Y hY; exact yieldsP rfl rfl (BP.out Y hY) rfl) (fun _ _ _ h => h) hHeld ?_
  try simp only [Act.put, List.setIfInBounds_toArray, List.set_cons_zero, List.set_cons_succ]
  refine tkH 22 46 (.pointer (some ⟨N1, 8, none⟩)) rfl rfl (by kernel_rfl) (by rfl) (by intro Y hY; go_simp; try with_reducible rfl) (fun _ _ _ h => h) hHeld ?_
  try simp only [Act.put, List.setIfInBounds_toArray, List.set_cons_zero, List.set_cons_succ]
  refine tkH 23 47 (.int .i64 ct) rfl rfl (by kernel_rfl) (by rfl) (by intro Y hY; have hc := C18.out Y hY; go_simp; try with_reducible rfl) (fun _ _ _ h => h) hHeld ?_
  try simp only [Act.put, List.setIfInBounds_toArray, List.set_cons_zero, List.set_cons_succ]
  refine tkH 24 48 (.pointer (some ⟨N2, 8, none⟩)) rfl rfl (by kernel_rfl) (by rfl) (by intro Y hY; go_simp; try with_reducible rfl) (fun _ _ _ h => h) hHeld ?_
  try simp only [Act.put, List.setIfInBounds_toArray, List.set_cons_zero, List.set_cons_succ]
  refine tkH 25 49 (.int .i64 ct') rfl rfl (by kernel_rfl) (by rfl) (by intro Y hY; have hc := C28.out Y hY; go_simp; try with_reducible rfl) (fun _ _ _ h => h) hHeld ?_
  try simp only [Act.put, List.setIfInBounds_toArray, List.set_cons_zero, List.set_cons_succ]
  refine clH 26 50 50 #[prV p p', .int .i64 ct, .int .i64 ct'] rfl rfl (by kernel_rfl) (by rfl) rfl (by first | rfl | (simp [Act.eval]; done) | (simp [Act.eval, Act.put]; done)) (enterBes _ _) (BC.out _ (H0Z.out.trans (hHeld.mono fun k h => Nat.lt_of_lt_of_le h H0Z.out.size))) ?_
  rintro e Y26 ⟨rfl, hk26⟩
  refine ⟨_, rfl, hHeld.trans (hk26.mono fun k h => Nat.lt_of_lt_of_le h hHeld.size), fun hHeld2 => ?_⟩
  replace hHeld := hHeld2
  clear hHeld2
  try simp only [Act.put, List.setIfInBounds_toArray, List.set_cons_zero, List.set_cons_succ]
  refine tkH 27 51 (.bool true) rfl rfl (by kernel_rfl) (by rfl) (by intro Y hY; go_simp; try with_reducible rfl) (fun _ _ _ h => h) hHeld ?_
  try simp only [Act.put, List.setIfInBounds_toArray, List.set_cons_zero, List.set_cons_succ]
  refine tkH 28 52 (.bool true) rfl rfl (by kernel_rfl) (by rfl) (by intro Y hY; go_simp; try with_reducible rfl) (fun _ _ _ h => h) hHeld ?_
  try simp only [Act.put, List.setIfInBounds_toArray, List.set_cons_zero, List.set_cons_succ]
  refine tkH 29 53 (prV p p') rfl rfl (by kernel_rfl) (by rfl) (by intro Y hY; exact yieldsP rfl rfl (BP.out Y hY) rfl) (fun _ _ _ h => h) hHeld ?_
  try simp only [Act.put, List.setIfInBounds_toArray, List.set_cons_zero, List.set_cons_succ]
  refine tkH 30 54 (.agg (nW x ao ac up ko kn kc)) rfl rfl (by kernel_rfl) (by rfl) (by intro Y hY; exact yieldsN rfl rfl (B1.out Y hY) rfl) (fun _ _ _ h => h) hHeld ?_
  try simp only [Act.put, List.setIfInBounds_toArray, List.set_cons_zero, List.set_cons_succ]
  refine tkH 31 55 (.agg (nW y ao' ac' up' ko' kn' kc')) rfl rfl (by kernel_rfl) (by rfl) (by intro Y hY; exact yieldsN rfl rfl (B2.out Y hY) rfl) (fun _ _ _ h => h) hHeld ?_
  try simp only [Act.put, List.setIfInBounds_toArray, List.set_cons_zero, List.set_cons_succ]
  refine clH 32 56 29 #[prV p p', .agg (nW x ao ac up ko kn kc), .agg (nW y ao' ac' up' ko' kn' kc')] rfl rfl (by kernel_rfl) (by rfl) rfl (by first | rfl | (simp [Act.eval]; done) | (simp [Act.eval, Act.put]; done)) (enterAlk _ _) (RA.out _ hHeld) ?_
  rintro e Y32 ⟨rfl, hk32⟩
  refine ⟨_, rfl, hHeld.trans (hk32.mono fun k h => Nat.lt_of_lt_of_le h hHeld.size), fun hHeld2 => ?_⟩
  replace hHeld := hHeld2
  clear hHeld2
  try simp only [Act.put, List.setIfInBounds_toArray, List.set_cons_zero, List.set_cons_succ]
  refine tkH 33 57 (.bool true) rfl rfl (by kernel_rfl) (by rfl) (by intro Y hY; go_simp; try with_reducible rfl) (fun _ _ _ h => h) hHeld ?_
  try simp only [Act.put, List.setIfInBounds_toArray, List.set_cons_zero, List.set_cons_succ]
  refine tkH 34 5 (.bool true) rfl rfl (by kernel_rfl) (by rfl) (by intro Y hY; go_simp; try with_reducible rfl) (fun _ _ _ h => h) hHeld ?_
  try simp only [Act.put, List.setIfInBounds_toArray, List.set_cons_zero, List.set_cons_succ]
  refine wpAnyH_done (by kernel_rfl) ?_ _
  go_wp2
  go_ret
  exact ⟨rfl, HKZ.out.trans (hHeld.mono fun k h => Nat.lt_of_lt_of_le h HKZ.out.size)⟩
end
end Go.Proofs.Ytikaheenjhdpmaa
