/-
  What stable.Same answers.
-/
import Derived.Test.YtfeinppedejlpaaGreatVYf
namespace Go.Proofs.YtfeinppedejlpaaGreat
open Go.RowKit Go.Sort
set_option linter.unusedVariables false
set_option maxRecDepth 100000
set_option maxHeartbeats 16000000
theorem ztp (cs : Array Value) (h : cs.size = 2) : (Tryz.prog.info? 156).map (·.size) = some cs.size := by rw [h]; kernel_rfl
theorem zi6 {o : Oper} {a : Act} {X : World} {x : Operand} {N : Nat} {cs : Array Value} (ho : o.op = .load 156 x) (hx : a.eval x = .pointer (some ⟨N, 0, none⟩)) (hb : X.heap[N]? = some (.cells cs 156 (0, 0))) (hc : cs.size = 2) :
  (execOp a.eval o).run Tryz.prog X = .ok (.value (.agg cs)) X := by
 unfold execOp
 simp only [ho, hx, Instr.loadAt, Instr.sureAddr, Sem.run_bind, Sem.run_pure, Result.andThen_ok, run_loadVar_row X N 156 156 cs (0, 0) _ hb Tryz.underlying156 rfl (ztp cs hc)]
theorem zhv (args : Array Value) (X : World) : (callFunc 207 args).run Tryz.prog X = .ok (.enter 207 args) X := zax Tryz.func207 (by kernel_rfl) (c := _) rfl args X
theorem zpv (args : Array Value) (X : World) : (callFunc 208 args).run Tryz.prog X = .ok (.enter 208 args) X := zax Tryz.func208 (by kernel_rfl) (c := _) rfl args X
theorem zkx (args : Array Value) (X : World) : (callFunc 209 args).run Tryz.prog X = .ok (.enter 209 args) X := zax Tryz.func209 (by kernel_rfl) (c := _) rfl args X
theorem zqc (args : Array Value) (X : World) : (callFunc 134 args).run Tryz.prog X = .ok (.enter 134 args) X := zax Tryz.func134 (by kernel_rfl) (c := _) rfl args X
section
variable {w0 : World} {p p' : Nat} {M M' : Dm} {R R' : Nat -> List Nat} {f : Nat}
def Zrd (w0 : World) (p p' : Nat) (s t : Int) (v : Bool) : Prop := ∀ X, Kept (fun k => k < w0.heap.size) w0 X -> Calls Tryz.prog 209 #[prV p p', .int .i64 s, .int .i64 t] X fun e w' => e = .returned (.bool v) /\ Kept (fun k => k < X.heap.size) X w'
theorem zl5 (rd : Rd2 w0 p p' M M' R R') (a b : Nat) (ha : a < M.n) (hb : b < M'.n) (hA : Zpq w0 p p' M M' R R' f a b) (bs bc : Bool) (hS : Zrd w0 p p' (M.nd a).shadow (M'.nd b).shadow bs) (hC : Zrd w0 p p' (M.nd a).content (M'.nd b).content bc) (h50 : (M.nd a).attrs.length <= 100000 /\ (M'.nd b).attrs.length <= 100000) (X : World) (hX : Kept (fun k => k < w0.heap.size) w0 X) (N : Nat) (hN : X.heap[N]? = some (.cells #[.pointer (some ⟨p, 0, none⟩), .pointer (some ⟨p', 0, none⟩)] 156 (0, 0))) :
  Calls Tryz.prog 206 #[.int .i64 (a : Int), .int .i64 (b : Int), .pointer (some ⟨N, 0, none⟩)] X fun e w' => e = .returned (.bool (zfq (M.nd a) (M'.nd b) && (zey (M.nd a).attrs (M'.nd b).attrs && (bs && (bc && alk M M' R R' f a b))))) /\ Kept (fun k => k < X.heap.size) X w' := by
 have r1 := rd.n1 a ha X hX
 have R2 : Hid (∀ V, Kept (fun k => k < w0.heap.size) w0 V -> Calls Tryz.prog 41 #[.pointer (some ⟨p', 0, none⟩), .int .i64 (b : Int)] V fun e w' => Told V (M'.nd b) (M'.pl b).up (R' b) e w') := rd.n2 b hb
 have HA : Hid (Zpq w0 p p' M M' R R' f a b) := hA
 obtain ⟨x, hx⟩ : ∃ x, M.nd a = x := ⟨_, rfl⟩
 obtain ⟨y, hy⟩ : ∃ x, M'.nd b = x := ⟨_, rfl⟩
 obtain ⟨up, hup⟩ : ∃ u, (M.pl a).up = u := ⟨_, rfl⟩
 obtain ⟨up', hup'⟩ : ∃ u, (M'.pl b).up = u := ⟨_, rfl⟩
 obtain ⟨kn, hkn⟩ : ∃ u, (R a).length = u := ⟨_, rfl⟩
 obtain ⟨kn', hkn'⟩ : ∃ u, (R' b).length = u := ⟨_, rfl⟩
 have HKN : Hid ((R a).length = kn) := hkn
 have HKN' : Hid ((R' b).length = kn') := hkn'
 unfold Told at r1
 rw [hx, hup, hkn] at r1
 rw [hx, hy] at hS hC h50 ⊢
 have p0 : X.cell? ⟨N, 0, none⟩ = some (.pointer (some ⟨p, 0, none⟩)) := by rw [zaa hN]; rfl
 have HB : Hid (∀ Y, Kept (fun k => k < X.heap.size) X Y -> Y.heap[N]? = some (.cells #[.pointer (some ⟨p, 0, none⟩), .pointer (some ⟨p', 0, none⟩)] 156 (0, 0))) := fun Y hY => (hY.block N (zad hN)).trans hN
 have H0X : Hid (Kept (fun k => k < w0.heap.size) w0 X) := hX
 have HY : Hid (M'.nd b = y /\ (M'.pl b).up = up') := ⟨hy, hup'⟩
 obtain ⟨al, hal⟩ : ∃ v, alk M M' R R' f a b = v := ⟨_, rfl⟩
 have HAL : Hid (alk M M' R R' f a b = al) := hal
 have H50 : Hid _ := h50
 obtain ⟨fb, hfb⟩ : ∃ q, zfq x y = q := ⟨_, rfl⟩
 have HF0 : Hid (zfq x y = fb) := hfb
 obtain ⟨qa, hqa⟩ : ∃ q, zey x.attrs y.attrs = q := ⟨_, rfl⟩
 have HQA : Hid (zey x.attrs y.attrs = qa) := hqa
 obtain ⟨sh, hsh⟩ : ∃ q, x.shadow = q := ⟨_, rfl⟩
 obtain ⟨sh', hsh'⟩ : ∃ q, y.shadow = q := ⟨_, rfl⟩
 obtain ⟨ct, hct⟩ : ∃ q, x.content = q := ⟨_, rfl⟩
 obtain ⟨ct', hct'⟩ : ∃ q, y.content = q := ⟨_, rfl⟩
 have HSS : Hid (x.shadow = sh /\ y.shadow = sh' /\ x.content = ct /\ y.content = ct') := ⟨hsh, hsh', hct, hct'⟩
 rw [hsh, hsh'] at hS
 rw [hct, hct'] at hC
 have BS : Hid (Zrd w0 p p' sh sh' bs) := hS
 have BC : Hid (Zrd w0 p p' ct ct' bc) := hC
 rw [hfb, hqa, hal]
 clear rd ha hb hA hS hC h50 hfb hX hN hx hy hup hup' hkn hkn' hal hqa hsh hsh' hct hct'
 go_enter Tryz.func206, Tryz.ntmps206
 go_wp2_with fail
 refine r1.mono ?_
 rintro e w1 ⟨ao, ac, ko, kc, rfl, hA1, hQ1, hK1⟩
 obtain ⟨V, N1, hV, hN1, hb1, hk1, hz1⟩ := zal w1 (nW x ao ac up ko kn kc) 58
 have hkV : Kept (fun k => k < X.heap.size) X V := kt hK1 hk1
 have h0V : Kept (fun k => k < w0.heap.size) w0 V := kt H0X.out hkV
 have hI : Zae (fun k => k < V.heap.size) V ko (R a) := by
  have h1 : Zae (fun k => k < w1.heap.size) w1 ko (R a) := by rw [<- HKN.out] at hQ1; exact hQ1.intsAt fun g hg => (Zac.out hQ1 hg).2
  exact h1.to (fun k h => ltl h hk1.size) (fun k h => hk1.block k h)
 have HI : Hid (Zae (fun k => k < V.heap.size) V ko (R a)) := hI
 have HAT : Hid (Zag (fun k => k < V.heap.size) V ao x.attrs) := (hA1.atsAt (K' := fun k => k < w1.heap.size) fun g hg => (Zac.out hA1 hg).2).kept hk1 fun k h => ltl h hk1.size
 have hbV := HB.out V hkV
 have p1 : V.cell? ⟨N, 1, none⟩ = some (.pointer (some ⟨p', 0, none⟩)) := by rw [zaa hbV]; rfl
 have r2 := R2.out V h0V
 unfold Told at r2
 rw [HY.out.1, HY.out.2, HKN'.out] at r2
 have HV : Hid (w1.alloc (.cells (nW x ao ac up ko kn kc) 58) = V) := hV
 have HN1 : Hid (w1.heap.size = N1) := hN1
 have HB1 : Hid (∀ Y, Kept (fun k => k < V.heap.size) V Y -> Y.heap[N1]? = some (.cells (nW x ao ac up ko kn kc) 58 (0, 0))) := fun Y hY => (hY.block N1 (zad hb1)).trans hb1
 have HKV : Hid (Kept (fun k => k < X.heap.size) X V) := hkV
 have H0V : Hid (Kept (fun k => k < w0.heap.size) w0 V) := h0V
 clear r1 hA1 hQ1 hK1 hV hN1 hb1 hk1 hz1 hkV h0V hI hbV p0
 go_upto_region 2 with fail
 rw [HV.out, HN1.out]
 clear HV HN1
 go_wp2_with fail
 refine r2.mono ?_
 rintro e w2 ⟨ao', ac', ko', kc', rfl, hA2, hQ2, hK2⟩
 obtain ⟨Z, N2, hZ, hN2, hb2, hk2, hz2⟩ := zal w2 (nW y ao' ac' up' ko' kn' kc') 58
 have hkZ : Kept (fun k => k < V.heap.size) V Z := kt hK2 hk2
 have h0Z : Kept (fun k => k < w0.heap.size) w0 Z := kt H0V.out hkZ
 have hI2 : Zae (fun k => k < Z.heap.size) Z ko' (R' b) := by
  have h1 : Zae (fun k => k < w2.heap.size) w2 ko' (R' b) := by rw [<- HKN'.out] at hQ2; exact hQ2.intsAt fun g hg => (Zac.out hQ2 hg).2
  exact h1.to (fun k h => ltl h hk2.size) (fun k h => hk2.block k h)
 have hI1 : Zae (fun k => k < Z.heap.size) Z ko (R a) := HI.out.to (fun k h => ltl h hkZ.size) (fun k h => hkZ.block k h)
 have hT1 : Zag (fun k => k < Z.heap.size) Z ao x.attrs := HAT.out.kept hkZ fun k h => ltl h hkZ.size
 have hT2 : Zag (fun k => k < Z.heap.size) Z ao' y.attrs := (hA2.atsAt (K' := fun k => k < w2.heap.size) fun g hg => (Zac.out hA2 hg).2).kept hk2 fun k h => ltl h hk2.size
 have RA : Hid (∀ Y, Kept (fun k => k < Z.heap.size) Z Y -> Calls Tryz.prog 134 #[prV p p', .agg (nW x ao ac up ko kn kc), .agg (nW y ao' ac' up' ko' kn' kc')] Y fun e w' => e = .returned (.bool al) /\ Kept (fun k => k < Y.heap.size) Y w') := fun Y hY => by
  have r := HA.out Y (kt h0Z hY) x y ao ao' ac ac' up up' ko ko' kc kc' (hI1.to (fun k h => ltl h hY.size) fun k h => hY.block k h) (hI2.to (fun k h => ltl h hY.size) fun k h => hY.block k h)
  rw [HAL.out, HKN.out, HKN'.out] at r
  exact r
 obtain ⟨an, han⟩ : ∃ n, x.attrs.length = n := ⟨_, rfl⟩
 obtain ⟨an', han'⟩ : ∃ n, y.attrs.length = n := ⟨_, rfl⟩
 have EQA : Hid (∀ Y, Kept (fun k => k < Z.heap.size) Z Y -> Calls Tryz.prog 208 #[.slice ao an ac, .slice ao' an' ac'] Y fun e w' => e = .returned (.bool qa) /\ Kept (fun k => k < Y.heap.size) Y w') := fun Y hY =>
  zjn x.attrs y.attrs ao ao' an an' ac ac' han han' _ (by rw [<- zc0, HQA.out]) (by have := H50.out.1; omega) (by have := H50.out.2; omega) Y (hT1.kept hY fun k h => ltl h hY.size) (hT2.kept hY fun k h => ltl h hY.size)
 have FX : Hid (∀ Y, Calls Tryz.prog 207 #[.agg (nW x ao ac up ko kn kc)] Y fun e w' => e = .returned (.agg (zhf x)) /\ Kept (fun k => k < Y.heap.size) Y w') := fun Y => zj3 x ao ac up ko kn kc Y
 have FY : Hid (∀ Y, Calls Tryz.prog 207 #[.agg (nW y ao' ac' up' ko' kn' kc')] Y fun e w' => e = .returned (.agg (zhf y)) /\ Kept (fun k => k < Y.heap.size) Y w') := fun Y => zj3 y ao' ac' up' ko' kn' kc' Y
 have B1 : Hid (∀ Y, Kept (fun k => k < Z.heap.size) Z Y -> Y.heap[N1]? = some (.cells (nW x ao ac up ko kn kc) 58 (0, 0))) := fun Y hY => HB1.out Y (kt hkZ hY)
 have B2 : Hid (∀ Y, Kept (fun k => k < Z.heap.size) Z Y -> Y.heap[N2]? = some (.cells (nW y ao' ac' up' ko' kn' kc') 58 (0, 0))) := fun Y hY => (hY.block N2 (zad hb2)).trans hb2
 have BP : Hid (∀ Y, Kept (fun k => k < Z.heap.size) Z Y -> Y.heap[N]? = some (.cells #[.pointer (some ⟨p, 0, none⟩), .pointer (some ⟨p', 0, none⟩)] 156 (0, 0))) := fun Y hY => HB.out Y (HKV.out.trans ((kt hkZ hY).mono fun k h => ltl h HKV.out.size))
 have C13 : Hid (∀ Y, Kept (fun k => k < Z.heap.size) Z Y -> Y.cell? ⟨N1, 3, none⟩ = some (.slice ao an ac)) := fun Y hY => by rw [zaa (B1.out Y hY), <- han]; rfl
 have C23 : Hid (∀ Y, Kept (fun k => k < Z.heap.size) Z Y -> Y.cell? ⟨N2, 3, none⟩ = some (.slice ao' an' ac')) := fun Y hY => by rw [zaa (B2.out Y hY), <- han']; rfl
 have C16 : Hid (∀ Y, Kept (fun k => k < Z.heap.size) Z Y -> Y.cell? ⟨N1, 6, none⟩ = some (.int .i64 sh)) := fun Y hY => by rw [zaa (B1.out Y hY), <- HSS.out.1]; rfl
 have C26 : Hid (∀ Y, Kept (fun k => k < Z.heap.size) Z Y -> Y.cell? ⟨N2, 6, none⟩ = some (.int .i64 sh')) := fun Y hY => by rw [zaa (B2.out Y hY), <- HSS.out.2.1]; rfl
 have C18 : Hid (∀ Y, Kept (fun k => k < Z.heap.size) Z Y -> Y.cell? ⟨N1, 8, none⟩ = some (.int .i64 ct)) := fun Y hY => by rw [zaa (B1.out Y hY), <- HSS.out.2.2.1]; rfl
 have C28 : Hid (∀ Y, Kept (fun k => k < Z.heap.size) Z Y -> Y.cell? ⟨N2, 8, none⟩ = some (.int .i64 ct')) := fun Y hY => by rw [zaa (B2.out Y hY), <- HSS.out.2.2.2]; rfl
 have HZ : Hid (w2.alloc (.cells (nW y ao' ac' up' ko' kn' kc') 58) = Z) := hZ
 have HN2 : Hid (w2.heap.size = N2) := hN2
 have H0Z : Hid (Kept (fun k => k < w0.heap.size) w0 Z) := h0Z
 have HKZ : Hid (Kept (fun k => k < X.heap.size) X Z) := kt HKV.out hkZ
 clear r2 hA2 hQ2 hK2 hZ hN2 hb2 hk2 hz2 hkZ h0Z hI2 hI1 hT1 hT2 han han' p1
 go_upto_region 3 with fail
 rw [HZ.out, HN2.out]
 clear HZ HN2
 refine wp_region_held_drew (S := fun Y => Kept (fun k => k < Z.heap.size) Z Y) (by kernel_rfl) ((Kept.refl _ Z).drew) (fun hHeld => ?_)
 refine tkH 0 24 (.agg (nW x ao ac up ko kn kc)) rfl rfl (by kernel_rfl) (by rfl) (fun Y hY => by exact zgq rfl rfl (B1.out Y hY) rfl) (fun _ _ _ h => h) hHeld ?_
 try simp only [Act.put, sA, s0, s1]
 refine tkH 2 26 (.agg (nW y ao' ac' up' ko' kn' kc')) rfl rfl (by kernel_rfl) (by rfl) (fun Y hY => by exact zgq rfl rfl (B2.out Y hY) rfl) (fun _ _ _ h => h) hHeld ?_
 try simp only [Act.put, sA, s0, s1]
 refine clH 1 25 207 #[.agg (nW x ao ac up ko kn kc)] rfl rfl (by kernel_rfl) (by rfl) rfl (by first | rfl | (simp [Act.eval]; done) | (simp [Act.eval, Act.put]; done)) (zhv _ _) (FX.out _) ?_
 rintro e Y1 ⟨rfl, hk1⟩
 refine ⟨_, rfl, kt hHeld hk1, fun hHeld2 => ?_⟩
 replace hHeld := hHeld2
 clear hHeld2
 try simp only [Act.put, sA, s0, s1]
 refine clH 3 27 207 #[.agg (nW y ao' ac' up' ko' kn' kc')] rfl rfl (by kernel_rfl) (by rfl) rfl (by first | rfl | (simp [Act.eval]; done) | (simp [Act.eval, Act.put]; done)) (zhv _ _) (FY.out _) ?_
 rintro e Y3 ⟨rfl, hk3⟩
 refine ⟨_, rfl, kt hHeld hk3, fun hHeld2 => ?_⟩
 replace hHeld := hHeld2
 clear hHeld2
 try simp only [Act.put, sA, s0, s1]
 cases fb with
 | false =>
  have HFP : Hid ((x.kind : Int) = (y.kind : Int) -> x.name = y.name -> ¬x.data = y.data) := by
   have e := HF0.out
   unfold zfq at e
   exact (show Hid _ from fun h1 h2 h3 => by rw [h1, h2, h3] at e; simp at e)
  refine tkH 4 28 (.bool false) rfl rfl (by kernel_rfl) (by rfl) (fun Y hY => by have hg := zup; go_simp; exact HFP.out) (fun _ _ _ h => h) hHeld ?_
  try simp only [Act.put, sA, s0, s1]
  refine tkH 5 29 (.bool false) rfl rfl (by kernel_rfl) (by rfl) (fun Y hY => by go_simp; try with_reducible rfl) (fun _ _ _ h => h) hHeld ?_
  try simp only [Act.put, sA, s0, s1]
  refine tkU 6 30 rfl rfl (by kernel_rfl) (by rfl) (fun _ _ _ h => h) hHeld ?_
  refine tkU 7 31 rfl rfl (by kernel_rfl) (by rfl) (fun _ _ _ h => h) hHeld ?_
  refine tkU 8 32 rfl rfl (by kernel_rfl) (by rfl) (fun _ _ _ h => h) hHeld ?_
  refine tkU 9 33 rfl rfl (by kernel_rfl) (by rfl) (fun _ _ _ h => h) hHeld ?_
  refine tkU 10 34 rfl rfl (by kernel_rfl) (by rfl) (fun _ _ _ h => h) hHeld ?_
  try simp only [Act.put, sA, s0, s1]
  refine tkH 11 35 (.bool false) rfl rfl (by kernel_rfl) (by rfl) (fun Y hY => by go_simp; try with_reducible rfl) (fun _ _ _ h => h) hHeld ?_
  try simp only [Act.put, sA, s0, s1]
  refine tkH 12 36 (.bool false) rfl rfl (by kernel_rfl) (by rfl) (fun Y hY => by go_simp; try with_reducible rfl) (fun _ _ _ h => h) hHeld ?_
  try simp only [Act.put, sA, s0, s1]
  refine tkU 13 37 rfl rfl (by kernel_rfl) (by rfl) (fun _ _ _ h => h) hHeld ?_
  refine tkU 14 38 rfl rfl (by kernel_rfl) (by rfl) (fun _ _ _ h => h) hHeld ?_
  refine tkU 15 39 rfl rfl (by kernel_rfl) (by rfl) (fun _ _ _ h => h) hHeld ?_
  refine tkU 16 40 rfl rfl (by kernel_rfl) (by rfl) (fun _ _ _ h => h) hHeld ?_
  refine tkU 17 41 rfl rfl (by kernel_rfl) (by rfl) (fun _ _ _ h => h) hHeld ?_
  refine tkU 18 42 rfl rfl (by kernel_rfl) (by rfl) (fun _ _ _ h => h) hHeld ?_
  try simp only [Act.put, sA, s0, s1]
  refine tkH 19 43 (.bool false) rfl rfl (by kernel_rfl) (by rfl) (fun Y hY => by go_simp; try with_reducible rfl) (fun _ _ _ h => h) hHeld ?_
  try simp only [Act.put, sA, s0, s1]
  refine tkH 20 44 (.bool false) rfl rfl (by kernel_rfl) (by rfl) (fun Y hY => by go_simp; try with_reducible rfl) (fun _ _ _ h => h) hHeld ?_
  try simp only [Act.put, sA, s0, s1]
  refine tkU 21 45 rfl rfl (by kernel_rfl) (by rfl) (fun _ _ _ h => h) hHeld ?_
  refine tkU 22 46 rfl rfl (by kernel_rfl) (by rfl) (fun _ _ _ h => h) hHeld ?_
  refine tkU 23 47 rfl rfl (by kernel_rfl) (by rfl) (fun _ _ _ h => h) hHeld ?_
  refine tkU 24 48 rfl rfl (by kernel_rfl) (by rfl) (fun _ _ _ h => h) hHeld ?_
  refine tkU 25 49 rfl rfl (by kernel_rfl) (by rfl) (fun _ _ _ h => h) hHeld ?_
  refine tkU 26 50 rfl rfl (by kernel_rfl) (by rfl) (fun _ _ _ h => h) hHeld ?_
  try simp only [Act.put, sA, s0, s1]
  refine tkH 27 51 (.bool false) rfl rfl (by kernel_rfl) (by rfl) (fun Y hY => by go_simp; try with_reducible rfl) (fun _ _ _ h => h) hHeld ?_
  try simp only [Act.put, sA, s0, s1]
  refine tkH 28 52 (.bool false) rfl rfl (by kernel_rfl) (by rfl) (fun Y hY => by go_simp; try with_reducible rfl) (fun _ _ _ h => h) hHeld ?_
  try simp only [Act.put, sA, s0, s1]
  refine tkU 29 53 rfl rfl (by kernel_rfl) (by rfl) (fun _ _ _ h => h) hHeld ?_
  refine tkU 30 54 rfl rfl (by kernel_rfl) (by rfl) (fun _ _ _ h => h) hHeld ?_
  refine tkU 31 55 rfl rfl (by kernel_rfl) (by rfl) (fun _ _ _ h => h) hHeld ?_
  refine tkU 32 56 rfl rfl (by kernel_rfl) (by rfl) (fun _ _ _ h => h) hHeld ?_
  try simp only [Act.put, sA, s0, s1]
  refine tkH 33 57 (.bool false) rfl rfl (by kernel_rfl) (by rfl) (fun Y hY => by go_simp; try with_reducible rfl) (fun _ _ _ h => h) hHeld ?_
  try simp only [Act.put, sA, s0, s1]
  refine tkH 34 5 (.bool false) rfl rfl (by kernel_rfl) (by rfl) (fun Y hY => by go_simp; try with_reducible rfl) (fun _ _ _ h => h) hHeld ?_
  try simp only [Act.put, sA, s0, s1]
  refine wpAnyH_done (by kernel_rfl) ?_ _
  go_wp2
  go_ret
  exact ⟨rfl, kt HKZ.out hHeld⟩
 | true =>
 have HFP : Hid ((x.kind : Int) = (y.kind : Int) /\ x.name = y.name /\ x.data = y.data) := by
  have e := HF0.out
  unfold zfq at e
  simp only [Bool.and_eq_true, beq_iff_eq] at e
  exact e
 refine tkH 4 28 (.bool true) rfl rfl (by kernel_rfl) (by rfl) (fun Y hY => by have hg := zup; go_simp; rw [if_pos HFP.out.1, if_pos HFP.out.2.1, if_pos HFP.out.2.2]) (fun _ _ _ h => h) hHeld ?_
 try simp only [Act.put, sA, s0, s1]
 refine tkH 5 29 (.bool true) rfl rfl (by kernel_rfl) (by rfl) (fun Y hY => by go_simp; try with_reducible rfl) (fun _ _ _ h => h) hHeld ?_
 try simp only [Act.put, sA, s0, s1]
 refine tkH 6 30 (.pointer (some ⟨N1, 3, none⟩)) rfl rfl (by kernel_rfl) (by rfl) (fun Y hY => by go_simp; try with_reducible rfl) (fun _ _ _ h => h) hHeld ?_
 try simp only [Act.put, sA, s0, s1]
 refine tkH 7 31 (.slice ao an ac) rfl rfl (by kernel_rfl) (by rfl) (fun Y hY => by have hc := C13.out Y hY; go_simp; try with_reducible rfl) (fun _ _ _ h => h) hHeld ?_
 try simp only [Act.put, sA, s0, s1]
 refine tkH 8 32 (.pointer (some ⟨N2, 3, none⟩)) rfl rfl (by kernel_rfl) (by rfl) (fun Y hY => by go_simp; try with_reducible rfl) (fun _ _ _ h => h) hHeld ?_
 try simp only [Act.put, sA, s0, s1]
 refine tkH 9 33 (.slice ao' an' ac') rfl rfl (by kernel_rfl) (by rfl) (fun Y hY => by have hc := C23.out Y hY; go_simp; try with_reducible rfl) (fun _ _ _ h => h) hHeld ?_
 try simp only [Act.put, sA, s0, s1]
 refine clH 10 34 208 #[.slice ao an ac, .slice ao' an' ac'] rfl rfl (by kernel_rfl) (by rfl) rfl (by first | rfl | (simp [Act.eval]; done) | (simp [Act.eval, Act.put]; done)) (zpv _ _) (EQA.out _ hHeld) ?_
 rintro e Y10 ⟨rfl, hk10⟩
 refine ⟨_, rfl, kt hHeld hk10, fun hHeld2 => ?_⟩
 replace hHeld := hHeld2
 clear hHeld2
 try simp only [Act.put, sA, s0, s1]
 cases qa with
 | false =>
  refine tkH 11 35 (.bool false) rfl rfl (by kernel_rfl) (by rfl) (fun Y hY => by go_simp; try with_reducible rfl) (fun _ _ _ h => h) hHeld ?_
  try simp only [Act.put, sA, s0, s1]
  refine tkH 12 36 (.bool false) rfl rfl (by kernel_rfl) (by rfl) (fun Y hY => by go_simp; try with_reducible rfl) (fun _ _ _ h => h) hHeld ?_
  try simp only [Act.put, sA, s0, s1]
  refine tkU 13 37 rfl rfl (by kernel_rfl) (by rfl) (fun _ _ _ h => h) hHeld ?_
  refine tkU 14 38 rfl rfl (by kernel_rfl) (by rfl) (fun _ _ _ h => h) hHeld ?_
  refine tkU 15 39 rfl rfl (by kernel_rfl) (by rfl) (fun _ _ _ h => h) hHeld ?_
  refine tkU 16 40 rfl rfl (by kernel_rfl) (by rfl) (fun _ _ _ h => h) hHeld ?_
  refine tkU 17 41 rfl rfl (by kernel_rfl) (by rfl) (fun _ _ _ h => h) hHeld ?_
  refine tkU 18 42 rfl rfl (by kernel_rfl) (by rfl) (fun _ _ _ h => h) hHeld ?_
  try simp only [Act.put, sA, s0, s1]
  refine tkH 19 43 (.bool false) rfl rfl (by kernel_rfl) (by rfl) (fun Y hY => by go_simp; try with_reducible rfl) (fun _ _ _ h => h) hHeld ?_
  try simp only [Act.put, sA, s0, s1]
  refine tkH 20 44 (.bool false) rfl rfl (by kernel_rfl) (by rfl) (fun Y hY => by go_simp; try with_reducible rfl) (fun _ _ _ h => h) hHeld ?_
  try simp only [Act.put, sA, s0, s1]
  refine tkU 21 45 rfl rfl (by kernel_rfl) (by rfl) (fun _ _ _ h => h) hHeld ?_
  refine tkU 22 46 rfl rfl (by kernel_rfl) (by rfl) (fun _ _ _ h => h) hHeld ?_
  refine tkU 23 47 rfl rfl (by kernel_rfl) (by rfl) (fun _ _ _ h => h) hHeld ?_
  refine tkU 24 48 rfl rfl (by kernel_rfl) (by rfl) (fun _ _ _ h => h) hHeld ?_
  refine tkU 25 49 rfl rfl (by kernel_rfl) (by rfl) (fun _ _ _ h => h) hHeld ?_
  refine tkU 26 50 rfl rfl (by kernel_rfl) (by rfl) (fun _ _ _ h => h) hHeld ?_
  try simp only [Act.put, sA, s0, s1]
  refine tkH 27 51 (.bool false) rfl rfl (by kernel_rfl) (by rfl) (fun Y hY => by go_simp; try with_reducible rfl) (fun _ _ _ h => h) hHeld ?_
  try simp only [Act.put, sA, s0, s1]
  refine tkH 28 52 (.bool false) rfl rfl (by kernel_rfl) (by rfl) (fun Y hY => by go_simp; try with_reducible rfl) (fun _ _ _ h => h) hHeld ?_
  try simp only [Act.put, sA, s0, s1]
  refine tkU 29 53 rfl rfl (by kernel_rfl) (by rfl) (fun _ _ _ h => h) hHeld ?_
  refine tkU 30 54 rfl rfl (by kernel_rfl) (by rfl) (fun _ _ _ h => h) hHeld ?_
  refine tkU 31 55 rfl rfl (by kernel_rfl) (by rfl) (fun _ _ _ h => h) hHeld ?_
  refine tkU 32 56 rfl rfl (by kernel_rfl) (by rfl) (fun _ _ _ h => h) hHeld ?_
  try simp only [Act.put, sA, s0, s1]
  refine tkH 33 57 (.bool false) rfl rfl (by kernel_rfl) (by rfl) (fun Y hY => by go_simp; try with_reducible rfl) (fun _ _ _ h => h) hHeld ?_
  try simp only [Act.put, sA, s0, s1]
  refine tkH 34 5 (.bool false) rfl rfl (by kernel_rfl) (by rfl) (fun Y hY => by go_simp; try with_reducible rfl) (fun _ _ _ h => h) hHeld ?_
  try simp only [Act.put, sA, s0, s1]
  refine wpAnyH_done (by kernel_rfl) ?_ _
  go_wp2
  go_ret
  exact ⟨rfl, kt HKZ.out hHeld⟩
 | true =>
 refine tkH 11 35 (.bool true) rfl rfl (by kernel_rfl) (by rfl) (fun Y hY => by go_simp; try with_reducible rfl) (fun _ _ _ h => h) hHeld ?_
 try simp only [Act.put, sA, s0, s1]
 refine tkH 12 36 (.bool true) rfl rfl (by kernel_rfl) (by rfl) (fun Y hY => by go_simp; try with_reducible rfl) (fun _ _ _ h => h) hHeld ?_
 try simp only [Act.put, sA, s0, s1]
 refine tkH 13 37 (prV p p') rfl rfl (by kernel_rfl) (by rfl) (fun Y hY => by exact zi6 rfl rfl (BP.out Y hY) rfl) (fun _ _ _ h => h) hHeld ?_
 try simp only [Act.put, sA, s0, s1]
 refine tkH 14 38 (.pointer (some ⟨N1, 6, none⟩)) rfl rfl (by kernel_rfl) (by rfl) (fun Y hY => by go_simp; try with_reducible rfl) (fun _ _ _ h => h) hHeld ?_
 try simp only [Act.put, sA, s0, s1]
 refine tkH 15 39 (.int .i64 sh) rfl rfl (by kernel_rfl) (by rfl) (fun Y hY => by have hc := C16.out Y hY; go_simp; try with_reducible rfl) (fun _ _ _ h => h) hHeld ?_
 try simp only [Act.put, sA, s0, s1]
 refine tkH 16 40 (.pointer (some ⟨N2, 6, none⟩)) rfl rfl (by kernel_rfl) (by rfl) (fun Y hY => by go_simp; try with_reducible rfl) (fun _ _ _ h => h) hHeld ?_
 try simp only [Act.put, sA, s0, s1]
 refine tkH 17 41 (.int .i64 sh') rfl rfl (by kernel_rfl) (by rfl) (fun Y hY => by have hc := C26.out Y hY; go_simp; try with_reducible rfl) (fun _ _ _ h => h) hHeld ?_
 try simp only [Act.put, sA, s0, s1]
 refine clH 18 42 209 #[prV p p', .int .i64 sh, .int .i64 sh'] rfl rfl (by kernel_rfl) (by rfl) rfl (by first | rfl | (simp [Act.eval]; done) | (simp [Act.eval, Act.put]; done)) (zkx _ _) (BS.out _ (kt H0Z.out hHeld)) ?_
 rintro e Y18 ⟨rfl, hk18⟩
 refine ⟨_, rfl, kt hHeld hk18, fun hHeld2 => ?_⟩
 replace hHeld := hHeld2
 clear hHeld2
 try simp only [Act.put, sA, s0, s1]
 cases bs with
 | false =>
  refine tkH 19 43 (.bool false) rfl rfl (by kernel_rfl) (by rfl) (fun Y hY => by go_simp; try with_reducible rfl) (fun _ _ _ h => h) hHeld ?_
  try simp only [Act.put, sA, s0, s1]
  refine tkH 20 44 (.bool false) rfl rfl (by kernel_rfl) (by rfl) (fun Y hY => by go_simp; try with_reducible rfl) (fun _ _ _ h => h) hHeld ?_
  try simp only [Act.put, sA, s0, s1]
  refine tkU 21 45 rfl rfl (by kernel_rfl) (by rfl) (fun _ _ _ h => h) hHeld ?_
  refine tkU 22 46 rfl rfl (by kernel_rfl) (by rfl) (fun _ _ _ h => h) hHeld ?_
  refine tkU 23 47 rfl rfl (by kernel_rfl) (by rfl) (fun _ _ _ h => h) hHeld ?_
  refine tkU 24 48 rfl rfl (by kernel_rfl) (by rfl) (fun _ _ _ h => h) hHeld ?_
  refine tkU 25 49 rfl rfl (by kernel_rfl) (by rfl) (fun _ _ _ h => h) hHeld ?_
  refine tkU 26 50 rfl rfl (by kernel_rfl) (by rfl) (fun _ _ _ h => h) hHeld ?_
  try simp only [Act.put, sA, s0, s1]
  refine tkH 27 51 (.bool false) rfl rfl (by kernel_rfl) (by rfl) (fun Y hY => by go_simp; try with_reducible rfl) (fun _ _ _ h => h) hHeld ?_
  try simp only [Act.put, sA, s0, s1]
  refine tkH 28 52 (.bool false) rfl rfl (by kernel_rfl) (by rfl) (fun Y hY => by go_simp; try with_reducible rfl) (fun _ _ _ h => h) hHeld ?_
  try simp only [Act.put, sA, s0, s1]
  refine tkU 29 53 rfl rfl (by kernel_rfl) (by rfl) (fun _ _ _ h => h) hHeld ?_
  refine tkU 30 54 rfl rfl (by kernel_rfl) (by rfl) (fun _ _ _ h => h) hHeld ?_
  refine tkU 31 55 rfl rfl (by kernel_rfl) (by rfl) (fun _ _ _ h => h) hHeld ?_
  refine tkU 32 56 rfl rfl (by kernel_rfl) (by rfl) (fun _ _ _ h => h) hHeld ?_
  try simp only [Act.put, sA, s0, s1]
  refine tkH 33 57 (.bool false) rfl rfl (by kernel_rfl) (by rfl) (fun Y hY => by go_simp; try with_reducible rfl) (fun _ _ _ h => h) hHeld ?_
  try simp only [Act.put, sA, s0, s1]
  refine tkH 34 5 (.bool false) rfl rfl (by kernel_rfl) (by rfl) (fun Y hY => by go_simp; try with_reducible rfl) (fun _ _ _ h => h) hHeld ?_
  try simp only [Act.put, sA, s0, s1]
  refine wpAnyH_done (by kernel_rfl) ?_ _
  go_wp2
  go_ret
  exact ⟨rfl, kt HKZ.out hHeld⟩
 | true =>
 refine tkH 19 43 (.bool true) rfl rfl (by kernel_rfl) (by rfl) (fun Y hY => by go_simp; try with_reducible rfl) (fun _ _ _ h => h) hHeld ?_
 try simp only [Act.put, sA, s0, s1]
 refine tkH 20 44 (.bool true) rfl rfl (by kernel_rfl) (by rfl) (fun Y hY => by go_simp; try with_reducible rfl) (fun _ _ _ h => h) hHeld ?_
 try simp only [Act.put, sA, s0, s1]
 refine tkH 21 45 (prV p p') rfl rfl (by kernel_rfl) (by rfl) (fun Y hY => by exact zi6 rfl rfl (BP.out Y hY) rfl) (fun _ _ _ h => h) hHeld ?_
 try simp only [Act.put, sA, s0, s1]
 refine tkH 22 46 (.pointer (some ⟨N1, 8, none⟩)) rfl rfl (by kernel_rfl) (by rfl) (fun Y hY => by go_simp; try with_reducible rfl) (fun _ _ _ h => h) hHeld ?_
 try simp only [Act.put, sA, s0, s1]
 refine tkH 23 47 (.int .i64 ct) rfl rfl (by kernel_rfl) (by rfl) (fun Y hY => by have hc := C18.out Y hY; go_simp; try with_reducible rfl) (fun _ _ _ h => h) hHeld ?_
 try simp only [Act.put, sA, s0, s1]
 refine tkH 24 48 (.pointer (some ⟨N2, 8, none⟩)) rfl rfl (by kernel_rfl) (by rfl) (fun Y hY => by go_simp; try with_reducible rfl) (fun _ _ _ h => h) hHeld ?_
 try simp only [Act.put, sA, s0, s1]
 refine tkH 25 49 (.int .i64 ct') rfl rfl (by kernel_rfl) (by rfl) (fun Y hY => by have hc := C28.out Y hY; go_simp; try with_reducible rfl) (fun _ _ _ h => h) hHeld ?_
 try simp only [Act.put, sA, s0, s1]
 refine clH 26 50 209 #[prV p p', .int .i64 ct, .int .i64 ct'] rfl rfl (by kernel_rfl) (by rfl) rfl (by first | rfl | (simp [Act.eval]; done) | (simp [Act.eval, Act.put]; done)) (zkx _ _) (BC.out _ (kt H0Z.out hHeld)) ?_
 rintro e Y26 ⟨rfl, hk26⟩
 refine ⟨_, rfl, kt hHeld hk26, fun hHeld2 => ?_⟩
 replace hHeld := hHeld2
 clear hHeld2
 try simp only [Act.put, sA, s0, s1]
 cases bc with
 | false =>
  refine tkH 27 51 (.bool false) rfl rfl (by kernel_rfl) (by rfl) (fun Y hY => by go_simp; try with_reducible rfl) (fun _ _ _ h => h) hHeld ?_
  try simp only [Act.put, sA, s0, s1]
  refine tkH 28 52 (.bool false) rfl rfl (by kernel_rfl) (by rfl) (fun Y hY => by go_simp; try with_reducible rfl) (fun _ _ _ h => h) hHeld ?_
  try simp only [Act.put, sA, s0, s1]
  refine tkU 29 53 rfl rfl (by kernel_rfl) (by rfl) (fun _ _ _ h => h) hHeld ?_
  refine tkU 30 54 rfl rfl (by kernel_rfl) (by rfl) (fun _ _ _ h => h) hHeld ?_
  refine tkU 31 55 rfl rfl (by kernel_rfl) (by rfl) (fun _ _ _ h => h) hHeld ?_
  refine tkU 32 56 rfl rfl (by kernel_rfl) (by rfl) (fun _ _ _ h => h) hHeld ?_
  try simp only [Act.put, sA, s0, s1]
  refine tkH 33 57 (.bool false) rfl rfl (by kernel_rfl) (by rfl) (fun Y hY => by go_simp; try with_reducible rfl) (fun _ _ _ h => h) hHeld ?_
  try simp only [Act.put, sA, s0, s1]
  refine tkH 34 5 (.bool false) rfl rfl (by kernel_rfl) (by rfl) (fun Y hY => by go_simp; try with_reducible rfl) (fun _ _ _ h => h) hHeld ?_
  try simp only [Act.put, sA, s0, s1]
  refine wpAnyH_done (by kernel_rfl) ?_ _
  go_wp2
  go_ret
  exact ⟨rfl, kt HKZ.out hHeld⟩
 | true =>
 refine tkH 27 51 (.bool true) rfl rfl (by kernel_rfl) (by rfl) (fun Y hY => by go_simp; try with_reducible rfl) (fun _ _ _ h => h) hHeld ?_
 try simp only [Act.put, sA, s0, s1]
 refine tkH 28 52 (.bool true) rfl rfl (by kernel_rfl) (by rfl) (fun Y hY => by go_simp; try with_reducible rfl) (fun _ _ _ h => h) hHeld ?_
 try simp only [Act.put, sA, s0, s1]
 refine tkH 29 53 (prV p p') rfl rfl (by kernel_rfl) (by rfl) (fun Y hY => by exact zi6 rfl rfl (BP.out Y hY) rfl) (fun _ _ _ h => h) hHeld ?_
 try simp only [Act.put, sA, s0, s1]
 refine tkH 30 54 (.agg (nW x ao ac up ko kn kc)) rfl rfl (by kernel_rfl) (by rfl) (fun Y hY => by exact zgq rfl rfl (B1.out Y hY) rfl) (fun _ _ _ h => h) hHeld ?_
 try simp only [Act.put, sA, s0, s1]
 refine tkH 31 55 (.agg (nW y ao' ac' up' ko' kn' kc')) rfl rfl (by kernel_rfl) (by rfl) (fun Y hY => by exact zgq rfl rfl (B2.out Y hY) rfl) (fun _ _ _ h => h) hHeld ?_
 try simp only [Act.put, sA, s0, s1]
 refine clH 32 56 134 #[prV p p', .agg (nW x ao ac up ko kn kc), .agg (nW y ao' ac' up' ko' kn' kc')] rfl rfl (by kernel_rfl) (by rfl) rfl (by first | rfl | (simp [Act.eval]; done) | (simp [Act.eval, Act.put]; done)) (zqc _ _) (RA.out _ hHeld) ?_
 rintro e Y32 ⟨rfl, hk32⟩
 refine ⟨_, rfl, kt hHeld hk32, fun hHeld2 => ?_⟩
 replace hHeld := hHeld2
 clear hHeld2
 try simp only [Act.put, sA, s0, s1]
 cases al with
 | false =>
  refine tkH 33 57 (.bool false) rfl rfl (by kernel_rfl) (by rfl) (fun Y hY => by go_simp; try with_reducible rfl) (fun _ _ _ h => h) hHeld ?_
  try simp only [Act.put, sA, s0, s1]
  refine tkH 34 5 (.bool false) rfl rfl (by kernel_rfl) (by rfl) (fun Y hY => by go_simp; try with_reducible rfl) (fun _ _ _ h => h) hHeld ?_
  try simp only [Act.put, sA, s0, s1]
  refine wpAnyH_done (by kernel_rfl) ?_ _
  go_wp2
  go_ret
  exact ⟨rfl, kt HKZ.out hHeld⟩
 | true =>
 refine tkH 33 57 (.bool true) rfl rfl (by kernel_rfl) (by rfl) (fun Y hY => by go_simp; try with_reducible rfl) (fun _ _ _ h => h) hHeld ?_
 try simp only [Act.put, sA, s0, s1]
 refine tkH 34 5 (.bool true) rfl rfl (by kernel_rfl) (by rfl) (fun Y hY => by go_simp; try with_reducible rfl) (fun _ _ _ h => h) hHeld ?_
 try simp only [Act.put, sA, s0, s1]
 refine wpAnyH_done (by kernel_rfl) ?_ _
 go_wp2
 go_ret
 exact ⟨rfl, kt HKZ.out hHeld⟩
end
end Go.Proofs.YtfeinppedejlpaaGreat
