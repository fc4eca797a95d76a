/-
 Does of a call that is put in, taken out.; The statements' own grown: both documents behind calls.; What is told of a node, laid into a variable; how often a node stands in rows; ways upwards (pure).
-/
import Derived.Test.YtfeinppedejlpaaGreatNW27
import Derived.Test.YtfeinppedejlpaaGreatNB06
import Derived.Test.YtfeinppedejlpaaGreatNB15
import Derived.Test.YtfeinppedejlpaaGreatNW17
import Derived.BigQuiet
namespace Go.Proofs.YtfeinppedejlpaaGreat
set_option linter.unusedVariables false
set_option maxRecDepth 100000
set_option maxHeartbeats 8000000
section
open Go.RowKit Go.Sort
structure Zsc (k : Nat) (M M' : Dm) : Prop extends Grows M M' where
 nor : k % 16 ≠ 9 -> ∀ i, M.n <= i -> i < M'.n -> (M'.nd i).kind ≠ 5
def Zfp (k : Nat) (K : Nat -> Prop) (p r : Nat) (M : Dm) (w : World) (e : Ending) (w' : World) : Prop :=
 e = .returned (.int .i64 1) /\ ∃ E' M' R' G' rk', Two K E' w' p r M' R' G' /\ Inv M' R' G' rk' /\ Zsc k M M' /\ Kept K w w'
structure Zpm (K E : Nat -> Prop) (p r : Nat) (M : Dm) (R G : Nat -> List Nat) (rk : Nat -> Nat) (w : World) (o : Opx) (A : OpA) : Prop where
 two : Two K E w p r M R G
 inv : Inv M R G rk
 le : M.n <= M.limit
 lim : M.limit <= 100000
 ok : Zmt o
 hvy : opH o <= 900000
 at0 : Zp2 K w A o
 inn : o.inn = true
theorem enter70 (args : Array Value) (X : World) : (callFunc 70 args).run Tryz.prog X = .ok (.enter 70 args) X := za0 Tryz.func70 (by kernel_rfl) (c := _) rfl args X
theorem enter94 (args : Array Value) (X : World) : (callFunc 94 args).run Tryz.prog X = .ok (.enter 94 args) X := za0 Tryz.func94 (by kernel_rfl) (c := _) rfl args X
theorem enter95 (args : Array Value) (X : World) : (callFunc 95 args).run Tryz.prog X = .ok (.enter 95 args) X := za0 Tryz.func95 (by kernel_rfl) (c := _) rfl args X
theorem enter96 (args : Array Value) (X : World) : (callFunc 96 args).run Tryz.prog X = .ok (.enter 96 args) X := za0 Tryz.func96 (by kernel_rfl) (c := _) rfl args X
theorem enter62 (args : Array Value) (X : World) : (callFunc 62 args).run Tryz.prog X = .ok (.enter 62 args) X := za0 Tryz.func62 (by kernel_rfl) (c := _) rfl args X
theorem enter98 (args : Array Value) (X : World) : (callFunc 98 args).run Tryz.prog X = .ok (.enter 98 args) X := za0 Tryz.func98 (by kernel_rfl) (c := _) rfl args X
theorem enter99 (args : Array Value) (X : World) : (callFunc 99 args).run Tryz.prog X = .ok (.enter 99 args) X := za0 Tryz.func99 (by kernel_rfl) (c := _) rfl args X
theorem enter100 (args : Array Value) (X : World) : (callFunc 100 args).run Tryz.prog X = .ok (.enter 100 args) X := za0 Tryz.func100 (by kernel_rfl) (c := _) rfl args X
theorem enter101 (args : Array Value) (X : World) : (callFunc 101 args).run Tryz.prog X = .ok (.enter 101 args) X := za0 Tryz.func101 (by kernel_rfl) (c := _) rfl args X
theorem enter102 (args : Array Value) (X : World) : (callFunc 102 args).run Tryz.prog X = .ok (.enter 102 args) X := za0 Tryz.func102 (by kernel_rfl) (c := _) rfl args X
theorem enter103 (args : Array Value) (X : World) : (callFunc 103 args).run Tryz.prog X = .ok (.enter 103 args) X := za0 Tryz.func103 (by kernel_rfl) (c := _) rfl args X
theorem enter104 (args : Array Value) (X : World) : (callFunc 104 args).run Tryz.prog X = .ok (.enter 104 args) X := za0 Tryz.func104 (by kernel_rfl) (c := _) rfl args X
theorem zdc (z : Int) (X : World) (h0 : 0 <= z) (h1 : z <= 200) : (convert 59 3 (.int .u16 z)).run Tryz.prog X = .ok (.int .i64 z) X := by
 have : IntKind.i64.wrap z = z := by
  simp [IntKind.wrap, IntKind.bits, IntKind.signed]
  omega
 simp [convert, Conv.intToInt, this]
theorem zbe {o : Oper} {a : Act} {X : World} {x : Operand} {z : Int} (ho : o.op = .convert 59 3 x) (hx : a.eval x = .int .u16 z) (h0 : 0 <= z) (h1 : z <= 200) : (execOp a.eval o).run Tryz.prog X = .ok (.value (.int .i64 z)) X := by
 unfold execOp
 simp only [ho, Sem.run_bind, hx, zdc z X h0 h1, Result.andThen_ok, Sem.run_pure]
theorem zkm (o : Opx) : o.nName.size <= o.nn.size + 10 := by
 unfold Opx.nName
 split
 ·omega
 ·split
  ·exact Nat.zero_le _
  ·obtain ⟨k, hk⟩ : ∃ k, (o.nn.size % 256 + o.nk / 8) % 256 % 10 = k := ⟨_, rfl⟩
   rw [hk]
   have h10 : k < 10 := by omega
   have : (zh0 k).size <= 10 := by
    match k, h10 with
    | 0, _ => decide
    | 1, _ => decide
    | 2, _ => decide
    | 3, _ => decide
    | 4, _ => decide
    | 5, _ => decide
    | 6, _ => decide
    | 7, _ => decide
    | 8, _ => decide
    | 9, _ => decide
   omega
theorem zoi : ∀ k, k < 10 -> (zh0 k).toList ∈ zhp
 | 0, _ => by rw [ByteArray.toList_eq]; decide
 | 1, _ => by rw [ByteArray.toList_eq]; decide
 | 2, _ => by rw [ByteArray.toList_eq]; decide
 | 3, _ => by rw [ByteArray.toList_eq]; decide
 | 4, _ => by rw [ByteArray.toList_eq]; decide
 | 5, _ => by rw [ByteArray.toList_eq]; decide
 | 6, _ => by rw [ByteArray.toList_eq]; decide
 | 7, _ => by rw [ByteArray.toList_eq]; decide
 | 8, _ => by rw [ByteArray.toList_eq]; decide
 | 9, _ => by rw [ByteArray.toList_eq]; decide
 | n + 10, h => absurd h (by omega)
theorem zom {o : Opx} (hi : o.inn = true) (hk : o.nKind = 1) : o.nName.toList ∈ zhp := by
 unfold Opx.nKind at hk
 unfold Opx.nName
 rw [hi] at hk ⊢
 rw [if_neg (by decide)] at hk ⊢
 by_cases c1 : o.nk % 8 = 1 \/ o.nk % 8 = 2
 ·rw [if_pos c1] at hk; cases hk
 ·rw [if_neg c1] at hk
  by_cases c3 : o.nk % 8 = 3
  ·rw [if_pos c3] at hk; cases hk
  ·rw [if_neg (by omega)]
   exact zoi _ (Nat.mod_lt _ (by decide))
theorem zn2 (K E : Nat -> Prop) (p r : Nat) (M : Dm) (R G : Nat -> List Nat) (rk : Nat -> Nat) (w : World) (o : Opx) (A : OpA) (h : Zpm K E p r M R G rk w o A) (N : Nat) (hN : w.heap.size = N) (cs : Array Value) (W : World) (kW : Kept (fun k => k < w.heap.size) w W) (hb : W.heap[N]? = some (.cells cs 50 (0, 0))) (hNW : N < W.heap.size) :
  (∀ A' w3, A'.aa = A.aa -> A'.ac = A.ac -> (o.within M.n).l.length <= A'.lc -> (A'.la = A.la /\ (o.within M.n).l = o.l \/ Zbo (fun k => W.heap.size <= k /\ k < w3.heap.size) w3 A'.la (o.within M.n).l) -> Kept (fun k => k < W.heap.size) W w3 -> Zjz K E w p r M R G (o.within M.n) N (fun k => K k \/ (w.heap.size <= k /\ k < w3.heap.size)) A' (w3.setRow N (opC (o.within M.n) A').toArray)) := by
 obtain ⟨h2, hI, hle, hlim, hok, hvy, hat, hinn⟩ := h
 have hlt := h2.lt
 exact fun A' w3 a1 a2 a3 a4 k3 => by
  have kw3 : Kept (fun k => k < w.heap.size) w w3 := kt kW k3
  have hbN : w3.heap[N]? = some (.cells cs 50 (0, 0)) := (k3.block N hNW).trans hb
  have kS : Kept (fun k => k < w.heap.size) w (w3.setRow N (opC (o.within M.n) A').toArray) := zaq kw3 (by omega) _
  have hsS : (w3.setRow N (opC (o.within M.n) A').toArray).heap.size = w3.heap.size := setRow_size _ _ _
  have he := zha o M.n
  refine ⟨setRow_heap _ _ _ _ _ _ hbN, h2.more kS (fun k hl hk => ?_) (fun k hk => ?_), ?_, by rw [he.2.2.2.2.2.1, a2]; exact hat.2.1, ?_, a3, fun k hk => .inl hk, .inr ⟨by omega, zad hbN⟩, kS.mono hlt⟩
  ·rcases hk with hk | hk
   ·exact hk
   ·omega
  ·rw [hsS]
   rcases hk with hk | hk
   ·exact ltl (hlt k hk) kw3.size
   ·exact hk.2
  ·rw [he.2.2.2.2.2.1, a1]
   exact hat.1.kept (kS.mono hlt) (fun g hg => .inl hg)
  ·rcases a4 with ⟨a4, a5⟩ | a4
   ·rw [a4, a5]
    exact hat.2.2.1.kept (kS.mono hlt) (fun g hg => .inl hg)
   ·intro j hj
    obtain ⟨g, o', e, hg, hc⟩ := a4 j hj
    refine ⟨g, o', e, .inr ⟨Nat.le_trans kW.size hg.1, hg.2⟩, ?_⟩
    rw [cell_setRow_other _ _ _ _ (by show g ≠ N; omega)]
    exact hc
theorem znx (K E : Nat -> Prop) (p r : Nat) (M : Dm) (R G : Nat -> List Nat) (rk : Nat -> Nat) (w : World) (o : Opx) (A : OpA) (h : Zpm K E p r M R G rk w o A) :
  Calls Tryz.prog 31 #[.pointer (some ⟨p, 0, none⟩), .pointer (some ⟨r, 0, none⟩), opV o A] w (Zfp o.k K p r M w) := by
 obtain ⟨h2, hI, hle, hlim, hok, hvy, hat, hinn⟩ := h
 obtain ⟨N, hN⟩ : ∃ N, w.heap.size = N := ⟨_, rfl⟩
 have HN : Hid (w.heap.size = N) := hN
 have hnp := hI.core.pos
 have hvl : o.l.length <= 1000000 := by unfold opH at hvy; omega
 obtain ⟨cs, hcs⟩ : ∃ cs, (opC o A).toArray = cs := ⟨_, rfl⟩
 have hsz : cs.size = 17 := by rw [<- hcs]; rfl
 obtain ⟨W, hW⟩ : ∃ W, w.alloc (.cells cs 50) = W := ⟨_, rfl⟩
 have kW : Kept (fun k => k < w.heap.size) w W := by rw [<- hW]; exact (Kept.refl _ w).alloc (fun _ h => h) _
 have hb : W.heap[N]? = some (.cells cs 50 (0, 0)) := by rw [<- hW, <- hN]; exact heap_alloc_new w _
 have hWd : W.drew.heap[N]? = some (.cells cs 50 (0, 0)) := hb
 have hNW := zad hb
 have h2W := h2.kept kW
 have hlt := h2.lt
 have rl := zgl _ r M R G W.drew (h2W.kept ((Kept.refl _ W).drew)).r
 have rw0 := zii o A M.n (by omega) (by omega) hvl W.drew (((hat.2.2.1.kept (kW.mono hlt) (fun g hg => hg)).kept ((Kept.refl _ W).drew) (fun g hg => ltl (hlt g hg) kW.size))) hat.2.2.2
 have RW := zn2 K E p r M R G rk w o A ⟨h2, hI, hle, hlim, hok, hvy, hat, hinn⟩ N hN cs W kW hb hNW
 have HRW : Hid (∀ A' w3, A'.aa = A.aa -> A'.ac = A.ac -> (o.within M.n).l.length <= A'.lc -> (A'.la = A.la /\ (o.within M.n).l = o.l \/ Zbo (fun k => W.heap.size <= k /\ k < w3.heap.size) w3 A'.la (o.within M.n).l) -> Kept (fun k => k < W.heap.size) W w3 -> Zjz K E w p r M R G (o.within M.n) N (fun k => K k \/ (w.heap.size <= k /\ k < w3.heap.size)) A' (w3.setRow N (opC (o.within M.n) A').toArray)) := RW
 have HRL : Hid (Calls Tryz.prog 93 #[.pointer (some ⟨r, 0, none⟩)] W.drew fun e w' => e = .returned (.int .i64 (M.n : Int)) /\ w' = W.drew) := rl
 have HR0 : Hid (Calls Tryz.prog 92 #[.agg cs, .int .i64 (M.n : Int)] W.drew fun e w' => ∃ A' : OpA, e = .returned (opV (o.within M.n) A') /\ A'.aa = A.aa /\ A'.ac = A.ac /\ (o.within M.n).l.length <= A'.lc /\ (A'.la = A.la /\ (o.within M.n).l = o.l \/ Zbo (fun k => W.drew.heap.size <= k /\ k < w'.heap.size) w' A'.la (o.within M.n).l) /\ Kept (fun k => k < W.drew.heap.size) W.drew w') := by rw [<- hcs]; exact rw0
 have HW : Hid (w.alloc (.cells cs 50) = W) := hW
 have HB : Hid (W.heap[N]? = some (.cells cs 50 (0, 0))) := hb
 have HI : Hid (Inv M R G rk) := hI
 have HLE : Hid (M.n <= M.limit) := hle
 have HLIM : Hid (M.limit <= 100000) := hlim
 have HVY : Hid (opH o <= 900000) := hvy
 have HOK : Hid (Zmt o) := hok
 have HWE := zha o M.n
 have hk256 := hok.k
 have hvv : opV o A = .agg cs := by rw [<- hcs]
 obtain ⟨o', ho'⟩ : ∃ o', o.within M.n = o' := ⟨_, rfl⟩
 rw [ho'] at HRW HR0 HWE
 have HWI : Hid (o'.k = o.k /\ o'.inn = o.inn /\ o'.nk = o.nk /\ o'.nn = o.nn /\ o'.nd = o.nd /\ o'.ats = o.ats /\ o'.s = o.s /\ o'.t = o.t /\ o'.f = o.f /\ o'.l.length = o.l.length) := HWE
 rw [hvv]
 have HII : Hid (o.inn = true) := hinn
 clear hW hN kW hb hWd h2W rl rw0 RW hcs h2 hI hle hlim hok hvy hat hlt hvv ho' HWE hinn
 obtain ⟨mn, hmn⟩ : ∃ mn, M.n = mn := ⟨_, rfl⟩
 rw [hmn] at HRL HR0 hnp
 have HMN : Hid (M.n = mn) := hmn
 clear hmn
 go_enter Tryz.func31, Tryz.ntmps31
 go_upto_region 1 with fail
 rw [HW.out, HN.out]
 clear HW
 go_cut [] (fun wx => ∃ K1 A', Zjz K E w p r M R G o' N K1 A' wx)
 case first =>
  have HBD : Hid (W.drew.heap[N]? = some (.cells cs 50 (0, 0))) := HB.out
  refine wp_region_any (by kernel_rfl) ?_
  change wpAny _ _ _ _ _ _ _ (World.drew _)
  refine wpAny_take (i := 1) (v := .pointer (some ⟨r, 0, none⟩)) rfl (by kernel_rfl) (by kernel_rfl) (by kernel_rfl) (fun _ _ _ h => h) (Or.inl ⟨by rfl, by intro w; go_simp; try with_reducible rfl⟩) ?_
  refine wpAny_ready (rs := [0, 2]) (by kernel_rfl) (by simp) ?_
  refine AllReady.cons rfl (fun Kx hKx => ?_) (AllReady.cons rfl (fun Kx hKx => ?_) AllReady.nil)
  ·refine zfv rfl (.tmp 5) rfl N rfl cs HBD.out hsz ?_
   refine hKx _ _ ?_
   clear hKx Kx
   refine wpAny_ready (rs := [2]) (by kernel_rfl) (by simp) ?_
   refine AllReady.cons rfl (fun Kx hKx => ?_) AllReady.nil
   refine zah rfl 93 #[.tmp 17] #[26] rfl #[.pointer (some ⟨r, 0, none⟩)] (by first | rfl | (simp [Act.eval]; done) | (simp [Act.eval, Act.put]; done)) (enter93 _ _) _ HRL.out ?_
   rintro e Y ⟨rfl, hY⟩
   subst hY
   refine ⟨_, rfl, hKx _ _ ?_⟩
   clear hKx Kx
   refine wpAny_ready (rs := [3]) (by kernel_rfl) (by simp) ?_
   refine AllReady.cons rfl (fun Kx hKx => ?_) AllReady.nil
   refine zah rfl 92 #[.tmp 16, .tmp 18] #[50, 3] rfl #[.agg cs, .int .i64 (mn : Int)] (by first | rfl | (simp [Act.eval]; done) | (simp [Act.eval, Act.put]; done)) (enter92 _ _) _ HR0.out ?_
   rintro e w3 ⟨A', rfl, a1, a2, a3, a4, k3⟩
   refine ⟨_, rfl, hKx _ _ ?_⟩
   clear hKx Kx
   have hdone := HRW.out A' w3 a1 a2 a3 a4 (((Kept.refl _ W).drew).trans k3)
   have hb3 : w3.heap[N]? = some (.cells cs 50 (0, 0)) := (k3.block N hNW).trans HB.out
   refine wpAny_ready (rs := [4]) (by kernel_rfl) (by simp) ?_
   refine AllReady.cons rfl (fun Kx hKx => ?_) AllReady.nil
   refine zex rfl (.tmp 5) (.tmp 19) rfl N (opC o' A').toArray rfl rfl cs hb3 rfl hsz (zff _ _) ?_
   refine hKx _ _ ?_
   clear hKx Kx
   refine wpAny_done (by kernel_rfl) ?_ _
   go_wp2_with fail
   go_meet
   case rel => exact ⟨_, A', hdone⟩
  ·refine zah rfl 93 #[.tmp 17] #[26] rfl #[.pointer (some ⟨r, 0, none⟩)] (by first | rfl | (simp [Act.eval]; done) | (simp [Act.eval, Act.put]; done)) (enter93 _ _) _ HRL.out ?_
   rintro e Y ⟨rfl, hY⟩
   subst hY
   refine ⟨_, rfl, hKx _ _ ?_⟩
   clear hKx Kx
   refine wpAny_ready (rs := [0]) (by kernel_rfl) (by simp) ?_
   refine AllReady.cons rfl (fun Kx hKx => ?_) AllReady.nil
   refine zfv rfl (.tmp 5) rfl N rfl cs HBD.out hsz ?_
   refine hKx _ _ ?_
   clear hKx Kx
   refine wpAny_ready (rs := [3]) (by kernel_rfl) (by simp) ?_
   refine AllReady.cons rfl (fun Kx hKx => ?_) AllReady.nil
   refine zah rfl 92 #[.tmp 16, .tmp 18] #[50, 3] rfl #[.agg cs, .int .i64 (mn : Int)] (by first | rfl | (simp [Act.eval]; done) | (simp [Act.eval, Act.put]; done)) (enter92 _ _) _ HR0.out ?_
   rintro e w3 ⟨A', rfl, a1, a2, a3, a4, k3⟩
   refine ⟨_, rfl, hKx _ _ ?_⟩
   clear hKx Kx
   have hdone := HRW.out A' w3 a1 a2 a3 a4 (((Kept.refl _ W).drew).trans k3)
   have hb3 : w3.heap[N]? = some (.cells cs 50 (0, 0)) := (k3.block N hNW).trans HB.out
   refine wpAny_ready (rs := [4]) (by kernel_rfl) (by simp) ?_
   refine AllReady.cons rfl (fun Kx hKx => ?_) AllReady.nil
   refine zex rfl (.tmp 5) (.tmp 19) rfl N (opC o' A').toArray rfl rfl cs hb3 rfl hsz (zff _ _) ?_
   refine hKx _ _ ?_
   clear hKx Kx
   refine wpAny_done (by kernel_rfl) ?_ _
   go_wp2_with fail
   go_meet
   case rel => exact ⟨_, A', hdone⟩
 case rest =>
  obtain ⟨K1, A', hst⟩ := hcut
  have HST : Hid (Zjz K E w p r M R G o' N K1 A' wc) := hst
  have hbl := hst.blk
  clear hst HRW HRL HR0 HB
  obtain ⟨kd, hkd⟩ : ∃ kd, o'.k = kd := ⟨_, rfl⟩
  have hk0 : wc.cell? ⟨N, 0, none⟩ = some (.int .u8 (kd : Int)) := by rw [zaa hbl, <- hkd]; rfl
  obtain ⟨q, hq⟩ : ∃ q, kd % 16 = q := ⟨_, rfl⟩
  have hkm : (kd : Int).tmod 16 = (q : Int) := by rw [<- hq]; rfl
  have hq16 : q < 16 := by omega
  obtain ⟨za, hza⟩ : ∃ z, o'.a = z := ⟨_, rfl⟩
  obtain ⟨zb, hzb0⟩ : ∃ z, o'.b = z := ⟨_, rfl⟩
  obtain ⟨zc, hzc⟩ : ∃ z, o'.c = z := ⟨_, rfl⟩
  obtain ⟨S, hS⟩ : ∃ z, o'.s = z := ⟨_, rfl⟩
  obtain ⟨T, hT⟩ : ∃ z, o'.t = z := ⟨_, rfl⟩
  obtain ⟨ln, hln⟩ : ∃ z, o'.l.length = z := ⟨_, rfl⟩
  have cN : ∀ f u, (opC o' A')[f]? = some u -> ∀ X, Kept (fun k => k = N) wc X -> X.cell? ⟨N, f, none⟩ = some u := fun f u hu X hX => (hX.cell (p := ⟨N, f, none⟩) rfl).trans (by rw [zaa hbl, <- hu, <- Array.getElem?_toList])
  have c1 : ∀ X, Kept (fun k => k = N) wc X -> X.cell? ⟨N, 1, none⟩ = some (.int .i64 za) := by rw [<- hza]; exact cN 1 _ rfl
  have c2 : ∀ X, Kept (fun k => k = N) wc X -> X.cell? ⟨N, 2, none⟩ = some (.int .i64 zb) := by rw [<- hzb0]; exact cN 2 _ rfl
  have c3 : ∀ X, Kept (fun k => k = N) wc X -> X.cell? ⟨N, 3, none⟩ = some (.int .i64 zc) := by rw [<- hzc]; exact cN 3 _ rfl
  have c9 : ∀ X, Kept (fun k => k = N) wc X -> X.cell? ⟨N, 9, none⟩ = some (.string S) := by rw [<- hS]; exact cN 9 _ rfl
  have c10 : ∀ X, Kept (fun k => k = N) wc X -> X.cell? ⟨N, 10, none⟩ = some (.string T) := by rw [<- hT]; exact cN 10 _ rfl
  have c11 : ∀ X, Kept (fun k => k = N) wc X -> X.cell? ⟨N, 11, none⟩ = some (.slice A'.la ln A'.lc) := by rw [<- hln]; exact cN 11 _ rfl
  have CN : Hid (∀ f u, (opC o' A')[f]? = some u -> ∀ X, Kept (fun k => k = N) wc X -> X.cell? ⟨N, f, none⟩ = some u) := cN
  have hn5 : M.n <= 100000 := Nat.le_trans HLE.out HLIM.out
  have hSz : S.size <= 900000 := by have := HVY.out; unfold opH at this; rw [<- hS, HWI.out.2.2.2.2.2.2.1]; omega
  have hTz : T.size <= 900000 := by have := HVY.out; unfold opH at this; rw [<- hT, HWI.out.2.2.2.2.2.2.2.1]; omega
  have hlz : ln <= 900000 := by have := HVY.out; unfold opH at this; rw [<- hln, HWI.out.2.2.2.2.2.2.2.2.2]; omega
  have HFIN : Hid (∀ (E' : Nat -> Prop) (Z : World) (M' : Dm) (R' G' : Nat -> List Nat) (rk' : Nat -> Nat), Kept K1 wc Z -> Two K1 E' Z p r M' R' G' -> Inv M' R' G' rk' -> Zc2 M M' -> Zfp o.k K p r M w (.returned (.int .i64 1)) Z) := fun E' Z M' R' G' rk' hk h2 hi hg => ⟨rfl, E', M', R', G', rk', h2.less HST.out.kk, hi, ⟨hg.toGrows, fun _ => hg.nor⟩, HST.out.keep.trans (hk.mono HST.out.kk)⟩
  have HQ9 : Hid (o.k % 16 = q) := by rw [← HWI.out.1, hkd]; exact hq
  have HFINR : Hid (∀ (E' : Nat -> Prop) (Z : World) (M' : Dm) (R' G' : Nat -> List Nat) (rk' : Nat -> Nat), Kept K1 wc Z -> Two K1 E' Z p r M' R' G' -> Inv M' R' G' rk' -> Grows M M' -> o.k % 16 = 9 -> Zfp o.k K p r M w (.returned (.int .i64 1)) Z) := fun E' Z M' R' G' rk' hk h2 hi hg hq9 => ⟨rfl, E', M', R', G', rk', h2.less HST.out.kk, hi, ⟨hg, fun hn => absurd hq9 hn⟩, HST.out.keep.trans (hk.mono HST.out.kk)⟩
  have hTD : Two K1 E wc.drew p r M R G := HST.out.two.kept ((Kept.refl _ wc).drew)
  have hzD : Zbo (TK K1 E) wc.drew A'.la o'.l := HST.out.ints.kept ((Kept.refl _ wc).drew) (fun g hg => .inl hg)
  clear hbl cN hkd hq hza hzb0 hzc hS hT
  by_cases q5 : q = 5
  ·subst q5
   obtain ⟨z, M', R', rk', hI', hG', -, hzb, hd, hr2⟩ := zgz HI.out hn5 za zb zc
   go_upto_region 10 with fail
   refine wp_region_held_drew (S := fun X => Kept (fun k => k = N) wc X) (by kernel_rfl) ((Kept.refl _ wc).drew) (fun hHeld => ?_)
   refine tkH 0 56 (.pointer (some ⟨p, 0, none⟩)) rfl rfl (by kernel_rfl) (by rfl) (by intro X hX; go_simp; try with_reducible rfl) (fun _ _ _ h => h) hHeld ?_
   try simp only [Act.put, sA, s0, s1]
   refine tkH 1 57 (.pointer (some ⟨N, 1, none⟩)) rfl rfl (by kernel_rfl) (by rfl) (by intro X hX; go_simp; try with_reducible rfl) (fun _ _ _ h => h) hHeld ?_
   try simp only [Act.put, sA, s0, s1]
   refine tkH 2 58 (.int .i64 za) rfl rfl (by kernel_rfl) (by rfl) (by intro X hX; have hc := c1 X hX; go_simp; try with_reducible rfl) (fun _ _ _ h => h) hHeld ?_
   try simp only [Act.put, sA, s0, s1]
   refine tkH 3 59 (.pointer (some ⟨N, 2, none⟩)) rfl rfl (by kernel_rfl) (by rfl) (by intro X hX; go_simp; try with_reducible rfl) (fun _ _ _ h => h) hHeld ?_
   try simp only [Act.put, sA, s0, s1]
   refine tkH 4 60 (.int .i64 zb) rfl rfl (by kernel_rfl) (by rfl) (by intro X hX; have hc := c2 X hX; go_simp; try with_reducible rfl) (fun _ _ _ h => h) hHeld ?_
   try simp only [Act.put, sA, s0, s1]
   refine tkH 5 61 (.pointer (some ⟨N, 3, none⟩)) rfl rfl (by kernel_rfl) (by rfl) (by intro X hX; go_simp; try with_reducible rfl) (fun _ _ _ h => h) hHeld ?_
   try simp only [Act.put, sA, s0, s1]
   refine tkH 6 62 (.int .i64 zc) rfl rfl (by kernel_rfl) (by rfl) (by intro X hX; have hc := c3 X hX; go_simp; try with_reducible rfl) (fun _ _ _ h => h) hHeld ?_
   try simp only [Act.put, sA, s0, s1]
   refine tkH 9 65 (.pointer (some ⟨r, 0, none⟩)) rfl rfl (by kernel_rfl) (by rfl) (by intro X hX; go_simp; try with_reducible rfl) (fun _ _ _ h => h) hHeld ?_
   try simp only [Act.put, sA, s0, s1]
   refine tkH 10 66 (.pointer (some ⟨N, 1, none⟩)) rfl rfl (by kernel_rfl) (by rfl) (by intro X hX; go_simp; try with_reducible rfl) (fun _ _ _ h => h) hHeld ?_
   try simp only [Act.put, sA, s0, s1]
   refine tkH 11 67 (.int .i64 za) rfl rfl (by kernel_rfl) (by rfl) (by intro X hX; have hc := c1 X hX; go_simp; try with_reducible rfl) (fun _ _ _ h => h) hHeld ?_
   try simp only [Act.put, sA, s0, s1]
   refine tkH 12 68 (.pointer (some ⟨N, 2, none⟩)) rfl rfl (by kernel_rfl) (by rfl) (by intro X hX; go_simp; try with_reducible rfl) (fun _ _ _ h => h) hHeld ?_
   try simp only [Act.put, sA, s0, s1]
   refine tkH 13 69 (.int .i64 zb) rfl rfl (by kernel_rfl) (by rfl) (by intro X hX; have hc := c2 X hX; go_simp; try with_reducible rfl) (fun _ _ _ h => h) hHeld ?_
   try simp only [Act.put, sA, s0, s1]
   refine tkH 14 70 (.pointer (some ⟨N, 3, none⟩)) rfl rfl (by kernel_rfl) (by rfl) (by intro X hX; go_simp; try with_reducible rfl) (fun _ _ _ h => h) hHeld ?_
   try simp only [Act.put, sA, s0, s1]
   refine tkH 15 71 (.int .i64 zc) rfl rfl (by kernel_rfl) (by rfl) (by intro X hX; have hc := c3 X hX; go_simp; try with_reducible rfl) (fun _ _ _ h => h) hHeld ?_
   try simp only [Act.put, sA, s0, s1]
   refine wpAnyH_ready (rs := [7]) (by kernel_rfl) (by simp) ?_
   refine AllReadyH.cons (o := { dst := some 63, op := Op.call { callee := Callee.value (Operand.func 70), args := #[Operand.tmp 56, Operand.tmp 58, Operand.tmp 60, Operand.tmp 62], argTypes := #[25, 3, 3, 3] }, type := 59, pos := "law.go:127", after := #[{ on := 0, ground := Ground.data }, { on := 2, ground := Ground.data }, { on := 4, ground := Ground.data }, { on := 6, ground := Ground.data }], guard := none }) rfl (fun Kx hK => ?_) AllReadyH.nil
   refine zah rfl 70 #[.tmp 56, .tmp 58, .tmp 60, .tmp 62] #[25, 3, 3, 3] rfl #[.pointer (some ⟨p, 0, none⟩), .int .i64 za, .int .i64 zb, .int .i64 zc] (by first | rfl | (simp [Act.eval]; done) | (simp [Act.eval, Act.put]; done)) (enter70 _ _) _ (hd _ wc.drew p hTD.d) ?_
   rintro e Y ⟨rfl, hDY, hKY⟩
   have hNY : Kept (fun k => k = N) wc Y := ((Kept.refl _ wc).drew).trans (hKY.mono fun k hk => .inl (by rw [hk]; exact HST.out.kn))
   refine ⟨_, rfl, hK.out _ _ hNY (fun hHeld2 => ?_)⟩
   clear hK Kx hHeld
   replace hHeld := hHeld2
   clear hHeld2
   try simp only [Act.put, sA, s0, s1]
   obtain ⟨hDY2, hRY, hKK⟩ := hTD.byD hKY hDY
   refine tkH 8 64 (.int .i64 z) rfl rfl (by kernel_rfl) (by rfl) (by intro X hX; exact zbe rfl (by simp [Act.eval]) hzb.1 hzb.2) (fun _ _ _ h => h) hHeld ?_
   try simp only [Act.put, sA, s0, s1]
   refine wpAnyH_ready (rs := [16]) (by kernel_rfl) (by simp) ?_
   refine AllReadyH.cons (o := { dst := some 72, op := Op.call { callee := Callee.value (Operand.func 94), args := #[Operand.tmp 65, Operand.tmp 67, Operand.tmp 69, Operand.tmp 71], argTypes := #[26, 3, 3, 3] }, type := 3, pos := "law.go:127", after := #[{ on := 9, ground := Ground.data }, { on := 11, ground := Ground.data }, { on := 13, ground := Ground.data }, { on := 15, ground := Ground.data }, { on := 7, ground := Ground.chain }], guard := none }) rfl (fun Kx hK => ?_) AllReadyH.nil
   refine zah rfl 94 #[.tmp 65, .tmp 67, .tmp 69, .tmp 71] #[26, 3, 3, 3] rfl #[.pointer (some ⟨r, 0, none⟩), .int .i64 za, .int .i64 zb, .int .i64 zc] (by first | rfl | (simp [Act.eval]; done) | (simp [Act.eval, Act.put]; done)) (enter94 _ _) _ (hr2 _ Y r hRY) ?_
   rintro e Z ⟨rfl, hRZ, hKZ⟩
   have hNZ : Kept (fun k => k = N) wc Z := hHeld.trans (hKZ.mono fun k hk => .inl (by rw [hk]; exact HST.out.kn))
   refine ⟨_, rfl, hK.out _ _ hNZ (fun hHeld2 => ?_)⟩
   clear hK Kx hHeld
   replace hHeld := hHeld2
   clear hHeld2
   try simp only [Act.put, sA, s0, s1]
   obtain ⟨hT2, hKK2⟩ := Two.byR (M := M) (R := R) (G := G) hDY2 HST.out.two.nk hKZ hRZ
   have hfin := HFIN.out _ _ _ _ _ _ (((Kept.refl _ wc).drew).trans (hKK.trans hKK2)) hT2 hI' hG'
   refine tkH 17 73 (.bool true) rfl rfl (by kernel_rfl) (by rfl) (by intro X hX; go_simp; try with_reducible rfl) (fun _ _ _ h => h) hHeld ?_
   try simp only [Act.put, sA, s0, s1]
   refine tkH 18 7 (.bool true) rfl rfl (by kernel_rfl) (by rfl) (by intro X hX; go_simp; try with_reducible rfl) (fun _ _ _ h => h) hHeld ?_
   try simp only [Act.put, sA, s0, s1]
   refine wpAnyH_done (by kernel_rfl) ?_ _
   try simp only [Act.put]
   go_wp2
   go_ret
   exact hfin
  by_cases q6 : q = 6
  ·subst q6
   obtain ⟨z, M', R', rk', hI', hG', -, hzb, hd, hr2⟩ := zgz HI.out hn5 za zb zc
   go_upto_region 10 with fail
   refine wp_region_held_drew (S := fun X => Kept (fun k => k = N) wc X) (by kernel_rfl) ((Kept.refl _ wc).drew) (fun hHeld => ?_)
   refine tkH 0 56 (.pointer (some ⟨p, 0, none⟩)) rfl rfl (by kernel_rfl) (by rfl) (by intro X hX; go_simp; try with_reducible rfl) (fun _ _ _ h => h) hHeld ?_
   try simp only [Act.put, sA, s0, s1]
   refine tkH 1 57 (.pointer (some ⟨N, 1, none⟩)) rfl rfl (by kernel_rfl) (by rfl) (by intro X hX; go_simp; try with_reducible rfl) (fun _ _ _ h => h) hHeld ?_
   try simp only [Act.put, sA, s0, s1]
   refine tkH 2 58 (.int .i64 za) rfl rfl (by kernel_rfl) (by rfl) (by intro X hX; have hc := c1 X hX; go_simp; try with_reducible rfl) (fun _ _ _ h => h) hHeld ?_
   try simp only [Act.put, sA, s0, s1]
   refine tkH 3 59 (.pointer (some ⟨N, 2, none⟩)) rfl rfl (by kernel_rfl) (by rfl) (by intro X hX; go_simp; try with_reducible rfl) (fun _ _ _ h => h) hHeld ?_
   try simp only [Act.put, sA, s0, s1]
   refine tkH 4 60 (.int .i64 zb) rfl rfl (by kernel_rfl) (by rfl) (by intro X hX; have hc := c2 X hX; go_simp; try with_reducible rfl) (fun _ _ _ h => h) hHeld ?_
   try simp only [Act.put, sA, s0, s1]
   refine tkH 5 61 (.pointer (some ⟨N, 3, none⟩)) rfl rfl (by kernel_rfl) (by rfl) (by intro X hX; go_simp; try with_reducible rfl) (fun _ _ _ h => h) hHeld ?_
   try simp only [Act.put, sA, s0, s1]
   refine tkH 6 62 (.int .i64 zc) rfl rfl (by kernel_rfl) (by rfl) (by intro X hX; have hc := c3 X hX; go_simp; try with_reducible rfl) (fun _ _ _ h => h) hHeld ?_
   try simp only [Act.put, sA, s0, s1]
   refine tkH 9 65 (.pointer (some ⟨r, 0, none⟩)) rfl rfl (by kernel_rfl) (by rfl) (by intro X hX; go_simp; try with_reducible rfl) (fun _ _ _ h => h) hHeld ?_
   try simp only [Act.put, sA, s0, s1]
   refine tkH 10 66 (.pointer (some ⟨N, 1, none⟩)) rfl rfl (by kernel_rfl) (by rfl) (by intro X hX; go_simp; try with_reducible rfl) (fun _ _ _ h => h) hHeld ?_
   try simp only [Act.put, sA, s0, s1]
   refine tkH 11 67 (.int .i64 za) rfl rfl (by kernel_rfl) (by rfl) (by intro X hX; have hc := c1 X hX; go_simp; try with_reducible rfl) (fun _ _ _ h => h) hHeld ?_
   try simp only [Act.put, sA, s0, s1]
   refine tkH 12 68 (.pointer (some ⟨N, 2, none⟩)) rfl rfl (by kernel_rfl) (by rfl) (by intro X hX; go_simp; try with_reducible rfl) (fun _ _ _ h => h) hHeld ?_
   try simp only [Act.put, sA, s0, s1]
   refine tkH 13 69 (.int .i64 zb) rfl rfl (by kernel_rfl) (by rfl) (by intro X hX; have hc := c2 X hX; go_simp; try with_reducible rfl) (fun _ _ _ h => h) hHeld ?_
   try simp only [Act.put, sA, s0, s1]
   refine tkH 14 70 (.pointer (some ⟨N, 3, none⟩)) rfl rfl (by kernel_rfl) (by rfl) (by intro X hX; go_simp; try with_reducible rfl) (fun _ _ _ h => h) hHeld ?_
   try simp only [Act.put, sA, s0, s1]
   refine tkH 15 71 (.int .i64 zc) rfl rfl (by kernel_rfl) (by rfl) (by intro X hX; have hc := c3 X hX; go_simp; try with_reducible rfl) (fun _ _ _ h => h) hHeld ?_
   try simp only [Act.put, sA, s0, s1]
   refine wpAnyH_ready (rs := [7]) (by kernel_rfl) (by simp) ?_
   refine AllReadyH.cons (o := { dst := some 63, op := Op.call { callee := Callee.value (Operand.func 70), args := #[Operand.tmp 56, Operand.tmp 58, Operand.tmp 60, Operand.tmp 62], argTypes := #[25, 3, 3, 3] }, type := 59, pos := "law.go:127", after := #[{ on := 0, ground := Ground.data }, { on := 2, ground := Ground.data }, { on := 4, ground := Ground.data }, { on := 6, ground := Ground.data }], guard := none }) rfl (fun Kx hK => ?_) AllReadyH.nil
   refine zah rfl 70 #[.tmp 56, .tmp 58, .tmp 60, .tmp 62] #[25, 3, 3, 3] rfl #[.pointer (some ⟨p, 0, none⟩), .int .i64 za, .int .i64 zb, .int .i64 zc] (by first | rfl | (simp [Act.eval]; done) | (simp [Act.eval, Act.put]; done)) (enter70 _ _) _ (hd _ wc.drew p hTD.d) ?_
   rintro e Y ⟨rfl, hDY, hKY⟩
   have hNY : Kept (fun k => k = N) wc Y := ((Kept.refl _ wc).drew).trans (hKY.mono fun k hk => .inl (by rw [hk]; exact HST.out.kn))
   refine ⟨_, rfl, hK.out _ _ hNY (fun hHeld2 => ?_)⟩
   clear hK Kx hHeld
   replace hHeld := hHeld2
   clear hHeld2
   try simp only [Act.put, sA, s0, s1]
   obtain ⟨hDY2, hRY, hKK⟩ := hTD.byD hKY hDY
   refine tkH 8 64 (.int .i64 z) rfl rfl (by kernel_rfl) (by rfl) (by intro X hX; exact zbe rfl (by simp [Act.eval]) hzb.1 hzb.2) (fun _ _ _ h => h) hHeld ?_
   try simp only [Act.put, sA, s0, s1]
   refine wpAnyH_ready (rs := [16]) (by kernel_rfl) (by simp) ?_
   refine AllReadyH.cons (o := { dst := some 72, op := Op.call { callee := Callee.value (Operand.func 94), args := #[Operand.tmp 65, Operand.tmp 67, Operand.tmp 69, Operand.tmp 71], argTypes := #[26, 3, 3, 3] }, type := 3, pos := "law.go:127", after := #[{ on := 9, ground := Ground.data }, { on := 11, ground := Ground.data }, { on := 13, ground := Ground.data }, { on := 15, ground := Ground.data }, { on := 7, ground := Ground.chain }], guard := none }) rfl (fun Kx hK => ?_) AllReadyH.nil
   refine zah rfl 94 #[.tmp 65, .tmp 67, .tmp 69, .tmp 71] #[26, 3, 3, 3] rfl #[.pointer (some ⟨r, 0, none⟩), .int .i64 za, .int .i64 zb, .int .i64 zc] (by first | rfl | (simp [Act.eval]; done) | (simp [Act.eval, Act.put]; done)) (enter94 _ _) _ (hr2 _ Y r hRY) ?_
   rintro e Z ⟨rfl, hRZ, hKZ⟩
   have hNZ : Kept (fun k => k = N) wc Z := hHeld.trans (hKZ.mono fun k hk => .inl (by rw [hk]; exact HST.out.kn))
   refine ⟨_, rfl, hK.out _ _ hNZ (fun hHeld2 => ?_)⟩
   clear hK Kx hHeld
   replace hHeld := hHeld2
   clear hHeld2
   try simp only [Act.put, sA, s0, s1]
   obtain ⟨hT2, hKK2⟩ := Two.byR (M := M) (R := R) (G := G) hDY2 HST.out.two.nk hKZ hRZ
   have hfin := HFIN.out _ _ _ _ _ _ (((Kept.refl _ wc).drew).trans (hKK.trans hKK2)) hT2 hI' hG'
   refine tkH 17 73 (.bool true) rfl rfl (by kernel_rfl) (by rfl) (by intro X hX; go_simp; try with_reducible rfl) (fun _ _ _ h => h) hHeld ?_
   try simp only [Act.put, sA, s0, s1]
   refine tkH 18 7 (.bool true) rfl rfl (by kernel_rfl) (by rfl) (by intro X hX; go_simp; try with_reducible rfl) (fun _ _ _ h => h) hHeld ?_
   try simp only [Act.put, sA, s0, s1]
   refine wpAnyH_done (by kernel_rfl) ?_ _
   try simp only [Act.put]
   go_wp2
   go_ret
   exact hfin
  by_cases q7 : q = 7
  ·subst q7
   obtain ⟨z, M', R', rk', hI', hG', -, hzb, hd, hr2⟩ := zgz HI.out hn5 za zb zc
   go_upto_region 10 with fail
   refine wp_region_held_drew (S := fun X => Kept (fun k => k = N) wc X) (by kernel_rfl) ((Kept.refl _ wc).drew) (fun hHeld => ?_)
   refine tkH 0 56 (.pointer (some ⟨p, 0, none⟩)) rfl rfl (by kernel_rfl) (by rfl) (by intro X hX; go_simp; try with_reducible rfl) (fun _ _ _ h => h) hHeld ?_
   try simp only [Act.put, sA, s0, s1]
   refine tkH 1 57 (.pointer (some ⟨N, 1, none⟩)) rfl rfl (by kernel_rfl) (by rfl) (by intro X hX; go_simp; try with_reducible rfl) (fun _ _ _ h => h) hHeld ?_
   try simp only [Act.put, sA, s0, s1]
   refine tkH 2 58 (.int .i64 za) rfl rfl (by kernel_rfl) (by rfl) (by intro X hX; have hc := c1 X hX; go_simp; try with_reducible rfl) (fun _ _ _ h => h) hHeld ?_
   try simp only [Act.put, sA, s0, s1]
   refine tkH 3 59 (.pointer (some ⟨N, 2, none⟩)) rfl rfl (by kernel_rfl) (by rfl) (by intro X hX; go_simp; try with_reducible rfl) (fun _ _ _ h => h) hHeld ?_
   try simp only [Act.put, sA, s0, s1]
   refine tkH 4 60 (.int .i64 zb) rfl rfl (by kernel_rfl) (by rfl) (by intro X hX; have hc := c2 X hX; go_simp; try with_reducible rfl) (fun _ _ _ h => h) hHeld ?_
   try simp only [Act.put, sA, s0, s1]
   refine tkH 5 61 (.pointer (some ⟨N, 3, none⟩)) rfl rfl (by kernel_rfl) (by rfl) (by intro X hX; go_simp; try with_reducible rfl) (fun _ _ _ h => h) hHeld ?_
   try simp only [Act.put, sA, s0, s1]
   refine tkH 6 62 (.int .i64 zc) rfl rfl (by kernel_rfl) (by rfl) (by intro X hX; have hc := c3 X hX; go_simp; try with_reducible rfl) (fun _ _ _ h => h) hHeld ?_
   try simp only [Act.put, sA, s0, s1]
   refine tkH 9 65 (.pointer (some ⟨r, 0, none⟩)) rfl rfl (by kernel_rfl) (by rfl) (by intro X hX; go_simp; try with_reducible rfl) (fun _ _ _ h => h) hHeld ?_
   try simp only [Act.put, sA, s0, s1]
   refine tkH 10 66 (.pointer (some ⟨N, 1, none⟩)) rfl rfl (by kernel_rfl) (by rfl) (by intro X hX; go_simp; try with_reducible rfl) (fun _ _ _ h => h) hHeld ?_
   try simp only [Act.put, sA, s0, s1]
   refine tkH 11 67 (.int .i64 za) rfl rfl (by kernel_rfl) (by rfl) (by intro X hX; have hc := c1 X hX; go_simp; try with_reducible rfl) (fun _ _ _ h => h) hHeld ?_
   try simp only [Act.put, sA, s0, s1]
   refine tkH 12 68 (.pointer (some ⟨N, 2, none⟩)) rfl rfl (by kernel_rfl) (by rfl) (by intro X hX; go_simp; try with_reducible rfl) (fun _ _ _ h => h) hHeld ?_
   try simp only [Act.put, sA, s0, s1]
   refine tkH 13 69 (.int .i64 zb) rfl rfl (by kernel_rfl) (by rfl) (by intro X hX; have hc := c2 X hX; go_simp; try with_reducible rfl) (fun _ _ _ h => h) hHeld ?_
   try simp only [Act.put, sA, s0, s1]
   refine tkH 14 70 (.pointer (some ⟨N, 3, none⟩)) rfl rfl (by kernel_rfl) (by rfl) (by intro X hX; go_simp; try with_reducible rfl) (fun _ _ _ h => h) hHeld ?_
   try simp only [Act.put, sA, s0, s1]
   refine tkH 15 71 (.int .i64 zc) rfl rfl (by kernel_rfl) (by rfl) (by intro X hX; have hc := c3 X hX; go_simp; try with_reducible rfl) (fun _ _ _ h => h) hHeld ?_
   try simp only [Act.put, sA, s0, s1]
   refine wpAnyH_ready (rs := [7]) (by kernel_rfl) (by simp) ?_
   refine AllReadyH.cons (o := { dst := some 63, op := Op.call { callee := Callee.value (Operand.func 70), args := #[Operand.tmp 56, Operand.tmp 58, Operand.tmp 60, Operand.tmp 62], argTypes := #[25, 3, 3, 3] }, type := 59, pos := "law.go:127", after := #[{ on := 0, ground := Ground.data }, { on := 2, ground := Ground.data }, { on := 4, ground := Ground.data }, { on := 6, ground := Ground.data }], guard := none }) rfl (fun Kx hK => ?_) AllReadyH.nil
   refine zah rfl 70 #[.tmp 56, .tmp 58, .tmp 60, .tmp 62] #[25, 3, 3, 3] rfl #[.pointer (some ⟨p, 0, none⟩), .int .i64 za, .int .i64 zb, .int .i64 zc] (by first | rfl | (simp [Act.eval]; done) | (simp [Act.eval, Act.put]; done)) (enter70 _ _) _ (hd _ wc.drew p hTD.d) ?_
   rintro e Y ⟨rfl, hDY, hKY⟩
   have hNY : Kept (fun k => k = N) wc Y := ((Kept.refl _ wc).drew).trans (hKY.mono fun k hk => .inl (by rw [hk]; exact HST.out.kn))
   refine ⟨_, rfl, hK.out _ _ hNY (fun hHeld2 => ?_)⟩
   clear hK Kx hHeld
   replace hHeld := hHeld2
   clear hHeld2
   try simp only [Act.put, sA, s0, s1]
   obtain ⟨hDY2, hRY, hKK⟩ := hTD.byD hKY hDY
   refine tkH 8 64 (.int .i64 z) rfl rfl (by kernel_rfl) (by rfl) (by intro X hX; exact zbe rfl (by simp [Act.eval]) hzb.1 hzb.2) (fun _ _ _ h => h) hHeld ?_
   try simp only [Act.put, sA, s0, s1]
   refine wpAnyH_ready (rs := [16]) (by kernel_rfl) (by simp) ?_
   refine AllReadyH.cons (o := { dst := some 72, op := Op.call { callee := Callee.value (Operand.func 94), args := #[Operand.tmp 65, Operand.tmp 67, Operand.tmp 69, Operand.tmp 71], argTypes := #[26, 3, 3, 3] }, type := 3, pos := "law.go:127", after := #[{ on := 9, ground := Ground.data }, { on := 11, ground := Ground.data }, { on := 13, ground := Ground.data }, { on := 15, ground := Ground.data }, { on := 7, ground := Ground.chain }], guard := none }) rfl (fun Kx hK => ?_) AllReadyH.nil
   refine zah rfl 94 #[.tmp 65, .tmp 67, .tmp 69, .tmp 71] #[26, 3, 3, 3] rfl #[.pointer (some ⟨r, 0, none⟩), .int .i64 za, .int .i64 zb, .int .i64 zc] (by first | rfl | (simp [Act.eval]; done) | (simp [Act.eval, Act.put]; done)) (enter94 _ _) _ (hr2 _ Y r hRY) ?_
   rintro e Z ⟨rfl, hRZ, hKZ⟩
   have hNZ : Kept (fun k => k = N) wc Z := hHeld.trans (hKZ.mono fun k hk => .inl (by rw [hk]; exact HST.out.kn))
   refine ⟨_, rfl, hK.out _ _ hNZ (fun hHeld2 => ?_)⟩
   clear hK Kx hHeld
   replace hHeld := hHeld2
   clear hHeld2
   try simp only [Act.put, sA, s0, s1]
   obtain ⟨hT2, hKK2⟩ := Two.byR (M := M) (R := R) (G := G) hDY2 HST.out.two.nk hKZ hRZ
   have hfin := HFIN.out _ _ _ _ _ _ (((Kept.refl _ wc).drew).trans (hKK.trans hKK2)) hT2 hI' hG'
   refine tkH 17 73 (.bool true) rfl rfl (by kernel_rfl) (by rfl) (by intro X hX; go_simp; try with_reducible rfl) (fun _ _ _ h => h) hHeld ?_
   try simp only [Act.put, sA, s0, s1]
   refine tkH 18 7 (.bool true) rfl rfl (by kernel_rfl) (by rfl) (by intro X hX; go_simp; try with_reducible rfl) (fun _ _ _ h => h) hHeld ?_
   try simp only [Act.put, sA, s0, s1]
   refine wpAnyH_done (by kernel_rfl) ?_ _
   try simp only [Act.put]
   go_wp2
   go_ret
   exact hfin
  by_cases q8 : q = 8
  ·subst q8
   obtain ⟨z, M', R', rk', hI', hG', -, hzb, hd, hr2⟩ := zoj HI.out hn5 za
   go_upto_region 12 with fail
   refine wp_region_held_drew (S := fun X => Kept (fun k => k = N) wc X) (by kernel_rfl) ((Kept.refl _ wc).drew) (fun hHeld => ?_)
   refine tkH 0 76 (.pointer (some ⟨p, 0, none⟩)) rfl rfl (by kernel_rfl) (by rfl) (by intro X hX; go_simp; try with_reducible rfl) (fun _ _ _ h => h) hHeld ?_
   try simp only [Act.put, sA, s0, s1]
   refine tkH 1 77 (.pointer (some ⟨N, 1, none⟩)) rfl rfl (by kernel_rfl) (by rfl) (by intro X hX; go_simp; try with_reducible rfl) (fun _ _ _ h => h) hHeld ?_
   try simp only [Act.put, sA, s0, s1]
   refine tkH 2 78 (.int .i64 za) rfl rfl (by kernel_rfl) (by rfl) (by intro X hX; have hc := c1 X hX; go_simp; try with_reducible rfl) (fun _ _ _ h => h) hHeld ?_
   try simp only [Act.put, sA, s0, s1]
   refine tkH 5 81 (.pointer (some ⟨r, 0, none⟩)) rfl rfl (by kernel_rfl) (by rfl) (by intro X hX; go_simp; try with_reducible rfl) (fun _ _ _ h => h) hHeld ?_
   try simp only [Act.put, sA, s0, s1]
   refine tkH 6 82 (.pointer (some ⟨N, 1, none⟩)) rfl rfl (by kernel_rfl) (by rfl) (by intro X hX; go_simp; try with_reducible rfl) (fun _ _ _ h => h) hHeld ?_
   try simp only [Act.put, sA, s0, s1]
   refine tkH 7 83 (.int .i64 za) rfl rfl (by kernel_rfl) (by rfl) (by intro X hX; have hc := c1 X hX; go_simp; try with_reducible rfl) (fun _ _ _ h => h) hHeld ?_
   try simp only [Act.put, sA, s0, s1]
   refine wpAnyH_ready (rs := [3]) (by kernel_rfl) (by simp) ?_
   refine AllReadyH.cons (o := { dst := some 79, op := Op.call { callee := Callee.value (Operand.func 95), args := #[Operand.tmp 76, Operand.tmp 78], argTypes := #[25, 3] }, type := 59, pos := "law.go:129", after := #[{ on := 0, ground := Ground.data }, { on := 2, ground := Ground.data }], guard := none }) rfl (fun Kx hK => ?_) AllReadyH.nil
   refine zah rfl 95 #[.tmp 76, .tmp 78] #[25, 3] rfl #[.pointer (some ⟨p, 0, none⟩), .int .i64 za] (by first | rfl | (simp [Act.eval]; done) | (simp [Act.eval, Act.put]; done)) (enter95 _ _) _ (hd _ wc.drew p hTD.d) ?_
   rintro e Y ⟨rfl, hDY, hKY⟩
   have hNY : Kept (fun k => k = N) wc Y := ((Kept.refl _ wc).drew).trans (hKY.mono fun k hk => .inl (by rw [hk]; exact HST.out.kn))
   refine ⟨_, rfl, hK.out _ _ hNY (fun hHeld2 => ?_)⟩
   clear hK Kx hHeld
   replace hHeld := hHeld2
   clear hHeld2
   try simp only [Act.put, sA, s0, s1]
   obtain ⟨hDY2, hRY, hKK⟩ := hTD.byD hKY hDY
   refine tkH 4 80 (.int .i64 z) rfl rfl (by kernel_rfl) (by rfl) (by intro X hX; exact zbe rfl (by simp [Act.eval]) hzb.1 hzb.2) (fun _ _ _ h => h) hHeld ?_
   try simp only [Act.put, sA, s0, s1]
   refine wpAnyH_ready (rs := [8]) (by kernel_rfl) (by simp) ?_
   refine AllReadyH.cons (o := { dst := some 84, op := Op.call { callee := Callee.value (Operand.func 96), args := #[Operand.tmp 81, Operand.tmp 83], argTypes := #[26, 3] }, type := 3, pos := "law.go:129", after := #[{ on := 5, ground := Ground.data }, { on := 7, ground := Ground.data }, { on := 3, ground := Ground.chain }], guard := none }) rfl (fun Kx hK => ?_) AllReadyH.nil
   refine zah rfl 96 #[.tmp 81, .tmp 83] #[26, 3] rfl #[.pointer (some ⟨r, 0, none⟩), .int .i64 za] (by first | rfl | (simp [Act.eval]; done) | (simp [Act.eval, Act.put]; done)) (enter96 _ _) _ (hr2 _ Y r hRY) ?_
   rintro e Z ⟨rfl, hRZ, hKZ⟩
   have hNZ : Kept (fun k => k = N) wc Z := hHeld.trans (hKZ.mono fun k hk => .inl (by rw [hk]; exact HST.out.kn))
   refine ⟨_, rfl, hK.out _ _ hNZ (fun hHeld2 => ?_)⟩
   clear hK Kx hHeld
   replace hHeld := hHeld2
   clear hHeld2
   try simp only [Act.put, sA, s0, s1]
   obtain ⟨hT2, hKK2⟩ := Two.byR (M := M) (R := R) (G := G) hDY2 HST.out.two.nk hKZ hRZ
   have hfin := HFIN.out _ _ _ _ _ _ (((Kept.refl _ wc).drew).trans (hKK.trans hKK2)) hT2 hI' hG'
   refine tkH 9 85 (.bool true) rfl rfl (by kernel_rfl) (by rfl) (by intro X hX; go_simp; try with_reducible rfl) (fun _ _ _ h => h) hHeld ?_
   try simp only [Act.put, sA, s0, s1]
   refine tkH 10 7 (.bool true) rfl rfl (by kernel_rfl) (by rfl) (by intro X hX; go_simp; try with_reducible rfl) (fun _ _ _ h => h) hHeld ?_
   try simp only [Act.put, sA, s0, s1]
   refine wpAnyH_done (by kernel_rfl) ?_ _
   try simp only [Act.put]
   go_wp2
   go_ret
   exact hfin
  by_cases q10 : q = 10
  ·subst q10
   obtain ⟨z, M', rk', hI', hG', -, hzb, hd, hr2⟩ := zod HI.out hn5 za S T (by omega) (by omega)
   go_upto_region 18 with fail
   refine wp_region_held_drew (S := fun X => Kept (fun k => k = N) wc X) (by kernel_rfl) ((Kept.refl _ wc).drew) (fun hHeld => ?_)
   refine tkH 0 117 (.pointer (some ⟨p, 0, none⟩)) rfl rfl (by kernel_rfl) (by rfl) (by intro X hX; go_simp; try with_reducible rfl) (fun _ _ _ h => h) hHeld ?_
   try simp only [Act.put, sA, s0, s1]
   refine tkH 1 118 (.pointer (some ⟨N, 1, none⟩)) rfl rfl (by kernel_rfl) (by rfl) (by intro X hX; go_simp; try with_reducible rfl) (fun _ _ _ h => h) hHeld ?_
   try simp only [Act.put, sA, s0, s1]
   refine tkH 2 119 (.int .i64 za) rfl rfl (by kernel_rfl) (by rfl) (by intro X hX; have hc := c1 X hX; go_simp; try with_reducible rfl) (fun _ _ _ h => h) hHeld ?_
   try simp only [Act.put, sA, s0, s1]
   refine tkH 3 120 (.pointer (some ⟨N, 9, none⟩)) rfl rfl (by kernel_rfl) (by rfl) (by intro X hX; go_simp; try with_reducible rfl) (fun _ _ _ h => h) hHeld ?_
   try simp only [Act.put, sA, s0, s1]
   refine tkH 4 121 (.string S) rfl rfl (by kernel_rfl) (by rfl) (by intro X hX; have hc := c9 X hX; go_simp; try with_reducible rfl) (fun _ _ _ h => h) hHeld ?_
   try simp only [Act.put, sA, s0, s1]
   refine tkH 5 122 (.pointer (some ⟨N, 10, none⟩)) rfl rfl (by kernel_rfl) (by rfl) (by intro X hX; go_simp; try with_reducible rfl) (fun _ _ _ h => h) hHeld ?_
   try simp only [Act.put, sA, s0, s1]
   refine tkH 6 123 (.string T) rfl rfl (by kernel_rfl) (by rfl) (by intro X hX; have hc := c10 X hX; go_simp; try with_reducible rfl) (fun _ _ _ h => h) hHeld ?_
   try simp only [Act.put, sA, s0, s1]
   refine tkH 9 126 (.pointer (some ⟨r, 0, none⟩)) rfl rfl (by kernel_rfl) (by rfl) (by intro X hX; go_simp; try with_reducible rfl) (fun _ _ _ h => h) hHeld ?_
   try simp only [Act.put, sA, s0, s1]
   refine tkH 10 127 (.pointer (some ⟨N, 1, none⟩)) rfl rfl (by kernel_rfl) (by rfl) (by intro X hX; go_simp; try with_reducible rfl) (fun _ _ _ h => h) hHeld ?_
   try simp only [Act.put, sA, s0, s1]
   refine tkH 11 128 (.int .i64 za) rfl rfl (by kernel_rfl) (by rfl) (by intro X hX; have hc := c1 X hX; go_simp; try with_reducible rfl) (fun _ _ _ h => h) hHeld ?_
   try simp only [Act.put, sA, s0, s1]
   refine tkH 12 129 (.pointer (some ⟨N, 9, none⟩)) rfl rfl (by kernel_rfl) (by rfl) (by intro X hX; go_simp; try with_reducible rfl) (fun _ _ _ h => h) hHeld ?_
   try simp only [Act.put, sA, s0, s1]
   refine tkH 13 130 (.string S) rfl rfl (by kernel_rfl) (by rfl) (by intro X hX; have hc := c9 X hX; go_simp; try with_reducible rfl) (fun _ _ _ h => h) hHeld ?_
   try simp only [Act.put, sA, s0, s1]
   refine tkH 14 131 (.pointer (some ⟨N, 10, none⟩)) rfl rfl (by kernel_rfl) (by rfl) (by intro X hX; go_simp; try with_reducible rfl) (fun _ _ _ h => h) hHeld ?_
   try simp only [Act.put, sA, s0, s1]
   refine tkH 15 132 (.string T) rfl rfl (by kernel_rfl) (by rfl) (by intro X hX; have hc := c10 X hX; go_simp; try with_reducible rfl) (fun _ _ _ h => h) hHeld ?_
   try simp only [Act.put, sA, s0, s1]
   refine wpAnyH_ready (rs := [7]) (by kernel_rfl) (by simp) ?_
   refine AllReadyH.cons (o := { dst := some 124, op := Op.call { callee := Callee.value (Operand.func 62), args := #[Operand.tmp 117, Operand.tmp 119, Operand.tmp 121, Operand.tmp 123], argTypes := #[25, 3, 9, 9] }, type := 59, pos := "law.go:135", after := #[{ on := 0, ground := Ground.data }, { on := 2, ground := Ground.data }, { on := 4, ground := Ground.data }, { on := 6, ground := Ground.data }], guard := none }) rfl (fun Kx hK => ?_) AllReadyH.nil
   refine zah rfl 62 #[.tmp 117, .tmp 119, .tmp 121, .tmp 123] #[25, 3, 9, 9] rfl #[.pointer (some ⟨p, 0, none⟩), .int .i64 za, .string S, .string T] (by first | rfl | (simp [Act.eval]; done) | (simp [Act.eval, Act.put]; done)) (enter62 _ _) _ (hd _ wc.drew p hTD.d) ?_
   rintro e Y ⟨rfl, hDY, hKY⟩
   have hNY : Kept (fun k => k = N) wc Y := ((Kept.refl _ wc).drew).trans (hKY.mono fun k hk => .inl (by rw [hk]; exact HST.out.kn))
   refine ⟨_, rfl, hK.out _ _ hNY (fun hHeld2 => ?_)⟩
   clear hK Kx hHeld
   replace hHeld := hHeld2
   clear hHeld2
   try simp only [Act.put, sA, s0, s1]
   obtain ⟨hDY2, hRY, hKK⟩ := hTD.byD hKY hDY
   refine tkH 8 125 (.int .i64 z) rfl rfl (by kernel_rfl) (by rfl) (by intro X hX; exact zbe rfl (by simp [Act.eval]) hzb.1 hzb.2) (fun _ _ _ h => h) hHeld ?_
   try simp only [Act.put, sA, s0, s1]
   refine wpAnyH_ready (rs := [16]) (by kernel_rfl) (by simp) ?_
   refine AllReadyH.cons (o := { dst := some 133, op := Op.call { callee := Callee.value (Operand.func 98), args := #[Operand.tmp 126, Operand.tmp 128, Operand.tmp 130, Operand.tmp 132], argTypes := #[26, 3, 9, 9] }, type := 3, pos := "law.go:135", after := #[{ on := 9, ground := Ground.data }, { on := 11, ground := Ground.data }, { on := 13, ground := Ground.data }, { on := 15, ground := Ground.data }, { on := 7, ground := Ground.chain }], guard := none }) rfl (fun Kx hK => ?_) AllReadyH.nil
   refine zah rfl 98 #[.tmp 126, .tmp 128, .tmp 130, .tmp 132] #[26, 3, 9, 9] rfl #[.pointer (some ⟨r, 0, none⟩), .int .i64 za, .string S, .string T] (by first | rfl | (simp [Act.eval]; done) | (simp [Act.eval, Act.put]; done)) (enter98 _ _) _ (hr2 _ Y r hRY) ?_
   rintro e Z ⟨rfl, hRZ, hKZ⟩
   have hNZ : Kept (fun k => k = N) wc Z := hHeld.trans (hKZ.mono fun k hk => .inl (by rw [hk]; exact HST.out.kn))
   refine ⟨_, rfl, hK.out _ _ hNZ (fun hHeld2 => ?_)⟩
   clear hK Kx hHeld
   replace hHeld := hHeld2
   clear hHeld2
   try simp only [Act.put, sA, s0, s1]
   obtain ⟨hT2, hKK2⟩ := Two.byR (M := M) (R := R) (G := G) hDY2 HST.out.two.nk hKZ hRZ
   have hfin := HFIN.out _ _ _ _ _ _ (((Kept.refl _ wc).drew).trans (hKK.trans hKK2)) hT2 hI' hG'
   refine tkH 17 134 (.bool true) rfl rfl (by kernel_rfl) (by rfl) (by intro X hX; go_simp; try with_reducible rfl) (fun _ _ _ h => h) hHeld ?_
   try simp only [Act.put, sA, s0, s1]
   refine tkH 18 7 (.bool true) rfl rfl (by kernel_rfl) (by rfl) (by intro X hX; go_simp; try with_reducible rfl) (fun _ _ _ h => h) hHeld ?_
   try simp only [Act.put, sA, s0, s1]
   refine wpAnyH_done (by kernel_rfl) ?_ _
   try simp only [Act.put]
   go_wp2
   go_ret
   exact hfin
  by_cases q11 : q = 11
  ·subst q11
   obtain ⟨z, M', rk', hI', hG', -, hzb, hd, hr2⟩ := zmn HI.out hn5 za S
   go_upto_region 20 with fail
   refine wp_region_held_drew (S := fun X => Kept (fun k => k = N) wc X) (by kernel_rfl) ((Kept.refl _ wc).drew) (fun hHeld => ?_)
   refine tkH 0 137 (.pointer (some ⟨p, 0, none⟩)) rfl rfl (by kernel_rfl) (by rfl) (by intro X hX; go_simp; try with_reducible rfl) (fun _ _ _ h => h) hHeld ?_
   try simp only [Act.put, sA, s0, s1]
   refine tkH 1 138 (.pointer (some ⟨N, 1, none⟩)) rfl rfl (by kernel_rfl) (by rfl) (by intro X hX; go_simp; try with_reducible rfl) (fun _ _ _ h => h) hHeld ?_
   try simp only [Act.put, sA, s0, s1]
   refine tkH 2 139 (.int .i64 za) rfl rfl (by kernel_rfl) (by rfl) (by intro X hX; have hc := c1 X hX; go_simp; try with_reducible rfl) (fun _ _ _ h => h) hHeld ?_
   try simp only [Act.put, sA, s0, s1]
   refine tkH 3 140 (.pointer (some ⟨N, 9, none⟩)) rfl rfl (by kernel_rfl) (by rfl) (by intro X hX; go_simp; try with_reducible rfl) (fun _ _ _ h => h) hHeld ?_
   try simp only [Act.put, sA, s0, s1]
   refine tkH 4 141 (.string S) rfl rfl (by kernel_rfl) (by rfl) (by intro X hX; have hc := c9 X hX; go_simp; try with_reducible rfl) (fun _ _ _ h => h) hHeld ?_
   try simp only [Act.put, sA, s0, s1]
   refine tkH 7 144 (.pointer (some ⟨r, 0, none⟩)) rfl rfl (by kernel_rfl) (by rfl) (by intro X hX; go_simp; try with_reducible rfl) (fun _ _ _ h => h) hHeld ?_
   try simp only [Act.put, sA, s0, s1]
   refine tkH 8 145 (.pointer (some ⟨N, 1, none⟩)) rfl rfl (by kernel_rfl) (by rfl) (by intro X hX; go_simp; try with_reducible rfl) (fun _ _ _ h => h) hHeld ?_
   try simp only [Act.put, sA, s0, s1]
   refine tkH 9 146 (.int .i64 za) rfl rfl (by kernel_rfl) (by rfl) (by intro X hX; have hc := c1 X hX; go_simp; try with_reducible rfl) (fun _ _ _ h => h) hHeld ?_
   try simp only [Act.put, sA, s0, s1]
   refine tkH 10 147 (.pointer (some ⟨N, 9, none⟩)) rfl rfl (by kernel_rfl) (by rfl) (by intro X hX; go_simp; try with_reducible rfl) (fun _ _ _ h => h) hHeld ?_
   try simp only [Act.put, sA, s0, s1]
   refine tkH 11 148 (.string S) rfl rfl (by kernel_rfl) (by rfl) (by intro X hX; have hc := c9 X hX; go_simp; try with_reducible rfl) (fun _ _ _ h => h) hHeld ?_
   try simp only [Act.put, sA, s0, s1]
   refine wpAnyH_ready (rs := [5]) (by kernel_rfl) (by simp) ?_
   refine AllReadyH.cons (o := { dst := some 142, op := Op.call { callee := Callee.value (Operand.func 99), args := #[Operand.tmp 137, Operand.tmp 139, Operand.tmp 141], argTypes := #[25, 3, 9] }, type := 59, pos := "law.go:137", after := #[{ on := 0, ground := Ground.data }, { on := 2, ground := Ground.data }, { on := 4, ground := Ground.data }], guard := none }) rfl (fun Kx hK => ?_) AllReadyH.nil
   refine zah rfl 99 #[.tmp 137, .tmp 139, .tmp 141] #[25, 3, 9] rfl #[.pointer (some ⟨p, 0, none⟩), .int .i64 za, .string S] (by first | rfl | (simp [Act.eval]; done) | (simp [Act.eval, Act.put]; done)) (enter99 _ _) _ (hd _ wc.drew p hTD.d) ?_
   rintro e Y ⟨rfl, hDY, hKY⟩
   have hNY : Kept (fun k => k = N) wc Y := ((Kept.refl _ wc).drew).trans (hKY.mono fun k hk => .inl (by rw [hk]; exact HST.out.kn))
   refine ⟨_, rfl, hK.out _ _ hNY (fun hHeld2 => ?_)⟩
   clear hK Kx hHeld
   replace hHeld := hHeld2
   clear hHeld2
   try simp only [Act.put, sA, s0, s1]
   obtain ⟨hDY2, hRY, hKK⟩ := hTD.byD hKY hDY
   refine tkH 6 143 (.int .i64 z) rfl rfl (by kernel_rfl) (by rfl) (by intro X hX; exact zbe rfl (by simp [Act.eval]) hzb.1 hzb.2) (fun _ _ _ h => h) hHeld ?_
   try simp only [Act.put, sA, s0, s1]
   refine wpAnyH_ready (rs := [12]) (by kernel_rfl) (by simp) ?_
   refine AllReadyH.cons (o := { dst := some 149, op := Op.call { callee := Callee.value (Operand.func 100), args := #[Operand.tmp 144, Operand.tmp 146, Operand.tmp 148], argTypes := #[26, 3, 9] }, type := 3, pos := "law.go:137", after := #[{ on := 7, ground := Ground.data }, { on := 9, ground := Ground.data }, { on := 11, ground := Ground.data }, { on := 5, ground := Ground.chain }], guard := none }) rfl (fun Kx hK => ?_) AllReadyH.nil
   refine zah rfl 100 #[.tmp 144, .tmp 146, .tmp 148] #[26, 3, 9] rfl #[.pointer (some ⟨r, 0, none⟩), .int .i64 za, .string S] (by first | rfl | (simp [Act.eval]; done) | (simp [Act.eval, Act.put]; done)) (enter100 _ _) _ (hr2 _ Y r hRY) ?_
   rintro e Z ⟨rfl, hRZ, hKZ⟩
   have hNZ : Kept (fun k => k = N) wc Z := hHeld.trans (hKZ.mono fun k hk => .inl (by rw [hk]; exact HST.out.kn))
   refine ⟨_, rfl, hK.out _ _ hNZ (fun hHeld2 => ?_)⟩
   clear hK Kx hHeld
   replace hHeld := hHeld2
   clear hHeld2
   try simp only [Act.put, sA, s0, s1]
   obtain ⟨hT2, hKK2⟩ := Two.byR (M := M) (R := R) (G := G) hDY2 HST.out.two.nk hKZ hRZ
   have hfin := HFIN.out _ _ _ _ _ _ (((Kept.refl _ wc).drew).trans (hKK.trans hKK2)) hT2 hI' hG'
   refine tkH 13 150 (.bool true) rfl rfl (by kernel_rfl) (by rfl) (by intro X hX; go_simp; try with_reducible rfl) (fun _ _ _ h => h) hHeld ?_
   try simp only [Act.put, sA, s0, s1]
   refine tkH 14 7 (.bool true) rfl rfl (by kernel_rfl) (by rfl) (by intro X hX; go_simp; try with_reducible rfl) (fun _ _ _ h => h) hHeld ?_
   try simp only [Act.put, sA, s0, s1]
   refine wpAnyH_done (by kernel_rfl) ?_ _
   try simp only [Act.put]
   go_wp2
   go_ret
   exact hfin
  by_cases q12 : q = 12
  ·subst q12
   obtain ⟨z, M', rk', hI', hG', -, hzb, hd, hr2⟩ := zj8 HI.out hn5 za S (by omega)
   go_upto_region 22 with fail
   refine wp_region_held_drew (S := fun X => Kept (fun k => k = N) wc X) (by kernel_rfl) ((Kept.refl _ wc).drew) (fun hHeld => ?_)
   refine tkH 0 153 (.pointer (some ⟨p, 0, none⟩)) rfl rfl (by kernel_rfl) (by rfl) (by intro X hX; go_simp; try with_reducible rfl) (fun _ _ _ h => h) hHeld ?_
   try simp only [Act.put, sA, s0, s1]
   refine tkH 1 154 (.pointer (some ⟨N, 1, none⟩)) rfl rfl (by kernel_rfl) (by rfl) (by intro X hX; go_simp; try with_reducible rfl) (fun _ _ _ h => h) hHeld ?_
   try simp only [Act.put, sA, s0, s1]
   refine tkH 2 155 (.int .i64 za) rfl rfl (by kernel_rfl) (by rfl) (by intro X hX; have hc := c1 X hX; go_simp; try with_reducible rfl) (fun _ _ _ h => h) hHeld ?_
   try simp only [Act.put, sA, s0, s1]
   refine tkH 3 156 (.pointer (some ⟨N, 9, none⟩)) rfl rfl (by kernel_rfl) (by rfl) (by intro X hX; go_simp; try with_reducible rfl) (fun _ _ _ h => h) hHeld ?_
   try simp only [Act.put, sA, s0, s1]
   refine tkH 4 157 (.string S) rfl rfl (by kernel_rfl) (by rfl) (by intro X hX; have hc := c9 X hX; go_simp; try with_reducible rfl) (fun _ _ _ h => h) hHeld ?_
   try simp only [Act.put, sA, s0, s1]
   refine tkH 7 160 (.pointer (some ⟨r, 0, none⟩)) rfl rfl (by kernel_rfl) (by rfl) (by intro X hX; go_simp; try with_reducible rfl) (fun _ _ _ h => h) hHeld ?_
   try simp only [Act.put, sA, s0, s1]
   refine tkH 8 161 (.pointer (some ⟨N, 1, none⟩)) rfl rfl (by kernel_rfl) (by rfl) (by intro X hX; go_simp; try with_reducible rfl) (fun _ _ _ h => h) hHeld ?_
   try simp only [Act.put, sA, s0, s1]
   refine tkH 9 162 (.int .i64 za) rfl rfl (by kernel_rfl) (by rfl) (by intro X hX; have hc := c1 X hX; go_simp; try with_reducible rfl) (fun _ _ _ h => h) hHeld ?_
   try simp only [Act.put, sA, s0, s1]
   refine tkH 10 163 (.pointer (some ⟨N, 9, none⟩)) rfl rfl (by kernel_rfl) (by rfl) (by intro X hX; go_simp; try with_reducible rfl) (fun _ _ _ h => h) hHeld ?_
   try simp only [Act.put, sA, s0, s1]
   refine tkH 11 164 (.string S) rfl rfl (by kernel_rfl) (by rfl) (by intro X hX; have hc := c9 X hX; go_simp; try with_reducible rfl) (fun _ _ _ h => h) hHeld ?_
   try simp only [Act.put, sA, s0, s1]
   refine wpAnyH_ready (rs := [5]) (by kernel_rfl) (by simp) ?_
   refine AllReadyH.cons (o := { dst := some 158, op := Op.call { callee := Callee.value (Operand.func 101), args := #[Operand.tmp 153, Operand.tmp 155, Operand.tmp 157], argTypes := #[25, 3, 9] }, type := 59, pos := "law.go:139", after := #[{ on := 0, ground := Ground.data }, { on := 2, ground := Ground.data }, { on := 4, ground := Ground.data }], guard := none }) rfl (fun Kx hK => ?_) AllReadyH.nil
   refine zah rfl 101 #[.tmp 153, .tmp 155, .tmp 157] #[25, 3, 9] rfl #[.pointer (some ⟨p, 0, none⟩), .int .i64 za, .string S] (by first | rfl | (simp [Act.eval]; done) | (simp [Act.eval, Act.put]; done)) (enter101 _ _) _ (hd _ wc.drew p hTD.d) ?_
   rintro e Y ⟨rfl, hDY, hKY⟩
   have hNY : Kept (fun k => k = N) wc Y := ((Kept.refl _ wc).drew).trans (hKY.mono fun k hk => .inl (by rw [hk]; exact HST.out.kn))
   refine ⟨_, rfl, hK.out _ _ hNY (fun hHeld2 => ?_)⟩
   clear hK Kx hHeld
   replace hHeld := hHeld2
   clear hHeld2
   try simp only [Act.put, sA, s0, s1]
   obtain ⟨hDY2, hRY, hKK⟩ := hTD.byD hKY hDY
   refine tkH 6 159 (.int .i64 z) rfl rfl (by kernel_rfl) (by rfl) (by intro X hX; exact zbe rfl (by simp [Act.eval]) hzb.1 hzb.2) (fun _ _ _ h => h) hHeld ?_
   try simp only [Act.put, sA, s0, s1]
   refine wpAnyH_ready (rs := [12]) (by kernel_rfl) (by simp) ?_
   refine AllReadyH.cons (o := { dst := some 165, op := Op.call { callee := Callee.value (Operand.func 102), args := #[Operand.tmp 160, Operand.tmp 162, Operand.tmp 164], argTypes := #[26, 3, 9] }, type := 3, pos := "law.go:139", after := #[{ on := 7, ground := Ground.data }, { on := 9, ground := Ground.data }, { on := 11, ground := Ground.data }, { on := 5, ground := Ground.chain }], guard := none }) rfl (fun Kx hK => ?_) AllReadyH.nil
   refine zah rfl 102 #[.tmp 160, .tmp 162, .tmp 164] #[26, 3, 9] rfl #[.pointer (some ⟨r, 0, none⟩), .int .i64 za, .string S] (by first | rfl | (simp [Act.eval]; done) | (simp [Act.eval, Act.put]; done)) (enter102 _ _) _ (hr2 _ Y r hRY) ?_
   rintro e Z ⟨rfl, hRZ, hKZ⟩
   have hNZ : Kept (fun k => k = N) wc Z := hHeld.trans (hKZ.mono fun k hk => .inl (by rw [hk]; exact HST.out.kn))
   refine ⟨_, rfl, hK.out _ _ hNZ (fun hHeld2 => ?_)⟩
   clear hK Kx hHeld
   replace hHeld := hHeld2
   clear hHeld2
   try simp only [Act.put, sA, s0, s1]
   obtain ⟨hT2, hKK2⟩ := Two.byR (M := M) (R := R) (G := G) hDY2 HST.out.two.nk hKZ hRZ
   have hfin := HFIN.out _ _ _ _ _ _ (((Kept.refl _ wc).drew).trans (hKK.trans hKK2)) hT2 hI' hG'
   refine tkH 13 166 (.bool true) rfl rfl (by kernel_rfl) (by rfl) (by intro X hX; go_simp; try with_reducible rfl) (fun _ _ _ h => h) hHeld ?_
   try simp only [Act.put, sA, s0, s1]
   refine tkH 14 7 (.bool true) rfl rfl (by kernel_rfl) (by rfl) (by intro X hX; go_simp; try with_reducible rfl) (fun _ _ _ h => h) hHeld ?_
   try simp only [Act.put, sA, s0, s1]
   refine wpAnyH_done (by kernel_rfl) ?_ _
   try simp only [Act.put]
   go_wp2
   go_ret
   exact hfin
  by_cases q13 : q = 13
  ·subst q13
   obtain ⟨z, M', G', rk', hI', hG', -, hzb, hd, hr2⟩ := zhi HI.out hn5 za o'.l ln hln (by omega) A'.la A'.lc
   go_upto_region 25 with fail
   refine wp_region_held_drew (S := fun X => Kept (fun k => k = N) wc X) (by kernel_rfl) ((Kept.refl _ wc).drew) (fun hHeld => ?_)
   refine tkH 0 170 (.pointer (some ⟨p, 0, none⟩)) rfl rfl (by kernel_rfl) (by rfl) (by intro X hX; go_simp; try with_reducible rfl) (fun _ _ _ h => h) hHeld ?_
   try simp only [Act.put, sA, s0, s1]
   refine tkH 1 171 (.pointer (some ⟨N, 1, none⟩)) rfl rfl (by kernel_rfl) (by rfl) (by intro X hX; go_simp; try with_reducible rfl) (fun _ _ _ h => h) hHeld ?_
   try simp only [Act.put, sA, s0, s1]
   refine tkH 2 172 (.int .i64 za) rfl rfl (by kernel_rfl) (by rfl) (by intro X hX; have hc := c1 X hX; go_simp; try with_reducible rfl) (fun _ _ _ h => h) hHeld ?_
   try simp only [Act.put, sA, s0, s1]
   refine tkH 3 173 (.pointer (some ⟨N, 11, none⟩)) rfl rfl (by kernel_rfl) (by rfl) (by intro X hX; go_simp; try with_reducible rfl) (fun _ _ _ h => h) hHeld ?_
   try simp only [Act.put, sA, s0, s1]
   refine tkH 4 174 (.slice A'.la ln A'.lc) rfl rfl (by kernel_rfl) (by rfl) (by intro X hX; have hc := c11 X hX; go_simp; try with_reducible rfl) (fun _ _ _ h => h) hHeld ?_
   try simp only [Act.put, sA, s0, s1]
   refine tkH 7 177 (.pointer (some ⟨r, 0, none⟩)) rfl rfl (by kernel_rfl) (by rfl) (by intro X hX; go_simp; try with_reducible rfl) (fun _ _ _ h => h) hHeld ?_
   try simp only [Act.put, sA, s0, s1]
   refine tkH 8 178 (.pointer (some ⟨N, 1, none⟩)) rfl rfl (by kernel_rfl) (by rfl) (by intro X hX; go_simp; try with_reducible rfl) (fun _ _ _ h => h) hHeld ?_
   try simp only [Act.put, sA, s0, s1]
   refine tkH 9 179 (.int .i64 za) rfl rfl (by kernel_rfl) (by rfl) (by intro X hX; have hc := c1 X hX; go_simp; try with_reducible rfl) (fun _ _ _ h => h) hHeld ?_
   try simp only [Act.put, sA, s0, s1]
   refine tkH 10 180 (.pointer (some ⟨N, 11, none⟩)) rfl rfl (by kernel_rfl) (by rfl) (by intro X hX; go_simp; try with_reducible rfl) (fun _ _ _ h => h) hHeld ?_
   try simp only [Act.put, sA, s0, s1]
   refine tkH 11 181 (.slice A'.la ln A'.lc) rfl rfl (by kernel_rfl) (by rfl) (by intro X hX; have hc := c11 X hX; go_simp; try with_reducible rfl) (fun _ _ _ h => h) hHeld ?_
   try simp only [Act.put, sA, s0, s1]
   refine wpAnyH_ready (rs := [5]) (by kernel_rfl) (by simp) ?_
   refine AllReadyH.cons (o := { dst := some 175, op := Op.call { callee := Callee.value (Operand.func 103), args := #[Operand.tmp 170, Operand.tmp 172, Operand.tmp 174], argTypes := #[25, 3, 33] }, type := 59, pos := "law.go:141", after := #[{ on := 0, ground := Ground.data }, { on := 2, ground := Ground.data }, { on := 4, ground := Ground.data }], guard := none }) rfl (fun Kx hK => ?_) AllReadyH.nil
   refine zah rfl 103 #[.tmp 170, .tmp 172, .tmp 174] #[25, 3, 33] rfl #[.pointer (some ⟨p, 0, none⟩), .int .i64 za, .slice A'.la ln A'.lc] (by first | rfl | (simp [Act.eval]; done) | (simp [Act.eval, Act.put]; done)) (enter103 _ _) _ (hd _ wc.drew p hTD.d hzD) ?_
   rintro e Y ⟨rfl, hDY, hKY⟩
   have hNY : Kept (fun k => k = N) wc Y := ((Kept.refl _ wc).drew).trans (hKY.mono fun k hk => .inl (by rw [hk]; exact HST.out.kn))
   refine ⟨_, rfl, hK.out _ _ hNY (fun hHeld2 => ?_)⟩
   clear hK Kx hHeld
   replace hHeld := hHeld2
   clear hHeld2
   try simp only [Act.put, sA, s0, s1]
   obtain ⟨hDY2, hRY, hKK⟩ := hTD.byD hKY hDY
   have hzR : Zbo (TL K1 E Y) Y A'.la o'.l := HST.out.ints.kept (((Kept.refl _ wc).drew).trans hKK) (fun g hg => .inl hg)
   refine tkH 6 176 (.int .i64 z) rfl rfl (by kernel_rfl) (by rfl) (by intro X hX; exact zbe rfl (by simp [Act.eval]) hzb.1 hzb.2) (fun _ _ _ h => h) hHeld ?_
   try simp only [Act.put, sA, s0, s1]
   refine wpAnyH_ready (rs := [12]) (by kernel_rfl) (by simp) ?_
   refine AllReadyH.cons (o := { dst := some 182, op := Op.call { callee := Callee.value (Operand.func 104), args := #[Operand.tmp 177, Operand.tmp 179, Operand.tmp 181], argTypes := #[26, 3, 33] }, type := 3, pos := "law.go:141", after := #[{ on := 7, ground := Ground.data }, { on := 9, ground := Ground.data }, { on := 11, ground := Ground.data }, { on := 5, ground := Ground.chain }], guard := none }) rfl (fun Kx hK => ?_) AllReadyH.nil
   refine zah rfl 104 #[.tmp 177, .tmp 179, .tmp 181] #[26, 3, 33] rfl #[.pointer (some ⟨r, 0, none⟩), .int .i64 za, .slice A'.la ln A'.lc] (by first | rfl | (simp [Act.eval]; done) | (simp [Act.eval, Act.put]; done)) (enter104 _ _) _ (hr2 _ Y r hRY hzR) ?_
   rintro e Z ⟨rfl, hRZ, hKZ⟩
   have hNZ : Kept (fun k => k = N) wc Z := hHeld.trans (hKZ.mono fun k hk => .inl (by rw [hk]; exact HST.out.kn))
   refine ⟨_, rfl, hK.out _ _ hNZ (fun hHeld2 => ?_)⟩
   clear hK Kx hHeld
   replace hHeld := hHeld2
   clear hHeld2
   try simp only [Act.put, sA, s0, s1]
   obtain ⟨hT2, hKK2⟩ := Two.byR (M := M) (R := R) (G := G) hDY2 HST.out.two.nk hKZ hRZ
   have hfin := HFIN.out _ _ _ _ _ _ (((Kept.refl _ wc).drew).trans (hKK.trans hKK2)) hT2 hI' hG'
   refine tkH 13 183 (.bool true) rfl rfl (by kernel_rfl) (by rfl) (by intro X hX; go_simp; try with_reducible rfl) (fun _ _ _ h => h) hHeld ?_
   try simp only [Act.put, sA, s0, s1]
   refine tkH 14 7 (.bool true) rfl rfl (by kernel_rfl) (by rfl) (by intro X hX; go_simp; try with_reducible rfl) (fun _ _ _ h => h) hHeld ?_
   try simp only [Act.put, sA, s0, s1]
   refine wpAnyH_done (by kernel_rfl) ?_ _
   try simp only [Act.put]
   go_wp2
   go_ret
   exact hfin
  by_cases q14 : q = 14
  ·subst q14
   obtain ⟨z, M', G', rk', hI', hG', -, hzb, hd, hr2⟩ := zhi HI.out hn5 za o'.l ln hln (by omega) A'.la A'.lc
   go_upto_region 25 with fail
   refine wp_region_held_drew (S := fun X => Kept (fun k => k = N) wc X) (by kernel_rfl) ((Kept.refl _ wc).drew) (fun hHeld => ?_)
   refine tkH 0 170 (.pointer (some ⟨p, 0, none⟩)) rfl rfl (by kernel_rfl) (by rfl) (by intro X hX; go_simp; try with_reducible rfl) (fun _ _ _ h => h) hHeld ?_
   try simp only [Act.put, sA, s0, s1]
   refine tkH 1 171 (.pointer (some ⟨N, 1, none⟩)) rfl rfl (by kernel_rfl) (by rfl) (by intro X hX; go_simp; try with_reducible rfl) (fun _ _ _ h => h) hHeld ?_
   try simp only [Act.put, sA, s0, s1]
   refine tkH 2 172 (.int .i64 za) rfl rfl (by kernel_rfl) (by rfl) (by intro X hX; have hc := c1 X hX; go_simp; try with_reducible rfl) (fun _ _ _ h => h) hHeld ?_
   try simp only [Act.put, sA, s0, s1]
   refine tkH 3 173 (.pointer (some ⟨N, 11, none⟩)) rfl rfl (by kernel_rfl) (by rfl) (by intro X hX; go_simp; try with_reducible rfl) (fun _ _ _ h => h) hHeld ?_
   try simp only [Act.put, sA, s0, s1]
   refine tkH 4 174 (.slice A'.la ln A'.lc) rfl rfl (by kernel_rfl) (by rfl) (by intro X hX; have hc := c11 X hX; go_simp; try with_reducible rfl) (fun _ _ _ h => h) hHeld ?_
   try simp only [Act.put, sA, s0, s1]
   refine tkH 7 177 (.pointer (some ⟨r, 0, none⟩)) rfl rfl (by kernel_rfl) (by rfl) (by intro X hX; go_simp; try with_reducible rfl) (fun _ _ _ h => h) hHeld ?_
   try simp only [Act.put, sA, s0, s1]
   refine tkH 8 178 (.pointer (some ⟨N, 1, none⟩)) rfl rfl (by kernel_rfl) (by rfl) (by intro X hX; go_simp; try with_reducible rfl) (fun _ _ _ h => h) hHeld ?_
   try simp only [Act.put, sA, s0, s1]
   refine tkH 9 179 (.int .i64 za) rfl rfl (by kernel_rfl) (by rfl) (by intro X hX; have hc := c1 X hX; go_simp; try with_reducible rfl) (fun _ _ _ h => h) hHeld ?_
   try simp only [Act.put, sA, s0, s1]
   refine tkH 10 180 (.pointer (some ⟨N, 11, none⟩)) rfl rfl (by kernel_rfl) (by rfl) (by intro X hX; go_simp; try with_reducible rfl) (fun _ _ _ h => h) hHeld ?_
   try simp only [Act.put, sA, s0, s1]
   refine tkH 11 181 (.slice A'.la ln A'.lc) rfl rfl (by kernel_rfl) (by rfl) (by intro X hX; have hc := c11 X hX; go_simp; try with_reducible rfl) (fun _ _ _ h => h) hHeld ?_
   try simp only [Act.put, sA, s0, s1]
   refine wpAnyH_ready (rs := [5]) (by kernel_rfl) (by simp) ?_
   refine AllReadyH.cons (o := { dst := some 175, op := Op.call { callee := Callee.value (Operand.func 103), args := #[Operand.tmp 170, Operand.tmp 172, Operand.tmp 174], argTypes := #[25, 3, 33] }, type := 59, pos := "law.go:141", after := #[{ on := 0, ground := Ground.data }, { on := 2, ground := Ground.data }, { on := 4, ground := Ground.data }], guard := none }) rfl (fun Kx hK => ?_) AllReadyH.nil
   refine zah rfl 103 #[.tmp 170, .tmp 172, .tmp 174] #[25, 3, 33] rfl #[.pointer (some ⟨p, 0, none⟩), .int .i64 za, .slice A'.la ln A'.lc] (by first | rfl | (simp [Act.eval]; done) | (simp [Act.eval, Act.put]; done)) (enter103 _ _) _ (hd _ wc.drew p hTD.d hzD) ?_
   rintro e Y ⟨rfl, hDY, hKY⟩
   have hNY : Kept (fun k => k = N) wc Y := ((Kept.refl _ wc).drew).trans (hKY.mono fun k hk => .inl (by rw [hk]; exact HST.out.kn))
   refine ⟨_, rfl, hK.out _ _ hNY (fun hHeld2 => ?_)⟩
   clear hK Kx hHeld
   replace hHeld := hHeld2
   clear hHeld2
   try simp only [Act.put, sA, s0, s1]
   obtain ⟨hDY2, hRY, hKK⟩ := hTD.byD hKY hDY
   have hzR : Zbo (TL K1 E Y) Y A'.la o'.l := HST.out.ints.kept (((Kept.refl _ wc).drew).trans hKK) (fun g hg => .inl hg)
   refine tkH 6 176 (.int .i64 z) rfl rfl (by kernel_rfl) (by rfl) (by intro X hX; exact zbe rfl (by simp [Act.eval]) hzb.1 hzb.2) (fun _ _ _ h => h) hHeld ?_
   try simp only [Act.put, sA, s0, s1]
   refine wpAnyH_ready (rs := [12]) (by kernel_rfl) (by simp) ?_
   refine AllReadyH.cons (o := { dst := some 182, op := Op.call { callee := Callee.value (Operand.func 104), args := #[Operand.tmp 177, Operand.tmp 179, Operand.tmp 181], argTypes := #[26, 3, 33] }, type := 3, pos := "law.go:141", after := #[{ on := 7, ground := Ground.data }, { on := 9, ground := Ground.data }, { on := 11, ground := Ground.data }, { on := 5, ground := Ground.chain }], guard := none }) rfl (fun Kx hK => ?_) AllReadyH.nil
   refine zah rfl 104 #[.tmp 177, .tmp 179, .tmp 181] #[26, 3, 33] rfl #[.pointer (some ⟨r, 0, none⟩), .int .i64 za, .slice A'.la ln A'.lc] (by first | rfl | (simp [Act.eval]; done) | (simp [Act.eval, Act.put]; done)) (enter104 _ _) _ (hr2 _ Y r hRY hzR) ?_
   rintro e Z ⟨rfl, hRZ, hKZ⟩
   have hNZ : Kept (fun k => k = N) wc Z := hHeld.trans (hKZ.mono fun k hk => .inl (by rw [hk]; exact HST.out.kn))
   refine ⟨_, rfl, hK.out _ _ hNZ (fun hHeld2 => ?_)⟩
   clear hK Kx hHeld
   replace hHeld := hHeld2
   clear hHeld2
   try simp only [Act.put, sA, s0, s1]
   obtain ⟨hT2, hKK2⟩ := Two.byR (M := M) (R := R) (G := G) hDY2 HST.out.two.nk hKZ hRZ
   have hfin := HFIN.out _ _ _ _ _ _ (((Kept.refl _ wc).drew).trans (hKK.trans hKK2)) hT2 hI' hG'
   refine tkH 13 183 (.bool true) rfl rfl (by kernel_rfl) (by rfl) (by intro X hX; go_simp; try with_reducible rfl) (fun _ _ _ h => h) hHeld ?_
   try simp only [Act.put, sA, s0, s1]
   refine tkH 14 7 (.bool true) rfl rfl (by kernel_rfl) (by rfl) (by intro X hX; go_simp; try with_reducible rfl) (fun _ _ _ h => h) hHeld ?_
   try simp only [Act.put, sA, s0, s1]
   refine wpAnyH_done (by kernel_rfl) ?_ _
   try simp only [Act.put]
   go_wp2
   go_ret
   exact hfin
  by_cases q9 : q = 9
  ·subst q9
   obtain ⟨v, z, M', R', G', rk', hI', hG', -, hzb, hd, hr2⟩ := znb HI.out hn5 HLIM.out za o'.f
   obtain ⟨fg, hfg⟩ : ∃ fg, o'.f = fg := ⟨_, rfl⟩
   rw [hfg] at hd hr2
   have b1 := c1 wc (Kept.refl _ _)
   have f0 : wc.cell? ⟨N, 12, none⟩ = some (.bool fg.a) := by rw [<- hfg]; exact CN.out 12 _ rfl wc (Kept.refl _ _)
   have f1 : wc.cell? ⟨N, 13, none⟩ = some (.bool fg.b) := by rw [<- hfg]; exact CN.out 13 _ rfl wc (Kept.refl _ _)
   have f2 : wc.cell? ⟨N, 14, none⟩ = some (.bool fg.c) := by rw [<- hfg]; exact CN.out 14 _ rfl wc (Kept.refl _ _)
   have f3 : wc.cell? ⟨N, 15, none⟩ = some (.bool fg.d) := by rw [<- hfg]; exact CN.out 15 _ rfl wc (Kept.refl _ _)
   have f4 : wc.cell? ⟨N, 16, none⟩ = some (.bool fg.e) := by rw [<- hfg]; exact CN.out 16 _ rfl wc (Kept.refl _ _)
   have hd1 := hd _ wc p HST.out.two.d
   clear hTD hzD c1 c2 c3 c9 c10 c11
   go_wp2_with fail
   refine hd1.mono ?_
   rintro e Y ⟨rfl, hDY, hKY⟩
   obtain ⟨hDY2, hRY, hKK⟩ := HST.out.two.byD hKY hDY
   have g1 : Y.cell? ⟨N, 1, none⟩ = some (.int .i64 za) := (hKK.cell (p := ⟨N, 1, none⟩) HST.out.kn).trans b1
   have g12 : Y.cell? ⟨N, 12, none⟩ = some (.bool fg.a) := (hKK.cell (p := ⟨N, 12, none⟩) HST.out.kn).trans f0
   have g13 : Y.cell? ⟨N, 13, none⟩ = some (.bool fg.b) := (hKK.cell (p := ⟨N, 13, none⟩) HST.out.kn).trans f1
   have g14 : Y.cell? ⟨N, 14, none⟩ = some (.bool fg.c) := (hKK.cell (p := ⟨N, 14, none⟩) HST.out.kn).trans f2
   have g15 : Y.cell? ⟨N, 15, none⟩ = some (.bool fg.d) := (hKK.cell (p := ⟨N, 15, none⟩) HST.out.kn).trans f3
   have g16 : Y.cell? ⟨N, 16, none⟩ = some (.bool fg.e) := (hKK.cell (p := ⟨N, 16, none⟩) HST.out.kn).trans f4
   have hr1 := hr2 _ Y r hRY
   have HKK : Hid (Kept K1 wc Y) := hKK
   have HDY : Hid (DX (TK K1 E) Y p M') := hDY2
   clear hd1 hd hKY hDY hKK hDY2 b1 f0 f1 f2 f3 f4 hr2 hRY
   go_wp2_with fail
   refine hr1.mono ?_
   rintro e Z ⟨rfl, hRZ, hKZ⟩
   obtain ⟨hT2, hKK2⟩ := Two.byR (M := M) (R := R) (G := G) HDY.out HST.out.two.nk hKZ hRZ
   have HF : Hid (Zfp o.k K p r M w (.returned (.int .i64 1)) Z) := HFINR.out _ _ _ _ _ _ (HKK.out.trans hKK2) hT2 hI' hG' HQ9.out
   have hcv : ∀ X, (convert 59 3 (.int .u16 z)).run Tryz.prog X = .ok (.int .i64 z) X := fun X => zdc z X hzb.1 hzb.2
   clear hr1 hRZ hKZ hT2 hKK2 g1 g12 g13 g14 g15 g16
   go_wp2
   go_ret
   exact HF.out
  by_cases q15 : q = 15
  ·subst q15
   have HF : Hid (Zfp o.k K p r M w (.returned (.int .i64 1)) wc) := HFIN.out _ _ _ _ _ _ (Kept.refl _ _) HST.out.two HI.out (Zc2.refl M)
   clear hTD hzD c1 c2 c3 c9 c10 c11
   go_wp2
   go_ret
   exact HF.out
  have n5 : ((q : Int) == 5) = false := by simp; omega
  have n6 : ((q : Int) == 6) = false := by simp; omega
  have n7 : ((q : Int) == 7) = false := by simp; omega
  have n8 : ((q : Int) == 8) = false := by simp; omega
  have n9 : ((q : Int) == 9) = false := by simp; omega
  have n10 : ((q : Int) == 10) = false := by simp; omega
  have n11 : ((q : Int) == 11) = false := by simp; omega
  have n12 : ((q : Int) == 12) = false := by simp; omega
  have n13 : ((q : Int) == 13) = false := by simp; omega
  have n14 : ((q : Int) == 14) = false := by simp; omega
  have n15 : ((q : Int) == 15) = false := by simp; omega
  obtain ⟨m5, hm5⟩ : ∃ m5 : Array Value, #[.int .u8 (o'.nk : Int), .string o'.nn, .string o'.nd, .slice A'.aa o'.ats.length A'.ac] = m5 := ⟨_, rfl⟩
  have hnn : o'.nn.size <= 900000 := by have := HVY.out; unfold opH at this; rw [HWI.out.2.2.2.1]; omega
  have hnk : o'.nk < 256 := by rw [HWI.out.2.2.1]; exact HOK.out.nk
  have hah : zcx o'.ats <= 900000 := by have := HVY.out; unfold opH at this; rw [HWI.out.2.2.2.2.2.1]; omega
  have rn : ∀ X, Calls Tryz.prog 105 #[.agg #[.int .u8 (o'.nk : Int), .string o'.nn, .string o'.nd, .slice A'.aa o'.ats.length A'.ac], .bool o'.inn] X fun e w' => e = .returned (.agg (zar (o'.nKind : Int) o'.nName o'.nData (A'.nAa o') o'.nAts.length (A'.nAc o'))) /\ Kept (fun j => j < X.heap.size) X w' := fun X => by
   cases hi : o'.inn with
   | false => rw [<- hi]; exact zpf o' A' hi X
   | true => rw [<- hi]; exact zqo o' A' hi hnk (by omega) X
  obtain ⟨nKd, hnKd⟩ : ∃ z, o'.nKind = z := ⟨_, rfl⟩
  obtain ⟨nNm, hnNm⟩ : ∃ z, o'.nName = z := ⟨_, rfl⟩
  obtain ⟨nDt, hnDt⟩ : ∃ z, o'.nData = z := ⟨_, rfl⟩
  obtain ⟨nAt, hnAt⟩ : ∃ z, o'.nAts = z := ⟨_, rfl⟩
  obtain ⟨nAa, hnAa⟩ : ∃ z, A'.nAa o' = z := ⟨_, rfl⟩
  obtain ⟨nAc, hnAc⟩ : ∃ z, A'.nAc o' = z := ⟨_, rfl⟩
  obtain ⟨nLn, hnLn⟩ : ∃ z, nAt.length = z := ⟨_, rfl⟩
  have hnS : nNm.size < 1000000 := by
   rw [<- hnNm]
   exact Nat.lt_of_le_of_lt (zkm o') (by omega)
  have hatk : Zag K1 wc nAa nAt /\ nAt.length <= nAc /\ zcx nAt <= 900000 := by
   rw [<- hnAa, <- hnAt, <- hnAc]
   unfold Opx.nAts OpA.nAa OpA.nAc
   cases hi : o'.inn with
   | false => exact ⟨by simpa using HST.out.ats, by simpa using HST.out.al, by simpa using hah⟩
   | true => exact ⟨by simpa using Zag.nil _ _ _, by simp, by simp [zcx]⟩
  have hsz5 : ∀ x ∈ nAt, x.name.length < 1000000 /\ x.value.length < 1000000 := fun x hx => by have := zoc hx; omega
  have hOkd : Okd (Mk.nd ⟨nKd, nNm.toList, nDt.toList, nAt⟩) := by
   have hi : o'.inn = true := by rw [HWI.out.2.1]; exact HII.out
   refine ⟨?_, fun h => ?_, fun _ => rfl⟩
   ·show nDt.toList.length < 1000000
    rw [show nDt.toList.length = nDt.size from by rw [ByteArray.toList_eq]; rfl, <- hnDt]
    have hnd : o'.nd.size <= 900000 := by have := HVY.out; unfold opH at this; rw [HWI.out.2.2.2.2.1]; omega
    unfold Opx.nData
    split
    ·omega
    ·split
     ·omega
     ·exact Nat.lt_of_le_of_lt (Nat.le_refl 0) (by decide)
   ·have h' : o'.nKind = 1 := by rw [hnKd]; exact h
    show nNm.toList ∈ zhp
    rw [<- hnNm]
    exact zom hi h'
  obtain ⟨v, z, M', R', G', rk', hI', hG', -, hzb, hd, hr2⟩ := zmz HI.out hn5 HLIM.out nKd nNm nDt nAt nLn hnLn (by have := zjv nAt; omega) hsz5 hnS hOkd nAa nAc (by rw [<- hnLn]; exact hatk.2.1)
  rw [hnKd, hnNm, hnDt, hnAt, hnAa, hnAc, hnLn] at rn
  have d5 : ∀ X, Kept (fun k => k = N) wc X -> X.cell? ⟨N, 5, none⟩ = some (.int .u8 (o'.nk : Int)) := CN.out 5 _ rfl
  have d6 : ∀ X, Kept (fun k => k = N) wc X -> X.cell? ⟨N, 6, none⟩ = some (.string o'.nn) := CN.out 6 _ rfl
  have d7 : ∀ X, Kept (fun k => k = N) wc X -> X.cell? ⟨N, 7, none⟩ = some (.string o'.nd) := CN.out 7 _ rfl
  have d8 : ∀ X, Kept (fun k => k = N) wc X -> X.cell? ⟨N, 8, none⟩ = some (.slice A'.aa o'.ats.length A'.ac) := CN.out 8 _ rfl
  have d4 : ∀ X, Kept (fun k => k = N) wc X -> X.cell? ⟨N, 4, none⟩ = some (.bool o'.inn) := CN.out 4 _ rfl
  obtain ⟨i4, hi4⟩ : ∃ z, o'.inn = z := ⟨_, rfl⟩
  obtain ⟨k5, hk5⟩ : ∃ z, o'.nk = z := ⟨_, rfl⟩
  obtain ⟨n6, hn6⟩ : ∃ z, o'.nn = z := ⟨_, rfl⟩
  obtain ⟨n7, hn7⟩ : ∃ z, o'.nd = z := ⟨_, rfl⟩
  obtain ⟨n8, hn8⟩ : ∃ z, o'.ats.length = z := ⟨_, rfl⟩
  rw [hi4, hk5, hn6, hn7, hn8] at rn
  rw [hk5] at d5
  rw [hn6] at d6
  rw [hn7] at d7
  rw [hn8] at d8
  rw [hi4] at d4
  have RN : Hid (∀ X, Calls Tryz.prog 105 #[.agg #[.int .u8 (k5 : Int), .string n6, .string n7, .slice A'.aa n8 A'.ac], .bool i4] X fun e w' => e = .returned (.agg (zar (nKd : Int) nNm nDt nAa nLn nAc)) /\ Kept (fun j => j < X.heap.size) X w') := rn
  have a5 := d5 wc (Kept.refl _ _)
  have a6 := d6 wc (Kept.refl _ _)
  have a7 := d7 wc (Kept.refl _ _)
  have a8 := d8 wc (Kept.refl _ _)
  have a4 := d4 wc (Kept.refl _ _)
  have HD5 : Hid (∀ X, Kept (fun k => k = N) wc X -> X.cell? ⟨N, 5, none⟩ = some (.int .u8 (k5 : Int))) := d5
  have HD6 : Hid (∀ X, Kept (fun k => k = N) wc X -> X.cell? ⟨N, 6, none⟩ = some (.string n6)) := d6
  have HD7 : Hid (∀ X, Kept (fun k => k = N) wc X -> X.cell? ⟨N, 7, none⟩ = some (.string n7)) := d7
  have HD8 : Hid (∀ X, Kept (fun k => k = N) wc X -> X.cell? ⟨N, 8, none⟩ = some (.slice A'.aa n8 A'.ac)) := d8
  have HD4 : Hid (∀ X, Kept (fun k => k = N) wc X -> X.cell? ⟨N, 4, none⟩ = some (.bool i4)) := d4
  have HAT : Hid (Zag K1 wc nAa nAt) := hatk.1
  have HDD : Hid (∀ K w p, DX K w p M -> Zag (fun k => k < w.heap.size) w nAa nAt -> Calls Tryz.prog 68 #[.pointer (some ⟨p, 0, none⟩), .agg (zar (nKd : Int) nNm nDt nAa nLn nAc)] w fun e w' => e = .returned (.tuple #[.int .i64 v, .int .u16 z]) /\ DX K w' p M' /\ Kept K w w') := hd
  have HRR : Hid (∀ K w p, RX K TT w p M R G -> Zag (fun k => k < w.heap.size) w nAa nAt -> Calls Tryz.prog 106 #[.pointer (some ⟨p, 0, none⟩), .agg (zar (nKd : Int) nNm nDt nAa nLn nAc)] w fun e w' => e = .returned (.tuple #[.int .i64 v, .int .i64 z]) /\ RX K TT w' p M' R' G' /\ Kept K w w') := hr2
  clear hTD hzD c1 c2 c3 c9 c10 c11 rn d4 d5 d6 d7 d8 hatk hsz5 hm5 hd hr2 hnKd hnNm hnDt hnAt hnAa hnAc hnLn hi4 hk5 hn6 hn7 hn8 hah hnn hnk hnS
  go_wp2_with fail
  refine (RN.out _).mono ?_
  rintro e X1 ⟨rfl, k1⟩
  have hT1 := HST.out.two.kept k1
  have hA1 : Zag (fun k => k < X1.heap.size) X1 nAa nAt := HAT.out.kept (k1.mono HST.out.two.lt) (fun g hg => ltl (HST.out.two.lt g hg) k1.size)
  have hd1 := HDD.out _ X1 p hT1.d hA1
  have K1X : Hid (Kept K1 wc X1) := k1.mono HST.out.two.lt
  have HT1 : Hid (Two K1 E X1 p r M R G) := hT1
  clear k1 hT1 hA1 a4 a5 a6 a7 a8
  go_wp2_with fail
  refine hd1.mono ?_
  rintro e Y ⟨rfl, hDY, hKY⟩
  obtain ⟨hDY2, hRY, hKK⟩ := HT1.out.byD hKY hDY
  have hY0 : Kept K1 wc Y := K1X.out.trans hKK
  have hYN : Kept (fun k => k = N) wc Y := hY0.mono fun k hk => by rw [hk]; exact HST.out.kn
  have b5 := HD5.out Y hYN
  have b6 := HD6.out Y hYN
  have b7 := HD7.out Y hYN
  have b8 := HD8.out Y hYN
  have b4 := HD4.out Y hYN
  have HY0 : Hid (Kept K1 wc Y) := hY0
  have HDY : Hid (DX (TK K1 E) Y p M') := hDY2
  have HRY : Hid (RX (TL K1 E Y) TT Y r M R G) := hRY
  clear hd1 hKY hDY hDY2 hRY hKK hY0 hYN
  go_wp2_with fail
  refine (RN.out _).mono ?_
  rintro e X2 ⟨rfl, k2⟩
  have hR2 : RX (TL K1 E Y) TT X2 r M R G := HRY.out.kept k2
  have hD2 : DX (TK K1 E) X2 p M' := HDY.out.kept k2
  have hA2 : Zag (fun k => k < X2.heap.size) X2 nAa nAt := HAT.out.kept (HY0.out.trans (k2.mono fun k hk => ltl (HST.out.two.lt k hk) HY0.out.size)) (fun g hg => ltl (HST.out.two.lt g hg) (Nat.le_trans HY0.out.size k2.size))
  have hTL : ∀ k, k < Y.heap.size -> TL K1 E X2 k -> TL K1 E Y k := fun k hk hh => by
   rcases hh with hh | hh
   ·exact .inl hh
   ·exact .inr ⟨hk, hh.2⟩
  have hR3 : RX (TL K1 E X2) TT X2 r M R G := HRY.out.move (fun g hg _ => k2.block g hg) k2.size hTL (fun k hh => by
   rcases hh with hh | hh
   ·exact ltl (HST.out.two.lt k hh) (Nat.le_trans HY0.out.size k2.size)
   ·exact hh.1)
  have hr1 := HRR.out _ X2 r hR3 hA2
  have HX2 : Hid (Kept K1 wc X2) := HY0.out.trans (k2.mono fun k hk => ltl (HST.out.two.lt k hk) HY0.out.size)
  have HD2 : Hid (DX (TK K1 E) X2 p M') := hD2
  clear k2 hR2 hD2 hA2 hTL hR3 b4 b5 b6 b7 b8
  go_wp2_with fail
  refine hr1.mono ?_
  rintro e Z ⟨rfl, hRZ, hKZ⟩
  obtain ⟨hT2, hKK2⟩ := Two.byR (M := M) (R := R) (G := G) HD2.out HST.out.two.nk hKZ hRZ
  have HF : Hid (Zfp o.k K p r M w (.returned (.int .i64 1)) Z) := HFIN.out _ _ _ _ _ _ (HX2.out.trans hKK2) hT2 hI' hG'
  have hcv : ∀ X, (convert 59 3 (.int .u16 z)).run Tryz.prog X = .ok (.int .i64 z) X := fun X => zdc z X hzb.1 hzb.2
  clear hr1 hRZ hKZ hT2 hKK2
  go_wp2
  go_ret
  exact HF.out
end
section
open Go.RowKit Go.Sort
structure Grown (K E : Nat -> Prop) (w : World) (p r : Nat) (M : Dm) (R G : Nat -> List Nat) (rk : Nat -> Nat) (lim : Nat) : Prop where
 two : Two K E w p r M R G
 inv : Inv M R G rk
 lim : M.limit = lim
 le : M.n <= M.limit
theorem Grown.kept {K E : Nat -> Prop} {w w' : World} {p r : Nat} {M : Dm} {R G : Nat -> List Nat} {rk : Nat -> Nat} {lim : Nat} (h : Grown K E w p r M R G rk lim) (hk : Kept (fun k => k < w.heap.size) w w') : Grown K E w' p r M R G rk lim :=
 ⟨h.two.kept hk, h.inv, h.lim, h.le⟩
theorem zqm {w w1 w2 : World} {p r lim : Nat} (h1 : DX (fun k => k < w.heap.size) w1 p (Dm.new lim)) (k1 : Kept (fun k => k < w.heap.size) w w1) (h2 : RX (fun k => k < w1.heap.size) TT w2 r (Dm.new lim) (fun _ => []) (fun _ => [])) (k2 : Kept (fun k => k < w1.heap.size) w1 w2) :
  Two (fun k => k < w.heap.size) (fun k => w1.heap.size <= k /\ k < w2.heap.size) w2 p r (Dm.new lim) (fun _ => []) (fun _ => []) := by
 have s1 := k1.size
 have s2 := k2.size
 refine ⟨h1.move (fun g hg _ => k2.block g hg) (fun k hl hh => ?_) (fun k hh => ?_), h2.more (Kept.refl _ _) (fun k hh => .inl ?_) (fun k hh => ?_), fun k he hk => ?_⟩
 ·rcases hh with hh | hh
  ·exact hh
  ·omega
 ·rcases hh with hh | hh
  ·exact ltl hh (Nat.le_trans s1 s2)
  ·exact hh.2
 ·rcases hh with hh | ⟨hh, hn⟩
  ·exact ltl hh s1
  ·exact Nat.lt_of_not_le fun hl => hn ⟨hl, hh⟩
 ·rcases hh with hh | hh
  ·exact ltl hh (Nat.le_trans s1 s2)
  ·exact hh.1
 ·omega
end
section
open Go.RowKit
theorem Grown.len {K E : Nat -> Prop} {w : World} {p r : Nat} {M : Dm} {R G : Nat -> List Nat} {rk : Nat -> Nat} {lim : Nat} (h : Grown K E w p r M R G rk lim) {X : World} (hk : Kept (fun k => k < w.heap.size) w X) :
  Calls Tryz.prog 15 #[.pointer (some ⟨p, 0, none⟩)] X fun e w' => e = .returned (.int .i64 (M.n : Int)) /\ w' = X := by
 obtain ⟨ga, cap, hY⟩ := h.two.d.kept hk
 exact zi0 p M.n cap ga X hY.c1
theorem zo8 : ∀ (n : Nat) (l : List Nat), l.Nodup -> (∀ i ∈ l, i < n) -> l.length <= n := by
 intro n
 induction n with
 | zero =>
  intro l _ hl
  cases l with
  | nil => exact Nat.le_refl _
  | cons x r => exact absurd (hl x (List.mem_cons_self ..)) (Nat.not_lt_zero _)
 | succ n ih =>
  intro l hn hl
  have h1 := ih (l.erase n) (hn.erase n) (fun i hi => by
   have a := hl i (List.mem_of_mem_erase hi)
   have b : i ≠ n := fun e => by
    subst e
    exact (List.Nodup.not_mem_erase hn) hi
   omega)
  have h2 : l.length <= (l.erase n).length + 1 := by
   by_cases hm : n ∈ l
   ·rw [List.length_erase_of_mem hm]; omega
   ·rw [List.erase_of_not_mem hm]; omega
  omega
end
end Go.Proofs.YtfeinppedejlpaaGreat
