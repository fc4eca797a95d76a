/-
 The document's own Make.; What stays true of a document, whatever is called (pure).; What stays true: templates, shadow roots, putting in, taking out, attributes, data, gifts (pure).; Two documents side by side: the program's and the document's own, over the same nodes.
-/
import Derived.Test.YtfeinppedejlpaaGreatNW20
import Derived.Test.YtfeinppedejlpaaGreatNB06
import Derived.Test.YtfeinppedejlpaaGreatNW22
import Derived.Test.YtfeinppedejlpaaGreatNW21
import Derived.BigQuiet
namespace Go.Proofs.YtfeinppedejlpaaGreat
variable {J : Nat -> Prop}
set_option linter.unusedVariables false
set_option maxRecDepth 100000
set_option maxHeartbeats 8000000
section
open Go.RowKit Go.Sort
abbrev zcw : List UInt8 := [116, 101, 109, 112, 108, 97, 116, 101]
inductive RMakes (K J : Nat -> Prop) (p : Nat) (M : Dm) (R G : Nat -> List Nat) (x : Mk) (e : Ending) (w' : World) : Prop
 | arg : zat x = false -> e = .returned (.tuple #[.int .i64 0, .int .i64 1]) -> RX K J w' p M R G -> RMakes K J p M R G x e w'
 | full : zat x = true -> M.limit < M.n + (if x.kind = 1 /\ x.name = zcw then 2 else 1) -> e = .returned (.tuple #[.int .i64 0, .int .i64 3]) -> RX K J w' p M R G -> RMakes K J p M R G x e w'
 | two : zat x = true -> (x.kind = 1 /\ x.name = zcw) -> M.n + 2 <= M.limit -> e = .returned (.tuple #[.int .i64 (M.n : Int), .int .i64 0]) -> RX K J w' p (M.addT x.nd) (zax (zax R M.n []) (M.n + 1) []) (zax (zax G M.n []) (M.n + 1) []) -> RMakes K J p M R G x e w'
 | one : zat x = true -> ¬ (x.kind = 1 /\ x.name = zcw) -> M.n + 1 <= M.limit -> e = .returned (.tuple #[.int .i64 (M.n : Int), .int .i64 0]) -> RX K J w' p (M.add x.nd) (zax R M.n []) (zax G M.n []) -> RMakes K J p M R G x e w'
theorem enter176 (args : Array Value) (X : World) : (callFunc 176 args).run Tryz.prog X = .ok (.enter 176 args) X := za0 Tryz.func176 (by kernel_rfl) (c := _) rfl args X
theorem enter91 (args : Array Value) (X : World) : (callFunc 91 args).run Tryz.prog X = .ok (.enter 91 args) X := za0 Tryz.func91 (by kernel_rfl) (c := _) rfl args X
theorem zn7 (S D : List UInt8) (l : List Atr) : zat ⟨5, S, D, l⟩ = false := by
 rw [zfa 5 (by decide) (by decide)]
 simp [za7, zbb, zbc]
theorem zfs (kd : Nat) (S D : ByteArray) (ao : Option Addr) (n c : Nat) : Tryz.prog.built 58 [(0, .int .u8 (kd : Int)), (1, .string S), (2, .string D), (3, .slice ao n c)] = some (rV (kd : Int) S D ao n c 0 none 0 0 0 0 0 ⟨false, false, false, false, false⟩) := by kernel_rfl
theorem zpe (K : Nat -> Prop) (p : Nat) (kd : Nat) (S D : ByteArray) (l : List Atr) (aa : Option Addr) (n ac : Nat) (w : World) (M : Dm) (R G : Nat -> List Nat) (hX : RX K J w p M R G) (hMn : M.n <= 100000) (hML : M.limit <= 100000) (hln : l.length = n) (hn : n <= 1000000) (hac : n <= ac) (ha : Zag (fun k => k < w.heap.size) w aa l) (hsz : ∀ x ∈ l, x.name.length < 1000000) (hS : S.size < 1000000) (hs : zat ⟨kd, S.toList, D.toList, l⟩ = true) (tm : Bool) (htm : (decide (kd = 1) && S.toList == zcw) = tm) :
  Calls Tryz.prog 106 #[.pointer (some ⟨p, 0, none⟩), .agg (rV (kd : Int) S D aa n ac 0 none 0 0 0 0 0 ⟨false, false, false, false, false⟩)] w fun e w' => Kept K w w' /\ (if tm = true then ((M.n + 2 <= M.limit /\ e = .returned (.tuple #[.int .i64 (M.n : Int), .int .i64 0]) /\ RX K J w' p (M.addT (Mk.nd ⟨kd, S.toList, D.toList, l⟩)) (zax (zax R M.n []) (M.n + 1) []) (zax (zax G M.n []) (M.n + 1) [])) \/ (¬ M.n + 2 <= M.limit /\ e = .returned (.tuple #[.int .i64 0, .int .i64 3]) /\ RX K J w' p M R G)) else ((M.n + 1 <= M.limit /\ e = .returned (.tuple #[.int .i64 (M.n : Int), .int .i64 0]) /\ RX K J w' p (M.add (Mk.nd ⟨kd, S.toList, D.toList, l⟩)) (zax R M.n []) (zax G M.n [])) \/ (¬ M.n + 1 <= M.limit /\ e = .returned (.tuple #[.int .i64 0, .int .i64 3]) /\ RX K J w' p M R G))) := by
 obtain ⟨W, hW⟩ : ∃ W, w.alloc (.cells (rV (kd : Int) S D aa n ac 0 none 0 0 0 0 0 ⟨false, false, false, false, false⟩) 58) = W := ⟨_, rfl⟩
 obtain ⟨N, hN⟩ : ∃ N, w.heap.size = N := ⟨_, rfl⟩
 have kW : Kept (fun k => k < w.heap.size) w W := by rw [<- hW]; exact (Kept.refl _ w).alloc (fun _ h => h) _
 have hb : W.heap[N]? = some (.cells (rV (kd : Int) S D aa n ac 0 none 0 0 0 0 0 ⟨false, false, false, false, false⟩) 58 (0, 0)) := by rw [<- hW, <- hN]; exact heap_alloc_new w _
 have rr := zgd kd S D l aa n ac hln hn hac hsz hS 0 none 0 0 0 0 0 ⟨false, false, false, false, false⟩ W (ha.kept kW fun k h => ltl h kW.size)
 rw [hs] at rr
 have hNW := zad hb
 have hXW := hX.kept kW
 have HXW : Hid (RX K J W p M R G) := hXW
 have HKW : Hid (Kept K w W) := kW.mono hX.lt
 have RA : Hid (∀ X, Kept (fun k => k < W.heap.size) W X -> Calls Tryz.prog 176 #[.slice aa n ac] X fun e w' => ∃ ao c, e = .returned (.slice ao n c) /\ Zac (fun k => k < X.heap.size) w' 108 2 ao n c (zab l) /\ Kept (fun k => k < X.heap.size) X w') := fun X hX => zde l aa n ac hln (by omega) X ((ha.kept kW fun k h => ltl h kW.size).kept hX fun k h => ltl h hX.size)
 have HB : Hid (W.heap[N]? = some (.cells (rV (kd : Int) S D aa n ac 0 none 0 0 0 0 0 ⟨false, false, false, false, false⟩) 58 (0, 0))) := hb
 have HW : Hid (w.alloc (.cells (rV (kd : Int) S D aa n ac 0 none 0 0 0 0 0 ⟨false, false, false, false, false⟩) 58) = W) := hW
 have HN : Hid (w.heap.size = N) := hN
 have HLN : Hid (l.length = n) := hln
 have HSO : Hid (zat ⟨kd, S.toList, D.toList, l⟩ = true) := hs
 obtain ⟨K2, hK2⟩ : ∃ K2 : Nat -> Prop, (fun k => K k \/ k = N) = K2 := ⟨_, rfl⟩
 have HK2L : Hid (∀ k, K2 k -> k < W.heap.size) := fun k hk => by
  rw [<- hK2] at hk
  rcases hk with hk | hk
  ·exact HXW.out.lt k hk
  ·rw [hk]; exact hNW
 have hN2 : K2 N := by rw [<- hK2]; exact .inr rfl
 have HKK : Hid (∀ k, K k -> K2 k) := fun k hk => by rw [<- hK2]; exact .inl hk
 have hXW2 : RX K2 J W p M R G := hX.more kW (fun k hk => by
  rw [<- hK2] at hk
  rcases hk with hk | hk
  ·exact .inl hk
  ·exact .inr (by rw [hk, hN]; exact Nat.le_refl _)) HK2L.out
 have hk5 : kd ≠ 5 := fun e => by rw [e, zn7] at hs; cases hs
 have RAD : Hid (∀ Y ao c, Kept (fun k => k < W.heap.size) W Y -> Zag (fun g => W.heap.size <= g /\ g < Y.heap.size) Y ao l -> n <= c -> Calls Tryz.prog 91 #[.pointer (some ⟨p, 0, none⟩), .agg (rV (kd : Int) S D ao n c 0 none 0 0 0 0 0 ⟨false, false, false, false, false⟩)] Y fun e w' => e = .returned (.int .i64 (M.n : Int)) /\ RX K2 J w' p (M.add (Mk.nd ⟨kd, S.toList, D.toList, l⟩)) (zax R M.n []) (zax G M.n []) /\ Kept K2 W w') := fun Y ao c hY hat hc => by
  have r := zfb K2 p M R G W Y hXW2 hY (by omega) (Mk.nd ⟨kd, S.toList, D.toList, l⟩) ao c hat (by show l.length <= c; rw [hln]; exact hc)
  have e : zij (Mk.nd ⟨kd, S.toList, D.toList, l⟩) = (Mk.nd ⟨kd, S.toList, D.toList, l⟩).new := by
   show Nd.mk kd S.toList D.toList l ⟨false, false, false, false, false⟩ (-1) (if kd = 5 then (0 : Int) else -1) (-1) = Nd.mk kd S.toList D.toList l ⟨false, false, false, false, false⟩ (-1) (-1) (-1)
   rw [if_neg hk5]
  rw [e, <- zox] at r
  have e2 : (⟨(Mk.nd ⟨kd, S.toList, D.toList, l⟩).name.toArray⟩ : ByteArray) = S := zgy S
  have e3 : (⟨(Mk.nd ⟨kd, S.toList, D.toList, l⟩).data.toArray⟩ : ByteArray) = D := zgy D
  rw [e2, e3] at r
  have e4 : (Mk.nd ⟨kd, S.toList, D.toList, l⟩).attrs.length = n := hln
  rw [e4] at r
  exact r
 have c0 : ∀ X, Kept K2 W X -> X.cell? ⟨N, 0, none⟩ = some (.int .u8 (kd : Int)) := fun X hX => (hX.cell (p := ⟨N, 0, none⟩) hN2).trans (by rw [zaa hb]; rfl)
 have c1 : ∀ X, Kept K2 W X -> X.cell? ⟨N, 1, none⟩ = some (.string S) := fun X hX => (hX.cell (p := ⟨N, 1, none⟩) hN2).trans (by rw [zaa hb]; rfl)
 have c2 : ∀ X, Kept K2 W X -> X.cell? ⟨N, 2, none⟩ = some (.string D) := fun X hX => (hX.cell (p := ⟨N, 2, none⟩) hN2).trans (by rw [zaa hb]; rfl)
 have c3 : ∀ X, Kept K2 W X -> X.cell? ⟨N, 3, none⟩ = some (.slice aa n ac) := fun X hX => (hX.cell (p := ⟨N, 3, none⟩) hN2).trans (by rw [zaa hb]; rfl)
 have HTM : Hid ((decide (kd = 1) && S.toList == zcw) = tm) := htm
 obtain ⟨mn, hmn⟩ : ∃ mn, M.n = mn := ⟨_, rfl⟩
 obtain ⟨ml, hml⟩ : ∃ ml, M.limit = ml := ⟨_, rfl⟩
 have HMN : Hid (M.n = mn) := hmn
 have HML : Hid (M.limit = ml) := hml
 rw [hmn] at hMn RAD
 rw [hml] at hML
 clear hW hN kW hb ha hXW hX hln hs hsz htm hmn hml hK2 hXW2 hk5
 go_enter Tryz.func106, Tryz.ntmps106
 go_wp2_with fail
 rw [HW.out, HN.out]
 clear HW
 refine rr.mono ?_
 rintro e w2 ⟨rfl, k2⟩
 clear rr
 have a0 := c0 w2 (k2.mono HK2L.out)
 have a1 := c1 w2 (k2.mono HK2L.out)
 go_upto_region 3 with fail
 go_cut [6] (fun v6 wx => v6 = .bool tm /\ wx = w2)
 case first =>
  have htm := HTM.out
  by_cases q1 : kd = 1
  ·subst q1
   have b0 : w2.cell? ⟨N, 0, none⟩ = some (.int .u8 1) := a0
   have e1 : (S.toList == zcw) = tm := by rw [<- htm]; simp
   clear a0 htm
   go_wp2
   go_meet
   case rel => exact ⟨rfl, rfl⟩
  ·have p1 : ((kd : Int) == 1) = false := by simp; omega
   have e1 : tm = false := by rw [<- htm, decide_eq_false q1]; rfl
   subst e1
   clear htm
   go_wp2
   go_meet
   case rel => exact ⟨rfl, rfl⟩
 case rest =>
  obtain ⟨rfl, rfl⟩ := hcut
  obtain ⟨A, hYA⟩ := HXW.out.kept k2
  have m0 := hYA.c0
  have m1 := hYA.c1
  rw [HML.out] at m0
  rw [HMN.out] at m1
  clear hYA
  cases tm with
  | false =>
   by_cases hroom : mn + 1 <= ml
   ·have g1 : decide ((mn : Int) >= (ml : Int)) = false := decide_eq_false (by omega)
    have g2 : decide (ml <= mn) = false := decide_eq_false (by omega)
    go_upto_region 4 with fail
    go_quiet (fail)
    have hK9 : Kept (fun k => k < W.heap.size) W ((wc.drewN nq).drew) := (k2.drewN nq).drew
    go_upto_region 6 with fail
    go_cut [7] (fun v7 wx => v7 = .int .i64 (mn : Int) /\ RX K2 J wx p (M.add (Mk.nd ⟨kd, S.toList, D.toList, l⟩)) (zax R mn []) (zax G mn []) /\ Kept K2 W wx)
    case first =>
     refine wp_region_held_drew (S := fun X => Kept K2 W X) (by kernel_rfl) (hK9.mono HK2L.out) (fun hHeld => ?_)
     refine tkH 0 46 (.pointer (some ⟨p, 0, none⟩)) rfl rfl (by kernel_rfl) (by rfl) (by intro X hX; go_simp; try with_reducible rfl) (fun _ _ _ h => h) hHeld ?_
     try simp only [Act.put, sA, s0, s1]
     refine tkH 1 47 (.pointer (some ⟨N, 0, none⟩)) rfl rfl (by kernel_rfl) (by rfl) (by intro X hX; go_simp; try with_reducible rfl) (fun _ _ _ h => h) hHeld ?_
     try simp only [Act.put, sA, s0, s1]
     refine tkH 2 48 (.int .u8 (kd : Int)) rfl rfl (by kernel_rfl) (by rfl) (by intro X hX; have hc := c0 X hX; go_simp; try with_reducible rfl) (fun _ _ _ h => h) hHeld ?_
     try simp only [Act.put, sA, s0, s1]
     refine tkH 3 49 (.pointer (some ⟨N, 1, none⟩)) rfl rfl (by kernel_rfl) (by rfl) (by intro X hX; go_simp; try with_reducible rfl) (fun _ _ _ h => h) hHeld ?_
     try simp only [Act.put, sA, s0, s1]
     refine tkH 4 50 (.string S) rfl rfl (by kernel_rfl) (by rfl) (by intro X hX; have hc := c1 X hX; go_simp; try with_reducible rfl) (fun _ _ _ h => h) hHeld ?_
     try simp only [Act.put, sA, s0, s1]
     refine tkH 5 51 (.pointer (some ⟨N, 2, none⟩)) rfl rfl (by kernel_rfl) (by rfl) (by intro X hX; go_simp; try with_reducible rfl) (fun _ _ _ h => h) hHeld ?_
     try simp only [Act.put, sA, s0, s1]
     refine tkH 6 52 (.string D) rfl rfl (by kernel_rfl) (by rfl) (by intro X hX; have hc := c2 X hX; go_simp; try with_reducible rfl) (fun _ _ _ h => h) hHeld ?_
     try simp only [Act.put, sA, s0, s1]
     refine tkH 7 53 (.pointer (some ⟨N, 3, none⟩)) rfl rfl (by kernel_rfl) (by rfl) (by intro X hX; go_simp; try with_reducible rfl) (fun _ _ _ h => h) hHeld ?_
     try simp only [Act.put, sA, s0, s1]
     refine tkH 8 54 (.slice aa n ac) rfl rfl (by kernel_rfl) (by rfl) (by intro X hX; have hc := c3 X hX; go_simp; try with_reducible rfl) (fun _ _ _ h => h) hHeld ?_
     try simp only [Act.put, sA, s0, s1]
     refine wpAnyH_ready (rs := [9]) (by kernel_rfl) (by simp) ?_
     refine AllReadyH.cons (o := { dst := some 55, op := Op.call { callee := Callee.value (Operand.func 176), args := #[Operand.tmp 54], argTypes := #[44] }, type := 44, pos := "ref.go:70", after := #[{ on := 8, ground := Ground.data }], guard := none }) rfl (fun Kx hK => ?_) AllReadyH.nil
     refine zah rfl 176 #[.tmp 54] #[44] rfl #[.slice aa n ac] (by first | (simp [Act.eval]; done) | (simp [Act.eval, Act.put]; done)) (enter176 _ _) _ (RA.out _ hK9) ?_
     rintro e Y ⟨ao, c, rfl, hO, hKY⟩
     have hWY : Kept (fun k => k < W.heap.size) W Y := hK9.trans (hKY.mono fun k hk => ltl hk hK9.size)
     refine ⟨_, rfl, hK.out _ _ (hWY.mono HK2L.out) (fun hHeld2 => ?_)⟩
     clear hK Kx hHeld
     replace hHeld := hHeld2
     clear hHeld2
     try simp only [Act.put, sA, s0, s1]
     have rad := RAD.out Y ao c hWY (hO.atsAt fun g hg => ⟨Nat.le_trans hK9.size (Nat.le_of_not_lt (Zac.out hO hg).1), (Zac.out hO hg).2⟩) hO.2.1
     refine tkH 10 56 (.agg (rV (kd : Int) S D ao n c 0 none 0 0 0 0 0 ⟨false, false, false, false, false⟩)) rfl rfl (by kernel_rfl) (by rfl) (by intro X hX; refine zbw 58 _ rfl (rV (kd : Int) S D ao n c 0 none 0 0 0 0 0 ⟨false, false, false, false, false⟩) ?_; simp only [List.map_toArray, List.map_cons, List.map_nil, Act.eval]; exact zfs kd S D ao n c) (fun _ _ _ h => h) hHeld ?_
     try simp only [Act.put, sA, s0, s1]
     refine wpAnyH_ready (rs := [11]) (by kernel_rfl) (by simp) ?_
     refine AllReadyH.cons (o := { dst := some 57, op := Op.call { callee := Callee.value (Operand.func 91), args := #[Operand.tmp 46, Operand.tmp 56], argTypes := #[26, 58] }, type := 3, pos := "ref.go:70", after := #[{ on := 0, ground := Ground.data }, { on := 10, ground := Ground.data }, { on := 9, ground := Ground.chain }], guard := none }) rfl (fun Kx hK => ?_) AllReadyH.nil
     refine zah rfl 91 #[.tmp 46, .tmp 56] #[26, 58] rfl #[.pointer (some ⟨p, 0, none⟩), .agg (rV (kd : Int) S D ao n c 0 none 0 0 0 0 0 ⟨false, false, false, false, false⟩)] (by first | (simp [Act.eval]; done) | (simp [Act.eval, Act.put]; done)) (enter91 _ _) _ rad ?_
     rintro e Z ⟨rfl, hXZ, hKZ⟩
     refine ⟨_, rfl, hK.out _ _ hKZ (fun hHeld2 => ?_)⟩
     clear hK Kx hHeld
     replace hHeld := hHeld2
     clear hHeld2
     try simp only [Act.put, sA, s0, s1]
     refine tkH 12 7 (.int .i64 (mn : Int)) rfl rfl (by kernel_rfl) (by rfl) (by intro X hX; go_simp; try with_reducible rfl) (fun _ _ _ h => h) hHeld ?_
     try simp only [Act.put, sA, s0, s1]
     refine wpAnyH_done (by kernel_rfl) ?_ _
     try simp only [Act.put]
     go_wp2_with fail
     go_meet
     case rel => exact ⟨rfl, hXZ, hKZ⟩
    case rest =>
     obtain ⟨rfl, hX7, hK7⟩ := hcut
     have HX8 : Hid (RX K J wc p (M.add (Mk.nd ⟨kd, S.toList, D.toList, l⟩)) (zax R mn []) (zax G mn [])) := hX7.more (Kept.refl _ _) (fun k hk => .inl (HKK.out k hk)) (fun k hk => hX7.lt k (HKK.out k hk))
     have HK8 : Hid (Kept K w wc) := HKW.out.trans (hK7.mono HKK.out)
     clear hX7 hK7
     go_wp2
     go_ret2
     rw [HMN.out, HML.out]
     exact ⟨HK8.out, .inl ⟨by omega, rfl, HX8.out⟩⟩
   ·have g1 : decide ((mn : Int) >= (ml : Int)) = true := decide_eq_true (by omega)
    have g2 : decide (ml <= mn) = true := decide_eq_true (by omega)
    go_upto_region 4 with fail
    go_quiet (fail)
    have HX3 : Hid (RX K J (wc.drewN nq) p M R G) := HXW.out.kept (k2.drewN nq)
    have HK3 : Hid (Kept K w (wc.drewN nq)) := HKW.out.trans ((k2.drewN nq).mono HXW.out.lt)
    go_wp2
    go_ret2
    rw [HMN.out, HML.out]
    exact ⟨HK3.out, .inr ⟨by omega, rfl, HX3.out⟩⟩
  | true =>
   by_cases h0 : ml <= mn
   ·have g1 : decide ((mn : Int) >= (ml : Int)) = true := decide_eq_true (by omega)
    have g2 : decide (ml <= mn) = true := decide_eq_true (by omega)
    go_upto_region 4 with fail
    go_quiet (fail)
    have HX3 : Hid (RX K J (wc.drewN nq) p M R G) := HXW.out.kept (k2.drewN nq)
    have HK3 : Hid (Kept K w (wc.drewN nq)) := HKW.out.trans ((k2.drewN nq).mono HXW.out.lt)
    go_wp2
    go_ret2
    rw [HMN.out, HML.out]
    exact ⟨HK3.out, .inr ⟨by omega, rfl, HX3.out⟩⟩
   have g1 : decide ((mn : Int) >= (ml : Int)) = false := decide_eq_false (by omega)
   have g2 : decide (ml <= mn) = false := decide_eq_false (by omega)
   by_cases h1 : mn + 2 <= ml
   ·have g3 : decide ((mn : Int) >= (ml : Int) - 1) = false := decide_eq_false (by omega)
    have g4 : decide ((ml : Int) - 1 <= (mn : Int)) = false := decide_eq_false (by omega)
    go_upto_region 4 with fail
    go_quiet (fail)
    have hK9 : Kept (fun k => k < W.heap.size) W ((wc.drewN nq).drew) := (k2.drewN nq).drew
    go_upto_region 6 with fail
    go_cut [7] (fun v7 wx => v7 = .int .i64 (mn : Int) /\ RX K2 J wx p (M.add (Mk.nd ⟨kd, S.toList, D.toList, l⟩)) (zax R mn []) (zax G mn []) /\ Kept K2 W wx)
    case first =>
     refine wp_region_held_drew (S := fun X => Kept K2 W X) (by kernel_rfl) (hK9.mono HK2L.out) (fun hHeld => ?_)
     refine tkH 0 46 (.pointer (some ⟨p, 0, none⟩)) rfl rfl (by kernel_rfl) (by rfl) (by intro X hX; go_simp; try with_reducible rfl) (fun _ _ _ h => h) hHeld ?_
     try simp only [Act.put, sA, s0, s1]
     refine tkH 1 47 (.pointer (some ⟨N, 0, none⟩)) rfl rfl (by kernel_rfl) (by rfl) (by intro X hX; go_simp; try with_reducible rfl) (fun _ _ _ h => h) hHeld ?_
     try simp only [Act.put, sA, s0, s1]
     refine tkH 2 48 (.int .u8 (kd : Int)) rfl rfl (by kernel_rfl) (by rfl) (by intro X hX; have hc := c0 X hX; go_simp; try with_reducible rfl) (fun _ _ _ h => h) hHeld ?_
     try simp only [Act.put, sA, s0, s1]
     refine tkH 3 49 (.pointer (some ⟨N, 1, none⟩)) rfl rfl (by kernel_rfl) (by rfl) (by intro X hX; go_simp; try with_reducible rfl) (fun _ _ _ h => h) hHeld ?_
     try simp only [Act.put, sA, s0, s1]
     refine tkH 4 50 (.string S) rfl rfl (by kernel_rfl) (by rfl) (by intro X hX; have hc := c1 X hX; go_simp; try with_reducible rfl) (fun _ _ _ h => h) hHeld ?_
     try simp only [Act.put, sA, s0, s1]
     refine tkH 5 51 (.pointer (some ⟨N, 2, none⟩)) rfl rfl (by kernel_rfl) (by rfl) (by intro X hX; go_simp; try with_reducible rfl) (fun _ _ _ h => h) hHeld ?_
     try simp only [Act.put, sA, s0, s1]
     refine tkH 6 52 (.string D) rfl rfl (by kernel_rfl) (by rfl) (by intro X hX; have hc := c2 X hX; go_simp; try with_reducible rfl) (fun _ _ _ h => h) hHeld ?_
     try simp only [Act.put, sA, s0, s1]
     refine tkH 7 53 (.pointer (some ⟨N, 3, none⟩)) rfl rfl (by kernel_rfl) (by rfl) (by intro X hX; go_simp; try with_reducible rfl) (fun _ _ _ h => h) hHeld ?_
     try simp only [Act.put, sA, s0, s1]
     refine tkH 8 54 (.slice aa n ac) rfl rfl (by kernel_rfl) (by rfl) (by intro X hX; have hc := c3 X hX; go_simp; try with_reducible rfl) (fun _ _ _ h => h) hHeld ?_
     try simp only [Act.put, sA, s0, s1]
     refine wpAnyH_ready (rs := [9]) (by kernel_rfl) (by simp) ?_
     refine AllReadyH.cons (o := { dst := some 55, op := Op.call { callee := Callee.value (Operand.func 176), args := #[Operand.tmp 54], argTypes := #[44] }, type := 44, pos := "ref.go:70", after := #[{ on := 8, ground := Ground.data }], guard := none }) rfl (fun Kx hK => ?_) AllReadyH.nil
     refine zah rfl 176 #[.tmp 54] #[44] rfl #[.slice aa n ac] (by first | (simp [Act.eval]; done) | (simp [Act.eval, Act.put]; done)) (enter176 _ _) _ (RA.out _ hK9) ?_
     rintro e Y ⟨ao, c, rfl, hO, hKY⟩
     have hWY : Kept (fun k => k < W.heap.size) W Y := hK9.trans (hKY.mono fun k hk => ltl hk hK9.size)
     refine ⟨_, rfl, hK.out _ _ (hWY.mono HK2L.out) (fun hHeld2 => ?_)⟩
     clear hK Kx hHeld
     replace hHeld := hHeld2
     clear hHeld2
     try simp only [Act.put, sA, s0, s1]
     have rad := RAD.out Y ao c hWY (hO.atsAt fun g hg => ⟨Nat.le_trans hK9.size (Nat.le_of_not_lt (Zac.out hO hg).1), (Zac.out hO hg).2⟩) hO.2.1
     refine tkH 10 56 (.agg (rV (kd : Int) S D ao n c 0 none 0 0 0 0 0 ⟨false, false, false, false, false⟩)) rfl rfl (by kernel_rfl) (by rfl) (by intro X hX; refine zbw 58 _ rfl (rV (kd : Int) S D ao n c 0 none 0 0 0 0 0 ⟨false, false, false, false, false⟩) ?_; simp only [List.map_toArray, List.map_cons, List.map_nil, Act.eval]; exact zfs kd S D ao n c) (fun _ _ _ h => h) hHeld ?_
     try simp only [Act.put, sA, s0, s1]
     refine wpAnyH_ready (rs := [11]) (by kernel_rfl) (by simp) ?_
     refine AllReadyH.cons (o := { dst := some 57, op := Op.call { callee := Callee.value (Operand.func 91), args := #[Operand.tmp 46, Operand.tmp 56], argTypes := #[26, 58] }, type := 3, pos := "ref.go:70", after := #[{ on := 0, ground := Ground.data }, { on := 10, ground := Ground.data }, { on := 9, ground := Ground.chain }], guard := none }) rfl (fun Kx hK => ?_) AllReadyH.nil
     refine zah rfl 91 #[.tmp 46, .tmp 56] #[26, 58] rfl #[.pointer (some ⟨p, 0, none⟩), .agg (rV (kd : Int) S D ao n c 0 none 0 0 0 0 0 ⟨false, false, false, false, false⟩)] (by first | (simp [Act.eval]; done) | (simp [Act.eval, Act.put]; done)) (enter91 _ _) _ rad ?_
     rintro e Z ⟨rfl, hXZ, hKZ⟩
     refine ⟨_, rfl, hK.out _ _ hKZ (fun hHeld2 => ?_)⟩
     clear hK Kx hHeld
     replace hHeld := hHeld2
     clear hHeld2
     try simp only [Act.put, sA, s0, s1]
     refine tkH 12 7 (.int .i64 (mn : Int)) rfl rfl (by kernel_rfl) (by rfl) (by intro X hX; go_simp; try with_reducible rfl) (fun _ _ _ h => h) hHeld ?_
     try simp only [Act.put, sA, s0, s1]
     refine wpAnyH_done (by kernel_rfl) ?_ _
     try simp only [Act.put]
     go_wp2_with fail
     go_meet
     case rel => exact ⟨rfl, hXZ, hKZ⟩
    case rest =>
     obtain ⟨rfl, hX7, hK7⟩ := hcut
     have hn7 : (M.add (Mk.nd ⟨kd, S.toList, D.toList, l⟩)).n = mn + 1 := by show M.n + 1 = _; rw [HMN.out]
     have ra := zfb K2 p (M.add (Mk.nd ⟨kd, S.toList, D.toList, l⟩)) (zax R mn []) (zax G mn []) wc wc hX7 (Kept.refl _ _) (by rw [hn7]; omega) za4 none 0 (Zag.nil _ _ _) (Nat.le_refl _)
     have hbu := zqv
     have RAF : Hid (Calls Tryz.prog 91 #[.pointer (some ⟨p, 0, none⟩), .agg (rV 4 ⟨#[]⟩ ⟨#[]⟩ none 0 0 0 none 0 0 0 0 0 ⟨false, false, false, false, false⟩)] wc fun e w' => e = .returned (.int .i64 ((mn : Int) + 1)) /\ RX K2 J w' p ((M.add (Mk.nd ⟨kd, S.toList, D.toList, l⟩)).add za4) (zax (zax R mn []) (mn + 1) []) (zax (zax G mn []) (mn + 1) []) /\ Kept K2 wc w') := by
      rw [hn7] at ra
      exact (show Hid _ from ra)
     have HK7 : Hid (Kept K2 W wc) := hK7
     clear ra hX7 hK7
     go_wp2_with fail
     refine RAF.out.mono ?_
     rintro e w8 ⟨rfl, ⟨A8, hY8⟩, hK8⟩
     clear RAF
     have hn8 : ((M.add (Mk.nd ⟨kd, S.toList, D.toList, l⟩)).add za4).n = mn + 2 := by show M.n + 1 + 1 = _; rw [HMN.out]
     obtain ⟨g8, hg8, -, -, -⟩ := hY8.nat (by rw [hn8]; omega)
     have d1 := hY8.c1
     rw [hg8, hn8] at d1
     have d7 : w8.cell? ⟨g8, (mn + 1) * 14 + 7, none⟩ = _ := hY8.cell hg8 (by rw [hn8]; omega) 7 _ rfl
     have f7 := hY8.fg hg8 ((mn + 1) * 14 + 7)
     obtain ⟨hY9, hK9'⟩ := hY8.setHost hg8 (i := mn + 1) (by rw [hn8]; omega) (mn : Int)
     obtain ⟨W9, hW9⟩ : ∃ W9, w8.setCell ⟨g8, (mn + 1) * 14 + 7, none⟩ (.int .i64 (mn : Int)) = W9 := ⟨_, rfl⟩
     rw [hW9] at hY9 hK9'
     have HW9 : Hid (w8.setCell ⟨g8, (mn + 1) * 14 + 7, none⟩ (.int .i64 (mn : Int)) = W9) := hW9
     have e1 := hY9.c1
     rw [hg8] at e1
     have e1' : W9.cell? ⟨p, 1, none⟩ = some (.slice (some ⟨g8, 0, none⟩) (mn + 2) A8.nc) := by rw [<- hn8]; exact e1
     have e8 : W9.cell? ⟨g8, mn * 14 + 8, none⟩ = _ := hY9.cell hg8 (i := mn) (by show mn < ((M.add (Mk.nd ⟨kd, S.toList, D.toList, l⟩)).add za4).n; rw [hn8]; omega) 8 _ rfl
     have f8 := hY9.fg hg8 (mn * 14 + 8)
     obtain ⟨hYT, hKT⟩ := hY9.setContent hg8 (i := mn) (by show mn < ((M.add (Mk.nd ⟨kd, S.toList, D.toList, l⟩)).add za4).n; rw [hn8]; omega) ((mn : Int) + 1)
     have HXT : Hid (RX K J (W9.setCell ⟨g8, mn * 14 + 8, none⟩ (.int .i64 ((mn : Int) + 1))) p (M.addT (Mk.nd ⟨kd, S.toList, D.toList, l⟩)) (zax (zax R mn []) (mn + 1) []) (zax (zax G mn []) (mn + 1) [])) := by
      have hT : RX K2 J (W9.setCell ⟨g8, mn * 14 + 8, none⟩ (.int .i64 ((mn : Int) + 1))) p (M.addT (Mk.nd ⟨kd, S.toList, D.toList, l⟩)) (zax (zax R mn []) (mn + 1) []) (zax (zax G mn []) (mn + 1) []) := by
       refine (show RX K2 J _ p _ _ _ from ⟨_, hYT⟩).congr rfl rfl (fun i hi => ?_) (fun _ _ => rfl) (fun _ _ => rfl) (fun _ _ => rfl)
       unfold Dm.addT
       rw [HMN.out]
       by_cases c1 : i = mn
       ·subst c1
        rw [zay _ _ (by omega), zas, zas, zay _ _ (by omega)]
        congr 1
       ·by_cases c2 : i = mn + 1
        ·subst c2
         rw [zas, zay _ _ (by omega), zay _ _ (by omega), zas]
        ·rw [zay _ _ c2, zay _ _ c1, zay _ _ c1, zay _ _ c2]
      exact (show Hid _ from hT.more (Kept.refl _ _) (fun k hk => .inl (HKK.out k hk)) (fun k hk => hT.lt k (HKK.out k hk)))
     have HKT : Hid (Kept K w (W9.setCell ⟨g8, mn * 14 + 8, none⟩ (.int .i64 ((mn : Int) + 1)))) := HKW.out.trans ((((HK7.out.trans hK8).trans hK9').trans hKT).mono HKK.out)
     clear hY8 hY9 hYT hK8 hK9' hKT hW9 hg8 e1 hn7 hn8
     go_upto_region 10 with fail
     rw [HW9.out]
     go_wp2
     go_ret2
     rw [HMN.out, HML.out]
     exact ⟨HKT.out, .inl ⟨by omega, rfl, HXT.out⟩⟩
   ·have g3 : decide ((mn : Int) >= (ml : Int) - 1) = true := decide_eq_true (by omega)
    have g4 : decide ((ml : Int) - 1 <= (mn : Int)) = true := decide_eq_true (by omega)
    go_upto_region 4 with fail
    go_quiet (fail)
    have HX3 : Hid (RX K J (wc.drewN nq) p M R G) := HXW.out.kept (k2.drewN nq)
    have HK3 : Hid (Kept K w (wc.drewN nq)) := HKW.out.trans ((k2.drewN nq).mono HXW.out.lt)
    go_wp2
    go_ret2
    rw [HMN.out, HML.out]
    exact ⟨HK3.out, .inr ⟨by omega, rfl, HX3.out⟩⟩
theorem zg8 (K : Nat -> Prop) (p : Nat) (kd : Nat) (S D : ByteArray) (l : List Atr) (aa : Option Addr) (n ac : Nat) (w : World) (M : Dm) (R G : Nat -> List Nat) (hX : RX K J w p M R G) (hMn : M.n <= 100000) (hML : M.limit <= 100000) (hln : l.length = n) (hn : n <= 1000000) (hac : n <= ac) (ha : Zag (fun k => k < w.heap.size) w aa l) (hsz : ∀ x ∈ l, x.name.length < 1000000) (hS : S.size < 1000000) :
  Calls Tryz.prog 106 #[.pointer (some ⟨p, 0, none⟩), .agg (rV (kd : Int) S D aa n ac 0 none 0 0 0 0 0 ⟨false, false, false, false, false⟩)] w fun e w' => Kept K w w' /\ RMakes K J p M R G ⟨kd, S.toList, D.toList, l⟩ e w' := by
 obtain ⟨q, hq⟩ : ∃ q, zat ⟨kd, S.toList, D.toList, l⟩ = q := ⟨_, rfl⟩
 cases q with
 | true =>
  obtain ⟨tm, htm⟩ : ∃ tm, (decide (kd = 1) && S.toList == zcw) = tm := ⟨_, rfl⟩
  refine (zpe K p kd S D l aa n ac w M R G hX hMn hML hln hn hac ha hsz hS hq tm htm).mono ?_
  rintro e w' ⟨hK, h⟩
  refine ⟨hK, ?_⟩
  cases tm with
  | true =>
   rw [if_pos rfl] at h
   have ht : kd = 1 /\ S.toList = zcw := by simpa using htm
   rcases h with ⟨h1, h2, h3⟩ | ⟨h1, h2, h3⟩
   ·exact .two hq ht h1 h2 h3
   ·exact .full hq (by rw [if_pos ht]; omega) h2 h3
  | false =>
   rw [if_neg (by decide)] at h
   have ht : ¬ (kd = 1 /\ S.toList = zcw) := by simpa using htm
   rcases h with ⟨h1, h2, h3⟩ | ⟨h1, h2, h3⟩
   ·exact .one hq ht h1 h2 h3
   ·exact .full hq (by rw [if_neg ht]; omega) h2 h3
 | false =>
  obtain ⟨W, hW⟩ : ∃ W, w.alloc (.cells (rV (kd : Int) S D aa n ac 0 none 0 0 0 0 0 ⟨false, false, false, false, false⟩) 58) = W := ⟨_, rfl⟩
  have kW : Kept (fun k => k < w.heap.size) w W := by rw [<- hW]; exact (Kept.refl _ w).alloc (fun _ h => h) _
  have rr := zgd kd S D l aa n ac hln hn hac hsz hS 0 none 0 0 0 0 0 ⟨false, false, false, false, false⟩ W (ha.kept kW fun k h => ltl h kW.size)
  rw [hq] at rr
  have HX : Hid (RX K J w p M R G) := hX
  have HQ : Hid (zat ⟨kd, S.toList, D.toList, l⟩ = false) := hq
  have HW : Hid (w.alloc (.cells (rV (kd : Int) S D aa n ac 0 none 0 0 0 0 0 ⟨false, false, false, false, false⟩) 58) = W) := hW
  have HKW : Hid (Kept (fun k => k < w.heap.size) w W) := kW
  clear hX hq hW kW ha hsz hln
  go_enter Tryz.func106, Tryz.ntmps106
  go_wp2_with fail
  rw [HW.out]
  refine rr.mono ?_
  rintro e w1 ⟨rfl, k1⟩
  have HK1 : Hid (Kept (fun k => k < w.heap.size) w w1) := kt HKW.out k1
  clear rr k1
  go_wp2
  go_ret2
  exact ⟨HK1.out.mono HX.out.lt, .arg HQ.out rfl (HX.out.kept HK1.out)⟩
end
section
open Go.RowKit
structure Core (M : Dm) : Prop where
 pos : 0 < M.n
 el : ∀ i, i < M.n -> (M.nd i).kind = 1 -> za6 (M.nd i).name = true /\ za3 (M.nd i).attrs = true
 oth : ∀ i, i < M.n -> (M.nd i).kind ≠ 1 -> (M.nd i).attrs = []
 host : ∀ i, i < M.n -> ((M.nd i).host = -1 /\ (M.nd i).kind ≠ 5) \/ ∃ h : Nat, h < M.n /\ (M.nd i).host = (h : Int) /\ (M.pl i).up = -1 /\ i ≠ 0 /\ (((M.nd i).kind = 5 /\ (M.nd h).shadow = (i : Int)) \/ ((M.nd i).kind = 4 /\ (M.nd h).content = (i : Int)))
 shad : ∀ i, i < M.n -> (M.nd i).shadow = -1 \/ ∃ k : Nat, k < M.n /\ (M.nd i).shadow = (k : Int) /\ (M.nd i).kind = 1 /\ (M.nd k).kind = 5 /\ (M.nd k).host = (i : Int)
 cont : ∀ i, i < M.n -> (M.nd i).content = -1 \/ ∃ k : Nat, k < M.n /\ (M.nd i).content = (k : Int) /\ (M.nd i).kind = 1 /\ (M.nd k).kind = 4 /\ (M.nd k).host = (i : Int)
theorem Core.move {M : Dm} (h : Core M) {i : Nat} (hi : i < M.n) : zfx M i = true ↔ i ≠ 0 /\ (M.nd i).host < 0 := by
 unfold zfx
 rcases h.host i hi with ⟨h1, h2⟩ | ⟨u, hu, h1, -, h0, h3⟩
 ·rw [h1]
  simp [h2]
 ·rw [h1]
  rcases h3 with ⟨h3, -⟩ | ⟨h3, -⟩
  ·simp [h3]
  ·simp [h3]
theorem zc8 {l : List Atr} (h : za3 l = true) : l.length <= 50 := by
 unfold za3 at h
 simp at h
 exact h.1
theorem Core.few {M : Dm} (h : Core M) {i : Nat} (hi : i < M.n) : (M.nd i).attrs.length <= 50 := by
 by_cases c : (M.nd i).kind = 1
 ·exact zc8 (h.el i hi c).2
 ·rw [h.oth i hi c]; exact Nat.zero_le _
theorem zie : ∀ (l : List Atr) (L : List (List UInt8)), zcn L l = true -> ∀ x ∈ l, zbg x = true
 | [], _, _, x, hx => by cases hx
 | a :: r, L, h, x, hx => by
  simp only [zcn, Bool.and_eq_true] at h
  rcases List.mem_cons.1 hx with rfl | hx
  ·exact h.1.1
  ·exact zie r _ h.2 x hx
theorem zl6 {a : Atr} (h : zbg a = true) : 1 <= a.name.length /\ a.name.length <= 60 /\ a.value.length <= 2000 := by
 unfold zbg at h
 simp at h
 exact ⟨h.1.1.1, h.1.1.2, h.2⟩
theorem Core.atr {M : Dm} (h : Core M) {i : Nat} (hi : i < M.n) : ∀ x ∈ (M.nd i).attrs, x.name.length <= 60 /\ x.value.length <= 2000 := by
 intro x hx
 by_cases c : (M.nd i).kind = 1
 ·have hs := (h.el i hi c).2
  unfold za3 at hs
  simp at hs
  exact (zl6 (zie _ _ hs.2 x hx)).2
 ·rw [h.oth i hi c] at hx; cases hx
def Zi6 (M : Dm) (G : Nat -> List Nat) : Prop := ∀ u, u < M.n -> ∀ k ∈ G u, ((M.nd k).kind = 1 \/ (M.nd k).kind = 2) /\ (M.nd u).kind = 1 /\ (M.nd u).name = [115, 108, 111, 116]
theorem Zi6.to {M M' : Dm} {G G' : Nat -> List Nat} (h : Zi6 M G) (hl : ∀ u, u < M.n -> ∀ k ∈ G u, k < M.n) (hG : ∀ u, u < M'.n -> ∀ k ∈ G' u, u < M.n /\ k ∈ G u) (hn : ∀ i, i < M.n -> (M'.nd i).kind = (M.nd i).kind /\ (M'.nd i).name = (M.nd i).name) : Zi6 M' G' := fun u hu k hk => by
 obtain ⟨h1, h2⟩ := hG u hu k hk
 obtain ⟨a, b, c⟩ := h u h1 k h2
 rw [(hn k (hl u h1 k h2)).1, (hn u h1).1, (hn u h1).2]
 exact ⟨a, b, c⟩
theorem zdf {G : Nat -> List Nat} {n u k : Nat} (hu : u < n + 1) (hk : k ∈ zax G n [] u) : u < n /\ k ∈ G u := by
 by_cases c : u = n
 ·subst c; rw [zaf] at hk; cases hk
 ·rw [zaj _ _ c] at hk; exact ⟨by omega, hk⟩
structure Inv0 (M : Dm) (R G : Nat -> List Nat) (rk : Nat -> Nat) : Prop where
 core : Core M
 good : Good M R rk
 gw : WF M.n M.gf G
 gft : Zi6 M G
 z0 : (M.pl 0).up = -1
theorem Core.congr {M M' : Dm} (h : Core M) (e1 : M'.n = M.n) (e2 : ∀ i, i < M.n -> M'.nd i = M.nd i) (e3 : ∀ i, i < M.n -> (M.nd i).host ≠ -1 -> (M.pl i).up = -1 -> (M'.pl i).up = -1) : Core M' := by
 refine ⟨by rw [e1]; exact h.pos, fun i hi => ?_, fun i hi => ?_, fun i hi => ?_, fun i hi => ?_, fun i hi => ?_⟩ <;> rw [e1] at hi
 ·rw [e2 i hi]; exact h.el i hi
 ·rw [e2 i hi]; exact h.oth i hi
 ·rw [e2 i hi]
  rcases h.host i hi with h1 | ⟨u, hu, h1, h2, h3, h4⟩
  ·exact .inl h1
  ·exact .inr ⟨u, by rw [e1]; exact hu, h1, e3 i hi (by omega) h2, h3, by rw [e2 u hu]; exact h4⟩
 ·rw [e2 i hi]
  rcases h.shad i hi with h1 | ⟨k, hk, h1, h2, h3⟩
  ·exact .inl h1
  ·exact .inr ⟨k, by rw [e1]; exact hk, h1, h2, by rw [e2 k hk]; exact h3⟩
 ·rw [e2 i hi]
  rcases h.cont i hi with h1 | ⟨k, hk, h1, h2, h3⟩
  ·exact .inl h1
  ·exact .inr ⟨k, by rw [e1]; exact hk, h1, h2, by rw [e2 k hk]; exact h3⟩
theorem zeh (limit k : Nat) (hk : k < 1) : (Dm.new limit).nd k = za4.new := if_pos (by show k = 0; omega)
theorem Inv0.new (limit : Nat) : Inv0 (Dm.new limit) (fun _ => []) (fun _ => []) (fun _ => 0) := by
 have hgf : ∀ k, ((Dm.new limit).gf k) = Lk.nil := fun k => by
  show zaw (fun _ => Lk.nil) 0 Lk.nil k = Lk.nil
  unfold zaw
  split <;> rfl
 refine ⟨⟨Nat.zero_lt_one, fun i hi h => ?_, fun i hi h => ?_, fun i hi => ?_, fun i hi => ?_, fun i hi => ?_⟩, Good.new limit, ⟨fun u hu => by rw [hgf]; rfl, fun u hu => by rw [hgf]; rfl, fun u hu => trivial, fun u hu => List.nodup_nil, fun u hu i hi => (by cases hi), fun i hi => .inl (by rw [hgf]; rfl)⟩, fun u hu k hk => (by cases hk), rfl⟩
 ·rw [zeh _ _ hi] at h; cases h
 ·rw [zeh _ _ hi]; rfl
 ·rw [zeh _ _ hi]; exact .inl ⟨rfl, by decide⟩
 ·rw [zeh _ _ hi]; exact .inl rfl
 ·rw [zeh _ _ hi]; exact .inl rfl
structure Znw (x : Nd) : Prop where
 k5 : x.kind ≠ 5
 el : x.kind = 1 -> za6 x.name = true /\ za3 x.attrs = true
 oth : x.kind ≠ 1 -> x.attrs = []
theorem zfc {x : Mk} (h : zat x = true) : Znw x.nd := by
 obtain ⟨kd, nm, dt, at0⟩ := x
 by_cases k4 : kd = 4
 ·subst k4
  rw [zg3] at h
  simp at h
  exact ⟨by show (4 : Nat) ≠ 5; decide, fun e => absurd e (by show ¬ (4 : Nat) = 1; decide), fun _ => h.2⟩
 by_cases k2 : kd = 2
 ·subst k2
  rw [zgm] at h
  simp at h
  exact ⟨by show (2 : Nat) ≠ 5; decide, fun e => absurd e (by show ¬ (2 : Nat) = 1; decide), fun _ => h.2⟩
 rw [zfa kd k4 k2] at h
 have hk : zbc ⟨0, kd, nm, at0, dt⟩ true = true := by
  simp only [za7, zbb, Bool.and_eq_true] at h
  exact h.2.1.2
 unfold zbc at hk
 by_cases k1 : kd = 1
 ·subst k1
  rw [if_pos rfl] at hk
  simp only [Bool.and_eq_true] at hk
  exact ⟨by show (1 : Nat) ≠ 5; decide, fun _ => ⟨hk.1.1, hk.2⟩, fun e => absurd rfl e⟩
 rw [if_neg k1, if_neg k2] at hk
 by_cases k3 : kd = 3
 ·subst k3
  rw [if_pos rfl] at hk
  simp at hk
  exact ⟨by show (3 : Nat) ≠ 5; decide, fun e => absurd e (by show ¬ (3 : Nat) = 1; decide), fun _ => hk.2⟩
 rw [if_neg k3] at hk
 by_cases k6 : kd = 6
 ·subst k6
  rw [if_pos rfl] at hk
  simp at hk
  exact ⟨by show (6 : Nat) ≠ 5; decide, fun e => absurd e (by show ¬ (6 : Nat) = 1; decide), fun _ => hk.2⟩
 rw [if_neg k6] at hk
 cases hk
theorem zam (M : Dm) (x : Nd) {k : Nat} (h : k ≠ M.n) : (M.add x).nd k = M.nd k := if_neg h
theorem zav (M : Dm) (x : Nd) : (M.add x).nd M.n = x.new := if_pos rfl
theorem zb4 (M : Dm) (x : Nd) {k : Nat} (h : k ≠ M.n) : (M.add x).pl k = M.pl k := zbj _ _ h
theorem zej (M : Dm) (x : Nd) : (M.add x).pl M.n = Lk.nil := zau _ _ _
theorem Core.add {M : Dm} (h : Core M) (x : Nd) (hx : Znw x) : Core (M.add x) := by
 have low : ∀ i, i < (M.add x).n -> i = M.n \/ (i < M.n /\ i ≠ M.n) := fun i hi => by
  have : i < M.n + 1 := hi
  omega
 refine ⟨Nat.succ_pos _, fun i hi => ?_, fun i hi => ?_, fun i hi => ?_, fun i hi => ?_, fun i hi => ?_⟩
 ·rcases low i hi with rfl | ⟨h1, h2⟩
  ·rw [zav]; exact hx.el
  ·rw [zam _ _ h2]; exact h.el i h1
 ·rcases low i hi with rfl | ⟨h1, h2⟩
  ·rw [zav]; exact hx.oth
  ·rw [zam _ _ h2]; exact h.oth i h1
 ·rcases low i hi with rfl | ⟨h1, h2⟩
  ·rw [zav]; exact .inl ⟨rfl, hx.k5⟩
  ·rw [zam _ _ h2, zb4 _ _ h2]
   rcases h.host i h1 with h3 | ⟨u, hu, h3, h4, h5, h6⟩
   ·exact .inl h3
   ·exact .inr ⟨u, by show u < M.n + 1; omega, h3, h4, h5, by rw [zam _ _ (by omega : u ≠ M.n)]; exact h6⟩
 ·rcases low i hi with rfl | ⟨h1, h2⟩
  ·rw [zav]; exact .inl rfl
  ·rw [zam _ _ h2]
   rcases h.shad i h1 with h3 | ⟨k, hk, h3, h4, h5⟩
   ·exact .inl h3
   ·exact .inr ⟨k, by show k < M.n + 1; omega, h3, h4, by rw [zam _ _ (by omega : k ≠ M.n)]; exact h5⟩
 ·rcases low i hi with rfl | ⟨h1, h2⟩
  ·rw [zav]; exact .inl rfl
  ·rw [zam _ _ h2]
   rcases h.cont i h1 with h3 | ⟨k, hk, h3, h4, h5⟩
   ·exact .inl h3
   ·exact .inr ⟨k, by show k < M.n + 1; omega, h3, h4, by rw [zam _ _ (by omega : k ≠ M.n)]; exact h5⟩
theorem Inv0.add {M : Dm} {R G : Nat -> List Nat} {rk : Nat -> Nat} (h : Inv0 M R G rk) (x : Nd) (hx : Znw x) (hl : x.attrs.length <= 1000) : Inv0 (M.add x) (zax R M.n []) (zax G M.n []) rk :=
 ⟨h.core.add x hx, h.good.add x hl, h.gw.more _ (fun k hk => zbj _ _ (by omega)) (zau _ _ _), h.gft.to h.gw.lt (fun u hu k hk => zdf hu hk) (fun i hi => by rw [zam _ _ (by omega : i ≠ M.n)]; exact ⟨rfl, rfl⟩), by rw [zb4 _ _ (by have := h.core.pos; omega)]; exact h.z0⟩
theorem Znw.few {x : Nd} (h : Znw x) : x.attrs.length <= 1000 := by
 by_cases c : x.kind = 1
 ·have := zc8 (h.el c).2; omega
 ·rw [h.oth c]; exact Nat.zero_le _
end
section
open Go.RowKit
theorem Core.hosts {M M' : Dm} (h : Core M) {k j : Nat} (hk : k < M.n) (hj : j < M.n) (hjk : j ≠ k) (hj0 : j ≠ 0) (e1 : M'.n = M.n) (e2 : ∀ i, i < M.n -> i ≠ k -> i ≠ j -> M'.nd i = M.nd i) (e3 : ∀ i, (M'.pl i).up = (M.pl i).up) (hup : (M.pl j).up = -1) (hno : (M.nd j).host = -1)
  (hk1 : (M.nd k).kind = 1) (hc : ((M.nd j).kind = 4 /\ (M.nd k).content = -1 /\ M'.nd k = { M.nd k with content := (j : Int) } /\ M'.nd j = { M.nd j with host := (k : Int) })) : Core M' := by
 obtain ⟨c1, c2, c3, c4⟩ := hc
 have low : ∀ i, i < M'.n -> i = k \/ i = j \/ (i < M.n /\ i ≠ k /\ i ≠ j) := fun i hi => by rw [e1] at hi; omega
 have kd : ∀ i, i < M.n -> (M'.nd i).kind = (M.nd i).kind := fun i hi => by
  rcases low i (by rw [e1]; exact hi) with rfl | rfl | ⟨h1, h2, h3⟩
  ·rw [c3]
  ·rw [c4]
  ·rw [e2 i h1 h2 h3]
 have sh : ∀ i, i < M.n -> (M'.nd i).shadow = (M.nd i).shadow := fun i hi => by
  rcases low i (by rw [e1]; exact hi) with rfl | rfl | ⟨h1, h2, h3⟩
  ·rw [c3]
  ·rw [c4]
  ·rw [e2 i h1 h2 h3]
 have ho : ∀ i, i < M.n -> i ≠ j -> (M'.nd i).host = (M.nd i).host := fun i hi hij => by
  rcases low i (by rw [e1]; exact hi) with rfl | rfl | ⟨h1, h2, h3⟩
  ·rw [c3]
  ·exact absurd rfl hij
  ·rw [e2 i h1 h2 h3]
 have co : ∀ i, i < M.n -> i ≠ k -> (M'.nd i).content = (M.nd i).content := fun i hi hij => by
  rcases low i (by rw [e1]; exact hi) with rfl | rfl | ⟨h1, h2, h3⟩
  ·exact absurd rfl hij
  ·rw [c4]
  ·rw [e2 i h1 h2 h3]
 refine ⟨by rw [e1]; exact h.pos, fun i hi hki => ?_, fun i hi hki => ?_, fun i hi => ?_, fun i hi => ?_, fun i hi => ?_⟩
 ·rw [e1] at hi
  rw [kd i hi] at hki
  have := h.el i hi hki
  rcases low i (by rw [e1]; exact hi) with rfl | rfl | ⟨h1, h2, h3⟩
  ·rw [c3]; exact this
  ·rw [c4]; exact this
  ·rw [e2 i h1 h2 h3]; exact this
 ·rw [e1] at hi
  rw [kd i hi] at hki
  have := h.oth i hi hki
  rcases low i (by rw [e1]; exact hi) with rfl | rfl | ⟨h1, h2, h3⟩
  ·rw [c3]; exact this
  ·rw [c4]; exact this
  ·rw [e2 i h1 h2 h3]; exact this
 ·rw [e1] at hi
  by_cases cj : i = j
  ·subst cj
   refine .inr ⟨k, by rw [e1]; exact hk, by rw [c4], by rw [e3]; exact hup, hj0, .inr ⟨by rw [kd i hi]; exact c1, by rw [c3]⟩⟩
  ·rw [ho i hi cj, kd i hi]
   rcases h.host i hi with h1 | ⟨u, hu, h1, h2, h3, h4⟩
   ·exact .inl h1
   ·refine .inr ⟨u, by rw [e1]; exact hu, h1, by rw [e3]; exact h2, h3, ?_⟩
    rw [sh u hu]
    rcases h4 with h4 | ⟨h4, h5⟩
    ·exact .inl h4
    ·by_cases cu : u = k
     ·subst cu; rw [c2] at h5; omega
     ·exact .inr ⟨h4, by rw [co u hu cu]; exact h5⟩
 ·rw [e1] at hi
  rw [sh i hi, kd i hi]
  rcases h.shad i hi with h1 | ⟨q, hq, h1, h2, h3, h4⟩
  ·exact .inl h1
  ·refine .inr ⟨q, by rw [e1]; exact hq, h1, h2, by rw [kd q hq]; exact h3, ?_⟩
   by_cases cq : q = j
   ·subst cq; rw [c1] at h3; omega
   ·rw [ho q hq cq]; exact h4
 ·rw [e1] at hi
  by_cases ck : i = k
  ·subst ck
   exact .inr ⟨j, by rw [e1]; exact hj, by rw [c3], by rw [kd i hi]; exact hk1, by rw [kd j hj]; exact c1, by rw [c4]⟩
  ·rw [co i hi ck, kd i hi]
   rcases h.cont i hi with h1 | ⟨q, hq, h1, h2, h3, h4⟩
   ·exact .inl h1
   ·refine .inr ⟨q, by rw [e1]; exact hq, h1, h2, by rw [kd q hq]; exact h3, ?_⟩
    by_cases cq : q = j
    ·subst cq; rw [hno] at h4; omega
    ·rw [ho q hq cq]; exact h4
theorem ziw (M : Dm) (x : Nd) : (M.addT x).pl = ((M.add x).add za4).pl := rfl
theorem zcp (M : Dm) (x : Nd) {k : Nat} (h1 : k ≠ M.n) (h2 : k ≠ M.n + 1) : (M.addT x).nd k = ((M.add x).add za4).nd k := by
 unfold Dm.addT
 rw [zay _ _ h2, zay _ _ h1]
theorem zfj (M : Dm) (x : Nd) : (M.addT x).nd M.n = { ((M.add x).add za4).nd M.n with content := ((M.n + 1 : Nat) : Int) } := by
 unfold Dm.addT
 rw [zay _ _ (by omega), zas]
theorem zfl (M : Dm) (x : Nd) : (M.addT x).nd (M.n + 1) = { ((M.add x).add za4).nd (M.n + 1) with host := (M.n : Int) } := by
 unfold Dm.addT
 rw [zas, zay _ _ (by omega)]
theorem zqh : Znw za4 := ⟨by decide, fun e => absurd e (by decide), fun _ => rfl⟩
theorem zgw {M M' : Dm} {k : Nat} (h1 : (M'.pl k).up = (M.pl k).up) (h2 : (M'.nd k).host = (M.nd k).host) : zbl M' k = zbl M k := by
 unfold zbl
 rw [h1, h2]
theorem zns (M : Dm) (x : Nd) (i : Nat) : ((M.addT x).nd i).kind = (((M.add x).add za4).nd i).kind /\ ((M.addT x).nd i).name = (((M.add x).add za4).nd i).name := by
 by_cases c : i = M.n + 1
 ·subst c; rw [zfl]; exact ⟨rfl, rfl⟩
 ·by_cases c2 : i = M.n
  ·subst c2; rw [zfj]; exact ⟨rfl, rfl⟩
  ·rw [zcp M x c2 c]; exact ⟨rfl, rfl⟩
theorem Inv0.addT {M : Dm} {R G : Nat -> List Nat} {rk : Nat -> Nat} (h : Inv0 M R G rk) (x : Nd) (hx : Znw x) (hk : x.kind = 1) : ∃ rk', Inv0 (M.addT x) (zax (zax R M.n []) (M.n + 1) []) (zax (zax G M.n []) (M.n + 1) []) rk' := by
 have h1 := h.add x hx hx.few
 have h2 := h1.add za4 zqh (Nat.zero_le _)
 have n1 : (M.add x).n = M.n + 1 := rfl
 rw [n1] at h2
 have nt : ((M.add x).add za4).nd M.n = x.new := by rw [zam _ _ (by rw [n1]; omega), zav]
 have nc : ((M.add x).add za4).nd (M.n + 1) = za4.new := zav (M.add x) za4
 have pc : ((M.add x).add za4).pl (M.n + 1) = Lk.nil := zej (M.add x) za4
 have hn2 : ((M.add x).add za4).n = M.n + 2 := rfl
 refine ⟨fun k => if k = M.n + 1 then rk M.n + 1 else rk k, ?_, ⟨h2.good.wf, ?_, ?_⟩, h2.gw, h2.gft.to h2.gw.lt (fun u hu k hk => ⟨hu, hk⟩) (fun i _ => zns M x i), h2.z0⟩
 ·refine h2.core.hosts (k := M.n) (j := M.n + 1) (by rw [hn2]; omega) (by rw [hn2]; omega) (by omega) (by omega) rfl (fun i hi hi1 hi2 => zcp M x hi1 hi2) (fun i => rfl) (by rw [pc]; rfl) (by rw [nc]; rfl) (by rw [nt]; exact hk) ⟨by rw [nc]; rfl, by rw [nt]; rfl, zfj M x, zfl M x⟩
 ·intro k hk'
  have hk2 : k < M.n + 2 := hk'
  by_cases c : k = M.n + 1
  ·subst c
   refine .inr ⟨M.n, by show M.n < M.n + 2; omega, ?_, ?_⟩
   ·unfold zbl
    rw [ziw, pc, zfl]
    rfl
   ·show (if M.n = M.n + 1 then _ else rk M.n) < if M.n + 1 = M.n + 1 then rk M.n + 1 else _
    rw [if_neg (by omega), if_pos rfl]
    omega
  ·have e : zbl (M.addT x) k = zbl ((M.add x).add za4) k := zgw rfl (by
    by_cases c2 : k = M.n
    ·subst c2; rw [zfj]
    ·rw [zcp M x c2 c])
   rw [e]
   rcases h2.good.acy k hk' with h3 | ⟨m, hm, h3, h4⟩
   ·exact .inl h3
   ·refine .inr ⟨m, hm, h3, ?_⟩
    show (if m = M.n + 1 then _ else rk m) < if k = M.n + 1 then _ else rk k
    rw [if_neg c]
    by_cases cm : m = M.n + 1
    ·exfalso
     subst cm
     have hkk : k < M.n + 1 := by omega
     have hpar : zbl ((M.add x).add za4) k = zbl (M.add x) k := znk hkk
     rw [hpar] at h3
     rcases h1.good.acy k hkk with h5 | ⟨m', hm', h5, h6⟩
     ·omega
     ·have : m' < M.n + 1 := hm'
      omega
    ·rw [if_neg cm]; exact h4
 ·intro i hi
  have hi2 : i < M.n + 2 := hi
  have := h2.good.few i hi
  by_cases c : i = M.n + 1
  ·subst c; rw [zfl]; exact this
  ·by_cases c2 : i = M.n
   ·subst c2; rw [zfj]; exact this
   ·rw [zcp M x c2 c]; exact this
theorem Inv0.addR {M : Dm} {R G : Nat -> List Nat} {rk : Nat -> Nat} (h : Inv0 M R G rk) {host : Nat} (f : Fg) (hh : host < M.n) (hk : (M.nd host).kind = 1) (hs : (M.nd host).shadow = -1) : ∃ rk', Inv0 (M.addR host f) (zax R M.n []) (zax G M.n []) rk' := by
 have hne : host ≠ M.n := by omega
 have hn : (M.addR host f).n = M.n + 1 := rfl
 have old : ∀ i, i < M.n -> i ≠ host -> (M.addR host f).nd i = M.nd i := fun i hi hi2 => zdj M host f (by omega) hi2
 have pold : ∀ i, i < M.n -> ((M.addR host f).pl i) = M.pl i := fun i hi => zbj _ _ (by omega)
 have pnew : (M.addR host f).pl M.n = Lk.nil := zau _ _ _
 have hot : (M.addR host f).nd host = { M.nd host with shadow := (M.n : Int) } := zc0 M host f hne
 have new : (M.addR host f).nd M.n = { (shN f).new with host := (host : Int) } := zeb M host f hne
 have low : ∀ i, i < (M.addR host f).n -> i = M.n \/ i = host \/ (i < M.n /\ i ≠ host) := fun i hi => by rw [hn] at hi; omega
 have kd : ∀ i, i < M.n -> ((M.addR host f).nd i).kind = (M.nd i).kind := fun i hi => by
  by_cases c : i = host
  ·subst c; rw [hot]
  ·rw [old i hi c]
 have ho : ∀ i, i < M.n -> ((M.addR host f).nd i).host = (M.nd i).host := fun i hi => by
  by_cases c : i = host
  ·subst c; rw [hot]
  ·rw [old i hi c]
 have co : ∀ i, i < M.n -> ((M.addR host f).nd i).content = (M.nd i).content := fun i hi => by
  by_cases c : i = host
  ·subst c; rw [hot]
  ·rw [old i hi c]
 have at0 : ∀ i, i < M.n -> ((M.addR host f).nd i).attrs = (M.nd i).attrs := fun i hi => by
  by_cases c : i = host
  ·subst c; rw [hot]
  ·rw [old i hi c]
 have nm : ∀ i, i < M.n -> ((M.addR host f).nd i).name = (M.nd i).name := fun i hi => by
  by_cases c : i = host
  ·subst c; rw [hot]
  ·rw [old i hi c]
 have lo : ∀ i, i < (M.addR host f).n -> i = M.n \/ i < M.n := fun i hi => by rw [hn] at hi; omega
 refine ⟨fun k => if k = M.n then rk host + 1 else rk k, ⟨by rw [hn]; omega, fun i hi hki => ?_, fun i hi hki => ?_, fun i hi => ?_, fun i hi => ?_, fun i hi => ?_⟩, ⟨h.good.wf.more _ (fun k hk => zbj _ _ (by omega)) (zau _ _ _), fun k hk' => ?_, fun i hi => ?_⟩, h.gw.more _ (fun k hk => zbj _ _ (by omega)) (zau _ _ _), h.gft.to h.gw.lt (fun u hu k hk => zdf hu hk) (fun i hi => ⟨kd i hi, nm i hi⟩), by rw [pold 0 h.core.pos]; exact h.z0⟩
 ·rcases lo i hi with rfl | h1
  ·rw [new] at hki; cases hki
  ·rw [kd i h1] at hki; rw [nm i h1, at0 i h1]; exact h.core.el i h1 hki
 ·rcases lo i hi with rfl | h1
  ·rw [new]; rfl
  ·rw [kd i h1] at hki; rw [at0 i h1]; exact h.core.oth i h1 hki
 ·rcases lo i hi with rfl | h1
  ·refine .inr ⟨host, by rw [hn]; omega, by rw [new], by rw [pnew]; rfl, by have := h.core.pos; omega, .inl ⟨by rw [new]; rfl, by rw [hot]⟩⟩
  ·rw [ho i h1, kd i h1, pold i h1]
   rcases h.core.host i h1 with h3 | ⟨u, hu, h3, h4, h5, h6⟩
   ·exact .inl h3
   ·refine .inr ⟨u, by rw [hn]; omega, h3, h4, h5, ?_⟩
    rw [co u hu]
    rcases h6 with ⟨h6, h7⟩ | h6
    ·by_cases c : u = host
     ·subst c; rw [hs] at h7; omega
     ·exact .inl ⟨h6, by rw [old u hu c]; exact h7⟩
    ·exact .inr h6
 ·rcases lo i hi with rfl | h1
  ·rw [new]; exact .inl rfl
  ·by_cases c : i = host
   ·subst c
    exact .inr ⟨M.n, by rw [hn]; omega, by rw [hot], by rw [kd i h1]; exact hk, by rw [new]; rfl, by rw [new]⟩
   ·rw [old i h1 c]
    rcases h.core.shad i h1 with h3 | ⟨q, hq, h3, h4, h5, h6⟩
    ·exact .inl h3
    ·exact .inr ⟨q, by rw [hn]; omega, h3, h4, by rw [kd q hq]; exact h5, by rw [ho q hq]; exact h6⟩
 ·rcases lo i hi with rfl | h1
  ·rw [new]; exact .inl rfl
  ·rw [co i h1, kd i h1]
   rcases h.core.cont i h1 with h3 | ⟨q, hq, h3, h4, h5, h6⟩
   ·exact .inl h3
   ·exact .inr ⟨q, by rw [hn]; omega, h3, h4, by rw [kd q hq]; exact h5, by rw [ho q hq]; exact h6⟩
 ·rcases lo k hk' with rfl | h1
  ·refine .inr ⟨host, by rw [hn]; omega, ?_, ?_⟩
   ·unfold zbl
    rw [pnew, new]
    rfl
   ·show (if host = M.n then _ else rk host) < if M.n = M.n then rk host + 1 else _
    rw [if_neg hne, if_pos rfl]
    omega
  ·have e : zbl (M.addR host f) k = zbl M k := zgw (by rw [pold k h1]) (ho k h1)
   rw [e]
   rcases h.good.acy k h1 with h3 | ⟨m, hm, h3, h4⟩
   ·exact .inl h3
   ·refine .inr ⟨m, by rw [hn]; omega, h3, ?_⟩
    show (if m = M.n then _ else rk m) < if k = M.n then _ else rk k
    rw [if_neg (by omega), if_neg (by omega)]
    exact h4
 ·rcases lo i hi with rfl | h1
  ·rw [new]; exact Nat.zero_le _
  ·rw [at0 i h1]; exact h.good.few i h1
theorem Inv0.ins {M : Dm} {R G : Nat -> List Nat} {rk : Nat -> Nat} (h : Inv0 M R G rk) {up i : Nat} {bef : Int} (hu : up < M.n) (hi : i < M.n) (hF : Fits M up i bef) : ∃ rk', Inv0 (M.setP (zd8 M R up i bef)) (zdl M R up i bef) G rk' := by
 obtain ⟨rk', hg⟩ := h.good.ins hu hi hF
 refine ⟨rk', h.core.congr rfl (fun _ _ => rfl) (fun k hk hho hup => ?_), hg, h.gw, h.gft.to h.gw.lt (fun u hu k hk => ⟨hu, hk⟩) (fun _ _ => ⟨rfl, rfl⟩), ?_⟩
 rotate_left
 ·have hmv := (h.core.move hi).1 hF.2.1
  show (zd8 M R up i bef 0).up = -1
  unfold zd8
  by_cases c : (M.nd i).kind = 4
  ·rw [if_pos c]
   obtain ⟨h1, h2⟩ := zg2 up bef (R i) M.pl 0
   rw [h1 (fun hm => by have := h.good.wf.up hi hm; have := h.z0; omega)]
   exact h.z0
  ·rw [if_neg c, zd5 (fun e => hmv.1 e.symm)]
   exact h.z0
 have hmv := (h.core.move hi).1 hF.2.1
 show (zd8 M R up i bef k).up = -1
 unfold zd8
 by_cases c : (M.nd i).kind = 4
 ·rw [if_pos c]
  obtain ⟨h1, h2⟩ := zg2 up bef (R i) M.pl k
  rw [h1 (fun hm => by have := h.good.wf.up hi hm; omega)]
  exact hup
 ·rw [if_neg c]
  have hki : k ≠ i := fun e => by
   subst e
   rcases h.core.host k hk with ⟨h1, -⟩ | ⟨u, -, h1, -⟩
   ·exact hho h1
   ·omega
  rw [zd5 hki]
  exact hup
theorem Inv0.out {M : Dm} {R G : Nat -> List Nat} {rk : Nat -> Nat} (h : Inv0 M R G rk) {i : Nat} (hi : i < M.n) : Inv0 (M.setP (zct M.pl i)) (zcy M.pl R i) G rk := by
 have hup : ∀ k, k ≠ i -> (zct M.pl i k).up = (M.pl k).up := fun k hk => zdi hk
 refine ⟨h.core.congr rfl (fun _ _ => rfl) (fun k hk hho hu => ?_), ⟨h.good.wf.out hi, fun k hk => ?_, h.good.few⟩, h.gw, h.gft.to h.gw.lt (fun u hu k hk => ⟨hu, hk⟩) (fun _ _ => ⟨rfl, rfl⟩), by
  show (zct M.pl i 0).up = -1
  by_cases c : 0 = i
  ·rw [<- c]; exact zia
  ·rw [hup 0 c]; exact h.z0⟩
 ·show (zct M.pl i k).up = -1
  by_cases c : k = i
  ·subst c; exact zia
  ·rw [hup k c]; exact hu
 ·by_cases c : k = i
  ·subst c
   have hp : zbl (M.setP (zct M.pl k)) k = (M.nd k).host := by
    unfold zbl
    rw [if_pos (show ((M.setP (zct M.pl k)).pl k).up = -1 from zia)]
    rfl
   rw [hp]
   rcases h.core.host k hk with ⟨h1, -⟩ | ⟨u, hu, h1, h2, -⟩
   ·exact .inl h1
   ·have : zbl M k = (u : Int) := by unfold zbl; rw [if_pos h2]; exact h1
    rcases h.good.acy k hk with h3 | ⟨m, hm, h3, h4⟩
    ·omega
    ·exact .inr ⟨m, hm, by omega, h4⟩
  ·have : zbl (M.setP (zct M.pl i)) k = zbl M k := zfm (hup k c)
   rw [this]
   exact h.good.acy k hk
theorem Inv0.setN {M : Dm} {R G : Nat -> List Nat} {rk : Nat -> Nat} (h : Inv0 M R G rk) {i : Nat} (hi : i < M.n) {x : Nd} (e1 : x.kind = (M.nd i).kind) (e2 : x.name = (M.nd i).name) (e3 : x.shadow = (M.nd i).shadow) (e4 : x.host = (M.nd i).host) (e5 : x.content = (M.nd i).content) (h1 : x.kind = 1 -> za3 x.attrs = true) (h2 : x.kind ≠ 1 -> x.attrs = []) : Inv0 (M.setN i x) R G rk := by
 have kd : ∀ k, ((M.setN i x).nd k).kind = (M.nd k).kind := fun k => by
  by_cases c : k = i
  ·subst c; rw [zas]; exact e1
  ·rw [zay _ _ c]
 have sh : ∀ k, ((M.setN i x).nd k).shadow = (M.nd k).shadow := fun k => by
  by_cases c : k = i
  ·subst c; rw [zas]; exact e3
  ·rw [zay _ _ c]
 have ho : ∀ k, ((M.setN i x).nd k).host = (M.nd k).host := fun k => by
  by_cases c : k = i
  ·subst c; rw [zas]; exact e4
  ·rw [zay _ _ c]
 have co : ∀ k, ((M.setN i x).nd k).content = (M.nd k).content := fun k => by
  by_cases c : k = i
  ·subst c; rw [zas]; exact e5
  ·rw [zay _ _ c]
 have nm : ∀ k, ((M.setN i x).nd k).name = (M.nd k).name := fun k => by
  by_cases c : k = i
  ·subst c; rw [zas]; exact e2
  ·rw [zay _ _ c]
 have few : x.attrs.length <= 1000 := by
  by_cases c : x.kind = 1
  ·have := zc8 (h1 c); omega
  ·rw [h2 c]; exact Nat.zero_le _
 refine ⟨⟨h.core.pos, fun k hk hkk => ?_, fun k hk hkk => ?_, fun k hk => ?_, fun k hk => ?_, fun k hk => ?_⟩, ⟨h.good.wf, fun k hk => ?_, fun k hk => ?_⟩, h.gw, h.gft.to h.gw.lt (fun u hu k hk => ⟨hu, hk⟩) (fun k _ => ⟨kd k, nm k⟩), h.z0⟩
 ·by_cases c : k = i
  ·subst c
   rw [zas] at hkk ⊢
   exact ⟨by rw [e2]; exact (h.core.el k hk (by rw [<- e1]; exact hkk)).1, h1 hkk⟩
  ·rw [zay _ _ c] at hkk ⊢; exact h.core.el k hk hkk
 ·by_cases c : k = i
  ·subst c
   rw [zas] at hkk ⊢
   exact h2 hkk
  ·rw [zay _ _ c] at hkk ⊢; exact h.core.oth k hk hkk
 ·rw [kd, ho]
  rcases h.core.host k hk with h3 | ⟨u, hu, h3, h4, h5, h6⟩
  ·exact .inl h3
  ·exact .inr ⟨u, hu, h3, h4, h5, by rw [sh, co]; exact h6⟩
 ·rw [kd, sh]
  rcases h.core.shad k hk with h3 | ⟨q, hq, h3, h4, h5⟩
  ·exact .inl h3
  ·exact .inr ⟨q, hq, h3, h4, by rw [kd, ho]; exact h5⟩
 ·rw [kd, co]
  rcases h.core.cont k hk with h3 | ⟨q, hq, h3, h4, h5⟩
  ·exact .inl h3
  ·exact .inr ⟨q, hq, h3, h4, by rw [kd, ho]; exact h5⟩
 ·have : zbl (M.setN i x) k = zbl M k := zgw rfl (ho k)
  rw [this]
  exact h.good.acy k hk
 ·by_cases c : k = i
  ·subst c; rw [zas]; exact few
  ·rw [zay _ _ c]; exact h.good.few k hk
theorem Inv0.setG {M : Dm} {R G G' : Nat -> List Nat} {rk : Nat -> Nat} {L : Nat -> Lk} (h : Inv0 M R G rk) (hw : WF M.n L G') (hg : Zi6 M G') : Inv0 (M.setG L) R G' rk :=
 ⟨h.core.congr rfl (fun _ _ => rfl) (fun _ _ _ hu => hu), ⟨h.good.wf, h.good.acy, h.good.few⟩, hw, hg.to hw.lt (fun u hu k hk => ⟨hu, hk⟩) (fun _ _ => ⟨rfl, rfl⟩), h.z0⟩
theorem zje {L : Nat -> Lk} {R : Nat -> List Nat} {up i u k : Nat} {bef : Int} (h : k ∈ putR L R up i bef u) : k ∈ R u \/ (u = up /\ k = i) := by
 have out : ∀ v, k ∈ zcy L R i v -> k ∈ R v := fun v hv => by
  unfold zcy at hv
  split at hv
  ·exact hv
  ·by_cases c : v = (L i).up.toNat
   ·subst c; rw [zaf] at hv; exact List.mem_of_mem_erase hv
   ·rw [zaj _ _ c] at hv; exact hv
 unfold putR at h
 by_cases c : u = up
 ·subst c
  rw [zaf] at h
  unfold zqy at h
  rcases List.mem_append.1 h with h | h
  ·exact .inl (out _ ((List.takeWhile_sublist _).subset h))
  ·rcases List.mem_cons.1 h with h | h
   ·exact .inr ⟨rfl, h⟩
   ·exact .inl (out _ ((List.dropWhile_sublist _).subset h))
 ·rw [zaj _ _ c] at h; exact .inl (out _ h)
theorem zhu {up : Nat} {bef : Int} {u k : Nat} : ∀ (l : List Nat) (L : Nat -> Lk) (R : Nat -> List Nat), k ∈ zic L R up bef l u -> k ∈ R u \/ (u = up /\ k ∈ l)
 | [], L, R, h => .inl h
 | a :: l, L, R, h => by
  rcases zhu l _ _ h with h | ⟨h, h'⟩
  ·rcases zje h with h | ⟨h, h'⟩
   ·exact .inl h
   ·exact .inr ⟨h, h' ▸ List.mem_cons_self⟩
  ·exact .inr ⟨h, List.mem_cons_of_mem _ h'⟩

def Nd.mk' (x : Nd) : Mk := ⟨x.kind, x.name, x.data, x.attrs⟩
def zhp : List (List UInt8) := [[100, 105, 118], [115, 112, 97, 110], [115, 108, 111, 116], [116, 101, 109, 112, 108, 97, 116, 101], [120, 45, 97], [115, 101, 99, 116, 105, 111, 110], [112], [98, 114], [98], [97, 114, 116, 105, 99, 108, 101]]
def Okd (x : Nd) : Prop := x.data.length < 1000000 /\ (x.kind = 1 -> x.name ∈ zhp) /\ (x.kind ≠ 5 -> x.fl = ⟨false, false, false, false, false⟩)
theorem Okd.frag : Okd za4.new := ⟨by decide, fun h => absurd h (by decide), fun _ => rfl⟩
structure Ex (M : Dm) (R : Nat -> List Nat) : Prop where
 snd : ∀ i, i < M.n -> (M.nd i).kind ≠ 5 -> zat (M.nd i).mk' = true
 tpl : ∀ i, i < M.n -> ((M.nd i).content ≠ -1 ↔ (M.nd i).kind = 1 /\ (M.nd i).name = zcw)
 kid : ∀ u, u < M.n -> ∀ k ∈ R u, zbp (M.nd u) = true /\ (M.nd k).kind ≠ 4 /\ (M.nd k).kind ≠ 5
 nsz : ∀ i, i < M.n -> (M.nd i).kind = 6 -> (M.nd i).name.length < 1000000
 okd : ∀ i, i < M.n -> Okd (M.nd i)
theorem Ex.new (limit : Nat) : Ex (Dm.new limit) (fun _ => []) := by
 refine ⟨fun i hi _ => ?_, fun i hi => ?_, fun u _ k hk => (by cases hk), fun i hi h => ?_, fun i hi => by rw [zeh _ _ hi]; exact Okd.frag⟩
 ·rw [zeh _ _ hi]; rfl
 ·rw [zeh _ _ hi]
  exact ⟨fun h => absurd rfl h, fun h => absurd h.1 (by decide)⟩
 ·rw [zeh _ _ hi] at h; cases h
theorem Ex.to {M M' : Dm} {R R' : Nat -> List Nat} (h : Ex M R) (hlt : ∀ u, u < M.n -> ∀ k ∈ R u, k < M.n) (hk : ∀ i, i < M.n -> (M'.nd i).kind = (M.nd i).kind /\ (M'.nd i).name = (M.nd i).name /\ (M'.nd i).content = (M.nd i).content)
  (hs : ∀ i, i < M.n -> (M.nd i).kind ≠ 5 -> zat (M'.nd i).mk' = true)
  (hn : ∀ i, i < M'.n -> M.n <= i -> ((M'.nd i).kind ≠ 5 -> zat (M'.nd i).mk' = true) /\ ((M'.nd i).content ≠ -1 ↔ (M'.nd i).kind = 1 /\ (M'.nd i).name = zcw) /\ ((M'.nd i).kind = 6 -> (M'.nd i).name.length < 1000000))
  (ho : ∀ i, i < M'.n -> Okd (M'.nd i))
  (hR : ∀ u, u < M'.n -> ∀ k ∈ R' u, (u < M.n /\ k ∈ R u) \/ (u < M.n /\ k < M.n /\ zbp (M.nd u) = true /\ (M.nd k).kind ≠ 4 /\ (M.nd k).kind ≠ 5)) : Ex M' R' := by
 have hho : ∀ i, i < M.n -> zbp (M'.nd i) = zbp (M.nd i) := fun i hi => by unfold zbp; rw [(hk i hi).1, (hk i hi).2.1]
 refine ⟨fun i hi h5 => ?_, fun i hi => ?_, fun u hu k hku => ?_, fun i hi h6 => ?_, ho⟩
 ·by_cases c : i < M.n
  ·exact hs i c (by rw [<- (hk i c).1]; exact h5)
  ·exact (hn i hi (by omega)).1 h5
 ·by_cases c : i < M.n
  ·rw [(hk i c).1, (hk i c).2.1, (hk i c).2.2]; exact h.tpl i c
  ·exact (hn i hi (by omega)).2.1
 ·rcases hR u hu k hku with ⟨h1, h2⟩ | ⟨h1, h2, h3, h4⟩
  ·rw [hho u h1, (hk k (hlt u h1 k h2)).1]; exact h.kid u h1 k h2
  ·rw [hho u h1, (hk k h2).1]; exact ⟨h3, h4⟩
 ·by_cases c : i < M.n
  ·rw [(hk i c).2.1]; exact h.nsz i c (by rw [<- (hk i c).1]; exact h6)
  ·exact (hn i hi (by omega)).2.2 h6
theorem Ex.add {M : Dm} {R : Nat -> List Nat} (h : Ex M R) (hlt : ∀ u, u < M.n -> ∀ k ∈ R u, k < M.n) (x : Nd) (hs : zat x.mk' = true) (ht : ¬ (x.kind = 1 /\ x.name = zcw)) (hz : x.kind = 6 -> x.name.length < 1000000) (ho : Okd x) : Ex (M.add x) (zax R M.n []) := by
 have old : ∀ i, i < M.n -> (M.add x).nd i = M.nd i := fun i hi => zam _ _ (by omega)
 refine h.to hlt (fun i hi => by rw [old i hi]; exact ⟨rfl, rfl, rfl⟩) (fun i hi h5 => by rw [old i hi]; exact h.snd i hi h5) (fun i hi hi2 => ?_) (fun i hi => by
  by_cases c : i < M.n
  ·rw [old i c]; exact h.okd i c
  ·have : i = M.n := by have : i < M.n + 1 := hi; omega
   subst this
   rw [zav]; exact ho) (fun u hu k hk => .inl (zdf hu hk))
 have : i = M.n := by have : i < M.n + 1 := hi; omega
 subst this
 rw [zav]
 exact ⟨fun _ => hs, ⟨fun h => absurd rfl h, fun h => absurd h ht⟩, hz⟩
theorem Ex.addT {M : Dm} {R : Nat -> List Nat} (h : Ex M R) (hlt : ∀ u, u < M.n -> ∀ k ∈ R u, k < M.n) (x : Nd) (hs : zat x.mk' = true) (ht : x.kind = 1 /\ x.name = zcw) (ho : Okd x) : Ex (M.addT x) (zax (zax R M.n []) (M.n + 1) []) := by
 have n1 : (M.add x).n = M.n + 1 := rfl
 have nt : ((M.add x).add za4).nd M.n = x.new := by rw [zam _ _ (by rw [n1]; omega), zav]
 have nc : ((M.add x).add za4).nd (M.n + 1) = za4.new := zav (M.add x) za4
 have old : ∀ i, i < M.n -> (M.addT x).nd i = M.nd i := fun i hi => by
  rw [zcp M x (by omega) (by omega), zam _ _ (by rw [n1]; omega), zam _ _ (by omega)]
 refine h.to hlt (fun i hi => by rw [old i hi]; exact ⟨rfl, rfl, rfl⟩) (fun i hi h5 => by rw [old i hi]; exact h.snd i hi h5) (fun i hi hi2 => ?_) (fun i hi => by
  by_cases c : i < M.n
  ·rw [old i c]; exact h.okd i c
  ·have hi' : i < M.n + 2 := hi
   by_cases c2 : i = M.n
   ·subst c2; rw [zfj, nt]; exact ho
   ·have : i = M.n + 1 := by omega
    subst this; rw [zfl, nc]; exact Okd.frag) (fun u hu k hk => .inl ?_)
 ·have hi' : i < M.n + 2 := hi
  by_cases c : i = M.n
  ·subst c
   rw [zfj, nt]
   refine ⟨fun _ => hs, ⟨fun _ => ht, fun _ => ?_⟩, fun h6 => ?_⟩
   ·show ((M.n + 1 : Nat) : Int) ≠ -1; omega
   ·have : x.kind = 6 := h6
    rw [ht.1] at this; cases this
  ·have : i = M.n + 1 := by omega
   subst this
   rw [zfl, nc]
   exact ⟨fun _ => rfl, ⟨fun h => absurd rfl h, fun h => absurd h.1 (by show ¬ (4 : Nat) = 1; decide)⟩, fun h6 => absurd h6 (by show ¬ (4 : Nat) = 6; decide)⟩
 ·obtain ⟨h1, h2⟩ := zdf (n := M.n + 1) hu hk
  exact zdf h1 h2
theorem Ex.addR {M : Dm} {R : Nat -> List Nat} (h : Ex M R) (hlt : ∀ u, u < M.n -> ∀ k ∈ R u, k < M.n) {host : Nat} (f : Fg) (hh : host < M.n) : Ex (M.addR host f) (zax R M.n []) := by
 have hne : host ≠ M.n := by omega
 have old : ∀ i, i < M.n -> i ≠ host -> (M.addR host f).nd i = M.nd i := fun i hi hi2 => zdj M host f (by omega) hi2
 have hot : (M.addR host f).nd host = { M.nd host with shadow := (M.n : Int) } := zc0 M host f hne
 refine h.to hlt (fun i hi => ?_) (fun i hi h5 => ?_) (fun i hi hi2 => ?_) (fun i hi => by
  by_cases c : i < M.n
  ·by_cases c2 : i = host
   ·subst c2; rw [hot]; exact h.okd i c
   ·rw [old i c c2]; exact h.okd i c
  ·have : i = M.n := by have : i < M.n + 1 := hi; omega
   subst this
   rw [zeb M host f hne]
   exact ⟨by show (0 : Nat) < 1000000; decide, fun h => absurd h (by show ¬ (5 : Nat) = 1; decide), fun h => absurd rfl h⟩) (fun u hu k hk => .inl (zdf hu hk))
 ·by_cases c : i = host
  ·subst c; rw [hot]; exact ⟨rfl, rfl, rfl⟩
  ·rw [old i hi c]; exact ⟨rfl, rfl, rfl⟩
 ·by_cases c : i = host
  ·subst c; rw [hot]; exact h.snd i hi h5
  ·rw [old i hi c]; exact h.snd i hi h5
 ·have : i = M.n := by have : i < M.n + 1 := hi; omega
  subst this
  rw [zeb M host f hne]
  exact ⟨fun h => absurd rfl h, ⟨fun h => absurd rfl h, fun h => absurd h.1 (by show ¬ (5 : Nat) = 1; decide)⟩, fun h6 => absurd h6 (by show ¬ (5 : Nat) = 6; decide)⟩
structure Inv (M : Dm) (R G : Nat -> List Nat) (rk : Nat -> Nat) : Prop extends Inv0 M R G rk where
 ex : Ex M R
section
variable {M : Dm} {R G : Nat -> List Nat} {rk : Nat -> Nat}
theorem Inv.new (limit : Nat) : Inv (Dm.new limit) (fun _ => []) (fun _ => []) (fun _ => 0) := ⟨Inv0.new limit, Ex.new limit⟩
theorem Inv.add (h : Inv M R G rk) (x : Nd) (hx : Znw x) (hl : x.attrs.length <= 1000) (hs : zat x.mk' = true) (ht : ¬ (x.kind = 1 /\ x.name = zcw)) (hz : x.kind = 6 -> x.name.length < 1000000) (ho : Okd x) : Inv (M.add x) (zax R M.n []) (zax G M.n []) rk :=
 ⟨h.toInv0.add x hx hl, h.ex.add h.good.wf.lt x hs ht hz ho⟩
theorem Inv.addT (h : Inv M R G rk) (x : Nd) (hx : Znw x) (hk : x.kind = 1) (hs : zat x.mk' = true) (ht : x.name = zcw) (ho : Okd x) : ∃ rk', Inv (M.addT x) (zax (zax R M.n []) (M.n + 1) []) (zax (zax G M.n []) (M.n + 1) []) rk' :=
 (h.toInv0.addT x hx hk).imp fun _ h' => ⟨h', h.ex.addT h.good.wf.lt x hs ⟨hk, ht⟩ ho⟩
theorem Inv.addR (h : Inv M R G rk) {host : Nat} (f : Fg) (hh : host < M.n) (hk : (M.nd host).kind = 1) (hs : (M.nd host).shadow = -1) : ∃ rk', Inv (M.addR host f) (zax R M.n []) (zax G M.n []) rk' :=
 (h.toInv0.addR f hh hk hs).imp fun _ h' => ⟨h', h.ex.addR h.good.wf.lt f hh⟩
theorem Inv.ins (h : Inv M R G rk) {up i : Nat} {bef : Int} (hu : up < M.n) (hi : i < M.n) (hF : Fits M up i bef) : ∃ rk', Inv (M.setP (zd8 M R up i bef)) (zdl M R up i bef) G rk' := by
 refine (h.toInv0.ins hu hi hF).imp fun _ h' => ⟨h', h.ex.to h.good.wf.lt (fun _ _ => ⟨rfl, rfl, rfl⟩) (fun i hi h5 => h.ex.snd i hi h5) (fun i hi hi2 => absurd hi (Nat.not_lt.2 hi2)) (fun i hi => h.ex.okd i hi) fun u hu' k hk => ?_⟩
 unfold zdl at hk
 by_cases c : (M.nd i).kind = 4
 ·rw [if_pos c] at hk
  rcases zhu _ _ _ hk with h1 | ⟨rfl, h1⟩
  ·exact .inl ⟨hu', h1⟩
  ·exact .inr ⟨hu', h.good.wf.lt i hi k h1, hF.1, (h.ex.kid i hi k h1).2⟩
 ·rw [if_neg c] at hk
  rcases zje hk with h1 | ⟨rfl, rfl⟩
  ·exact .inl ⟨hu', h1⟩
  ·refine .inr ⟨hu', hi, hF.1, c, fun h5 => ?_⟩
   have := hF.2.1
   unfold zfx at this
   simp [h5] at this
theorem Inv.out (h : Inv M R G rk) {i : Nat} (hi : i < M.n) : Inv (M.setP (zct M.pl i)) (zcy M.pl R i) G rk := by
 refine ⟨h.toInv0.out hi, h.ex.to h.good.wf.lt (fun _ _ => ⟨rfl, rfl, rfl⟩) (fun i hi h5 => h.ex.snd i hi h5) (fun i hi hi2 => absurd hi (Nat.not_lt.2 hi2)) (fun i hi => h.ex.okd i hi) fun u hu' k hk => .inl ⟨hu', ?_⟩⟩
 unfold zcy at hk
 split at hk
 ·exact hk
 ·by_cases c : u = (M.pl i).up.toNat
  ·subst c; rw [zaf] at hk; exact List.mem_of_mem_erase hk
  ·rw [zaj _ _ c] at hk; exact hk
theorem Inv.setN (h : Inv M R G rk) {i : Nat} (hi : i < M.n) {x : Nd} (e1 : x.kind = (M.nd i).kind) (e2 : x.name = (M.nd i).name) (e3 : x.shadow = (M.nd i).shadow) (e4 : x.host = (M.nd i).host) (e5 : x.content = (M.nd i).content) (h1 : x.kind = 1 -> za3 x.attrs = true) (h2 : x.kind ≠ 1 -> x.attrs = []) (hs : x.kind ≠ 5 -> zat x.mk' = true) (ho : Okd x) : Inv (M.setN i x) R G rk := by
 refine ⟨h.toInv0.setN hi e1 e2 e3 e4 e5 h1 h2, h.ex.to h.good.wf.lt (fun k hk => ?_) (fun k hk h5 => ?_) (fun i hi hi2 => absurd hi (Nat.not_lt.2 hi2)) (fun k hk => by
  by_cases c : k = i
  ·subst c; rw [zas]; exact ho
  ·rw [zay _ _ c]; exact h.ex.okd k hk) fun u hu' k hk => .inl ⟨hu', hk⟩⟩
 ·by_cases c : k = i
  ·subst c; rw [zas]; exact ⟨e1, e2, e5⟩
  ·rw [zay _ _ c]; exact ⟨rfl, rfl, rfl⟩
 ·by_cases c : k = i
  ·subst c; rw [zas]; exact hs (by rw [e1]; exact h5)
  ·rw [zay _ _ c]; exact h.ex.snd k hk h5
theorem Inv.setG {G' : Nat -> List Nat} {L : Nat -> Lk} (h : Inv M R G rk) (hw : WF M.n L G') (hg : Zi6 M G') : Inv (M.setG L) R G' rk :=
 ⟨h.toInv0.setG hw hg, h.ex.to h.good.wf.lt (fun _ _ => ⟨rfl, rfl, rfl⟩) (fun i hi h5 => h.ex.snd i hi h5) (fun i hi hi2 => absurd hi (Nat.not_lt.2 hi2)) (fun i hi => h.ex.okd i hi) fun u hu' k hk => .inl ⟨hu', hk⟩⟩
theorem zhj {x : Nd} (h1 : x.kind = 1) (hd : x.data = []) (hv : za6 x.name = true) (ha : za3 x.attrs = true) : zat x.mk' = true := by
 unfold zat Nd.mk' Mk.it za7
 simp [h1, zbb, zbc, hv, hd, ha]
theorem zdo {x : Nd} (h1 : x.kind = 1) (h : zat x.mk' = true) : x.data = [] := by
 unfold zat Nd.mk' Mk.it za7 at h
 simp [h1, zbb, zbc] at h
 exact h.1.2
theorem zhf {x : Nd} (h : x.kind = 2 \/ x.kind = 3) (l : List UInt8) (hs : zat x.mk' = true) : zat ({ x with data := l } : Nd).mk' = true := by
 unfold zat Nd.mk' Mk.it za7 at hs ⊢
 rcases h with h | h
 ·simp [h, zbb, zbc] at hs ⊢
  refine ⟨⟨hs.1.1, ?_⟩, hs.2⟩
  by_cases c : l = [] <;> simp [c]
 ·simp [h, zbb, zbc] at hs ⊢
  exact hs
end
end
section
open Go.RowKit
section
variable {K K' : Nat -> Prop} {w w' : World} {p : Nat} {M : Dm} {R G : Nat -> List Nat} {A : RA}
theorem DY.move {ga : Option Addr} {cap : Nat} (h : DY K w p M ga cap) (hb : ∀ g, g < w.heap.size -> ¬ K g -> w'.heap[g]? = w.heap[g]?) (hs : ∀ k, k < w.heap.size -> K' k -> K k) (hl : ∀ k, K' k -> k < w'.heap.size) : DY K' w' p M ga cap := by
 obtain ⟨h1, h2, h3, xs, aa, ac, ho, hx, ha, hsp⟩ := h
 have hp := zad h3
 have hoK : ∀ g, zap ga g -> g < w.heap.size /\ ¬ K g := fun g hg => ⟨(ho.out hg).2, fun hk => (ho.out hg).1 (.inl hk)⟩
 have haK : ∀ i, i < M.n -> ∀ g, zap (aa i) g -> g < w.heap.size /\ ¬ K g := fun i hi g hg => ⟨((ha i hi).out hg).2, fun hk => ((ha i hi).out hg).1 (.inl hk)⟩
 refine ⟨hl, fun hh => h2 (hs p hp hh), by rw [hb p hp h2]; exact h3, xs, aa, ac, Zac.to ho (fun g hg hh => ?_) (fun g hg => hb g (hoK g hg).1 (hoK g hg).2), hx, fun i hi => Zac.to (ha i hi) (fun g hg hh => ?_) (fun g hg => hb g (haK i hi g hg).1 (haK i hi g hg).2), hsp⟩
 ·rcases hh with hh | hh
  ·exact (hoK g hg).2 (hs g (hoK g hg).1 hh)
  ·exact (ho.out hg).1 (.inr hh)
 ·rcases hh with hh | hh
  ·exact (haK i hi g hg).2 (hs g (haK i hi g hg).1 hh)
  ·exact ((ha i hi).out hg).1 (.inr hh)
theorem DX.move (h : DX K w p M) (hb : ∀ g, g < w.heap.size -> ¬ K g -> w'.heap[g]? = w.heap[g]?) (hs : ∀ k, k < w.heap.size -> K' k -> K k) (hl : ∀ k, K' k -> k < w'.heap.size) : DX K' w' p M := by
 obtain ⟨ga, cap, h⟩ := h
 exact ⟨ga, cap, h.move hb hs hl⟩
theorem RY.move (h : RY K TT w p M R G A) (hb : ∀ g, g < w.heap.size -> ¬ K g -> w'.heap[g]? = w.heap[g]?) (hz : w.heap.size <= w'.heap.size) (hs : ∀ k, k < w.heap.size -> K' k -> K k) (hl : ∀ k, K' k -> k < w'.heap.size) : RY K' TT w' p M R G A := by
 have hp := h.plt
 have bad : ∀ g, g < w.heap.size -> ¬ A.bad K TT p M.n g -> ¬ A.bad K' TT p M.n g := fun g hg hb hb' => by
  rcases hb' with h1 | h1
  ·exact hb (.inl ⟨hs g hg h1.1, trivial⟩)
  ·exact hb (.inr h1)
 obtain ⟨xs, ho, hx⟩ := h.nown
 obtain ⟨ys, hq, hy⟩ := h.qown
 have hoK : ∀ g, zap A.na g -> g < w.heap.size /\ ¬ K g := fun g hg => ⟨(ho.out hg).2, fun hk => (ho.out hg).1 (.inl hk)⟩
 have hqK : ∀ g, zap A.qa g -> g < w.heap.size /\ ¬ K g := fun g hg => ⟨(hq.out hg).2, fun hk => (hq.out hg).1 (.inl hk)⟩
 have hgK : ∀ i, i < M.n -> ∀ g, zap (A.ga i) g -> g < w.heap.size /\ ¬ K g := fun i hi g hg => ⟨((h.gown i hi).out hg).2, fun hk => ((h.gown i hi).out hg).1 (.inl hk)⟩
 refine ⟨hl, fun hh => h.pk (hs p hp hh), by rw [hb p hp h.pk]; exact h.blk, ⟨xs, Zac.to ho (fun g hg hh => ?_) (fun g hg => hb g (hoK g hg).1 (hoK g hg).2), hx⟩, ⟨ys, Zac.to hq (fun g hg hh => ?_) (fun g hg => hb g (hqK g hg).1 (hqK g hg).2), hy⟩,
  fun i hi => Zac.to (h.gown i hi) (fun g hg hh => ?_) (fun g hg => hb g (hgK i hi g hg).1 (hgK i hi g hg).2), h.gsep, fun i hi => (h.ats i hi).to (fun g hg => ⟨ltl hg.1 hz, bad g hg.1 hg.2⟩) (fun g hg => hb g hg.1 fun hk => hg.2 (.inl ⟨hk, trivial⟩)), h.acl,
  fun i hi => (h.kid i hi).to (fun g hg => ⟨ltl hg.1 hz, bad g hg.1 hg.2⟩) (fun g hg => hb g hg.1 fun hk => hg.2 (.inl ⟨hk, trivial⟩)), h.kcl⟩
 ·rcases hh with hh | hh
  ·exact (hoK g hg).2 (hs g (hoK g hg).1 hh)
  ·exact (ho.out hg).1 (.inr hh)
 ·rcases hh with hh | hh
  ·exact (hqK g hg).2 (hs g (hqK g hg).1 hh)
  ·exact (hq.out hg).1 (.inr hh)
 ·rcases hh with hh | hh
  ·exact (hgK i hi g hg).2 (hs g (hgK i hi g hg).1 hh)
  ·exact ((h.gown i hi).out hg).1 (.inr hh)
theorem RX.move (h : RX K TT w p M R G) (hb : ∀ g, g < w.heap.size -> ¬ K g -> w'.heap[g]? = w.heap[g]?) (hz : w.heap.size <= w'.heap.size) (hs : ∀ k, k < w.heap.size -> K' k -> K k) (hl : ∀ k, K' k -> k < w'.heap.size) : RX K' TT w' p M R G := by
 obtain ⟨A, h⟩ := h
 exact ⟨A, h.move hb hz hs hl⟩
end
def TK (K E : Nat -> Prop) (k : Nat) : Prop := K k \/ E k
def TL (K E : Nat -> Prop) (w : World) (k : Nat) : Prop := K k \/ (k < w.heap.size /\ ¬ E k)
structure Two (K E : Nat -> Prop) (w : World) (p r : Nat) (M : Dm) (R G : Nat -> List Nat) : Prop where
 d : DX (TK K E) w p M
 r : RX (TL K E w) TT w r M R G
 nk : ∀ k, E k -> ¬ K k
theorem Two.lt {K E : Nat -> Prop} {w : World} {p r : Nat} {M : Dm} {R G : Nat -> List Nat} (h : Two K E w p r M R G) : ∀ k, K k -> k < w.heap.size := fun k hk => h.d.lt k (.inl hk)
theorem Two.kept {K E : Nat -> Prop} {w w' : World} {p r : Nat} {M : Dm} {R G : Nat -> List Nat} (h : Two K E w p r M R G) (hk : Kept (fun k => k < w.heap.size) w w') : Two K E w' p r M R G :=
 ⟨h.d.kept hk, h.r.move (fun g hg _ => hk.block g hg) hk.size (fun k hl hh => by
  rcases hh with hh | hh
  ·exact .inl hh
  ·exact .inr ⟨hl, hh.2⟩) (fun k hh => by
  rcases hh with hh | hh
  ·exact ltl (h.lt k hh) hk.size
  ·exact hh.1), h.nk⟩
theorem Two.byD {K E : Nat -> Prop} {w w' : World} {p r : Nat} {M M' : Dm} {R G : Nat -> List Nat} (h : Two K E w p r M R G) (hk : Kept (TK K E) w w') (hd : DX (TK K E) w' p M') : DX (TK K E) w' p M' /\ RX (TL K E w') TT w' r M R G /\ Kept K w w' := by
 refine ⟨hd, h.r.move (fun g hg hn => hk.block g ?_) hk.size (fun k hl hh => ?_) (fun k hh => ?_), hk.mono fun k hk => .inl hk⟩
 ·by_cases c : E g
  ·exact .inr c
  ·exact absurd (.inr ⟨hg, c⟩) hn
 ·rcases hh with hh | hh
  ·exact .inl hh
  ·exact .inr ⟨hl, hh.2⟩
 ·rcases hh with hh | hh
  ·exact ltl (h.lt k hh) hk.size
  ·exact hh.1
theorem Two.byR {K E : Nat -> Prop} {w w' : World} {p r : Nat} {M M' : Dm} {R R' G G' : Nat -> List Nat} (hd : DX (TK K E) w p M') (hnk : ∀ k, E k -> ¬ K k) (hk : Kept (TL K E w) w w') (hr : RX (TL K E w) TT w' r M' R' G') :
  Two K (fun k => k < w'.heap.size /\ ¬ K k /\ (E k \/ w.heap.size <= k)) w' p r M' R' G' /\ Kept K w w' := by
 refine ⟨⟨hd.move (fun g hg hn => hk.block g (.inr ⟨hg, fun he => hn (.inr he)⟩)) (fun k hl hh => ?_) (fun k hh => ?_), hr.more (Kept.refl _ _) (fun k hh => ?_) (fun k hh => ?_), fun k hh => hh.2.1⟩, hk.mono fun k hk => .inl hk⟩
 ·rcases hh with hh | ⟨-, -, hh | hh⟩
  ·exact .inl hh
  ·exact .inr hh
  ·omega
 ·rcases hh with hh | hh
  ·exact ltl (hd.lt k (.inl hh)) hk.size
  ·exact hh.1
 ·rcases hh with hh | ⟨h1, h2⟩
  ·exact .inl (.inl hh)
  ·by_cases ck : K k
   ·exact .inl (.inl ck)
   ·refine .inl (.inr ⟨?_, fun he => h2 ⟨h1, ck, .inl he⟩⟩)
    exact Nat.lt_of_not_le fun hw => h2 ⟨h1, ck, .inr hw⟩
 ·rcases hh with hh | hh
  ·exact ltl (hd.lt k (.inl hh)) hk.size
  ·exact hh.1
end
end Go.Proofs.YtfeinppedejlpaaGreat
