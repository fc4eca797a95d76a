/-
 The document's own add, Root.; The document's own New, Root.; The document's own Root.
-/
import Derived.Test.YtfeinppedejlpaaGreatNW14
import Derived.Test.YtfeinppedejlpaaGreatNB10
import Derived.Test.YtfeinppedejlpaaGreatNB16
namespace Go.Proofs.YtfeinppedejlpaaGreat
variable {J : Nat -> Prop}
set_option linter.unusedVariables false
set_option maxRecDepth 100000
set_option maxHeartbeats 8000000
section
open Go.RowKit Go.Sort
abbrev rV (kd : Int) (S D : ByteArray) (aa : Option Addr) (an ac : Nat) (up : Int) (ka : Option Addr) (kn kc : Nat) (sh ho co : Int) (f : Fg) : Array Value := #[.int .u8 kd, .string S, .string D, .slice aa an ac, .int .i64 up, .slice ka kn kc, .int .i64 sh, .int .i64 ho, .int .i64 co, .bool f.a, .bool f.b, .bool f.c, .bool f.d, .bool f.e]
def zij (x : Nd) : Nd := { x with shadow := -1, content := -1, host := if x.kind = 5 then x.host else -1 }
theorem zpn (cs : Array Value) (h : cs.size = 14) : ∃ v0 v1 v2 v3 v4 v5 v6 v7 v8 v9 v10 v11 v12 v13, cs = #[v0, v1, v2, v3, v4, v5, v6, v7, v8, v9, v10, v11, v12, v13] := by
 obtain ⟨l⟩ := cs
 have h : l.length = 14 := h
 match l, h with
 | [v0, v1, v2, v3, v4, v5, v6, v7, v8, v9, v10, v11, v12, v13], _ => exact ⟨v0, v1, v2, v3, v4, v5, v6, v7, v8, v9, v10, v11, v12, v13, rfl⟩
theorem zq7 (z cs : Array Value) (hz : z.size = 14) (hc : cs.size = 14) : Instr.fill (fun i => some (i * 14, 14)) z [(0, .agg cs)] = some cs := by
 obtain ⟨v0, v1, v2, v3, v4, v5, v6, v7, v8, v9, v10, v11, v12, v13, rfl⟩ := zpn cs hc
 obtain ⟨z0, z1, z2, z3, z4, z5, z6, z7, z8, z9, z10, z11, z12, z13, rfl⟩ := zpn z hz
 kernel_rfl
theorem zcr {ops : Array Oper} {o : Oper} {a : Act} {w : World} {Kn : Act -> World -> Prop} {Q : Exit -> Act -> World -> Prop} {E : Prop} (hgd : o.guard = none) (x : Operand) (ho : o.op = .load 58 x)
  (g : Nat) (hx : a.eval x = .pointer (some ⟨g, 0, none⟩)) (cs : Array Value) (hg : w.heap[g]? = some (.cells cs 58)) (hc : cs.size = 14) (h : Kn (a.put o.dst (.agg cs)) w) : if Region.wanted o (yielded ops a.tmps) = true then Oper.wp Tryz.prog o a w Kn Q else E := by
 have hw : Region.wanted o (yielded ops a.tmps) = true := by simp [Region.wanted, hgd]
 rw [if_pos hw]
 obtain ⟨inf, hi, hip⟩ := Option.map_eq_some_iff.1 zqs
 exact wp_load_row 58 x ho g hx 58 cs _ _ hg Tryz.underlying58 rfl (by rw [hi, hc]; exact congrArg some (congrArg (·.2.1) hip)) h
theorem zbk {ops : Array Oper} {o : Oper} {a : Act} {w : World} {Kn : Act -> World -> Prop} {Q : Exit -> Act -> World -> Prop} {E : Prop} (hgd : o.guard = none) (x : Operand) (ho : o.op = .buildSlice 94 1 #[(0, x)])
  (cs : Array Value) (hx : a.eval x = .agg cs) (hc : cs.size = 14) (h : Kn (a.put o.dst (.slice (some ⟨w.heap.size, 0, none⟩) 1 1)) (w.alloc (.cells cs 58))) : if Region.wanted o (yielded ops a.tmps) = true then Oper.wp Tryz.prog o a w Kn Q else E := by
 have hw : Region.wanted o (yielded ops a.tmps) = true := by simp [Region.wanted, hgd]
 rw [if_pos hw]
 obtain ⟨inf, hi, hip⟩ := Option.map_eq_some_iff.1 zqs
 have hz0 : inf.zero = _ := congrArg (·.1) hip
 have hsz : inf.size = 14 := congrArg (·.2.1) hip
 refine wp_buildSlice 94 58 1 #[(0, x)] ho cs inf _ Tryz.underlying94 hi hz0 (by rw [hsz]; decide) (by rw [hsz]; decide) ?_ h
 rw [hsz]
 have e : ((#[(0, x)] : Array (Nat × Operand)).map fun (i, x) => (i, a.eval x)).toList = [(0, .agg cs)] := by
  simp [hx]
 rw [e]
 exact zq7 _ _ (by simp) hc
theorem zfb (K : Nat -> Prop) (p : Nat) (M : Dm) (R G : Nat -> List Nat) (w0 w : World) (h : RX K J w0 p M R G) (hk : Kept (fun k => k < w0.heap.size) w0 w) (hn : M.n <= 1000000) (x : Nd) (aa : Option Addr) (ac : Nat) (hxa : Zag (fun g => w0.heap.size <= g /\ g < w.heap.size) w aa x.attrs) (hac : x.attrs.length <= ac) :
  Calls Tryz.prog 91 #[.pointer (some ⟨p, 0, none⟩), .agg (rV (x.kind : Int) ⟨x.name.toArray⟩ ⟨x.data.toArray⟩ aa x.attrs.length ac 0 none 0 0 0 x.host 0 x.fl)] w fun e w' => e = .returned (.int .i64 (M.n : Int)) /\ RX K J w' p (M.addX (zij x)) (zax R M.n []) (zax G M.n []) /\ Kept K w0 w' := by
 obtain ⟨A, hY⟩ := h
 obtain ⟨kd, hkd⟩ : ∃ kd, x.kind = kd := ⟨_, rfl⟩
 obtain ⟨S, hS⟩ : ∃ S : ByteArray, (⟨x.name.toArray⟩ : ByteArray) = S := ⟨_, rfl⟩
 obtain ⟨D, hD⟩ : ∃ D : ByteArray, (⟨x.data.toArray⟩ : ByteArray) = D := ⟨_, rfl⟩
 obtain ⟨an, han⟩ : ∃ an, x.attrs.length = an := ⟨_, rfl⟩
 obtain ⟨hz, hhz⟩ : ∃ hz, (if kd = 5 then x.host else -1) = hz := ⟨_, rfl⟩
 obtain ⟨xh, hxh⟩ : ∃ xh, x.host = xh := ⟨_, rfl⟩
 obtain ⟨cs, hcs⟩ : ∃ cs : Array Value, rV (kd : Int) S D aa an ac (-1) none 0 0 (-1) hz (-1) x.fl = cs := ⟨_, rfl⟩
 have hcE : (zce (zij x) (-1) aa ac none 0 0).toArray = cs := by
  rw [<- hcs, <- hkd, <- hS, <- hD, <- han, <- hhz, <- hkd]
  rfl
 rw [hkd, hS, hD, han, hxh]
 obtain ⟨N, hN⟩ : ∃ N, w.heap.size = N := ⟨_, rfl⟩
 obtain ⟨W, hW⟩ : ∃ W, w.alloc (.cells cs 58) = W := ⟨_, rfl⟩
 have hb : W.heap[N]? = some (.cells cs 58 (0, 0)) := by rw [<- hW, <- hN]; exact heap_alloc_new w _
 have kwW : Kept (fun k => k < w.heap.size) w W := by rw [<- hW]; exact (Kept.refl _ w).alloc (fun _ h => h) _
 have kW : Kept (fun k => k < w0.heap.size) w0 W := kt hk kwW
 have hcsz : cs.size = 14 := by rw [<- hcs]; rfl
 have hxaW : Zag (fun g => w0.heap.size <= g /\ g < W.drew.heap.size) W.drew aa (zij x).attrs := hxa.to (fun g hg => ⟨hg.1, ltl hg.2 kwW.size⟩) (fun g hg => kwW.block g hg.2)
 obtain ⟨na', nc', w1, hr1, d1, f1, hYg, hK1⟩ := hY.appN (w := W.drew) kW.drew hn (zij x) aa ac hxaW hac
 rw [hcE] at hr1
 obtain ⟨V1, hV1⟩ : ∃ V1, w1.setCell ⟨p, 1, none⟩ (.slice na' (M.n + 1) nc') = V1 := ⟨_, rfl⟩
 rw [hV1] at hYg hK1
 have gN : (A.addX M.n na' nc' aa ac).ga M.n = none := if_pos rfl
 have gC : (A.addX M.n na' nc' aa ac).gc M.n = 0 := if_pos rfl
 obtain ⟨qa', qc', w2, hr2, d2, f2, hY2, hK2⟩ := hYg.appQ rfl hn gN gC (zaf _ _ _)
 have c2 : V1.cell? ⟨p, 2, none⟩ = some (.slice A.qa M.n A.qc) := by rw [zaa hYg.blk]; rfl
 have hr2' : (Builtin.append_ #[95, 95] 95 #[.slice A.qa M.n A.qc, .slice (some ⟨V1.heap.size, 0, none⟩) 1 1]).run Tryz.prog (V1.alloc (.cells #[.slice none 0 0] 33)) = .ok (.slice qa' (M.n + 1) qc') w2 := hr2
 have d2' : w2.cell? ⟨p, 2, none⟩ = some (.slice A.qa M.n A.qc) := d2
 have c12 := hY2.c1
 have c12' : (w2.setCell ⟨p, 2, none⟩ (.slice qa' (M.n + 1) qc')).cell? ⟨p, 1, none⟩ = some (.slice na' (M.n + 1) nc') := c12
 have c1 : W.drew.cell? ⟨p, 1, none⟩ = some (.slice A.na M.n A.nc) := (kW.drew.cell (p := ⟨p, 1, none⟩) hY.plt).trans hY.c1
 have c1b : (W.alloc (.cells cs 58)).drew.cell? ⟨p, 1, none⟩ = some (.slice A.na M.n A.nc) := by
  show (W.alloc _).cell? _ = _
  rw [Kept.cell ((Kept.refl (fun k => k < W.heap.size) W).alloc (fun _ h => h) _) (p := ⟨p, 1, none⟩) (ltl hY.plt kW.size)]
  exact c1
 have c1c : (W.alloc (.cells cs 58)).cell? ⟨p, 1, none⟩ = some (.slice A.na M.n A.nc) := c1b
 have c1d : (W.drew.alloc (.cells cs 58)).cell? ⟨p, 1, none⟩ = some (.slice A.na M.n A.nc) := c1b
 obtain ⟨n, hne⟩ : ∃ n, M.n = n := ⟨_, rfl⟩
 have HY : Hid (RX K J (w2.setCell ⟨p, 2, none⟩ (.slice qa' (n + 1) qc')) p (M.addX (zij x)) (zax R n []) (zax G n [])) := by rw [<- hne]; exact (show Hid _ from ⟨_, hY2⟩)
 have HK : Hid (Kept K w0 (w2.setCell ⟨p, 2, none⟩ (.slice qa' (n + 1) qc'))) := by rw [<- hne]; exact (show Hid _ from hK1.trans hK2)
 rw [hne] at hn hr1 d1 c1 c1b c1c c1d c2 hr2' d2' c12' hV1 ⊢
 replace hr2 := hr2'
 replace d2 := d2'
 have HV1 : Hid (w1.setCell ⟨p, 1, none⟩ (.slice na' (n + 1) nc') = V1) := hV1
 have HC : Hid (W.heap[N]? = some (.cells cs 58)) := hb
 have HW : Hid (w.alloc (.cells cs 58) = W) := hW
 have HN : Hid (w.heap.size = N) := hN
 have HCS : Hid (rV (kd : Int) S D aa an ac (-1) none 0 0 (-1) hz (-1) x.fl = cs) := hcs
 clear hY hW hN hb kwW kW hxaW hYg hK1 hY2 hK2 hV1 gN gC hr2' d2' c12 hk hxa hac hcE hcs hS hD han hne hkd
 by_cases q5 : kd = 5
 ·subst q5
  have hzx : xh = hz := by rw [<- hhz, if_pos rfl, hxh]
  subst hzx
  clear hhz hxh
  have HWL : Hid (w.alloc (.cells (#[Value.int .u8 5, .string S, .string D, .slice aa an ac, .int .i64 (-1), .slice none 0 0, .int .i64 (-1), .int .i64 xh, .int .i64 (-1), .bool x.fl.a, .bool x.fl.b, .bool x.fl.c, .bool x.fl.d, .bool x.fl.e]) 58) = W) := by rw [<- HW.out, <- HCS.out]; exact (show Hid _ from rfl)
  go_enter Tryz.func91, Tryz.ntmps91
  go_upto_region 6 with fail
  rw [HWL.out, HN.out]
  clear HW HN HCS HWL
  refine wp_region_any (by kernel_rfl) ?_
  change wpAny _ _ _ _ _ _ _ (World.drew _)
  refine wpAny_take (i := 0) (v := .pointer (some ⟨p, 0, none⟩)) rfl (by kernel_rfl) (by kernel_rfl) (by kernel_rfl) (fun _ _ _ h => h) (Or.inl ⟨by rfl, by intro w; go_simp; try with_reducible rfl⟩) ?_
  refine wpAny_take (i := 1) (v := .pointer (some ⟨p, 0, none⟩)) rfl (by kernel_rfl) (by kernel_rfl) (by kernel_rfl) (fun _ _ _ h => h) (Or.inl ⟨by rfl, by intro w; go_simp; try with_reducible rfl⟩) ?_
  refine wpAny_take (i := 2) (v := .pointer (some ⟨p, 0, none⟩)) rfl (by kernel_rfl) (by kernel_rfl) (by kernel_rfl) (fun _ _ _ h => h) (Or.inl ⟨by rfl, by intro w; go_simp; try with_reducible rfl⟩) ?_
  refine wpAny_take (i := 3) (v := .pointer (some ⟨p, 1, none⟩)) rfl (by kernel_rfl) (by kernel_rfl) (by kernel_rfl) (fun _ _ _ h => h) (Or.inl ⟨by rfl, by intro w; go_simp; try with_reducible rfl⟩) ?_
  refine wpAny_ready (rs := [4, 5]) (by kernel_rfl) (by simp) ?_
  refine AllReady.cons rfl (fun K hK => ?_) (AllReady.cons rfl (fun K hK => ?_) AllReady.nil)
  ·go_simp
   refine hK _ _ ?_
   clear hK K
   refine wpAny_ready (rs := [5]) (by kernel_rfl) (by simp) ?_
   refine AllReady.cons rfl (fun K hK => ?_) AllReady.nil
   refine zcr rfl (.tmp 3) rfl N rfl cs HC.out hcsz ?_
   refine hK _ _ ?_
   clear hK K
   refine wpAny_ready (rs := [6]) (by kernel_rfl) (by simp) ?_
   refine AllReady.cons rfl (fun K hK => ?_) AllReady.nil
   refine zbk rfl (.tmp 17) rfl cs rfl hcsz ?_
   refine hK _ _ ?_
   clear hK K
   refine wpAny_ready (rs := [7]) (by kernel_rfl) (by simp) ?_
   refine AllReady.cons rfl (fun K hK => ?_) AllReady.nil
   refine zbf (w' := w1) rfl (.tmp 16) (.tmp 18) 94 94 rfl _ _ (.slice na' (n + 1) nc') rfl rfl hr1 ?_
   refine hK _ _ ?_
   clear hK K
   refine wpAny_take (i := 8) (v := .pointer (some ⟨p, 0, none⟩)) rfl (by kernel_rfl) (by kernel_rfl) (by kernel_rfl) (fun _ _ _ h => h) (Or.inl ⟨by rfl, by intro w; go_simp; try with_reducible rfl⟩) ?_
   refine wpAny_take (i := 9) (v := .pointer (some ⟨p, 1, none⟩)) rfl (by kernel_rfl) (by kernel_rfl) (by kernel_rfl) (fun _ _ _ h => h) (Or.inl ⟨by rfl, by intro w; go_simp; try with_reducible rfl⟩) ?_
   refine wpAny_ready (rs := [10]) (by kernel_rfl) (by simp) ?_
   refine AllReady.cons rfl (fun K hK => ?_) AllReady.nil
   go_simp
   refine hK _ _ ?_
   clear hK K
   refine wpAny_done (by kernel_rfl) ?_ _
   go_upto_region 7 with fail
   rw [HV1.out]
   go_wp2_with (at_builtin; refine zak (w' := w2) rfl (.tmp 26) (.tmp 27) 95 95 rfl _ _ (.slice qa' (n + 1) qc') rfl rfl hr2 ?_)
   go_ret
   exact ⟨by simp, HY.out, HK.out⟩
  ·refine zcr rfl (.tmp 3) rfl N rfl cs HC.out hcsz ?_
   refine hK _ _ ?_
   clear hK K
   refine wpAny_ready (rs := [4, 6]) (by kernel_rfl) (by simp) ?_
   refine AllReady.cons rfl (fun K hK => ?_) (AllReady.cons rfl (fun K hK => ?_) AllReady.nil)
   ·go_simp
    refine hK _ _ ?_
    clear hK K
    refine wpAny_ready (rs := [6]) (by kernel_rfl) (by simp) ?_
    refine AllReady.cons rfl (fun K hK => ?_) AllReady.nil
    refine zbk rfl (.tmp 17) rfl cs rfl hcsz ?_
    refine hK _ _ ?_
    clear hK K
    refine wpAny_ready (rs := [7]) (by kernel_rfl) (by simp) ?_
    refine AllReady.cons rfl (fun K hK => ?_) AllReady.nil
    refine zbf (w' := w1) rfl (.tmp 16) (.tmp 18) 94 94 rfl _ _ (.slice na' (n + 1) nc') rfl rfl hr1 ?_
    refine hK _ _ ?_
    clear hK K
    refine wpAny_take (i := 8) (v := .pointer (some ⟨p, 0, none⟩)) rfl (by kernel_rfl) (by kernel_rfl) (by kernel_rfl) (fun _ _ _ h => h) (Or.inl ⟨by rfl, by intro w; go_simp; try with_reducible rfl⟩) ?_
    refine wpAny_take (i := 9) (v := .pointer (some ⟨p, 1, none⟩)) rfl (by kernel_rfl) (by kernel_rfl) (by kernel_rfl) (fun _ _ _ h => h) (Or.inl ⟨by rfl, by intro w; go_simp; try with_reducible rfl⟩) ?_
    refine wpAny_ready (rs := [10]) (by kernel_rfl) (by simp) ?_
    refine AllReady.cons rfl (fun K hK => ?_) AllReady.nil
    go_simp
    refine hK _ _ ?_
    clear hK K
    refine wpAny_done (by kernel_rfl) ?_ _
    go_upto_region 7 with fail
    rw [HV1.out]
    go_wp2_with (at_builtin; refine zak (w' := w2) rfl (.tmp 26) (.tmp 27) 95 95 rfl _ _ (.slice qa' (n + 1) qc') rfl rfl hr2 ?_)
    go_ret
    exact ⟨by simp, HY.out, HK.out⟩
   ·refine zbk rfl (.tmp 17) rfl cs rfl hcsz ?_
    refine hK _ _ ?_
    clear hK K
    refine wpAny_ready (rs := [4]) (by kernel_rfl) (by simp) ?_
    refine AllReady.cons rfl (fun K hK => ?_) AllReady.nil
    go_simp
    refine hK _ _ ?_
    clear hK K
    refine wpAny_ready (rs := [7]) (by kernel_rfl) (by simp) ?_
    refine AllReady.cons rfl (fun K hK => ?_) AllReady.nil
    refine zbf (w' := w1) rfl (.tmp 16) (.tmp 18) 94 94 rfl _ _ (.slice na' (n + 1) nc') rfl rfl hr1 ?_
    refine hK _ _ ?_
    clear hK K
    refine wpAny_take (i := 8) (v := .pointer (some ⟨p, 0, none⟩)) rfl (by kernel_rfl) (by kernel_rfl) (by kernel_rfl) (fun _ _ _ h => h) (Or.inl ⟨by rfl, by intro w; go_simp; try with_reducible rfl⟩) ?_
    refine wpAny_take (i := 9) (v := .pointer (some ⟨p, 1, none⟩)) rfl (by kernel_rfl) (by kernel_rfl) (by kernel_rfl) (fun _ _ _ h => h) (Or.inl ⟨by rfl, by intro w; go_simp; try with_reducible rfl⟩) ?_
    refine wpAny_ready (rs := [10]) (by kernel_rfl) (by simp) ?_
    refine AllReady.cons rfl (fun K hK => ?_) AllReady.nil
    go_simp
    refine hK _ _ ?_
    clear hK K
    refine wpAny_done (by kernel_rfl) ?_ _
    go_upto_region 7 with fail
    rw [HV1.out]
    go_wp2_with (at_builtin; refine zak (w' := w2) rfl (.tmp 26) (.tmp 27) 95 95 rfl _ _ (.slice qa' (n + 1) qc') rfl rfl hr2 ?_)
    go_ret
    exact ⟨by simp, HY.out, HK.out⟩
 ·have p5 : ((kd : Int) == 5) = false := by simp; omega
  have hzx : hz = -1 := by rw [<- hhz, if_neg q5]
  subst hzx
  clear hhz hxh
  have HWL : Hid (w.alloc (.cells (#[Value.int .u8 (kd : Int), .string S, .string D, .slice aa an ac, .int .i64 (-1), .slice none 0 0, .int .i64 (-1), .int .i64 (-1), .int .i64 (-1), .bool x.fl.a, .bool x.fl.b, .bool x.fl.c, .bool x.fl.d, .bool x.fl.e]) 58) = W) := by rw [<- HW.out, <- HCS.out]; exact (show Hid _ from rfl)
  go_enter Tryz.func91, Tryz.ntmps91
  go_upto_region 6 with fail
  rw [HWL.out, HN.out]
  clear HW HN HCS HWL
  refine wp_region_any (by kernel_rfl) ?_
  change wpAny _ _ _ _ _ _ _ (World.drew _)
  refine wpAny_take (i := 0) (v := .pointer (some ⟨p, 0, none⟩)) rfl (by kernel_rfl) (by kernel_rfl) (by kernel_rfl) (fun _ _ _ h => h) (Or.inl ⟨by rfl, by intro w; go_simp; try with_reducible rfl⟩) ?_
  refine wpAny_take (i := 1) (v := .pointer (some ⟨p, 0, none⟩)) rfl (by kernel_rfl) (by kernel_rfl) (by kernel_rfl) (fun _ _ _ h => h) (Or.inl ⟨by rfl, by intro w; go_simp; try with_reducible rfl⟩) ?_
  refine wpAny_take (i := 2) (v := .pointer (some ⟨p, 0, none⟩)) rfl (by kernel_rfl) (by kernel_rfl) (by kernel_rfl) (fun _ _ _ h => h) (Or.inl ⟨by rfl, by intro w; go_simp; try with_reducible rfl⟩) ?_
  refine wpAny_take (i := 3) (v := .pointer (some ⟨p, 1, none⟩)) rfl (by kernel_rfl) (by kernel_rfl) (by kernel_rfl) (fun _ _ _ h => h) (Or.inl ⟨by rfl, by intro w; go_simp; try with_reducible rfl⟩) ?_
  refine wpAny_ready (rs := [4, 5]) (by kernel_rfl) (by simp) ?_
  refine AllReady.cons rfl (fun K hK => ?_) (AllReady.cons rfl (fun K hK => ?_) AllReady.nil)
  ·go_simp
   refine hK _ _ ?_
   clear hK K
   refine wpAny_ready (rs := [5]) (by kernel_rfl) (by simp) ?_
   refine AllReady.cons rfl (fun K hK => ?_) AllReady.nil
   refine zcr rfl (.tmp 3) rfl N rfl cs HC.out hcsz ?_
   refine hK _ _ ?_
   clear hK K
   refine wpAny_ready (rs := [6]) (by kernel_rfl) (by simp) ?_
   refine AllReady.cons rfl (fun K hK => ?_) AllReady.nil
   refine zbk rfl (.tmp 17) rfl cs rfl hcsz ?_
   refine hK _ _ ?_
   clear hK K
   refine wpAny_ready (rs := [7]) (by kernel_rfl) (by simp) ?_
   refine AllReady.cons rfl (fun K hK => ?_) AllReady.nil
   refine zbf (w' := w1) rfl (.tmp 16) (.tmp 18) 94 94 rfl _ _ (.slice na' (n + 1) nc') rfl rfl hr1 ?_
   refine hK _ _ ?_
   clear hK K
   refine wpAny_take (i := 8) (v := .pointer (some ⟨p, 0, none⟩)) rfl (by kernel_rfl) (by kernel_rfl) (by kernel_rfl) (fun _ _ _ h => h) (Or.inl ⟨by rfl, by intro w; go_simp; try with_reducible rfl⟩) ?_
   refine wpAny_take (i := 9) (v := .pointer (some ⟨p, 1, none⟩)) rfl (by kernel_rfl) (by kernel_rfl) (by kernel_rfl) (fun _ _ _ h => h) (Or.inl ⟨by rfl, by intro w; go_simp; try with_reducible rfl⟩) ?_
   refine wpAny_ready (rs := [10]) (by kernel_rfl) (by simp) ?_
   refine AllReady.cons rfl (fun K hK => ?_) AllReady.nil
   go_simp
   refine hK _ _ ?_
   clear hK K
   refine wpAny_done (by kernel_rfl) ?_ _
   go_upto_region 7 with fail
   rw [HV1.out]
   go_wp2_with (at_builtin; refine zak (w' := w2) rfl (.tmp 26) (.tmp 27) 95 95 rfl _ _ (.slice qa' (n + 1) qc') rfl rfl hr2 ?_)
   go_ret
   exact ⟨by simp, HY.out, HK.out⟩
  ·refine zcr rfl (.tmp 3) rfl N rfl cs HC.out hcsz ?_
   refine hK _ _ ?_
   clear hK K
   refine wpAny_ready (rs := [4, 6]) (by kernel_rfl) (by simp) ?_
   refine AllReady.cons rfl (fun K hK => ?_) (AllReady.cons rfl (fun K hK => ?_) AllReady.nil)
   ·go_simp
    refine hK _ _ ?_
    clear hK K
    refine wpAny_ready (rs := [6]) (by kernel_rfl) (by simp) ?_
    refine AllReady.cons rfl (fun K hK => ?_) AllReady.nil
    refine zbk rfl (.tmp 17) rfl cs rfl hcsz ?_
    refine hK _ _ ?_
    clear hK K
    refine wpAny_ready (rs := [7]) (by kernel_rfl) (by simp) ?_
    refine AllReady.cons rfl (fun K hK => ?_) AllReady.nil
    refine zbf (w' := w1) rfl (.tmp 16) (.tmp 18) 94 94 rfl _ _ (.slice na' (n + 1) nc') rfl rfl hr1 ?_
    refine hK _ _ ?_
    clear hK K
    refine wpAny_take (i := 8) (v := .pointer (some ⟨p, 0, none⟩)) rfl (by kernel_rfl) (by kernel_rfl) (by kernel_rfl) (fun _ _ _ h => h) (Or.inl ⟨by rfl, by intro w; go_simp; try with_reducible rfl⟩) ?_
    refine wpAny_take (i := 9) (v := .pointer (some ⟨p, 1, none⟩)) rfl (by kernel_rfl) (by kernel_rfl) (by kernel_rfl) (fun _ _ _ h => h) (Or.inl ⟨by rfl, by intro w; go_simp; try with_reducible rfl⟩) ?_
    refine wpAny_ready (rs := [10]) (by kernel_rfl) (by simp) ?_
    refine AllReady.cons rfl (fun K hK => ?_) AllReady.nil
    go_simp
    refine hK _ _ ?_
    clear hK K
    refine wpAny_done (by kernel_rfl) ?_ _
    go_upto_region 7 with fail
    rw [HV1.out]
    go_wp2_with (at_builtin; refine zak (w' := w2) rfl (.tmp 26) (.tmp 27) 95 95 rfl _ _ (.slice qa' (n + 1) qc') rfl rfl hr2 ?_)
    go_ret
    exact ⟨by simp, HY.out, HK.out⟩
   ·refine zbk rfl (.tmp 17) rfl cs rfl hcsz ?_
    refine hK _ _ ?_
    clear hK K
    refine wpAny_ready (rs := [4]) (by kernel_rfl) (by simp) ?_
    refine AllReady.cons rfl (fun K hK => ?_) AllReady.nil
    go_simp
    refine hK _ _ ?_
    clear hK K
    refine wpAny_ready (rs := [7]) (by kernel_rfl) (by simp) ?_
    refine AllReady.cons rfl (fun K hK => ?_) AllReady.nil
    refine zbf (w' := w1) rfl (.tmp 16) (.tmp 18) 94 94 rfl _ _ (.slice na' (n + 1) nc') rfl rfl hr1 ?_
    refine hK _ _ ?_
    clear hK K
    refine wpAny_take (i := 8) (v := .pointer (some ⟨p, 0, none⟩)) rfl (by kernel_rfl) (by kernel_rfl) (by kernel_rfl) (fun _ _ _ h => h) (Or.inl ⟨by rfl, by intro w; go_simp; try with_reducible rfl⟩) ?_
    refine wpAny_take (i := 9) (v := .pointer (some ⟨p, 1, none⟩)) rfl (by kernel_rfl) (by kernel_rfl) (by kernel_rfl) (fun _ _ _ h => h) (Or.inl ⟨by rfl, by intro w; go_simp; try with_reducible rfl⟩) ?_
    refine wpAny_ready (rs := [10]) (by kernel_rfl) (by simp) ?_
    refine AllReady.cons rfl (fun K hK => ?_) AllReady.nil
    go_simp
    refine hK _ _ ?_
    clear hK K
    refine wpAny_done (by kernel_rfl) ?_ _
    go_upto_region 7 with fail
    rw [HV1.out]
    go_wp2_with (at_builtin; refine zak (w' := w2) rfl (.tmp 26) (.tmp 27) 95 95 rfl _ _ (.slice qa' (n + 1) qc') rfl rfl hr2 ?_)
    go_ret
    exact ⟨by simp, HY.out, HK.out⟩
end
section
open Go.RowKit Go.Sort
def RA.none : RA := ⟨.none, 0, .none, 0, fun _ => .none, fun _ => 0, fun _ => .none, fun _ => 0, fun _ => .none, fun _ => 0⟩
theorem zqv : Tryz.prog.built 58 [(0, .int .u8 4)] = some (rV 4 ⟨#[]⟩ ⟨#[]⟩ none 0 0 0 none 0 0 0 0 0 ⟨false, false, false, false, false⟩) := by kernel_rfl
theorem zoa (limit : Nat) (w : World) (h1 : 1 <= limit) (h2 : limit <= 5000) : Calls Tryz.prog 28 #[.int .i64 (limit : Int)] w fun e w' => ∃ p, e = .returned (.pointer (some ⟨p, 0, none⟩)) /\ w.heap.size <= p /\ RX (fun k => k < w.heap.size) J w' p (Dm.new limit) (fun _ => []) (fun _ => []) /\ Kept (fun k => k < w.heap.size) w w' := by
 obtain ⟨W, hW⟩ : ∃ W, w.alloc (.cells #[.int .i64 (limit : Int), .slice none 0 0, .slice none 0 0] 97) = W := ⟨_, rfl⟩
 obtain ⟨N, hN⟩ : ∃ N, w.heap.size = N := ⟨_, rfl⟩
 have kW : Kept (fun k => k < w.heap.size) w W := by rw [<- hW]; exact (Kept.refl _ w).alloc (fun _ h => h) _
 have hY : RX (fun k => k < w.heap.size) J W N { limit := limit, n := 0, nd := fun _ => za4, pl := fun _ => Lk.nil, gf := fun _ => Lk.nil } (fun _ => []) (fun _ => []) := by
  refine ⟨RA.none, fun k hk => ltl hk kW.size, by rw [<- hN]; exact Nat.lt_irrefl _, by rw [<- hW, <- hN]; exact heap_alloc_new w _, ⟨[], Zac.nil _ _ _ _, fun i hi => absurd hi (Nat.not_lt_zero _)⟩, ⟨[], Zac.nil _ _ _ _, fun i hi => absurd hi (Nat.not_lt_zero _)⟩, fun i hi => absurd hi (Nat.not_lt_zero _), fun i j hi => absurd hi (Nat.not_lt_zero _), fun i hi => absurd hi (Nat.not_lt_zero _), fun i hi => absurd hi (Nat.not_lt_zero _), fun i hi => absurd hi (Nat.not_lt_zero _), fun i hi => absurd hi (Nat.not_lt_zero _)⟩
 have r := zfb (fun k => k < w.heap.size) N _ _ _ W W hY (Kept.refl _ _) (Nat.zero_le _) za4 none 0 (Zag.nil _ _ _) (Nat.le_refl _)
 have HR : Hid (Calls Tryz.prog 91 #[.pointer (some ⟨N, 0, none⟩), .agg (rV 4 ⟨#[]⟩ ⟨#[]⟩ none 0 0 0 none 0 0 0 0 0 ⟨false, false, false, false, false⟩)] W fun e w' => e = .returned (.int .i64 0) /\ RX (fun k => k < w.heap.size) J w' N (Dm.new limit) (fun _ => []) (fun _ => []) /\ Kept (fun k => k < w.heap.size) W w') := r.mono fun e w' hh => ⟨hh.1, hh.2.1.congr rfl rfl (fun _ _ => rfl) (fun _ _ => rfl) (fun i _ => by unfold zax; split <;> rfl) (fun i _ => by unfold zax; split <;> rfl), hh.2.2⟩
 have HW : Hid (w.alloc (.cells #[.int .i64 (limit : Int), .slice none 0 0, .slice none 0 0] 97) = W) := hW
 have HN : Hid (w.heap.size = N) := hN
 have HK : Hid (Kept (fun k => k < w.heap.size) w W) := kW
 have e1 : decide ((limit : Int) < 1) = false := decide_eq_false (by omega)
 have e2 : decide ((limit : Int) > 5000) = false := decide_eq_false (by omega)
 clear r hW hN kW hY
 go_enter Tryz.func28, Tryz.ntmps28
 go_wp2_with fail
 rw [HW.out, HN.out]
 refine HR.out.mono ?_
 rintro e w1 ⟨rfl, hX, hK1⟩
 have HX : Hid (RX (fun k => k < w.heap.size) J w1 N (Dm.new limit) (fun _ => []) (fun _ => [])) := hX
 have HK1 : Hid (Kept (fun k => k < w.heap.size) w w1) := HK.out.trans hK1
 clear hX hK1 HR
 go_wp2
 go_ret
 exact ⟨N, rfl, by rw [HN.out]; exact Nat.le_refl _, HX.out, HK1.out⟩
end
section
open Go.RowKit Go.Sort
theorem zj7 (K : Nat -> Prop) (p : Nat) (M : Dm) (R G : Nat -> List Nat) (i : Int) (f : Fg) (w : World) (h : RX K J w p M R G) (hi : i < 0 \/ (M.n : Int) <= i) :
  Calls Tryz.prog 97 #[.pointer (some ⟨p, 0, none⟩), .int .i64 i, fgV f] w fun e w' => e = .returned (.tuple #[.int .i64 0, .int .i64 80]) /\ Kept (fun k => k < w.heap.size) w w' := by
 have kb : ∀ o : Obj, Kept (fun k => k < w.heap.size) w (w.alloc o) := fun o => (Kept.refl _ w).alloc (fun _ h => h) _
 have rt := fun o => zae K p M R G i (w.alloc o) (h.kept (kb o))
 rw [zbv hi] at rt
 have HK : Hid (∀ o : Obj, Kept (fun k => k < w.heap.size) w (w.alloc o)) := kb
 clear h hi kb
 go_enter Tryz.func97, Tryz.ntmps97
 go_wp2_with (go_at_call 160; refine (rt _).mono ?_; rintro e1 w3 ⟨rfl, hw3⟩; replace hw3 := hw3.symm; subst hw3)
 go_ret2
 exact ⟨rfl, HK.out _⟩
inductive RRoots (K J : Nat -> Prop) (p : Nat) (M : Dm) (R G : Nat -> List Nat) (host : Nat) (f : Fg) (e : Ending) (w' : World) : Prop
 | host : (M.nd host).kind ≠ 1 -> e = .returned (.tuple #[.int .i64 0, .int .i64 100]) -> RX K J w' p M R G -> RRoots K J p M R G host f e w'
 | twice : (M.nd host).kind = 1 -> (M.nd host).shadow ≠ -1 -> e = .returned (.tuple #[.int .i64 0, .int .i64 101]) -> RX K J w' p M R G -> RRoots K J p M R G host f e w'
 | full : (M.nd host).kind = 1 -> (M.nd host).shadow = -1 -> M.limit < M.n + 1 -> e = .returned (.tuple #[.int .i64 0, .int .i64 3]) -> RX K J w' p M R G -> RRoots K J p M R G host f e w'
 | made : (M.nd host).kind = 1 -> (M.nd host).shadow = -1 -> M.n + 1 <= M.limit -> e = .returned (.tuple #[.int .i64 (M.n : Int), .int .i64 0]) -> RX K J w' p (M.addR host f) (zax R M.n []) (zax G M.n []) -> RRoots K J p M R G host f e w'
def shX (f : Fg) (host : Nat) : Nd := { shN f with host := (host : Int) }
theorem zpr (f : Fg) (z : Int) : Tryz.prog.built 58 [(0, .int .u8 5), (9, .agg #[.bool f.a, .bool f.b, .bool f.c, .bool f.d, .bool f.e]), (7, .int .i64 z)] = some (rV 5 ⟨#[]⟩ ⟨#[]⟩ none 0 0 0 none 0 0 0 z 0 f) := by kernel_rfl
theorem zas (M : Dm) (i : Nat) (x : Nd) : (M.setN i x).nd i = x := if_pos rfl
theorem zay (M : Dm) {i j : Nat} (x : Nd) (h : j ≠ i) : (M.setN i x).nd j = M.nd j := if_neg h
theorem zlg {M : Dm} {host : Nat} {f : Fg} (hh : host < M.n) : ∀ i, i < M.n + 1 -> (M.addR host f).nd i = ((M.addX (zij (shX f host))).setN host { (M.addX (zij (shX f host))).nd host with shadow := (M.n : Int) }).nd i := by
 intro i hi
 by_cases c : i = host
 ·subst c
  rw [zc0 _ _ _ (by omega), zas]
  have : (M.addX (zij (shX f i))).nd i = M.nd i := if_neg (by omega)
  rw [this]
 ·rw [zay _ _ c]
  by_cases c2 : i = M.n
  ·subst c2
   rw [zeb _ _ _ (by omega)]
   have : (M.addX (zij (shX f host))).nd M.n = zij (shX f host) := if_pos rfl
   rw [this]
   rfl
  ·rw [zdj _ _ _ c2 c]
   exact (if_neg c2).symm
theorem zjb (K : Nat -> Prop) (p host : Nat) (M : Dm) (R G : Nat -> List Nat) (f : Fg) (w : World) (h : RX K J w p M R G) (hi : host < M.n) (hn : M.n <= 100000) (hL : M.limit <= 100000) (hsh : (M.nd host).shadow = -1 \/ 0 <= (M.nd host).shadow) :
  Calls Tryz.prog 97 #[.pointer (some ⟨p, 0, none⟩), .int .i64 (host : Int), fgV f] w fun e w' => Kept K w w' /\ RRoots K J p M R G host f e w' := by
 obtain ⟨W, hW⟩ : ∃ W, w.alloc (.cells #[.bool f.a, .bool f.b, .bool f.c, .bool f.d, .bool f.e] 48) = W := ⟨_, rfl⟩
 obtain ⟨N, hN⟩ : ∃ N, w.heap.size = N := ⟨_, rfl⟩
 have kW : Kept (fun k => k < w.heap.size) w W := by rw [<- hW]; exact (Kept.refl _ w).alloc (fun _ h => h) _
 have hfb : W.heap[N]? = some (.cells #[.bool f.a, .bool f.b, .bool f.c, .bool f.d, .bool f.e] 48 (0, 0)) := by rw [<- hW, <- hN]; exact heap_alloc_new w _
 have hXW := h.kept kW
 have rt := zae K p M R G (host : Int) W hXW
 rw [zal hi] at rt
 have HX : Hid (RX K J W p M R G) := hXW
 have HKW : Hid (Kept K w W) := kW.mono h.lt
 have HFB : Hid (W.heap[N]? = some (.cells #[.bool f.a, .bool f.b, .bool f.c, .bool f.d, .bool f.e] 48 (0, 0))) := hfb
 obtain ⟨A, hY⟩ := hXW
 obtain ⟨g, hg, -, -, hgl⟩ := hY.nat (by omega)
 have c1 := hY.c1
 rw [hg] at c1
 have cL := hY.c0
 have c0 : W.cell? ⟨g, host * 14, none⟩ = some (.int .u8 ((M.nd host).kind : Int)) := hY.cell hg hi 0 _ rfl
 have c6 : W.cell? ⟨g, host * 14 + 6, none⟩ = some (.int .i64 (M.nd host).shadow) := hY.cell hg hi 6 _ rfl
 have HW : Hid (w.alloc (.cells #[.bool f.a, .bool f.b, .bool f.c, .bool f.d, .bool f.e] 48) = W) := hW
 have HN : Hid (w.heap.size = N) := hN
 obtain ⟨kd, hkd⟩ : ∃ kd, (M.nd host).kind = kd := ⟨_, rfl⟩
 have HKD : Hid ((M.nd host).kind = kd) := hkd
 rw [hkd] at c0
 obtain ⟨s, hs⟩ : ∃ s, (M.nd host).shadow = s := ⟨_, rfl⟩
 have HSH : Hid ((M.nd host).shadow = s) := hs
 rw [hs] at c6 hsh
 clear hY hg h hW hN kW hkd hs
 by_cases q1 : kd = 1
 ·subst q1
  rcases hsh with hsn | hsp
  ·subst hsn
   have e0 : decide ((-1 : Int) >= 0) = false := by decide
   obtain ⟨n, hne⟩ : ∃ n, M.n = n := ⟨_, rfl⟩
   obtain ⟨L, hLe⟩ : ∃ L, M.limit = L := ⟨_, rfl⟩
   have HNE : Hid (M.n = n) := hne
   have HLE : Hid (M.limit = L) := hLe
   rw [hne] at c1 hi hn
   rw [hLe] at cL hL
   by_cases hroom : L <= n
   ·have e1 : decide ((n : Int) >= (L : Int)) = true := decide_eq_true (by omega)
    clear hfb hne hLe
    go_enter Tryz.func97, Tryz.ntmps97
    go_upto_region 1 with fail
    rw [HW.out, HN.out]
    go_upto_region 7 with (go_at_call 160; refine rt.mono ?_; rintro e1 w3 ⟨rfl, hw3⟩; replace hw3 := hw3.symm; subst hw3)
    go_quiet (fail)
    go_wp2
    go_ret2
    exact ⟨HKW.out.drewN nq, .full HKD.out HSH.out (by rw [HNE.out, HLE.out]; omega) rfl (HX.out.kept ((Kept.refl _ W).drewN nq))⟩
   ·have e1 : decide ((n : Int) >= (L : Int)) = false := decide_eq_false (by omega)
    have b0 : ∀ m, (W.drewN m).cell? ⟨N, 0, none⟩ = some (.bool f.a) := fun m => by show W.cell? _ = _; rw [zaa hfb]; rfl
    have b1 : ∀ m, (W.drewN m).cell? ⟨N, 1, none⟩ = some (.bool f.b) := fun m => by show W.cell? _ = _; rw [zaa hfb]; rfl
    have b2 : ∀ m, (W.drewN m).cell? ⟨N, 2, none⟩ = some (.bool f.c) := fun m => by show W.cell? _ = _; rw [zaa hfb]; rfl
    have b3 : ∀ m, (W.drewN m).cell? ⟨N, 3, none⟩ = some (.bool f.d) := fun m => by show W.cell? _ = _; rw [zaa hfb]; rfl
    have b4 : ∀ m, (W.drewN m).cell? ⟨N, 4, none⟩ = some (.bool f.e) := fun m => by show W.cell? _ = _; rw [zaa hfb]; rfl
    have ra := fun m => zfb K p M R G (W.drewN m) (W.drewN m) (HX.out.kept ((Kept.refl _ W).drewN m)) (Kept.refl _ _) (by rw [HNE.out]; omega) (shX f host) none 0 (Zag.nil _ _ _) (Nat.le_refl _)
    have hbu := zpr f (host : Int)
    have hnl : n <= 100000 := hn
    rw [hne] at ra
    clear hfb hne hLe
    go_enter Tryz.func97, Tryz.ntmps97
    go_upto_region 1 with fail
    rw [HW.out, HN.out]
    go_upto_region 7 with (go_at_call 160; refine rt.mono ?_; rintro e1 w3 ⟨rfl, hw3⟩; replace hw3 := hw3.symm; subst hw3)
    go_quiet (fail)
    go_upto_region 9 with fail
    go_wp2_with fail
    refine (ra nq).mono ?_
    rintro e w5 ⟨rfl, ⟨A5, hY5⟩, hK5⟩
    have hn5 : (M.addX (zij (shX f host))).n = n + 1 := by show M.n + 1 = _; rw [HNE.out]
    have hi5 : host < (M.addX (zij (shX f host))).n := by rw [hn5]; omega
    obtain ⟨g5, hg5, -, -, -⟩ := hY5.nat (by rw [hn5]; omega)
    have d1 := hY5.c1
    rw [hg5, hn5] at d1
    have d6 : w5.cell? ⟨g5, host * 14 + 6, none⟩ = some (.int .i64 ((M.addX (zij (shX f host))).nd host).shadow) := hY5.cell hg5 hi5 6 _ rfl
    have f6 := hY5.fg hg5 (host * 14 + 6)
    obtain ⟨hY6, hK6⟩ := hY5.setShadow hg5 hi5 (n : Int)
    have HX6 : Hid (RX K J (w5.setCell ⟨g5, host * 14 + 6, none⟩ (.int .i64 (n : Int))) p (M.addR host f) (zax R M.n []) (zax G M.n [])) := by
     have hhn : host < M.n := by rw [HNE.out]; exact hi
     have : RX K J (w5.setCell ⟨g5, host * 14 + 6, none⟩ (.int .i64 (n : Int))) p ((M.addX (zij (shX f host))).setN host { (M.addX (zij (shX f host))).nd host with shadow := (M.n : Int) }) (zax R M.n []) (zax G M.n []) := by rw [HNE.out]; exact ⟨_, hY6⟩
     exact (show Hid _ from this.congr rfl rfl (fun i hi => zlg hhn i hi) (fun _ _ => rfl) (fun _ _ => rfl) (fun _ _ => rfl))
    have HK6 : Hid (Kept K w (w5.setCell ⟨g5, host * 14 + 6, none⟩ (.int .i64 (n : Int)))) := ((HKW.out.drewN nq).trans hK5).trans hK6
    clear hY5 hK5 hY6 hK6 ra hbu b0 b1 b2 b3 b4 hi5 hg5
    go_wp2
    go_ret2
    exact ⟨HK6.out, .made HKD.out HSH.out (by rw [HNE.out, HLE.out]; omega) (by rw [HNE.out]; rfl) HX6.out⟩
  ·have e0 : decide (s >= 0) = true := decide_eq_true hsp
   clear hfb
   go_enter Tryz.func97, Tryz.ntmps97
   go_upto_region 1 with fail
   rw [HW.out, HN.out]
   go_wp2_with (go_at_call 160; refine rt.mono ?_; rintro e1 w3 ⟨rfl, hw3⟩; replace hw3 := hw3.symm; subst hw3)
   go_ret2
   exact ⟨HKW.out, .twice HKD.out (by rw [HSH.out]; omega) rfl HX.out⟩
 ·have p1 : ((kd : Int) == 1) = false := by simp; omega
  have n1 : ((kd : Int) != 1) = true := by simp; omega
  clear hfb
  go_enter Tryz.func97, Tryz.ntmps97
  go_upto_region 1 with fail
  rw [HW.out, HN.out]
  go_wp2_with (go_at_call 160; refine rt.mono ?_; rintro e1 w3 ⟨rfl, hw3⟩; replace hw3 := hw3.symm; subst hw3)
  go_ret2
  exact ⟨HKW.out, .host (by rw [HKD.out]; exact q1) rfl HX.out⟩
end
end Go.Proofs.YtfeinppedejlpaaGreat
