/-
  The document's own Remove, Write.
  The document's own add, Root.
-/
import Derived.Test.YtbhfnbplbkncmaaGreatZ21
import Derived.Test.YtbhfnbplbkncmaaGreatZ10
namespace Go.Proofs.YtbhfnbplbkncmaaGreat
open Go.RowKit Go.Sort
set_option linter.unusedVariables false
theorem there_no {n : Nat} {i : Int} (h : i < 0 ∨ (n : Int) ≤ i) : (decide (0 ≤ i) && decide (i < (n : Int))) = false := by
  rcases h with h | h
  · rw [decide_eq_false (by omega)]; rfl
  · rw [decide_eq_false (show ¬ i < (n : Int) by omega), Bool.and_false]
theorem there_yes {n k : Nat} (h : k < n) : (decide (0 ≤ (k : Int)) && decide ((k : Int) < (n : Int))) = true := by
  rw [decide_eq_true (by omega), decide_eq_true (by omega)]; rfl
set_option maxRecDepth 20000 in
theorem rremove_none (K : Nat → Prop) (p : Nat) (M : Dm) (R G : Nat → List Nat) (i : Int) (w : World) (h : RX K w p M R G) (hi : i < 0 ∨ (M.n : Int) ≤ i) :
    Calls Tryz.prog 90 #[.pointer (some ⟨p, 0, none⟩), .int .i64 i] w fun e w' => e = .returned (.int .i64 80) ∧ w' = w := by
  have rt := rthere_any K p M R G i w h
  rw [there_no hi] at rt
  clear h hi
  go_enter Tryz.func90, Tryz.ntmps90
  go_wp2_with (go_at_call 148; refine rt.mono ?_; rintro e1 w3 ⟨rfl, hw3⟩; replace hw3 := hw3.symm; subst hw3)
  go_ret
  exact ⟨rfl, rfl⟩
set_option maxRecDepth 20000 in
set_option maxHeartbeats 1000000 in
theorem rremove_in (K : Nat → Prop) (p i : Nat) (M : Dm) (R G : Nat → List Nat) (w : World) (h : RX K w p M R G) (hi : i < M.n) (hn : M.n ≤ 1000000) (hup : (M.pl i).up = -1 ∨ ∃ u : Nat, u < M.n ∧ (M.pl i).up = (u : Int)) (hrl : ∀ u, u < M.n → (R u).length ≤ 1000000) :
    Calls Tryz.prog 90 #[.pointer (some ⟨p, 0, none⟩), .int .i64 (i : Int)] w fun e w' => Kept K w w' ∧ (((M.pl i).up = -1 ∧ e = .returned (.int .i64 81) ∧ RX K w' p M R G) ∨ ((M.pl i).up ≠ -1 ∧ e = .returned (.int .i64 0) ∧ RX K w' p (rOutM M i) (rOutR M R i) G)) := by
  have rt := rthere_any K p M R G (i : Int) w h
  rw [there_yes hi] at rt
  have ro := rout_any K p i M R G w h hi hn hup hrl
  have HX : Hid (RX K w p M R G) := h
  obtain ⟨A, hY⟩ := h
  obtain ⟨g, hg, -, -, hgl⟩ := hY.nat (by omega)
  have c1 := hY.c1
  rw [hg] at c1
  have c4 : w.cell? ⟨g, i * 14 + 4, none⟩ = some (.int .i64 (M.pl i).up) := hY.cell hg hi 4 _ rfl
  clear hY hg hrl
  rcases hup with hup | ⟨u, hu, hup⟩
  · rw [hup] at c4
    have HU : Hid ((M.pl i).up = -1) := hup
    clear ro hup
    go_enter Tryz.func90, Tryz.ntmps90
    go_wp2_with (go_at_call 148; refine rt.mono ?_; rintro e1 w3 ⟨rfl, hw3⟩; replace hw3 := hw3.symm; subst hw3)
    go_ret
    exact ⟨Kept.refl _ _, .inl ⟨HU.out, rfl, HX.out⟩⟩
  · rw [hup] at c4
    have HU : Hid ((M.pl i).up ≠ -1) := by show Hid _; exact (show (M.pl i).up ≠ -1 by omega)
    have e0 : decide ((u : Int) < 0) = false := decide_eq_false (by omega)
    clear hup
    go_enter Tryz.func90, Tryz.ntmps90
    go_wp2_with (first | (go_at_call 148; refine rt.mono ?_; rintro e1 w3 ⟨rfl, hw3⟩; replace hw3 := hw3.symm; subst hw3) | (go_at_call 153; refine ro.mono ?_; rintro e1 w4 ⟨rfl, hX4, hK4⟩))
    go_ret
    exact ⟨hK4, .inr ⟨HU.out, rfl, hX4⟩⟩
set_option maxRecDepth 20000 in
theorem rwrite_none (K : Nat → Prop) (p : Nat) (M : Dm) (R G : Nat → List Nat) (i : Int) (S : ByteArray) (w : World) (h : RX K w p M R G) (hi : i < 0 ∨ (M.n : Int) ≤ i) :
    Calls Tryz.prog 98 #[.pointer (some ⟨p, 0, none⟩), .int .i64 i, .string S] w fun e w' => e = .returned (.int .i64 80) ∧ w' = w := by
  have rt := rthere_any K p M R G i w h
  rw [there_no hi] at rt
  clear h hi
  go_enter Tryz.func98, Tryz.ntmps98
  go_wp2_with (go_at_call 148; refine rt.mono ?_; rintro e1 w3 ⟨rfl, hw3⟩; replace hw3 := hw3.symm; subst hw3)
  go_ret
  exact ⟨rfl, rfl⟩
set_option maxRecDepth 20000 in
set_option maxHeartbeats 1000000 in
theorem rwrite_in (K : Nat → Prop) (p i : Nat) (M : Dm) (R G : Nat → List Nat) (S : ByteArray) (w : World) (h : RX K w p M R G) (hi : i < M.n) (hn : M.n ≤ 1000000) :
    Calls Tryz.prog 98 #[.pointer (some ⟨p, 0, none⟩), .int .i64 (i : Int), .string S] w fun e w' => Kept K w w' ∧ ((((M.nd i).kind ≠ 2 ∧ (M.nd i).kind ≠ 3) ∧ e = .returned (.int .i64 81) ∧ RX K w' p M R G) ∨ (((M.nd i).kind = 2 ∨ (M.nd i).kind = 3) ∧ e = .returned (.int .i64 0) ∧ RX K w' p (M.setN i { M.nd i with data := S.toList }) R G)) := by
  have rt := rthere_any K p M R G (i : Int) w h
  rw [there_yes hi] at rt
  have HX : Hid (RX K w p M R G) := h
  obtain ⟨A, hY⟩ := h
  obtain ⟨g, hg, -, -, hgl⟩ := hY.nat (by omega)
  have c1 := hY.c1
  rw [hg] at c1
  have c0 : w.cell? ⟨g, i * 14, none⟩ = some (.int .u8 ((M.nd i).kind : Int)) := hY.cell hg hi 0 _ rfl
  have c2 : w.cell? ⟨g, i * 14 + 2, none⟩ = some (sv (M.nd i).data) := hY.cell hg hi 2 _ rfl
  have fz := hY.fg hg (i * 14 + 2)
  obtain ⟨hY2, hK2⟩ := hY.setData hg hi S.toList
  have eS : sv S.toList = .string S := by rw [ByteArray.toList_eq]
  rw [eS] at hY2 hK2
  have HX2 : Hid (RX K (w.setCell ⟨g, i * 14 + 2, none⟩ (.string S)) p (M.setN i { M.nd i with data := S.toList }) R G) := ⟨_, hY2⟩
  have HK2 : Hid (Kept K w (w.setCell ⟨g, i * 14 + 2, none⟩ (.string S))) := hK2
  obtain ⟨kd, hkd⟩ : ∃ kd, (M.nd i).kind = kd := ⟨_, rfl⟩
  have HKD : Hid ((M.nd i).kind = kd) := hkd
  rw [hkd] at c0
  clear hY hg hY2 hK2 hkd eS
  by_cases q2 : kd = 2
  · subst q2
    go_enter Tryz.func98, Tryz.ntmps98
    go_wp2_with (go_at_call 148; refine rt.mono ?_; rintro e1 w3 ⟨rfl, hw3⟩; replace hw3 := hw3.symm; subst hw3)
    go_ret
    exact ⟨HK2.out, .inr ⟨.inl HKD.out, rfl, HX2.out⟩⟩
  have p2 : ((kd : Int) == 2) = false := by simp; omega
  by_cases q3 : kd = 3
  · subst q3
    go_enter Tryz.func98, Tryz.ntmps98
    go_wp2_with (go_at_call 148; refine rt.mono ?_; rintro e1 w3 ⟨rfl, hw3⟩; replace hw3 := hw3.symm; subst hw3)
    go_ret
    exact ⟨HK2.out, .inr ⟨.inr HKD.out, rfl, HX2.out⟩⟩
  have p3 : ((kd : Int) == 3) = false := by simp; omega
  have n2 : ((kd : Int) != 2) = true := by simp; omega
  have n3 : ((kd : Int) != 3) = true := by simp; omega
  go_enter Tryz.func98, Tryz.ntmps98
  go_wp2_with (go_at_call 148; refine rt.mono ?_; rintro e1 w3 ⟨rfl, hw3⟩; replace hw3 := hw3.symm; subst hw3)
  go_ret
  exact ⟨Kept.refl _ _, .inl ⟨⟨by rw [HKD.out]; exact q2, by rw [HKD.out]; exact q3⟩, rfl, HX.out⟩⟩
end Go.Proofs.YtbhfnbplbkncmaaGreat

namespace Go.Proofs.YtbhfnbplbkncmaaGreat
open Go.RowKit Go.Sort
set_option linter.unusedVariables false
/-- A node as the document's own holds it, before it is put behind all others. -/
abbrev rV (kd : Int) (S D : ByteArray) (aa : Option Addr) (an ac : Nat) (up : Int) (ka : Option Addr) (kn kc : Nat) (sh ho co : Int) (f : Fg) : Array Value := #[.int .u8 kd, .string S, .string D, .slice aa an ac, .int .i64 up, .slice ka kn kc, .int .i64 sh, .int .i64 ho, .int .i64 co, .bool f.a, .bool f.b, .bool f.c, .bool f.d, .bool f.e]
/-- Its host stays, if it is a shadow root. -/
def rNew (x : Nd) : Nd := { x with shadow := -1, content := -1, host := if x.kind = 5 then x.host else -1 }
theorem size14 (cs : Array Value) (h : cs.size = 14) : ∃ v0 v1 v2 v3 v4 v5 v6 v7 v8 v9 v10 v11 v12 v13, cs = #[v0, v1, v2, v3, v4, v5, v6, v7, v8, v9, v10, v11, v12, v13] := by
  obtain ⟨l⟩ := cs
  have h : l.length = 14 := h
  match l, h with
  | [v0, v1, v2, v3, v4, v5, v6, v7, v8, v9, v10, v11, v12, v13], _ => exact ⟨v0, v1, v2, v3, v4, v5, v6, v7, v8, v9, v10, v11, v12, v13, rfl⟩
theorem fill14 (z cs : Array Value) (hz : z.size = 14) (hc : cs.size = 14) : Instr.fill (fun i => some (i * 14, 14)) z [(0, .agg cs)] = some cs := by
  obtain ⟨v0, v1, v2, v3, v4, v5, v6, v7, v8, v9, v10, v11, v12, v13, rfl⟩ := size14 cs hc
  obtain ⟨z0, z1, z2, z3, z4, z5, z6, z7, z8, z9, z10, z11, z12, z13, rfl⟩ := size14 z hz
  kernel_rfl
theorem step_load14 {ops : Array Oper} {o : Oper} {a : Act} {w : World} {Kn : Act → World → Prop} {Q : Exit → Act → World → Prop} {E : Prop} (hgd : o.guard = none) (x : Operand) (ho : o.op = .load 36 x)
    (g : Nat) (hx : a.eval x = .pointer (some ⟨g, 0, none⟩)) (cs : Array Value) (hg : w.heap[g]? = some (.cells cs 36)) (hc : cs.size = 14) (h : Kn (a.put o.dst (.agg cs)) w) : if Region.wanted o (yielded ops a.tmps) = true then Oper.wp Tryz.prog o a w Kn Q else E := by
  have hw : Region.wanted o (yielded ops a.tmps) = true := by simp [Region.wanted, hgd]
  rw [if_pos hw]
  obtain ⟨inf, hi, hip⟩ := Option.map_eq_some_iff.1 infoR
  exact wp_load_row 36 x ho g hx 36 cs _ _ hg Tryz.underlying36 rfl (by rw [hi, hc]; exact congrArg some (congrArg (·.2.1) hip)) h
/-- A slice of one node is made. -/
theorem step_slice14 {ops : Array Oper} {o : Oper} {a : Act} {w : World} {Kn : Act → World → Prop} {Q : Exit → Act → World → Prop} {E : Prop} (hgd : o.guard = none) (x : Operand) (ho : o.op = .buildSlice 58 1 #[(0, x)])
    (cs : Array Value) (hx : a.eval x = .agg cs) (hc : cs.size = 14) (h : Kn (a.put o.dst (.slice (some ⟨w.heap.size, 0, none⟩) 1 1)) (w.alloc (.cells cs 36))) : if Region.wanted o (yielded ops a.tmps) = true then Oper.wp Tryz.prog o a w Kn Q else E := by
  have hw : Region.wanted o (yielded ops a.tmps) = true := by simp [Region.wanted, hgd]
  rw [if_pos hw]
  obtain ⟨inf, hi, hip⟩ := Option.map_eq_some_iff.1 infoR
  have hz0 : inf.zero = _ := congrArg (·.1) hip
  have hsz : inf.size = 14 := congrArg (·.2.1) hip
  refine wp_buildSlice 58 36 1 #[(0, x)] ho cs inf _ Tryz.underlying58 hi hz0 (by rw [hsz]; decide) (by rw [hsz]; decide) ?_ h
  rw [hsz]
  have e : ((#[(0, x)] : Array (Nat × Operand)).map fun (i, x) => (i, a.eval x)).toList = [(0, .agg cs)] := by
    simp [hx]
  rw [e]
  exact fill14 _ _ (by simp) hc
theorem info45 : (Tryz.prog.info? 36).map (·.size) = some 14 := by kernel_rfl
set_option maxRecDepth 20000 in
set_option maxHeartbeats 4000000 in
theorem radd_any (K : Nat → Prop) (p : Nat) (M : Dm) (R G : Nat → List Nat) (w0 w : World) (h : RX K w0 p M R G) (hk : Kept (fun k => k < w0.heap.size) w0 w) (hn : M.n ≤ 1000000) (x : Nd) (aa : Option Addr) (ac : Nat) (hxa : AtsAt (fun g => w0.heap.size ≤ g ∧ g < w.heap.size) w aa x.attrs) (hac : x.attrs.length ≤ ac) :
    Calls Tryz.prog 112 #[.pointer (some ⟨p, 0, none⟩), .agg (rV (x.kind : Int) ⟨x.name.toArray⟩ ⟨x.data.toArray⟩ aa x.attrs.length ac 0 none 0 0 0 x.host 0 x.fl)] w fun e w' => e = .returned (.int .i64 (M.n : Int)) ∧ RX K w' p (M.addX (rNew x)) (updR R M.n []) (updR G M.n []) ∧ Kept K w0 w' := by
  obtain ⟨A, hY⟩ := h
  obtain ⟨kd, hkd⟩ : ∃ kd, x.kind = kd := ⟨_, rfl⟩
  obtain ⟨S, hS⟩ : ∃ S : ByteArray, (⟨x.name.toArray⟩ : ByteArray) = S := ⟨_, rfl⟩
  obtain ⟨D, hD⟩ : ∃ D : ByteArray, (⟨x.data.toArray⟩ : ByteArray) = D := ⟨_, rfl⟩
  obtain ⟨an, han⟩ : ∃ an, x.attrs.length = an := ⟨_, rfl⟩
  obtain ⟨hz, hhz⟩ : ∃ hz, (if kd = 5 then x.host else -1) = hz := ⟨_, rfl⟩
  obtain ⟨xh, hxh⟩ : ∃ xh, x.host = xh := ⟨_, rfl⟩
  obtain ⟨cs, hcs⟩ : ∃ cs : Array Value, rV (kd : Int) S D aa an ac (-1) none 0 0 (-1) hz (-1) x.fl = cs := ⟨_, rfl⟩
  have hcE : (rnCells (rNew x) (-1) aa ac none 0 0).toArray = cs := by
    rw [← hcs, ← hkd, ← hS, ← hD, ← han, ← hhz, ← hkd]
    rfl
  rw [hkd, hS, hD, han, hxh]
  obtain ⟨N, hN⟩ : ∃ N, w.heap.size = N := ⟨_, rfl⟩
  obtain ⟨W, hW⟩ : ∃ W, w.alloc (.cells cs 36) = W := ⟨_, rfl⟩
  have hb : W.heap[N]? = some (.cells cs 36 (0, 0)) := by rw [← hW, ← hN]; exact heap_alloc_new w _
  have kwW : Kept (fun k => k < w.heap.size) w W := by rw [← hW]; exact (Kept.refl _ w).alloc (fun _ h => h) _
  have kW : Kept (fun k => k < w0.heap.size) w0 W := hk.trans (kwW.mono fun k h => Nat.lt_of_lt_of_le h hk.size)
  have hcsz : cs.size = 14 := by rw [← hcs]; rfl
  have hxaW : AtsAt (fun g => w0.heap.size ≤ g ∧ g < W.drew.heap.size) W.drew aa (rNew x).attrs := hxa.to (fun g hg => ⟨hg.1, Nat.lt_of_lt_of_le hg.2 kwW.size⟩) (fun g hg => kwW.block g hg.2)
  obtain ⟨na', nc', w1, hr1, d1, f1, hYg, hK1⟩ := hY.appN (w := W.drew) kW.drew hn (rNew x) aa ac hxaW hac
  rw [hcE] at hr1
  obtain ⟨V1, hV1⟩ : ∃ V1, w1.setCell ⟨p, 1, none⟩ (.slice na' (M.n + 1) nc') = V1 := ⟨_, rfl⟩
  rw [hV1] at hYg hK1
  have gN : (A.addX M.n na' nc' aa ac).ga M.n = none := if_pos rfl
  have gC : (A.addX M.n na' nc' aa ac).gc M.n = 0 := if_pos rfl
  obtain ⟨qa', qc', w2, hr2, d2, f2, hY2, hK2⟩ := hYg.appQ rfl hn gN gC (updR_same _ _ _)
  have c2 : V1.cell? ⟨p, 2, none⟩ = some (.slice A.qa M.n A.qc) := by rw [cell_block hYg.blk]; rfl
  have hr2' : (Builtin.append_ #[59, 59] 59 #[.slice A.qa M.n A.qc, .slice (some ⟨V1.heap.size, 0, none⟩) 1 1]).run Tryz.prog (V1.alloc (.cells #[.slice none 0 0] 32)) = .ok (.slice qa' (M.n + 1) qc') w2 := hr2
  have d2' : w2.cell? ⟨p, 2, none⟩ = some (.slice A.qa M.n A.qc) := d2
  have c12 := hY2.c1
  have c12' : (w2.setCell ⟨p, 2, none⟩ (.slice qa' (M.n + 1) qc')).cell? ⟨p, 1, none⟩ = some (.slice na' (M.n + 1) nc') := c12
  have c1 : W.drew.cell? ⟨p, 1, none⟩ = some (.slice A.na M.n A.nc) := (kW.drew.cell (p := ⟨p, 1, none⟩) hY.plt).trans hY.c1
  have c1b : (W.alloc (.cells cs 36)).drew.cell? ⟨p, 1, none⟩ = some (.slice A.na M.n A.nc) := by
    show (W.alloc _).cell? _ = _
    rw [Kept.cell ((Kept.refl (fun k => k < W.heap.size) W).alloc (fun _ h => h) _) (p := ⟨p, 1, none⟩) (Nat.lt_of_lt_of_le hY.plt kW.size)]
    exact c1
  have c1c : (W.alloc (.cells cs 36)).cell? ⟨p, 1, none⟩ = some (.slice A.na M.n A.nc) := c1b
  have c1d : (W.drew.alloc (.cells cs 36)).cell? ⟨p, 1, none⟩ = some (.slice A.na M.n A.nc) := c1b
  obtain ⟨n, hne⟩ : ∃ n, M.n = n := ⟨_, rfl⟩
  have HY : Hid (RX K (w2.setCell ⟨p, 2, none⟩ (.slice qa' (n + 1) qc')) p (M.addX (rNew x)) (updR R n []) (updR G n [])) := by rw [← hne]; exact (show Hid _ from ⟨_, hY2⟩)
  have HK : Hid (Kept K w0 (w2.setCell ⟨p, 2, none⟩ (.slice qa' (n + 1) qc'))) := by rw [← hne]; exact (show Hid _ from hK1.trans hK2)
  rw [hne] at hn hr1 d1 c1 c1b c1c c1d c2 hr2' d2' c12' hV1 ⊢
  replace hr2 := hr2'
  replace d2 := d2'
  have HV1 : Hid (w1.setCell ⟨p, 1, none⟩ (.slice na' (n + 1) nc') = V1) := hV1
  have HC : Hid (W.heap[N]? = some (.cells cs 36)) := hb
  have HW : Hid (w.alloc (.cells cs 36) = W) := hW
  have HN : Hid (w.heap.size = N) := hN
  have HCS : Hid (rV (kd : Int) S D aa an ac (-1) none 0 0 (-1) hz (-1) x.fl = cs) := hcs
  clear hY hW hN hb kwW kW hxaW hYg hK1 hY2 hK2 hV1 gN gC hr2' d2' c12 hk hxa hac hcE hcs hS hD han hne hkd
  by_cases q5 : kd = 5
  · subst q5
    have hzx : xh = hz := by rw [← hhz, if_pos rfl, hxh]
    subst hzx
    clear hhz hxh
    have HWL : Hid (w.alloc (.cells (#[Value.int .u8 5, .string S, .string D, .slice aa an ac, .int .i64 (-1), .slice none 0 0, .int .i64 (-1), .int .i64 xh, .int .i64 (-1), .bool x.fl.a, .bool x.fl.b, .bool x.fl.c, .bool x.fl.d, .bool x.fl.e]) 36) = W) := by rw [← HW.out, ← HCS.out]; exact (show Hid _ from rfl)
    go_enter Tryz.func112, Tryz.ntmps112
    go_upto_region 6 with fail
    rw [HWL.out, HN.out]
    clear HW HN HCS HWL
    refine wp_region_any (by kernel_rfl) ?_
    change wpAny _ _ _ _ _ _ _ (World.drew _)
    refine wpAny_take (i := 0) (v := .pointer (some ⟨p, 0, none⟩)) rfl (by kernel_rfl) (by kernel_rfl) (by kernel_rfl) (fun _ _ _ h => h) (Or.inl ⟨by rfl, by intro w; go_simp; try with_reducible rfl⟩) ?_
    refine wpAny_take (i := 1) (v := .pointer (some ⟨p, 0, none⟩)) rfl (by kernel_rfl) (by kernel_rfl) (by kernel_rfl) (fun _ _ _ h => h) (Or.inl ⟨by rfl, by intro w; go_simp; try with_reducible rfl⟩) ?_
    refine wpAny_take (i := 2) (v := .pointer (some ⟨p, 0, none⟩)) rfl (by kernel_rfl) (by kernel_rfl) (by kernel_rfl) (fun _ _ _ h => h) (Or.inl ⟨by rfl, by intro w; go_simp; try with_reducible rfl⟩) ?_
    refine wpAny_take (i := 3) (v := .pointer (some ⟨p, 1, none⟩)) rfl (by kernel_rfl) (by kernel_rfl) (by kernel_rfl) (fun _ _ _ h => h) (Or.inl ⟨by rfl, by intro w; go_simp; try with_reducible rfl⟩) ?_
    refine wpAny_ready (rs := [4, 5]) (by kernel_rfl) (by simp) ?_
    refine AllReady.cons rfl (fun K hK => ?_) (AllReady.cons rfl (fun K hK => ?_) AllReady.nil)
    · go_simp
      refine hK _ _ ?_
      clear hK K
      refine wpAny_ready (rs := [5]) (by kernel_rfl) (by simp) ?_
      refine AllReady.cons rfl (fun K hK => ?_) AllReady.nil
      refine step_load14 rfl (.tmp 3) rfl N rfl cs HC.out hcsz ?_
      refine hK _ _ ?_
      clear hK K
      refine wpAny_ready (rs := [6]) (by kernel_rfl) (by simp) ?_
      refine AllReady.cons rfl (fun K hK => ?_) AllReady.nil
      refine step_slice14 rfl (.tmp 17) rfl cs rfl hcsz ?_
      refine hK _ _ ?_
      clear hK K
      refine wpAny_ready (rs := [7]) (by kernel_rfl) (by simp) ?_
      refine AllReady.cons rfl (fun K hK => ?_) AllReady.nil
      refine step_appR (w' := w1) rfl (.tmp 16) (.tmp 18) 58 58 rfl _ _ (.slice na' (n + 1) nc') rfl rfl hr1 ?_
      refine hK _ _ ?_
      clear hK K
      refine wpAny_take (i := 8) (v := .pointer (some ⟨p, 0, none⟩)) rfl (by kernel_rfl) (by kernel_rfl) (by kernel_rfl) (fun _ _ _ h => h) (Or.inl ⟨by rfl, by intro w; go_simp; try with_reducible rfl⟩) ?_
      refine wpAny_take (i := 9) (v := .pointer (some ⟨p, 1, none⟩)) rfl (by kernel_rfl) (by kernel_rfl) (by kernel_rfl) (fun _ _ _ h => h) (Or.inl ⟨by rfl, by intro w; go_simp; try with_reducible rfl⟩) ?_
      refine wpAny_ready (rs := [10]) (by kernel_rfl) (by simp) ?_
      refine AllReady.cons rfl (fun K hK => ?_) AllReady.nil
      go_simp
      refine hK _ _ ?_
      clear hK K
      refine wpAny_done (by kernel_rfl) ?_ _
      go_upto_region 7 with fail
      rw [HV1.out]
      go_wp2_with (at_builtin; refine wpList_appR (w' := w2) rfl (.tmp 26) (.tmp 27) 59 59 rfl _ _ (.slice qa' (n + 1) qc') rfl rfl hr2 ?_)
      go_ret
      exact ⟨by simp, HY.out, HK.out⟩
    · refine step_load14 rfl (.tmp 3) rfl N rfl cs HC.out hcsz ?_
      refine hK _ _ ?_
      clear hK K
      refine wpAny_ready (rs := [4, 6]) (by kernel_rfl) (by simp) ?_
      refine AllReady.cons rfl (fun K hK => ?_) (AllReady.cons rfl (fun K hK => ?_) AllReady.nil)
      · go_simp
        refine hK _ _ ?_
        clear hK K
        refine wpAny_ready (rs := [6]) (by kernel_rfl) (by simp) ?_
        refine AllReady.cons rfl (fun K hK => ?_) AllReady.nil
        refine step_slice14 rfl (.tmp 17) rfl cs rfl hcsz ?_
        refine hK _ _ ?_
        clear hK K
        refine wpAny_ready (rs := [7]) (by kernel_rfl) (by simp) ?_
        refine AllReady.cons rfl (fun K hK => ?_) AllReady.nil
        refine step_appR (w' := w1) rfl (.tmp 16) (.tmp 18) 58 58 rfl _ _ (.slice na' (n + 1) nc') rfl rfl hr1 ?_
        refine hK _ _ ?_
        clear hK K
        refine wpAny_take (i := 8) (v := .pointer (some ⟨p, 0, none⟩)) rfl (by kernel_rfl) (by kernel_rfl) (by kernel_rfl) (fun _ _ _ h => h) (Or.inl ⟨by rfl, by intro w; go_simp; try with_reducible rfl⟩) ?_
        refine wpAny_take (i := 9) (v := .pointer (some ⟨p, 1, none⟩)) rfl (by kernel_rfl) (by kernel_rfl) (by kernel_rfl) (fun _ _ _ h => h) (Or.inl ⟨by rfl, by intro w; go_simp; try with_reducible rfl⟩) ?_
        refine wpAny_ready (rs := [10]) (by kernel_rfl) (by simp) ?_
        refine AllReady.cons rfl (fun K hK => ?_) AllReady.nil
        go_simp
        refine hK _ _ ?_
        clear hK K
        refine wpAny_done (by kernel_rfl) ?_ _
        go_upto_region 7 with fail
        rw [HV1.out]
        go_wp2_with (at_builtin; refine wpList_appR (w' := w2) rfl (.tmp 26) (.tmp 27) 59 59 rfl _ _ (.slice qa' (n + 1) qc') rfl rfl hr2 ?_)
        go_ret
        exact ⟨by simp, HY.out, HK.out⟩
      · refine step_slice14 rfl (.tmp 17) rfl cs rfl hcsz ?_
        refine hK _ _ ?_
        clear hK K
        refine wpAny_ready (rs := [4]) (by kernel_rfl) (by simp) ?_
        refine AllReady.cons rfl (fun K hK => ?_) AllReady.nil
        go_simp
        refine hK _ _ ?_
        clear hK K
        refine wpAny_ready (rs := [7]) (by kernel_rfl) (by simp) ?_
        refine AllReady.cons rfl (fun K hK => ?_) AllReady.nil
        refine step_appR (w' := w1) rfl (.tmp 16) (.tmp 18) 58 58 rfl _ _ (.slice na' (n + 1) nc') rfl rfl hr1 ?_
        refine hK _ _ ?_
        clear hK K
        refine wpAny_take (i := 8) (v := .pointer (some ⟨p, 0, none⟩)) rfl (by kernel_rfl) (by kernel_rfl) (by kernel_rfl) (fun _ _ _ h => h) (Or.inl ⟨by rfl, by intro w; go_simp; try with_reducible rfl⟩) ?_
        refine wpAny_take (i := 9) (v := .pointer (some ⟨p, 1, none⟩)) rfl (by kernel_rfl) (by kernel_rfl) (by kernel_rfl) (fun _ _ _ h => h) (Or.inl ⟨by rfl, by intro w; go_simp; try with_reducible rfl⟩) ?_
        refine wpAny_ready (rs := [10]) (by kernel_rfl) (by simp) ?_
        refine AllReady.cons rfl (fun K hK => ?_) AllReady.nil
        go_simp
        refine hK _ _ ?_
        clear hK K
        refine wpAny_done (by kernel_rfl) ?_ _
        go_upto_region 7 with fail
        rw [HV1.out]
        go_wp2_with (at_builtin; refine wpList_appR (w' := w2) rfl (.tmp 26) (.tmp 27) 59 59 rfl _ _ (.slice qa' (n + 1) qc') rfl rfl hr2 ?_)
        go_ret
        exact ⟨by simp, HY.out, HK.out⟩
  · have p5 : ((kd : Int) == 5) = false := by simp; omega
    have hzx : hz = -1 := by rw [← hhz, if_neg q5]
    subst hzx
    clear hhz hxh
    have HWL : Hid (w.alloc (.cells (#[Value.int .u8 (kd : Int), .string S, .string D, .slice aa an ac, .int .i64 (-1), .slice none 0 0, .int .i64 (-1), .int .i64 (-1), .int .i64 (-1), .bool x.fl.a, .bool x.fl.b, .bool x.fl.c, .bool x.fl.d, .bool x.fl.e]) 36) = W) := by rw [← HW.out, ← HCS.out]; exact (show Hid _ from rfl)
    go_enter Tryz.func112, Tryz.ntmps112
    go_upto_region 6 with fail
    rw [HWL.out, HN.out]
    clear HW HN HCS HWL
    refine wp_region_any (by kernel_rfl) ?_
    change wpAny _ _ _ _ _ _ _ (World.drew _)
    refine wpAny_take (i := 0) (v := .pointer (some ⟨p, 0, none⟩)) rfl (by kernel_rfl) (by kernel_rfl) (by kernel_rfl) (fun _ _ _ h => h) (Or.inl ⟨by rfl, by intro w; go_simp; try with_reducible rfl⟩) ?_
    refine wpAny_take (i := 1) (v := .pointer (some ⟨p, 0, none⟩)) rfl (by kernel_rfl) (by kernel_rfl) (by kernel_rfl) (fun _ _ _ h => h) (Or.inl ⟨by rfl, by intro w; go_simp; try with_reducible rfl⟩) ?_
    refine wpAny_take (i := 2) (v := .pointer (some ⟨p, 0, none⟩)) rfl (by kernel_rfl) (by kernel_rfl) (by kernel_rfl) (fun _ _ _ h => h) (Or.inl ⟨by rfl, by intro w; go_simp; try with_reducible rfl⟩) ?_
    refine wpAny_take (i := 3) (v := .pointer (some ⟨p, 1, none⟩)) rfl (by kernel_rfl) (by kernel_rfl) (by kernel_rfl) (fun _ _ _ h => h) (Or.inl ⟨by rfl, by intro w; go_simp; try with_reducible rfl⟩) ?_
    refine wpAny_ready (rs := [4, 5]) (by kernel_rfl) (by simp) ?_
    refine AllReady.cons rfl (fun K hK => ?_) (AllReady.cons rfl (fun K hK => ?_) AllReady.nil)
    · go_simp
      refine hK _ _ ?_
      clear hK K
      refine wpAny_ready (rs := [5]) (by kernel_rfl) (by simp) ?_
      refine AllReady.cons rfl (fun K hK => ?_) AllReady.nil
      refine step_load14 rfl (.tmp 3) rfl N rfl cs HC.out hcsz ?_
      refine hK _ _ ?_
      clear hK K
      refine wpAny_ready (rs := [6]) (by kernel_rfl) (by simp) ?_
      refine AllReady.cons rfl (fun K hK => ?_) AllReady.nil
      refine step_slice14 rfl (.tmp 17) rfl cs rfl hcsz ?_
      refine hK _ _ ?_
      clear hK K
      refine wpAny_ready (rs := [7]) (by kernel_rfl) (by simp) ?_
      refine AllReady.cons rfl (fun K hK => ?_) AllReady.nil
      refine step_appR (w' := w1) rfl (.tmp 16) (.tmp 18) 58 58 rfl _ _ (.slice na' (n + 1) nc') rfl rfl hr1 ?_
      refine hK _ _ ?_
      clear hK K
      refine wpAny_take (i := 8) (v := .pointer (some ⟨p, 0, none⟩)) rfl (by kernel_rfl) (by kernel_rfl) (by kernel_rfl) (fun _ _ _ h => h) (Or.inl ⟨by rfl, by intro w; go_simp; try with_reducible rfl⟩) ?_
      refine wpAny_take (i := 9) (v := .pointer (some ⟨p, 1, none⟩)) rfl (by kernel_rfl) (by kernel_rfl) (by kernel_rfl) (fun _ _ _ h => h) (Or.inl ⟨by rfl, by intro w; go_simp; try with_reducible rfl⟩) ?_
      refine wpAny_ready (rs := [10]) (by kernel_rfl) (by simp) ?_
      refine AllReady.cons rfl (fun K hK => ?_) AllReady.nil
      go_simp
      refine hK _ _ ?_
      clear hK K
      refine wpAny_done (by kernel_rfl) ?_ _
      go_upto_region 7 with fail
      rw [HV1.out]
      go_wp2_with (at_builtin; refine wpList_appR (w' := w2) rfl (.tmp 26) (.tmp 27) 59 59 rfl _ _ (.slice qa' (n + 1) qc') rfl rfl hr2 ?_)
      go_ret
      exact ⟨by simp, HY.out, HK.out⟩
    · refine step_load14 rfl (.tmp 3) rfl N rfl cs HC.out hcsz ?_
      refine hK _ _ ?_
      clear hK K
      refine wpAny_ready (rs := [4, 6]) (by kernel_rfl) (by simp) ?_
      refine AllReady.cons rfl (fun K hK => ?_) (AllReady.cons rfl (fun K hK => ?_) AllReady.nil)
      · go_simp
        refine hK _ _ ?_
        clear hK K
        refine wpAny_ready (rs := [6]) (by kernel_rfl) (by simp) ?_
        refine AllReady.cons rfl (fun K hK => ?_) AllReady.nil
        refine step_slice14 rfl (.tmp 17) rfl cs rfl hcsz ?_
        refine hK _ _ ?_
        clear hK K
        refine wpAny_ready (rs := [7]) (by kernel_rfl) (by simp) ?_
        refine AllReady.cons rfl (fun K hK => ?_) AllReady.nil
        refine step_appR (w' := w1) rfl (.tmp 16) (.tmp 18) 58 58 rfl _ _ (.slice na' (n + 1) nc') rfl rfl hr1 ?_
        refine hK _ _ ?_
        clear hK K
        refine wpAny_take (i := 8) (v := .pointer (some ⟨p, 0, none⟩)) rfl (by kernel_rfl) (by kernel_rfl) (by kernel_rfl) (fun _ _ _ h => h) (Or.inl ⟨by rfl, by intro w; go_simp; try with_reducible rfl⟩) ?_
        refine wpAny_take (i := 9) (v := .pointer (some ⟨p, 1, none⟩)) rfl (by kernel_rfl) (by kernel_rfl) (by kernel_rfl) (fun _ _ _ h => h) (Or.inl ⟨by rfl, by intro w; go_simp; try with_reducible rfl⟩) ?_
        refine wpAny_ready (rs := [10]) (by kernel_rfl) (by simp) ?_
        refine AllReady.cons rfl (fun K hK => ?_) AllReady.nil
        go_simp
        refine hK _ _ ?_
        clear hK K
        refine wpAny_done (by kernel_rfl) ?_ _
        go_upto_region 7 with fail
        rw [HV1.out]
        go_wp2_with (at_builtin; refine wpList_appR (w' := w2) rfl (.tmp 26) (.tmp 27) 59 59 rfl _ _ (.slice qa' (n + 1) qc') rfl rfl hr2 ?_)
        go_ret
        exact ⟨by simp, HY.out, HK.out⟩
      · refine step_slice14 rfl (.tmp 17) rfl cs rfl hcsz ?_
        refine hK _ _ ?_
        clear hK K
        refine wpAny_ready (rs := [4]) (by kernel_rfl) (by simp) ?_
        refine AllReady.cons rfl (fun K hK => ?_) AllReady.nil
        go_simp
        refine hK _ _ ?_
        clear hK K
        refine wpAny_ready (rs := [7]) (by kernel_rfl) (by simp) ?_
        refine AllReady.cons rfl (fun K hK => ?_) AllReady.nil
        refine step_appR (w' := w1) rfl (.tmp 16) (.tmp 18) 58 58 rfl _ _ (.slice na' (n + 1) nc') rfl rfl hr1 ?_
        refine hK _ _ ?_
        clear hK K
        refine wpAny_take (i := 8) (v := .pointer (some ⟨p, 0, none⟩)) rfl (by kernel_rfl) (by kernel_rfl) (by kernel_rfl) (fun _ _ _ h => h) (Or.inl ⟨by rfl, by intro w; go_simp; try with_reducible rfl⟩) ?_
        refine wpAny_take (i := 9) (v := .pointer (some ⟨p, 1, none⟩)) rfl (by kernel_rfl) (by kernel_rfl) (by kernel_rfl) (fun _ _ _ h => h) (Or.inl ⟨by rfl, by intro w; go_simp; try with_reducible rfl⟩) ?_
        refine wpAny_ready (rs := [10]) (by kernel_rfl) (by simp) ?_
        refine AllReady.cons rfl (fun K hK => ?_) AllReady.nil
        go_simp
        refine hK _ _ ?_
        clear hK K
        refine wpAny_done (by kernel_rfl) ?_ _
        go_upto_region 7 with fail
        rw [HV1.out]
        go_wp2_with (at_builtin; refine wpList_appR (w' := w2) rfl (.tmp 26) (.tmp 27) 59 59 rfl _ _ (.slice qa' (n + 1) qc') rfl rfl hr2 ?_)
        go_ret
        exact ⟨by simp, HY.out, HK.out⟩
end Go.Proofs.YtbhfnbplbkncmaaGreat
