/-
  slices.Delete of one attribute.
  Doc.Drop.
-/
import Derived.Test.YtbhfnbplbkncmaaGreatZ15
import Derived.Lib.SliceRun
namespace Go.Proofs.YtbhfnbplbkncmaaGreat
open Go.RowKit
set_option linter.unusedVariables false

theorem Kept.setCells {K : Nat → Prop} {a w : World} (h : Kept K a w) {g : Nat} (hg : ¬ K g) (hK : ∀ k, K k → k < w.heap.size) (o : Nat) (vs : List Value) : Kept K a (w.setCells g o vs) := by
  have k1 : ∀ (vs : List Value) (o : Nat) (v : World), (v.setCells g o vs).tape = v.tape := by
    intro vs
    induction vs with
    | nil => intro o v; rfl
    | cons a r ih => intro o v; rw [World.setCells, ih]; rfl
  have k2 : ∀ (vs : List Value) (o : Nat) (v : World), (v.setCells g o vs).heap.size = v.heap.size := by
    intro vs
    induction vs with
    | nil => intro o v; rfl
    | cons a r ih => intro o v; rw [World.setCells, ih]; simp
  exact ⟨(World.os_setCells w g _ vs).trans h.os, (k1 vs o w).trans h.tape, (World.output_setCells w g _ vs).trans h.output, by rw [k2]; exact h.size, fun k hk => (World.heap_setCells_other w g _ vs (hK k hk) (fun e => hg (e ▸ hk))).trans (h.block k hk)⟩
abbrev emp : Value := .string ⟨#[]⟩
theorem atr_take (l : List Atr) (k : Nat) : (atrCells l).take (k * 2) = atrCells (l.take k) := by
  induction l generalizing k with
  | nil => simp [atrCells]
  | cons x r ih =>
    cases k with
    | zero => simp [atrCells]
    | succ k =>
      rw [show (k + 1) * 2 = k * 2 + 1 + 1 by omega]
      show sv x.name :: sv x.value :: (atrCells r).take (k * 2) = sv x.name :: sv x.value :: atrCells (r.take k)
      rw [ih]
/-- Both steps in memory. -/
theorem del_own {K : Nat → Prop} {X : World} {g n cap : Nat} {l : List Atr} (h : OwnZ K X 140 2 (some ⟨g, 0, none⟩) (n + 1) cap (atrCells l)) (hl : l.length = n + 1) (k : Nat) (hk : k < n + 1) :
    (∃ c1, (X.setCells g (k * 2) (atrCells (l.drop (k + 1)))).heap[g]? = some (.cells c1 140 (0, 0)) ∧ n * 2 + 2 ≤ c1.size) ∧
    OwnZ K ((X.setCells g (k * 2) (atrCells (l.drop (k + 1)))).setCells g (n * 2) [emp, emp]) 140 2 (some ⟨g, 0, none⟩) n cap (atrCells (l.eraseIdx k)) := by
  obtain ⟨h1, h2, h3, h4⟩ := h
  rcases h4 with ⟨r1, _⟩ | ⟨g', cur, r1, r2, r3, r4, r5⟩
  · cases r1
  injection r1 with r1
  injection r1 with r1
  subst r1
  have hnl : (atrCells (l.drop (k + 1))).length = (n - k) * 2 := by rw [atr_len, List.length_drop, hl]; omega
  obtain ⟨c1, q1, q2⟩ := heap_setCells_at (b := g) (e := 140) (f := (0, 0)) (atrCells (l.drop (k + 1))) (k * 2) X cur r3 (by rw [hnl, r4]; omega)
  have e1 : cur.toList.take (k * 2) = atrCells (l.take k) := by
    rw [← atr_take, ← r5, List.take_take, Nat.min_eq_left (by omega)]
  have s1 : c1.size = cur.size := by
    have := congrArg List.length q2
    rw [List.length_append, List.length_append, List.length_drop, List.length_take, hnl] at this
    simp only [Array.length_toList] at this
    omega
  obtain ⟨c2, p1, p2⟩ := heap_setCells_at (b := g) (e := 140) (f := (0, 0)) [emp, emp] (n * 2) _ c1 q1 (by rw [s1, r4]; show n * 2 + 2 ≤ _; omega)
  have e2 : atrCells (l.eraseIdx k) = atrCells (l.take k) ++ atrCells (l.drop (k + 1)) := by rw [List.eraseIdx_eq_take_drop_succ, atrCells_append]
  have hel : (l.eraseIdx k).length = n := by rw [List.length_eraseIdx, if_pos (by omega), hl]; rfl
  have hlen : (atrCells (l.take k) ++ atrCells (l.drop (k + 1))).length = n * 2 := by rw [← e2, atr_len, hel]
  refine ⟨⟨c1, q1, by rw [s1, r4]; omega⟩, by rw [atr_len, hel], by omega, h3, .inr ⟨g, c2, rfl, r2, p1, ?_, ?_⟩⟩
  · have := congrArg List.length p2
    rw [List.length_append, List.length_append, List.length_drop, List.length_take] at this
    simp only [Array.length_toList, List.length_cons, List.length_nil] at this
    omega
  · have t1 : c1.toList.take (n * 2) = atrCells (l.take k) ++ atrCells (l.drop (k + 1)) := by
      rw [q2, e1, ← hlen]
      exact List.take_left
    rw [p2, t1, e2, List.append_assoc, ← hlen]
    exact List.take_left
theorem zero24 : ∀ w, (zeroValue 140).run Tryz.prog w = .ok (.agg #[emp, emp]) w := by
  intro w
  obtain ⟨i, hi, hip⟩ := Option.map_eq_some_iff.1 infoA
  have hz : i.zero = _ := congrArg (·.1) hip
  simp [zeroValue, typeInfo, hi, hz]
theorem run_clear2 (w : World) (g o c ty : Nat) (hc : ∀ j, j < 2 → (w.cell? ⟨g, o + j, none⟩).isSome = true) (hf : ∀ j, j < 2 → w.frozen? ⟨g, o + j, none⟩ = false) :
    (Builtin.clear_ #[31] ty #[.slice (some ⟨g, o, none⟩) 1 c]).run Tryz.prog w = .ok (.tuple #[]) (w.setCells g o [emp, emp]) := by
  have hst := run_storeCells_cells (P := Tryz.prog) g o [emp, emp] 0 w (by simpa using hc) (by simpa using hf) (by intro v hv; rcases List.mem_cons.1 hv with rfl | hv; rfl; rw [List.mem_singleton.1 hv]; rfl)
  simp only [Nat.add_zero] at hst
  have hzc : (Builtin.zeroCells (Value.agg #[emp, emp]).cells 1).toList = [emp, emp] := by kernel_rfl
  simp [Builtin.clear_, run_underlying Tryz.underlying31, hzc, hst]

section
variable {P : Program}
theorem wpList_clr {w w' : World} {ops : Array Oper} {rest : List Oper} {o : Oper} {a : Act} {Q : Exit → Act → World → Prop} (hgd : o.guard = none) (s : Operand) (t : TypeId)
    (ho : o.op = .call { callee := .builtin .clear, args := #[s], argTypes := #[t] }) (vs : Value) (hs : a.eval s = vs)
    (hr : (Builtin.clear_ #[t] o.type #[vs]).run P w = .ok (.tuple #[]) w') (h : wpList P ops Q rest (a.put o.dst (.tuple #[])) w') : wpList P ops Q (o :: rest) a w := by
  refine wpList_plain hgd fun _ hK' => ?_
  unfold Oper.wp execOp
  simp only [ho, resolve, invoke, builtin, Sem.run_bind, Sem.run_pure, Result.andThen_ok, List.map_toArray, List.map_cons, List.map_nil, hs, hr]
  exact hK' _ _ h
end
set_option maxRecDepth 20000 in
set_option maxHeartbeats 2000000 in
theorem delete_any (K : Nat → Prop) (l : List Atr) (g n cap k : Nat) (hl : l.length = n + 1) (hk : k < n + 1) (hn : n ≤ 1000000) (w : World) (hO : OwnZ K w 140 2 (some ⟨g, 0, none⟩) (n + 1) cap (atrCells l)) :
    Calls Tryz.prog 163 #[.slice (some ⟨g, 0, none⟩) ((n + 1 : Nat)) cap, .int .i64 (k : Int), .int .i64 ((k : Int) + 1)] w fun e w' => e = .returned (.slice (some ⟨g, 0, none⟩) n cap) ∧ OwnZ K w' 140 2 (some ⟨g, 0, none⟩) n cap (atrCells (l.eraseIdx k)) ∧ Kept (fun j => j < w.heap.size ∧ j ≠ g) w w' := by
  have hcap : n + 1 ≤ cap := hO.2.1
  have hkk : ((k : Int) == (k : Int) + 1) = false := by
    have : ¬ (k : Int) = (k : Int) + 1 := by omega
    simpa using this
  go_enter Tryz.func163, Tryz.ntmps163
  go_upto_region 5 with fail
  obtain ⟨W1, hW1⟩ : ∃ W1, w.drew.setCells g (k * 2) (atrCells (l.drop (k + 1))) = W1 := ⟨_, rfl⟩
  have HRUN : Hid (∀ o, (k < n → o = (k + 1) * 2) → (Builtin.append_ #[31, 31] 31 #[.slice (some ⟨g, 0, none⟩) k cap, .slice (some ⟨g, o, none⟩) (n - k) (cap - (k + 1))]).run Tryz.prog w.drew = .ok (.slice (some ⟨g, 0, none⟩) n cap) W1) := fun o ho => by
    obtain ⟨i, hi, hip⟩ := Option.map_eq_some_iff.1 infoA
    have hsz : i.size = 2 := congrArg (·.2.1) hip
    have hOd : OwnZ K w.drew 140 2 (some ⟨g, 0, none⟩) (n + 1) cap (atrCells l) := hO
    by_cases c : k < n
    · have eo := ho c
      subst eo
      have hs : Src Tryz.prog i.size 31 (.slice (some ⟨g, (k + 1) * 2, none⟩) (n - k) (cap - (k + 1))) (n - k) (atrCells (l.drop (k + 1))) w.drew := by
        rw [hsz]
        refine Src.ofSlice w.drew Tryz.underlying31 _ (n - k) _ _ (by rw [atr_len, List.length_drop, hl]; omega) (fun j u hj => ?_) (atr_one _)
        rw [Addr.add_lit]
        have hd : (atrCells l)[(k + 1) * 2 + j]? = some u := by
          have e : atrCells l = atrCells (l.take (k + 1)) ++ atrCells (l.drop (k + 1)) := by rw [← atrCells_append, List.take_append_drop]
          rw [e, List.getElem?_append_right (by rw [atr_len, List.length_take]; omega), atr_len, List.length_take, Nat.min_eq_left (by omega), Nat.add_sub_cancel_left]
          exact hj
        obtain ⟨g', e', hc'⟩ := hOd.cell hd
        have : g' = g := by injection e' with e'; injection e' with e'; exact e'.symm
        subst this
        exact hc'
      rcases hOd.2.2.2 with ⟨r1, _⟩ | ⟨g', cur, r1, r2, r3, r4, r5⟩
      · cases r1
      injection r1 with r1
      injection r1 with r1
      subst r1
      have hr := run_append_room_src (P := Tryz.prog) w.drew 31 31 31 140 i Tryz.underlying31 hi g 0 k cap _ (n - k) _ hs (by omega)
        (fun j hj => by rw [cell_block r3]; rw [atr_len, List.length_drop, hl] at hj; rw [Array.getElem?_eq_getElem (by rw [hsz, r4]; omega)]; rfl)
        (fun j hj => frozen_block r3 _)
      rw [Nat.zero_add, hsz, show k + (n - k) = n by omega, hW1] at hr
      exact hr
    · have e : k = n := by omega
      subst e
      have hd : l.drop (k + 1) = [] := List.drop_of_length_le (by omega)
      have hw : w.drew = W1 := by rw [← hW1, hd]; rfl
      rw [← hw, Nat.sub_self]
      exact run_append_nothing w.drew 31 31 31 140 i Tryz.underlying31 hi _ k cap (by omega) _ (Src.ofSlice w.drew Tryz.underlying31 _ 0 _ [] (by simp) (fun j u hj => by simp at hj) (fun u hu => by cases hu))
  have hOd : OwnZ K w.drew 140 2 (some ⟨g, 0, none⟩) (n + 1) cap (atrCells l) := hO
  obtain ⟨⟨c1, q1, q2⟩, hO2⟩ := del_own hOd hl k hk
  rw [hW1] at q1 hO2
  have hclr : ∀ c ty, (Builtin.clear_ #[31] ty #[.slice (some ⟨g, n * 2, none⟩) 1 c]).run Tryz.prog W1 = .ok (.tuple #[]) (W1.setCells g (n * 2) [emp, emp]) := fun c ty => run_clear2 W1 g (n * 2) c ty (fun j hj => by rw [cell_block q1, Array.getElem?_eq_getElem (by omega)]; rfl) (fun j hj => frozen_block q1 _)
  have hK2 : Kept (fun j => j < w.heap.size ∧ j ≠ g) w (W1.setCells g (n * 2) [emp, emp]) := by
    have k1 : Kept (fun j => j < w.heap.size ∧ j ≠ g) w W1 := by
      rw [← hW1]
      exact (Kept.refl _ w).drew.setCells (fun h => h.2 rfl) (fun k h => h.1) _ _
    exact k1.setCells (fun h => h.2 rfl) (fun k h => Nat.lt_of_lt_of_le h.1 k1.size) _ _
  have HO2 : Hid (OwnZ K (W1.setCells g (n * 2) [emp, emp]) 140 2 (some ⟨g, 0, none⟩) n cap (atrCells (l.eraseIdx k))) := hO2
  have HK2 : Hid (Kept (fun j => j < w.heap.size ∧ j ≠ g) w (W1.setCells g (n * 2) [emp, emp])) := hK2
  clear hOd q1 q2 hO2 hW1 hK2 hO
  have hkc : k ≤ cap := by omega
  have hkn : k ≤ n := by omega
  have h0k : (0 : Int) ≤ (k : Int) + 1 := by omega
  by_cases hcc : cap = k + 1
  · have ekn : n = k := by omega
    subst hcc
    subst ekn
    have hrun := HRUN.out 0 (fun h => by omega)
    rw [Nat.sub_self, Nat.sub_self] at hrun
    have hle : (n : Int) ≤ (n : Int) + 1 := by omega
    clear HRUN
    go_region_law (refine step_appR (w' := W1) rfl (.tmp 22) (.tmp 25) 31 31 rfl _ _ (.slice (some ⟨g, 0, none⟩) n (n + 1)) rfl rfl hrun ?_)
    all_goals
      go_upto_region 6 with fail
    all_goals
      go_wp2_with (at_builtin; refine wpList_clr (w' := W1.setCells g (n * 2) [emp, emp]) rfl (.tmp 31) 31 rfl _ rfl (hclr _ _) ?_)
      go_ret
      exact ⟨rfl, HO2.out, HK2.out⟩
  · have hrun := HRUN.out ((k + 1) * 2) (fun _ => rfl)
    clear HRUN
    go_region_law (refine step_appR (w' := W1) rfl (.tmp 22) (.tmp 25) 31 31 rfl _ _ (.slice (some ⟨g, 0, none⟩) n cap) rfl rfl hrun ?_)
    all_goals
      go_upto_region 6 with fail
    all_goals
      go_wp2_with (at_builtin; refine wpList_clr (w' := W1.setCells g (n * 2) [emp, emp]) rfl (.tmp 31) 31 rfl _ rfl (hclr _ _) ?_)
      go_ret
      exact ⟨rfl, HO2.out, HK2.out⟩
end Go.Proofs.YtbhfnbplbkncmaaGreat

namespace Go.Proofs.YtbhfnbplbkncmaaGreat
open Go.RowKit
set_option linter.unusedVariables false

/-- The attributes without the first of that name. -/
theorem DY.cutAttrs {K : Nat → Prop} {w w' : World} {p : Nat} {S : Dm} {g : Nat} {cap : Nat} (h : DY K w p S (some ⟨g, 0, none⟩) cap) {i : Nat} (hi : i < S.n) {ag n n' c : Nat} {l : List Atr}
    (hO : ∀ K', OwnZ K' w 140 2 (some ⟨ag, 0, none⟩) n c (atrCells (S.nd i).attrs) → OwnZ K' w' 140 2 (some ⟨ag, 0, none⟩) n' c (atrCells l)) (hc : w.cell? ⟨g, i * 22 + 3, none⟩ = some (.slice (some ⟨ag, 0, none⟩) n c)) (hk : Kept (fun j => j < w.heap.size ∧ j ≠ ag) w w') (hln : l.length = n') :
    DY K (w'.setCell ⟨g, i * 22 + 3, none⟩ (.slice (some ⟨ag, 0, none⟩) n' c)) p (S.setN i { S.nd i with attrs := l }) (some ⟨g, 0, none⟩) cap ∧ Kept K w (w'.setCell ⟨g, i * 22 + 3, none⟩ (.slice (some ⟨ag, 0, none⟩) n' c)) := by
  subst hln
  obtain ⟨gk, gp, gl⟩ := h.gk
  obtain ⟨h1, h2, h3, xs, aa, ac, ho, hx, ha, hs⟩ := h
  have hp := lt_block h3
  -- where the attributes of i lie
  have hai : aa i = some ⟨ag, 0, none⟩ ∧ (S.nd i).attrs.length = n ∧ ac i = c := by
    obtain ⟨g', e, hc'⟩ := ho.cell (hx i hi 3 _ rfl)
    have : g' = g := by injection e with e; injection e with e; exact e.symm
    subst this
    rw [hc] at hc'
    injection hc' with hc'
    injection hc' with q1 q2 q3
    exact ⟨q1.symm, q2.symm, q3.symm⟩
  obtain ⟨e1, e2, e3⟩ := hai
  have hOi := ha i hi
  rw [e1, e2, e3] at hOi
  have hag := OwnZ.out hOi (g := ag) rfl
  have hagg : ag ≠ g := fun e => hag.1 (.inr (.inr (e ▸ rfl)))
  have hagp : ag ≠ p := fun e => hag.1 (.inr (.inl e))
  have hagK : ¬ K ag := fun e => hag.1 (.inl e)
  have kG : Kept (fun k => k ≠ g) w' (w'.setCell ⟨g, i * 22 + 3, none⟩ (.slice (some ⟨ag, 0, none⟩) l.length c)) := (Kept.refl _ w').setCell (p := ⟨g, i * 22 + 3, none⟩) (fun h => h rfl) _
  have kO : Kept (fun k => k < w.heap.size ∧ k ≠ g ∧ k ≠ ag) w (w'.setCell ⟨g, i * 22 + 3, none⟩ (.slice (some ⟨ag, 0, none⟩) l.length c)) := (hk.mono fun k h => ⟨h.1, h.2.2⟩).trans (kG.mono fun k h => h.2.1)
  refine ⟨⟨fun k hk' => Nat.lt_of_lt_of_le (h1 k hk') kO.size, h2, by rw [kO.block p ⟨hp, fun e => gp e.symm, fun e => hagp e.symm⟩]; exact h3, xs.set (i * 22 + 3) (.slice (some ⟨ag, 0, none⟩) l.length c), aa, ac, ?_, ?_, ?_, ?_⟩, kO.mono fun k hk' => ⟨h1 k hk', fun e => gk (e ▸ hk'), fun e => hagK (e ▸ hk')⟩⟩
  · obtain ⟨o1, o2, o3, o4⟩ := ho
    refine ⟨by rw [List.length_set]; exact o1, o2, o3, ?_⟩
    rcases o4 with ⟨r1, _⟩ | ⟨g', cur, r1, r2, r3, r4, r5⟩
    · cases r1
    · injection r1 with r1
      injection r1 with r1
      subst r1
      have r3' : w'.heap[g]? = some (.cells cur 94 (0, 0)) := (hk.block g ⟨gl, fun e => hagg e.symm⟩).trans r3
      refine .inr ⟨g, _, rfl, r2, heap_setCell_at r3' _ _, by simp [r4], ?_⟩
      rw [Array.toList_setIfInBounds, ← r5, List.take_set]
      rfl
  · intro j hj f u hu
    have hj' : j < S.n := hj
    have hf : f < 22 := by
      rcases Nat.lt_or_ge f 22 with hh | hh
      · exact hh
      · rw [List.getElem?_eq_none (by rw [Dm.cells_len]; exact hh)] at hu; cases hu
    by_cases cj : j = i
    · subst cj
      have e : (S.setN j { S.nd j with attrs := l }).cells j (aa j) (ac j) = (S.cells j (aa j) (ac j)).set 3 (.slice (some ⟨ag, 0, none⟩) l.length c) := by
        rw [e1, e3]
        simp only [Dm.cells, Dm.setN, if_pos]
        rfl
      rw [e] at hu
      by_cases c2 : f = 3
      · subst c2
        have hl : j * 22 + 3 < xs.length := by rw [ho.1]; have := Nat.mul_le_mul_right 22 hi; omega
        rw [List.getElem?_set_self (by rw [Dm.cells_len]; exact hf)] at hu
        rw [List.getElem?_set_self hl]
        exact hu
      · rw [List.getElem?_set_ne (by omega)] at hu
        rw [List.getElem?_set_ne (by omega)]
        exact hx j hj' f u hu
    · have e : (S.setN i { S.nd i with attrs := l }).cells j (aa j) (ac j) = S.cells j (aa j) (ac j) := by
        simp only [Dm.cells, Dm.setN, if_neg cj]
      rw [e] at hu
      rw [List.getElem?_set_ne (by omega)]
      exact hx j hj' f u hu
  · intro j hj
    have hj' : j < S.n := hj
    by_cases cj : j = i
    · subst cj
      have e : ((S.setN j { S.nd j with attrs := l }).nd j).attrs = l := by simp only [Dm.setN, if_pos]
      rw [e, e1, e3]
      have := hO _ hOi
      exact OwnZ.to this (fun x hx => (OwnZ.out this hx).1) (fun x hx => kG.block x fun e => (OwnZ.out this hx).1 (.inr (.inr (e ▸ rfl))))
    · have e : ((S.setN i { S.nd i with attrs := l }).nd j).attrs = (S.nd j).attrs := by simp only [Dm.setN, if_neg cj]
      rw [e]
      exact OwnZ.to (ha j hj') (fun x hx => ((ha j hj').out hx).1) (fun x hx => kO.block x ⟨((ha j hj').out hx).2, fun e => ((ha j hj').out hx).1 (.inr (.inr (e ▸ rfl))), fun e => hs i j hi hj' (fun e => cj e.symm) x (by rw [e1, e]; rfl) hx⟩)
  · exact hs

set_option maxRecDepth 20000 in
set_option maxHeartbeats 2000000 in
theorem drop_in (K : Nat → Prop) (p i : Nat) (M : Dm) (S : ByteArray) (w : World) (h : DX K w p M) (hi : i < M.n) (hMn : M.n ≤ 1000000) (hkd : (M.nd i).kind = 1) (hfew : (M.nd i).attrs.length ≤ 100000) :
    Calls Tryz.prog 95 #[.pointer (some ⟨p, 0, none⟩), .int .i64 (i : Int), .string S] w fun e w' =>
      ((∃ k, ∃ hk : k < (M.nd i).attrs.length, (M.nd i).attrs[k].name = S.toList ∧ (∀ x ∈ (M.nd i).attrs.take k, x.name ≠ S.toList) ∧ e = .returned (.int .u16 0) ∧ DX K w' p (M.setN i { M.nd i with attrs := (M.nd i).attrs.eraseIdx k })) ∨
        ((∀ x ∈ (M.nd i).attrs, x.name ≠ S.toList) ∧ e = .returned (.int .u16 82) ∧ DX K w' p M)) ∧ Kept K w w' := by
  obtain ⟨ga, gc, hY⟩ := h
  obtain ⟨g, rfl, -, -, -⟩ := hY.at (by omega)
  obtain ⟨aa, ac, hc, hO⟩ := hY.cell hi
  have c0 : w.cell? ⟨g, i * 22, none⟩ = some (.int .u8 1) := by have := hc 0 _ rfl; rw [hkd] at this; exact this
  have c3 : w.cell? ⟨g, i * 22 + 3, none⟩ = some (.slice aa (M.nd i).attrs.length ac) := hc 3 _ rfl
  have re := element_yes p g M.n gc i 81 w hY.c1 hi (by omega) c0
  have gl := hY.gk.2.2
  have ats : AtsAt (fun k => k < w.heap.size) w aa (M.nd i).attrs := hO.atsAt (K' := fun k => k < w.heap.size) fun x hx => (OwnZ.out hO hx).2
  obtain ⟨V, hV⟩ : ∃ V, w.drew.alloc (.cells #[.string S] 9) = V := ⟨_, rfl⟩
  have kV : Kept (fun k => k < w.heap.size) w V := by rw [← hV]; exact (Kept.refl _ w).drew.alloc (fun _ h => h) _
  obtain ⟨B, hB⟩ : ∃ B, w.heap.size = B := ⟨_, rfl⟩
  have hbV : V.cell? ⟨B, 0, none⟩ = some (.string S) := by rw [← hV, ← hB]; exact (cell_block (heap_alloc_new w.drew _) 0).trans rfl
  have rn := named_any S w.drew
  have c3d : w.drew.cell? ⟨g, i * 22 + 3, none⟩ = some (.slice aa (M.nd i).attrs.length ac) := c3
  have c3v : V.cell? ⟨g, i * 22 + 3, none⟩ = some (.slice aa (M.nd i).attrs.length ac) := (kV.cell (p := ⟨g, i * 22 + 3, none⟩) gl).trans c3
  obtain ⟨l, hl⟩ : ∃ l, (M.nd i).attrs = l := ⟨_, rfl⟩
  have HY : Hid (DY K w p M (some ⟨g, 0, none⟩) gc) := hY
  have HO : Hid (OwnZ (fun k => K k ∨ k = p ∨ k = g) w 140 2 aa (M.nd i).attrs.length ac (atrCells (M.nd i).attrs)) := hO
  have HLA : Hid ((M.nd i).attrs = l) := hl
  rw [hl] at c3 c3d c3v hfew HO ats ⊢
  obtain ⟨n, hn⟩ : ∃ n, l.length = n := ⟨_, rfl⟩
  rw [hn] at c3 c3d c3v hfew HO
  have HN : Hid (l.length = n) := hn
  have hfg := hY.fg (i * 22 + 3)
  have HC3 : Hid (w.cell? ⟨g, i * 22 + 3, none⟩ = some (.slice aa n ac)) := c3
  have ri' : Calls Tryz.prog 161 #[.slice aa n ac, .func (.func 185) #[] #[.pointer (some ⟨B, 0, none⟩)]] V fun e w' => ∃ z : Int, e = .returned (.int .i64 z) ∧ ((∃ k, ∃ h : k < l.length, z = (k : Int) ∧ l[k].name = S.toList ∧ ∀ x ∈ l.take k, x.name ≠ S.toList) ∨ (z = -1 ∧ ∀ x ∈ l, x.name ≠ S.toList)) ∧ Kept (fun k => k < w.heap.size) w w' := by
    exact (indexA_any l n hn (by omega) aa ac B S V (ats.kept kV fun k h => Nat.lt_of_lt_of_le h kV.size) hbV).mono fun e w' hh => by
      obtain ⟨hres, hk⟩ := hh
      have hk' : Kept (fun k => k < w.heap.size) w w' := kV.trans (hk.mono fun k h => Nat.lt_of_lt_of_le h kV.size)
      rcases hres with ⟨k, q1, q2, q3, q4⟩ | ⟨q1, q2⟩
      · exact ⟨_, q2, .inl ⟨k, q1, rfl, q3, q4⟩, hk'⟩
      · exact ⟨_, q1, .inr ⟨rfl, q2⟩, hk'⟩
  have HV : Hid (w.drew.alloc (.cells #[.string S] 9) = V) := hV
  have HKW : Hid (∀ k, K k → k < w.heap.size) := hY.1
  have HB : Hid (w.heap.size = B) := hB
  clear hY hc hO hn hl hkd c0 ats kV hbV hV hB
  go_enter Tryz.func95, Tryz.ntmps95
  go_upto_region 4 with (go_at_call 154; refine re.mono ?_; rintro e w2 ⟨rfl, hw2⟩; replace hw2 := hw2.symm; subst hw2)
  clear re
  go_cut [9] from 19 to 25 (fun v wx => ∃ z : Int, v = .int .i64 z ∧ ((∃ k, ∃ h : k < l.length, z = (k : Int) ∧ l[k].name = S.toList ∧ ∀ x ∈ l.take k, x.name ≠ S.toList) ∨ (z = -1 ∧ ∀ x ∈ l, x.name ≠ S.toList)) ∧ Kept (fun k => k < w.heap.size) w wx)
  case first =>
    clear HY HO HLA HN HC3 hfg
    go_region_with (first | (go_at_call 162; refine rn.mono ?_; rintro e w2 ⟨rfl, hw2⟩; rw [show w.drew.heap.size = B from HB.out]; rw [HV.out] at hw2; subst hw2) | (go_at_call 161; refine ri'.mono ?_; rintro e w2 ⟨z, rfl, hz, hk2⟩))
    all_goals
      go_wp2_with fail
      go_meet
      exact ⟨z, rfl, hz, hk2⟩
  case rest =>
    obtain ⟨z, rfl, hz, hk2⟩ := hcut
    clear c3 c3d c3v ri' rn HV HB
    rcases hz with ⟨k, hk, rfl, hname, hno⟩ | ⟨rfl, hno⟩
    · obtain ⟨a0, -⟩ := atr_get l k hk
      obtain ⟨ag, rfl, -⟩ := HO.out.cell a0
      have hagl := (OwnZ.out HO.out (g := ag) rfl).2
      have hc3 : wc.cell? ⟨g, i * 22 + 3, none⟩ = some (.slice (some ⟨ag, 0, none⟩) n ac) := (hk2.cell (p := ⟨g, i * 22 + 3, none⟩) gl).trans HC3.out
      have hYc := HY.out.kept hk2
      have hOc : OwnZ (fun j => j ≠ ag) wc 140 2 (some ⟨ag, 0, none⟩) n ac (atrCells l) := OwnZ.to HO.out (fun x hx hh => hh (by have hx' : some (⟨ag, 0, none⟩ : Addr) = some ⟨x, 0, none⟩ := hx; injection hx' with hx'; injection hx' with hx'; exact hx'.symm)) (fun x hx => hk2.block x (OwnZ.out HO.out hx).2)
      obtain ⟨n', hn'⟩ : ∃ n', n = n' + 1 := ⟨n - 1, by have := HN.out; omega⟩
      subst hn'
      have hkn : k < n' + 1 := by rw [← HN.out]; exact hk
      have rd := delete_any (fun j => j ≠ ag) l ag n' ac k HN.out hkn (by omega) wc hOc
      have HRD : Hid (Calls Tryz.prog 163 #[.slice (some ⟨ag, 0, none⟩) ((n' + 1 : Nat)) ac, .int .i64 (k : Int), .int .i64 ((k : Int) + 1)] wc fun e w' => e = .returned (.slice (some ⟨ag, 0, none⟩) n' ac) ∧ OwnZ (fun j => j ≠ ag) w' 140 2 (some ⟨ag, 0, none⟩) n' ac (atrCells (l.eraseIdx k)) ∧ Kept (fun j => j < wc.heap.size ∧ j ≠ ag) wc w') := rd
      have HYc : Hid (DY K wc p M (some ⟨g, 0, none⟩) gc) := hYc
      have HK2 : Hid (Kept (fun k => k < w.heap.size) w wc) := hk2
      have HNM : Hid (l[k].name = S.toList ∧ ∀ x ∈ l.take k, x.name ≠ S.toList) := ⟨hname, hno⟩
      have hgag : g ≠ ag := fun e => (OwnZ.out HO.out (g := ag) rfl).1 (.inr (.inr e.symm))
      have hfc : wc.frozen? ⟨g, i * 22 + 3, none⟩ = false := (hk2.frozen (p := ⟨g, i * 22 + 3, none⟩) gl).trans hfg
      have hglc : g < wc.heap.size := Nat.lt_of_lt_of_le gl hk2.size
      have HC3c : Hid (wc.cell? ⟨g, i * 22 + 3, none⟩ = some (.slice (some ⟨ag, 0, none⟩) (n' + 1) ac)) := hc3
      clear rd hYc hk2 hOc hname hno a0 HY HC3 hfg
      go_wp2_with fail
      refine HRD.out.mono ?_
      rintro e w3 ⟨rfl, hO3, hK3⟩
      have hc4 : w3.cell? ⟨g, i * 22 + 3, none⟩ = some (.slice (some ⟨ag, 0, none⟩) (n' + 1) ac) := (hK3.cell (p := ⟨g, i * 22 + 3, none⟩) ⟨hglc, hgag⟩).trans HC3c.out
      have hf4 : w3.frozen? ⟨g, i * 22 + 3, none⟩ = false := (hK3.frozen (p := ⟨g, i * 22 + 3, none⟩) ⟨hglc, hgag⟩).trans hfc
      obtain ⟨hY5, hK5⟩ := HYc.out.cutAttrs hi (ag := ag) (n := n' + 1) (n' := n') (c := ac) (l := l.eraseIdx k) (fun K' hK' => OwnZ.to hO3 (fun x hx => by
        have hx' : some (⟨ag, 0, none⟩ : Addr) = some ⟨x, 0, none⟩ := hx
        injection hx' with hx'
        injection hx' with hx'
        subst hx'
        exact (OwnZ.out hK' (g := ag) rfl).1) (fun _ _ => rfl)) HC3c.out hK3 (by rw [List.length_eraseIdx, if_pos hk, HN.out]; rfl)
      have HX5 : Hid (DX K (w3.setCell ⟨g, i * 22 + 3, none⟩ (.slice (some ⟨ag, 0, none⟩) n' ac)) p (M.setN i { M.nd i with attrs := l.eraseIdx k })) := ⟨_, _, hY5⟩
      have HK5 : Hid (Kept K w (w3.setCell ⟨g, i * 22 + 3, none⟩ (.slice (some ⟨ag, 0, none⟩) n' ac))) := (HK2.out.mono HKW.out).trans hK5
      clear HRD hO3 hK3 hY5 hK5 hc3
      go_wp2
      go_ret
      exact ⟨.inl ⟨k, hk, HNM.out.1, HNM.out.2, rfl, HX5.out⟩, HK5.out⟩
    · have HX2 : Hid (DX K wc p M) := ⟨_, _, HY.out.kept hk2⟩
      have HK2 : Hid (Kept K w wc) := hk2.mono HY.out.1
      have HNO : Hid (∀ x ∈ l, x.name ≠ S.toList) := hno
      clear hk2 hno HY HO HC3 hfg
      go_wp2
      go_ret
      exact ⟨.inr ⟨HNO.out, rfl, HX2.out⟩, HK2.out⟩
end Go.Proofs.YtbhfnbplbkncmaaGreat
