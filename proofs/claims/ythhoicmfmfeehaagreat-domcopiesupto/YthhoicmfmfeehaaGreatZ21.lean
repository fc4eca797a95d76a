/-
  slices.Delete of one attribute.
-/
import Derived.Test.YthhoicmfmfeehaaGreatZ15
import Derived.Lib.SliceRun
namespace Go.Proofs.YthhoicmfmfeehaaGreat
open Go.RowKit
set_option linter.unusedVariables false

theorem Kept.setCells {K : Nat → Prop} {a w : World} (h : Kept K a w) {g : Nat} (hg : ¬ K g) (hK : ∀ k, K k → k < w.heap.size) (o : Nat) (vs : List Value) : Kept K a (w.setCells g o vs) := by
  have k1 : ∀ (vs : List Value) (o : Nat) (v : World), (v.setCells g o vs).tape = v.tape := by
    intro vs
    induction vs with
    | nil => intro o v; rfl
    | cons a r ih => intro o v; rw [World.setCells, ih]; rfl
  have k2 : ∀ (vs : List Value) (o : Nat) (v : World), (v.setCells g o vs).heap.size = v.heap.size := by
    intro vs
    induction vs with
    | nil => intro o v; rfl
    | cons a r ih => intro o v; rw [World.setCells, ih]; simp
  exact ⟨(World.os_setCells w g _ vs).trans h.os, (k1 vs o w).trans h.tape, (World.output_setCells w g _ vs).trans h.output, by rw [k2]; exact h.size, fun k hk => (World.heap_setCells_other w g _ vs (hK k hk) (fun e => hg (e ▸ hk))).trans (h.block k hk)⟩
abbrev emp : Value := .string ⟨#[]⟩
theorem atr_take (l : List Atr) (k : Nat) : (atrCells l).take (k * 2) = atrCells (l.take k) := by
  induction l generalizing k with
  | nil => simp [atrCells]
  | cons x r ih =>
    cases k with
    | zero => simp [atrCells]
    | succ k =>
      rw [show (k + 1) * 2 = k * 2 + 1 + 1 by omega]
      show sv x.name :: sv x.value :: (atrCells r).take (k * 2) = sv x.name :: sv x.value :: atrCells (r.take k)
      rw [ih]
/-- Both steps in memory. -/
theorem del_own {K : Nat → Prop} {X : World} {g n cap : Nat} {l : List Atr} (h : OwnZ K X 67 2 (some ⟨g, 0, none⟩) (n + 1) cap (atrCells l)) (hl : l.length = n + 1) (k : Nat) (hk : k < n + 1) :
    (∃ c1, (X.setCells g (k * 2) (atrCells (l.drop (k + 1)))).heap[g]? = some (.cells c1 67 (0, 0)) ∧ n * 2 + 2 ≤ c1.size) ∧
    OwnZ K ((X.setCells g (k * 2) (atrCells (l.drop (k + 1)))).setCells g (n * 2) [emp, emp]) 67 2 (some ⟨g, 0, none⟩) n cap (atrCells (l.eraseIdx k)) := by
  obtain ⟨h1, h2, h3, h4⟩ := h
  rcases h4 with ⟨r1, _⟩ | ⟨g', cur, r1, r2, r3, r4, r5⟩
  · cases r1
  injection r1 with r1
  injection r1 with r1
  subst r1
  have hnl : (atrCells (l.drop (k + 1))).length = (n - k) * 2 := by rw [atr_len, List.length_drop, hl]; omega
  obtain ⟨c1, q1, q2⟩ := heap_setCells_at (b := g) (e := 67) (f := (0, 0)) (atrCells (l.drop (k + 1))) (k * 2) X cur r3 (by rw [hnl, r4]; omega)
  have e1 : cur.toList.take (k * 2) = atrCells (l.take k) := by
    rw [← atr_take, ← r5, List.take_take, Nat.min_eq_left (by omega)]
  have s1 : c1.size = cur.size := by
    have := congrArg List.length q2
    rw [List.length_append, List.length_append, List.length_drop, List.length_take, hnl] at this
    simp only [Array.length_toList] at this
    omega
  obtain ⟨c2, p1, p2⟩ := heap_setCells_at (b := g) (e := 67) (f := (0, 0)) [emp, emp] (n * 2) _ c1 q1 (by rw [s1, r4]; show n * 2 + 2 ≤ _; omega)
  have e2 : atrCells (l.eraseIdx k) = atrCells (l.take k) ++ atrCells (l.drop (k + 1)) := by rw [List.eraseIdx_eq_take_drop_succ, atrCells_append]
  have hel : (l.eraseIdx k).length = n := by rw [List.length_eraseIdx, if_pos (by omega), hl]; rfl
  have hlen : (atrCells (l.take k) ++ atrCells (l.drop (k + 1))).length = n * 2 := by rw [← e2, atr_len, hel]
  refine ⟨⟨c1, q1, by rw [s1, r4]; omega⟩, by rw [atr_len, hel], by omega, h3, .inr ⟨g, c2, rfl, r2, p1, ?_, ?_⟩⟩
  · have := congrArg List.length p2
    rw [List.length_append, List.length_append, List.length_drop, List.length_take] at this
    simp only [Array.length_toList, List.length_cons, List.length_nil] at this
    omega
  · have t1 : c1.toList.take (n * 2) = atrCells (l.take k) ++ atrCells (l.drop (k + 1)) := by
      rw [q2, e1, ← hlen]
      exact List.take_left
    rw [p2, t1, e2, List.append_assoc, ← hlen]
    exact List.take_left
theorem zero24 : ∀ w, (zeroValue 67).run Tryz.prog w = .ok (.agg #[emp, emp]) w := by
  intro w
  obtain ⟨i, hi, hip⟩ := Option.map_eq_some_iff.1 infoA
  have hz : i.zero = _ := congrArg (·.1) hip
  simp [zeroValue, typeInfo, hi, hz]
theorem run_clear2 (w : World) (g o c ty : Nat) (hc : ∀ j, j < 2 → (w.cell? ⟨g, o + j, none⟩).isSome = true) (hf : ∀ j, j < 2 → w.frozen? ⟨g, o + j, none⟩ = false) :
    (Builtin.clear_ #[30] ty #[.slice (some ⟨g, o, none⟩) 1 c]).run Tryz.prog w = .ok (.tuple #[]) (w.setCells g o [emp, emp]) := by
  have hst := run_storeCells_cells (P := Tryz.prog) g o [emp, emp] 0 w (by simpa using hc) (by simpa using hf) (by intro v hv; rcases List.mem_cons.1 hv with rfl | hv; rfl; rw [List.mem_singleton.1 hv]; rfl)
  simp only [Nat.add_zero] at hst
  have hzc : (Builtin.zeroCells (Value.agg #[emp, emp]).cells 1).toList = [emp, emp] := by kernel_rfl
  simp [Builtin.clear_, run_underlying Tryz.underlying30, hzc, hst]

section
variable {P : Program}
theorem wpList_clr {w w' : World} {ops : Array Oper} {rest : List Oper} {o : Oper} {a : Act} {Q : Exit → Act → World → Prop} (hgd : o.guard = none) (s : Operand) (t : TypeId)
    (ho : o.op = .call { callee := .builtin .clear, args := #[s], argTypes := #[t] }) (vs : Value) (hs : a.eval s = vs)
    (hr : (Builtin.clear_ #[t] o.type #[vs]).run P w = .ok (.tuple #[]) w') (h : wpList P ops Q rest (a.put o.dst (.tuple #[])) w') : wpList P ops Q (o :: rest) a w := by
  refine wpList_plain hgd fun _ hK' => ?_
  unfold Oper.wp execOp
  simp only [ho, resolve, invoke, builtin, Sem.run_bind, Sem.run_pure, Result.andThen_ok, List.map_toArray, List.map_cons, List.map_nil, hs, hr]
  exact hK' _ _ h
end
set_option maxRecDepth 20000 in
set_option maxHeartbeats 2000000 in
theorem delete_any (K : Nat → Prop) (l : List Atr) (g n cap k : Nat) (hl : l.length = n + 1) (hk : k < n + 1) (hn : n ≤ 1000000) (w : World) (hO : OwnZ K w 67 2 (some ⟨g, 0, none⟩) (n + 1) cap (atrCells l)) :
    Calls Tryz.prog 73 #[.slice (some ⟨g, 0, none⟩) ((n + 1 : Nat)) cap, .int .i64 (k : Int), .int .i64 ((k : Int) + 1)] w fun e w' => e = .returned (.slice (some ⟨g, 0, none⟩) n cap) ∧ OwnZ K w' 67 2 (some ⟨g, 0, none⟩) n cap (atrCells (l.eraseIdx k)) ∧ Kept (fun j => j < w.heap.size ∧ j ≠ g) w w' := by
  have hcap : n + 1 ≤ cap := hO.2.1
  have hkk : ((k : Int) == (k : Int) + 1) = false := by
    have : ¬ (k : Int) = (k : Int) + 1 := by omega
    simpa using this
  go_enter Tryz.func73, Tryz.ntmps73
  go_upto_region 5 with fail
  obtain ⟨W1, hW1⟩ : ∃ W1, w.drew.setCells g (k * 2) (atrCells (l.drop (k + 1))) = W1 := ⟨_, rfl⟩
  have HRUN : Hid (∀ o, (k < n → o = (k + 1) * 2) → (Builtin.append_ #[30, 30] 30 #[.slice (some ⟨g, 0, none⟩) k cap, .slice (some ⟨g, o, none⟩) (n - k) (cap - (k + 1))]).run Tryz.prog w.drew = .ok (.slice (some ⟨g, 0, none⟩) n cap) W1) := fun o ho => by
    obtain ⟨i, hi, hip⟩ := Option.map_eq_some_iff.1 infoA
    have hsz : i.size = 2 := congrArg (·.2.1) hip
    have hOd : OwnZ K w.drew 67 2 (some ⟨g, 0, none⟩) (n + 1) cap (atrCells l) := hO
    by_cases c : k < n
    · have eo := ho c
      subst eo
      have hs : Src Tryz.prog i.size 30 (.slice (some ⟨g, (k + 1) * 2, none⟩) (n - k) (cap - (k + 1))) (n - k) (atrCells (l.drop (k + 1))) w.drew := by
        rw [hsz]
        refine Src.ofSlice w.drew Tryz.underlying30 _ (n - k) _ _ (by rw [atr_len, List.length_drop, hl]; omega) (fun j u hj => ?_) (atr_one _)
        rw [Addr.add_lit]
        have hd : (atrCells l)[(k + 1) * 2 + j]? = some u := by
          have e : atrCells l = atrCells (l.take (k + 1)) ++ atrCells (l.drop (k + 1)) := by rw [← atrCells_append, List.take_append_drop]
          rw [e, List.getElem?_append_right (by rw [atr_len, List.length_take]; omega), atr_len, List.length_take, Nat.min_eq_left (by omega), Nat.add_sub_cancel_left]
          exact hj
        obtain ⟨g', e', hc'⟩ := hOd.cell hd
        have : g' = g := by injection e' with e'; injection e' with e'; exact e'.symm
        subst this
        exact hc'
      rcases hOd.2.2.2 with ⟨r1, _⟩ | ⟨g', cur, r1, r2, r3, r4, r5⟩
      · cases r1
      injection r1 with r1
      injection r1 with r1
      subst r1
      have hr := run_append_room_src (P := Tryz.prog) w.drew 30 30 30 67 i Tryz.underlying30 hi g 0 k cap _ (n - k) _ hs (by omega)
        (fun j hj => by rw [cell_block r3]; rw [atr_len, List.length_drop, hl] at hj; rw [Array.getElem?_eq_getElem (by rw [hsz, r4]; omega)]; rfl)
        (fun j hj => frozen_block r3 _)
      rw [Nat.zero_add, hsz, show k + (n - k) = n by omega, hW1] at hr
      exact hr
    · have e : k = n := by omega
      subst e
      have hd : l.drop (k + 1) = [] := List.drop_of_length_le (by omega)
      have hw : w.drew = W1 := by rw [← hW1, hd]; rfl
      rw [← hw, Nat.sub_self]
      exact run_append_nothing w.drew 30 30 30 67 i Tryz.underlying30 hi _ k cap (by omega) _ (Src.ofSlice w.drew Tryz.underlying30 _ 0 _ [] (by simp) (fun j u hj => by simp at hj) (fun u hu => by cases hu))
  have hOd : OwnZ K w.drew 67 2 (some ⟨g, 0, none⟩) (n + 1) cap (atrCells l) := hO
  obtain ⟨⟨c1, q1, q2⟩, hO2⟩ := del_own hOd hl k hk
  rw [hW1] at q1 hO2
  have hclr : ∀ c ty, (Builtin.clear_ #[30] ty #[.slice (some ⟨g, n * 2, none⟩) 1 c]).run Tryz.prog W1 = .ok (.tuple #[]) (W1.setCells g (n * 2) [emp, emp]) := fun c ty => run_clear2 W1 g (n * 2) c ty (fun j hj => by rw [cell_block q1, Array.getElem?_eq_getElem (by omega)]; rfl) (fun j hj => frozen_block q1 _)
  have hK2 : Kept (fun j => j < w.heap.size ∧ j ≠ g) w (W1.setCells g (n * 2) [emp, emp]) := by
    have k1 : Kept (fun j => j < w.heap.size ∧ j ≠ g) w W1 := by
      rw [← hW1]
      exact (Kept.refl _ w).drew.setCells (fun h => h.2 rfl) (fun k h => h.1) _ _
    exact k1.setCells (fun h => h.2 rfl) (fun k h => Nat.lt_of_lt_of_le h.1 k1.size) _ _
  have HO2 : Hid (OwnZ K (W1.setCells g (n * 2) [emp, emp]) 67 2 (some ⟨g, 0, none⟩) n cap (atrCells (l.eraseIdx k))) := hO2
  have HK2 : Hid (Kept (fun j => j < w.heap.size ∧ j ≠ g) w (W1.setCells g (n * 2) [emp, emp])) := hK2
  clear hOd q1 q2 hO2 hW1 hK2 hO
  have hkc : k ≤ cap := by omega
  have hkn : k ≤ n := by omega
  have h0k : (0 : Int) ≤ (k : Int) + 1 := by omega
  by_cases hcc : cap = k + 1
  · have ekn : n = k := by omega
    subst hcc
    subst ekn
    have hrun := HRUN.out 0 (fun h => by omega)
    rw [Nat.sub_self, Nat.sub_self] at hrun
    have hle : (n : Int) ≤ (n : Int) + 1 := by omega
    clear HRUN
    go_region_law (refine step_appR (w' := W1) rfl (.tmp 22) (.tmp 25) 30 30 rfl _ _ (.slice (some ⟨g, 0, none⟩) n (n + 1)) rfl rfl hrun ?_)
    all_goals
      go_upto_region 6 with fail
    all_goals
      go_wp2_with (at_builtin; refine wpList_clr (w' := W1.setCells g (n * 2) [emp, emp]) rfl (.tmp 31) 30 rfl _ rfl (hclr _ _) ?_)
      go_ret
      exact ⟨rfl, HO2.out, HK2.out⟩
  · have hrun := HRUN.out ((k + 1) * 2) (fun _ => rfl)
    clear HRUN
    go_region_law (refine step_appR (w' := W1) rfl (.tmp 22) (.tmp 25) 30 30 rfl _ _ (.slice (some ⟨g, 0, none⟩) n cap) rfl rfl hrun ?_)
    all_goals
      go_upto_region 6 with fail
    all_goals
      go_wp2_with (at_builtin; refine wpList_clr (w' := W1.setCells g (n * 2) [emp, emp]) rfl (.tmp 31) 30 rfl _ rfl (hclr _ _) ?_)
      go_ret
      exact ⟨rfl, HO2.out, HK2.out⟩
end Go.Proofs.YthhoicmfmfeehaaGreat
