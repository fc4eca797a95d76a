/-
  endText and add.
-/
import Derived.Test.YtncfgahnjakeiaaDoorTkD
namespace Go.Proofs.YtncfgahnjakeiaaDoor
open Go.RowKit

/-- A call of a function that has a body. -/
theorem entersE {f : FuncId} {fn : Func} {c : Code} (hf : Tryd.prog.funcs[f]? = some fn) (hname : (fn.name == "runtime.NumGoroutine") = false) (hb : fn.body = some c) (args : Array Value) (w : World) :
    (callFunc f args).run Tryd.prog w = .ok (.enter f args) w := by
  have hname : ¬ fn.name = "runtime.NumGoroutine" := by simpa using hname
  simp [callFunc, hf, hb, hname]
theorem enter33 (args : Array Value) (X : World) : (callFunc 33 args).run Tryd.prog X = .ok (.enter 33 args) X := entersE Tryd.func33 (by kernel_rfl) (c := _) rfl args X

/-- A call of a Go function, at a step of a region that draws its order. -/
theorem step_call {P : Program} {w : World} {ops : Array Oper} {o : Oper} {a : Act} {Kn : Act → World → Prop} {Q : Exit → Act → World → Prop} {E : Prop} (hgd : o.guard = none) (f : FuncId) (args : Array Operand) (tys : Array TypeId)
    (ho : o.op = .call { callee := .value (.func f), args := args, argTypes := tys }) (vs : Array Value) (hv : args.map a.eval = vs) (hE : (callFunc f vs).run P w = .ok (.enter f vs) w) (v : Value) (R : World → Prop)
    (hc : Calls P f vs w fun e w' => e = .returned v ∧ R w') (h : ∀ w', R w' → Kn (a.put o.dst v) w') : if Region.wanted o (yielded ops a.tmps) = true then Oper.wp P o a w Kn Q else E := by
  have hw : Region.wanted o (yielded ops a.tmps) = true := by simp [Region.wanted, hgd]
  rw [if_pos hw]
  have e : (execOp a.eval o).run P w = .ok (.enter f vs) w := by
    simp [execOp, ho, resolve, Deferred.ofValue, Act.eval, invoke, hv, hE]
  unfold Oper.wp
  rw [e, Oper.upon_enter]
  refine hc.mono ?_
  rintro e w' ⟨rfl, hR⟩
  exact h w' hR

set_option maxRecDepth 20000 in
set_option maxHeartbeats 1000000 in
theorem endText_any (K A : Nat → Prop) (p : Nat) (st : TS) (w : World) (h : TK K A w p st) (hKl : ∀ k, K k → k < w.heap.size) (hn : pot st ≤ 1000000000) :
    Calls Tryd.prog 17 #[.pointer (some ⟨p, 0, none⟩)] w fun e w' => e = .returned (.tuple #[]) ∧ TK K A w' p st.endT ∧ Kept K w w' := by
  have hlen := lenT_any K A p st w h
  by_cases ht : st.text = []
  · have HR : Hid (st.endT = st) := by
      show TS.endT _ = _
      unfold TS.endT
      rw [if_pos ht]
    have H : Hid (TK K A w p st) := h
    rw [ht] at hlen
    clear h ht hn
    go_enter Tryd.func17, Tryd.ntmps17
    go_wp2_with fail
    refine hlen.mono ?_
    rintro e w1 ⟨rfl, rfl⟩
    go_wp2
    refine bodyPost_ret (results_none rfl _ _ _) rfl ?_
    refine ⟨rfl, ?_, Kept.refl _ _⟩
    rw [HR.out]
    exact H.out
  · obtain ⟨bp, ba, bc, ho, hp, how⟩ := h.apart
    have hKp := h.1
    have hb := ho
    obtain ⟨_, _, ta, tc, tcs, fa, fc, hb, _⟩ := hb
    have c2 : w.drew.cell? ⟨p, 2, none⟩ = some (.slice ta st.toks.length tc) := by rw [cell_block (w := w.drew) hb]; rfl
    have c5 : w.drew.cell? ⟨p, 5, none⟩ = some (.slice ba st.text.length bc) := by rw [cell_block (w := w.drew) hb]; rfl
    have c6 : w.drew.cell? ⟨p, 6, none⟩ = some (.int .i64 (st.tat : Int)) := by rw [cell_block (w := w.drew) hb]; rfl
    have hstr := strT_any p ba bc st.text w.drew c5 _ (how.of (w' := w.drew) fun _ _ _ => rfl) ht (by unfold pot at hn; omega)
    have HR : Hid (st.endT = { st with toks := st.toks ++ [⟨3, [], [], false, st.text, st.tat⟩], text := [] }) := by
      show TS.endT _ = _
      unfold TS.endT
      rw [if_neg ht]
    have hl0 : (((st.text.length : Nat) : Int) == 0) = false := by
      have : 0 < st.text.length := List.length_pos_iff.2 ht
      simp
      intro e
      exact ht e
    have hnt : st.toks.length ≤ 1000000000 := by unfold pot at hn; omega
    have hpb : ¬ blkOf ba p := fun hh => (how.out hh).1 (.inr rfl)
    obtain ⟨n, hne⟩ : ∃ n, st.toks.length = n := ⟨_, rfl⟩
    obtain ⟨m, hme⟩ : ∃ m, st.text.length = m := ⟨_, rfl⟩
    have HA : Hid (∀ X, Kept (fun k => ¬ blkOf ba k) w.drew X → X.cell? ⟨p, 2, none⟩ = some (.slice ta n tc) ∧ X.cell? ⟨p, 6, none⟩ = some (.int .i64 (st.tat : Int)) ∧ (X.alloc (.cells #[.int .u8 3, .string ⟨#[]⟩, .slice none 0 0, .bool false, sv st.text, .int .i64 (st.tat : Int)] 29)).cell? ⟨p, 2, none⟩ = some (.slice ta n tc) ∧ ∃ ta' tc' w',
        (Builtin.append_ #[23, 23] 23 #[.slice ta n tc, .slice (some ⟨X.heap.size, 0, none⟩) 1 1]).run Tryd.prog (X.alloc (.cells #[.int .u8 3, .string ⟨#[]⟩, .slice none 0 0, .bool false, sv st.text, .int .i64 (st.tat : Int)] 29)) = .ok (.slice ta' (n + 1) tc') w' ∧
        w'.cell? ⟨p, 2, none⟩ = some (.slice ta n tc) ∧ w'.frozen? ⟨p, 2, none⟩ = false ∧ (w'.setCell ⟨p, 2, none⟩ (.slice ta' (n + 1) tc')).cell? ⟨p, 4, none⟩ = some (.pointer bp) ∧ (w'.setCell ⟨p, 2, none⟩ (.slice ta' (n + 1) tc')).cell? ⟨p, 5, none⟩ = some (.slice ba m bc) ∧
        (∀ i, (w'.setCell ⟨p, 2, none⟩ (.slice ta' (n + 1) tc')).frozen? ⟨p, i, none⟩ = false) ∧ TKo K A (w'.setCell ⟨p, 2, none⟩ (.slice ta' (n + 1) tc')) p { st with toks := st.toks ++ [⟨3, [], [], false, st.text, st.tat⟩] } (.pointer bp) (.slice ba m bc) (fun _ => False) ∧ Kept K w (w'.setCell ⟨p, 2, none⟩ (.slice ta' (n + 1) tc'))) := by
      intro X hX
      have hk : Kept (fun k => ¬ blkOf ba k) w X := ⟨hX.os, hX.tape, hX.output, hX.size, hX.block⟩
      have hto : TKo K A X p st (.pointer bp) (.slice ba st.text.length bc) (fun _ => False) := ho.kept (fun g hg hh => (how.out hh).1 hg) (hk.mono fun _ h => h.2) hKl
      have hkK : Kept K w X := hk.mono fun k hk hh => (how.out hh).1 (.inl hk)
      have hbX := (hk.block p hpb).trans hb
      obtain ⟨ta1, tc1, q1, ta', tc', w', r1, r2, r3, r4, r5, _⟩ := hto.appT (fun k hk => Nat.lt_of_lt_of_le (hKl k hk) hkK.size) (fun _ h => h.elim) hnt ⟨3, [], [], false, st.text, st.tat⟩ none 0 (AtsIn.nil _ _ _)
      have q2 : X.cell? ⟨p, 2, none⟩ = some (.slice ta st.toks.length tc) := by rw [cell_block hbX]; rfl
      rw [q1] at q2
      injection q2 with q2
      injection q2 with e1 e2 e3
      subst e1
      subst e3
      have hb4 := r4
      obtain ⟨_, _, _, _, _, _, _, hb4, _⟩ := hb4
      rw [hne] at q1 r1 r2 r4 r5 hb4
      rw [hme] at r4 hb4
      exact ⟨q1, by rw [cell_block hbX]; rfl, by rw [cell_block (heap_alloc_past hbX _), ← cell_block hbX]; exact q1, ta', tc', w', r1, r2, r3, by rw [cell_block hb4]; rfl, by rw [cell_block hb4]; rfl, fun i => frozen_block hb4 i, r4, hkK.trans r5⟩
    rw [hne] at c2
    rw [hme] at c5 hlen hl0
    clear h ht hn hb ho hp how hne hme
    go_enter Tryd.func17, Tryd.ntmps17
    go_wp2_with fail
    refine hlen.mono ?_
    rintro e w1 ⟨rfl, rfl⟩
    clear hlen
    go_wp2_with fail
    go_region_law (first | (refine step_call rfl 33 #[.tmp 14] #[45] rfl #[.pointer (some ⟨p, 4, none⟩)] (by first | (simp [Act.eval]; done) | (simp [Act.eval, Act.put]; done)) (enter33 _ _) _ _ hstr ?_; rintro w2 ⟨hk2, -⟩; obtain ⟨d2, d6, d2a, ta', tc', w3, hrun, e2, g2, e4, e5, gf, hto, hkf⟩ := HA.out w2 hk2) | (refine step_appR (w' := w3) rfl (.tmp 11) (.tmp 21) 23 23 rfl _ _ (.slice ta' (n + 1) tc') rfl rfl hrun ?_))
    all_goals
      go_wp2_with fail
      refine (resetT_any p _ _ _ e4 e5 (gf 4) (gf 5)).mono ?_
      rintro e w4 ⟨rfl, rfl⟩
      go_wp2
      go_end0
      refine ⟨rfl, ?_, (hkf.setCell (p := ⟨p, 4, none⟩) hKp _).setCell (p := ⟨p, 5, none⟩) hKp _⟩
      rw [HR.out]
      have h4 := (hto.set 4 (.pointer none) (.pointer none) _ (fun _ _ _ _ _ => rfl)).set 5 (.slice none 0 0) _ (.slice none 0 0) (fun _ _ _ _ _ => rfl)
      obtain ⟨q1, qA, ta2, tc2, tcs2, fa2, fc2, q2, q3, q4, q5⟩ := h4
      refine TKo.join (bp := none) (ba := none) (bc := 0) ⟨q1, qA, ta2, tc2, tcs2, fa2, fc2, q2, q3.to (fun g hg => ?_) (fun _ _ => rfl), q4, q5.to (fun g hg => ?_) (fun _ _ => rfl)⟩ (.inl rfl) (Own.nil _ _ _)
      · rintro (hh | hh | hh | hh)
        · exact (q3.out hg).1 (.inl hh)
        · exact (q3.out hg).1 (.inr (.inl hh))
        · exact (q3.out hg).1 (.inr (.inr (.inl hh)))
        · cases hh
      · rintro (hh | hh | hh | hh)
        · exact (q5.out hg).1 (.inl hh)
        · exact (q5.out hg).1 (.inr (.inl hh))
        · exact (q5.out hg).1 (.inr (.inr (.inl hh)))
        · cases hh
end Go.Proofs.YtncfgahnjakeiaaDoor
