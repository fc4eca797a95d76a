/-
  What is known of slots, and which have changed, in memory: the Board.
-/
import Derived.Test.YtfeinppedejlpaaGreatKZa
namespace Go.Proofs.YtfeinppedejlpaaGreat
set_option maxHeartbeats 8000000
set_option maxRecDepth 100000
open Go.RowKit
set_option linter.unusedVariables false
theorem Zew.of {w w' : World} {mb n : Nat} {F : Nat -> Value} (h : Zew w mb n F) (hb : w'.heap[mb]? = w.heap[mb]?) : Zew w' mb n F := by
 obtain ⟨D, ⟨es, clock, h1, h2⟩, h3⟩ := h
 exact ⟨D, ⟨es, clock, hb.trans h1, h2⟩, h3⟩
theorem zr7 {i : Nat} (hi : i <= 1000000) : keyOf Tryz.prog 3 (.int .i64 (i : Int)) = some (.int .i64 (i : Int)) := Go.Maps.keyOf_int_mk Tryz.underlying3 (WalkArith.wf_i64 (by omega))
theorem Zew.look {w : World} {mb n : Nat} {F : Nat -> Value} (h : Zew w mb n F) {i : Nat} (hi : i <= 1000000) : (Instr.lookup 116 (.map (some mb)) (.int .i64 (i : Int)) false).run Tryz.prog w = .ok (F i) w := by
 obtain ⟨D, h1, h2, h3⟩ := h
 obtain ⟨v, ps, hrun, hv⟩ := h1.lookup zvq Tryz.underlying116 (zuh w) (zd := .held (.slice none 0 0)) (zp := []) rfl (zr7 hi)
 rw [h3 i hi] at hv
 have : v = F i := by
  unfold RV at hv
  simp at hv
  exact hv.1
 rw [this] at hrun
 exact hrun
theorem zrq {i j : Nat} (h : j ≠ i) : (Lit.int .i64 (j : Int)) ≠ .int .i64 (i : Int) := fun e => by
 injection e with e1 e2
 omega
theorem Zew.put {w : World} {mb n : Nat} {F : Nat -> Value} (h : Zew w mb n F) (hn : n <= 1000000) {i : Nat} (hi : i <= 1000000) (v : Value) :
  ∃ w', (Instr.mapUpdate 116 (.map (some mb)) (.int .i64 (i : Int)) v).run Tryz.prog w = .ok () w' /\ Zew w' mb (n + 1) (fun k => if k = i then v else F k) /\ Kept (fun k => k < w.heap.size /\ k ≠ mb) w w' := by
 obtain ⟨D, h1, h2, h3⟩ := h
 obtain ⟨w', hr, h4, h5⟩ := h1.update zvq Tryz.underlying116 (by unfold maxLen; omega) (zr7 hi) (show RV v = some (.held v, []) from rfl)
 refine ⟨w', hr, ⟨_, h4, h2.put _ _, fun j hj => ?_⟩, zff h5⟩
 by_cases c : j = i
 ·subst c
  rw [Go.Maps.atKey_put_same h2 (show WideAt.IsKeyLit (.int .i64 (j : Int)) from trivial)]; simp
 ·rw [Go.Maps.atKey_put_other (zrq c), h3 j hj]; simp [c]
theorem Zew.del {w : World} {mb n : Nat} {F : Nat -> Value} (h : Zew w mb n F) {i : Nat} (hi : i <= 1000000) (ty : TypeId) :
  ∃ w', (Builtin.delete_ #[116, 3] ty #[.map (some mb), .int .i64 (i : Int)]).run Tryz.prog w = .ok (.tuple #[]) w' /\ Zew w' mb n (fun k => if k = i then .slice none 0 0 else F k) /\ Kept (fun k => k < w.heap.size /\ k ≠ mb) w w' := by
 obtain ⟨D, h1, h2, h3⟩ := h
 obtain ⟨w', hr, h4, h5⟩ := h1.drop zvq Tryz.underlying116 (zr7 hi) ty
 refine ⟨w', hr, ⟨_, h4, h2.del _, fun j hj => ?_⟩, zff h5.grown⟩
 by_cases c : j = i
 ·subst c
  rw [Go.Maps.atKey_del_same]; simp
 ·rw [Go.Maps.atKey_del_other (zrq c), h3 j hj]; simp [c]
theorem zkw {w w' : World} {ops : Array Oper} {rest : List Oper} {o : Oper} {a : Act} {Q : Exit -> Act -> World -> Prop} (hg : o.guard = none) (m x : Operand) (t k : TypeId) (hop : o.op = Op.call { callee := Callee.builtin Builtin.delete, args := #[m, x], argTypes := #[t, k] })
  (vm key : Value) (hm : a.eval m = vm) (hx : a.eval x = key) (hrun : (Builtin.delete_ #[t, k] o.type #[vm, key]).run Tryz.prog w = .ok (.tuple #[]) w') (hK : wpList Tryz.prog ops Q rest (a.put o.dst (.tuple #[])) w') : wpList Tryz.prog ops Q (o :: rest) a w := by
 refine wpList_plain hg fun K' hK' => ?_
 unfold Oper.wp
 simp [execOp, hop, resolve, invoke, builtin, hm, hx, hrun, Result.andThen]
 exact hK' _ _ hK
structure Bo (E : Nat -> Prop) (w : World) (b n : Nat) (kn : Nat -> List Nat) (pd : List Nat) : Prop where
 lt : ∀ k, E k -> k < w.heap.size
 eb : E b
 ex : ∃ mb ap c F, E mb /\ mb ≠ b /\ w.heap[b]? = some (.cells #[.map (some mb), .slice ap pd.length c] 118 (0, 0)) /\ Zew w mb n F /\
  (∀ i, i <= 1000000 -> ∃ a cc, F i = .slice a (kn i).length cc /\ Zad (fun g => E g /\ g ≠ b /\ g ≠ mb /\ ¬ zaf ap g) w a (kn i)) /\
  Zac (fun k => ¬ E k \/ k = b \/ k = mb) w 3 1 ap pd.length c (ivs pd)
section
variable {E : Nat -> Prop} {w w' : World} {b n : Nat} {kn : Nat -> List Nat} {pd : List Nat}
theorem Bo.kept (h : Bo E w b n kn pd) (hk : Kept E w w') : Bo E w' b n kn pd := by
 obtain ⟨h1, h2, mb, ap, c, F, h3, h4, h5, h6, h7, h8⟩ := h
 refine ⟨fun k hE => ltl (h1 k hE) hk.size, h2, mb, ap, c, F, h3, h4, (hk.block b h2).trans h5, h6.of (hk.block mb h3), fun i hi => ?_, h8.to (fun g hg => (h8.out hg).1) (fun g hg => hk.block g ?_)⟩
 ·obtain ⟨a, cc, e, hI⟩ := h7 i hi
  exact ⟨a, cc, e, hI.to (fun g hg => hg) (fun g hg => hk.block g hg.1)⟩
 ·exact Classical.byContradiction fun hn => (h8.out hg).1 (.inl hn)
theorem Bo.keptA (h : Bo E w b n kn pd) (hk : Kept (fun k => k < w.heap.size) w w') : Bo E w' b n kn pd := h.kept (hk.mono fun k hE => h.lt k hE)
end
theorem zlg (w : World) : Calls Tryz.prog 29 #[] w fun e w' => ∃ b, e = .returned (.pointer (some ⟨b, 0, none⟩)) /\ Bo (fun k => k = w.heap.size \/ k = w.heap.size + 1) w' b 0 (fun _ => []) [] /\ Kept (fun k => k < w.heap.size) w w' := by
 obtain ⟨W1, hW1⟩ : ∃ W1, w.alloc (.map #[] 0) = W1 := ⟨_, rfl⟩
 obtain ⟨W2, hW2⟩ : ∃ W2, W1.alloc (.cells #[.map (some w.heap.size), .slice none 0 0] 118) = W2 := ⟨_, rfl⟩
 have s1 : W1.heap.size = w.heap.size + 1 := by rw [<- hW1]; exact Array.size_push ..
 have k1 : Kept (fun k => k < w.heap.size) w W1 := by rw [<- hW1]; exact (Kept.refl _ w).alloc (fun _ h => h) _
 have k2 : Kept (fun k => k < W1.heap.size) W1 W2 := by rw [<- hW2]; exact (Kept.refl _ W1).alloc (fun _ h => h) _
 have hm : Zew W1 w.heap.size 0 (fun _ => .slice none 0 0) := by
  rw [<- hW1]
  exact ⟨_, World.ownsMap_made w Tryz.prog 3 RV, Go.Maps.isMap_empty, fun i _ => rfl⟩
 have hb : W2.heap[w.heap.size + 1]? = some (.cells #[.map (some w.heap.size), .slice none 0 0] 118 (0, 0)) := by rw [<- hW2, <- s1]; exact heap_alloc_new W1 _
 have hB : Bo (fun k => k = w.heap.size \/ k = w.heap.size + 1) W2 (w.heap.size + 1) 0 (fun _ => []) [] := by
  refine ⟨fun k hk => ?_, .inr rfl, w.heap.size, none, 0, _, .inl rfl, by omega, hb, hm.of (k2.block _ (by omega)), fun i _ => ⟨none, 0, rfl, Zad.nil _ _ _⟩, Zac.nil _ _ _ _⟩
  have := zai hb
  rcases hk with h | h <;> omega
 have HB : Hid (Bo (fun k => k = w.heap.size \/ k = w.heap.size + 1) W2 (w.heap.size + 1) 0 (fun _ => []) []) := hB
 have HK : Hid (Kept (fun k => k < w.heap.size) w W2) := k1.trans (k2.mono fun k h => by omega)
 have HW : Hid ((w.alloc (.map #[] 0)).alloc (.cells #[.map (some w.heap.size), .slice none 0 0] 118) = W2) := by rw [hW1]; exact hW2
 have HS : Hid ((w.alloc (.map #[] 0)).heap.size = w.heap.size + 1) := by rw [hW1]; exact s1
 clear hW1 hW2 k1 k2 hm hb hB s1
 have hmm := @run_makeMap Tryz.prog
 go_enter Tryz.func29, Tryz.ntmps29
 go_wp2
 go_ret
 refine ⟨w.heap.size + 1, ?_, by first | exact HB.out | (rw [HW.out]; exact HB.out), by first | exact HK.out | (rw [HW.out]; exact HK.out)⟩
 first | rfl | (rw [HS.out]; rfl) | skip
theorem znk {E : Nat -> Prop} {w : World} {b n : Nat} {kn : Nat -> List Nat} {pd : List Nat} (h : Bo E w b n kn pd) (hn : n <= 900000) {i : Nat} (hi : i <= 1000000) (l : List Nat) (a : Option Addr) (m cc : Nat) (hm : l.length = m) (hm2 : m <= 1000000) (hr : ∀ g, zaf a g -> ¬ E g /\ g < w.heap.size) (hI : Zad (fun g => zaf a g) w a l) :
  Calls Tryz.prog 108 #[.pointer (some ⟨b, 0, none⟩), .int .i64 (i : Int), .slice a m cc] w fun e w' => e = .returned (.tuple #[]) /\ Bo (fun k => E k \/ zaf a k) w' b (n + 1) (zaw kn i l) pd /\ Kept (fun k => k < w.heap.size /\ ¬ E k) w w' := by
 obtain ⟨h1, h2, mb, ap, c, F, h3, h4, h5, h6, h7, h8⟩ := h
 have hc0 : w.cell? ⟨b, 0, none⟩ = some (.map (some mb)) := by rw [zaa h5]; rfl
 have key : ∀ (w' : World) (v : Value) (n' : Nat) (hv : ∃ cc', v = .slice a l.length cc' \/ (l = [] /\ v = .slice none 0 0)), Zew w' mb n' (fun k => if k = i then v else F k) -> Kept (fun k => k < w.heap.size /\ k ≠ mb) w w' -> n' <= n + 1 -> Bo (fun k => E k \/ zaf a k) w' b n' (zaw kn i l) pd /\ Kept (fun k => k < w.heap.size /\ ¬ E k) w w' := fun w' v n' hv hM hk _ => by
  refine ⟨⟨fun k hE => ?_, .inl h2, mb, ap, c, _, .inl h3, h4, (hk.block b ⟨h1 b h2, fun e => h4 e.symm⟩).trans h5, hM, fun j hj => ?_, h8.to (fun g hg hh => ?_) (fun g hg => hk.block g ⟨(h8.out hg).2, fun e => (h8.out hg).1 (.inr (.inr e))⟩)⟩, hk.mono fun k hk' => ⟨hk'.1, fun e => hk'.2 (e ▸ h3)⟩⟩
  ·rcases hE with hE | hE
   ·exact ltl (h1 k hE) hk.size
   ·exact ltl (hr k hE).2 hk.size
  ·by_cases e : j = i
   ·subst e
    rw [zaj]
    obtain ⟨cc', hv | ⟨hl, hv⟩⟩ := hv
    ·refine ⟨a, cc', by rw [if_pos rfl]; exact hv, hI.to (fun g hg => ?_) (fun g hg => hk.block g ⟨(hr g hg).2, fun e => (hr g hg).1 (e ▸ h3)⟩)⟩
     refine ⟨.inr hg, fun e => (hr g hg).1 (e ▸ h2), fun e => (hr g hg).1 (e ▸ h3), fun hp => ?_⟩
     exact (h8.out hp).1 (.inl (hr g hg).1)
    ·subst hl
     exact ⟨none, 0, by rw [if_pos rfl]; exact hv, Zad.nil _ _ _⟩
   ·rw [zaq _ _ e]
    obtain ⟨a', c', e', hI'⟩ := h7 j hj
    exact ⟨a', c', by rw [if_neg e]; exact e', hI'.to (fun g hg => ⟨.inl hg.1, hg.2⟩) (fun g hg => hk.block g ⟨h1 g hg.1, hg.2.2.1⟩)⟩
  ·rcases hh with hh | hh
   ·exact (h8.out hg).1 (.inl fun he => hh (.inl he))
   ·exact (h8.out hg).1 (.inr hh)
 by_cases h0 : m = 0
 ·have hl : l = [] := List.eq_nil_of_length_eq_zero (hm.trans h0)
  obtain ⟨w', hrun, hM, hk⟩ := h6.del hi 0
  have hdel : ∀ ty, (Builtin.delete_ #[116, 3] ty #[.map (some mb), .int .i64 (i : Int)]).run Tryz.prog w = .ok (.tuple #[]) w' := fun ty => hrun
  have hB := key w' _ n ⟨0, .inr ⟨hl, rfl⟩⟩ hM hk (by omega)
  have HB : Hid (Bo (fun k => E k \/ zaf a k) w' b (n + 1) (zaw kn i l) pd /\ Kept (fun k => k < w.heap.size /\ ¬ E k) w w') := by
   refine ⟨?_, hB.2⟩
   obtain ⟨g1, g2, mb', ap', c', F', g3, g4, g5, ⟨D, g6, g6'⟩, g7⟩ := hB.1
   exact ⟨g1, g2, mb', ap', c', F', g3, g4, g5, ⟨D, g6.mono (Nat.le_succ _), g6'⟩, g7⟩
  subst h0
  clear h1 h2 h3 h4 h5 h6 h7 h8 key hM hk hB hl hrun hI hr hm
  go_enter Tryz.func108, Tryz.ntmps108
  go_wp2_with (at_delete; refine zkw rfl (.tmp 12) (.tmp 13) 116 3 rfl _ _ rfl rfl (hdel _) ?_)
  refine bodyPost_ret (results_none rfl _ _ _) rfl ?_
  exact ⟨rfl, HB.out⟩
 ·obtain ⟨w', hrun, hM, hk⟩ := h6.put (by omega) hi (.slice a m cc)
  have hB := key w' _ (n + 1) ⟨cc, .inl (by rw [hm])⟩ hM hk (by omega)
  have HB : Hid (Bo (fun k => E k \/ zaf a k) w' b (n + 1) (zaw kn i l) pd /\ Kept (fun k => k < w.heap.size /\ ¬ E k) w w') := hB
  have hm0 : ((m : Int) == 0) = false := by rw [beq_eq_false_iff_ne]; omega
  clear h1 h2 h3 h4 h5 h6 h7 h8 key hM hk hB hI hr hm
  go_enter Tryz.func108, Tryz.ntmps108
  go_wp2
  go_end0
  exact ⟨rfl, HB.out⟩
end Go.Proofs.YtfeinppedejlpaaGreat
