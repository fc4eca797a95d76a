/-
  slices.AppendSeq, slices.Collect over such an iterator; order.Tree, order.All: WHAT THEY TELL.
-/
import Derived.Test.YtbhfnbplbkncmaaGreatVOTUlsKc
namespace Go.Proofs.YtbhfnbplbkncmaaGreat
open Go.RowKit Go.Shelf
set_option linter.unusedVariables false
attribute [local go_sem] Oper.semAt_some
theorem wpIn_appR {F : Fence} {n : Nat} {P : Program} {w w' : World} {ops : Array Oper} {rest : List Oper} {o : Oper} {a : Act} {Q : Exit → Act → World → Prop} (hgd : o.guard = none) (s x : Operand) (t tx : TypeId)
    (ho : o.op = .call { callee := .builtin .append, args := #[s, x], argTypes := #[t, tx] }) (vs vx v : Value) (hs : a.eval s = vs) (hx : a.eval x = vx)
    (hr : (Builtin.append_ #[t, tx] o.type #[vs, vx]).run P w = .ok v w') (h : wpListIn F n P ops Q rest (a.put o.dst v) w') : wpListIn F n P ops Q (o :: rest) a w := by
  refine wpListIn_plain hgd fun K hK' => ?_
  unfold Oper.wpIn
  refine ⟨?_, ?_⟩
  · simp [Oper.about, ho, resolve, Target.leads, Sem.run_pure]
  · rw [Oper.semAt_plain F _ _ (by rw [ho]; intro c hc'; cases hc')]
    simp [execOp, ho, resolve, invoke, builtin, hs, hx, hr, Result.andThen]
    exact hK' _ _ h
/-- The slice in the box B lies at k. -/
def Pts (B : Nat) (W : World) (k : Nat) : Prop := ∃ n c, W.cell? ⟨B, 0, none⟩ = some (.slice (some ⟨k, 0, none⟩) n c)
def SnB (B : Nat) (W : World) : Prop := B < W.heap.size ∧ ∀ k, Pts B W k → B ≤ k ∧ k < W.heap.size
def MnB (B : Nat) (W : World) (k : Nat) : Prop := k = B ∨ Pts B W k
theorem mineB (B : Nat) : Mine B (SnB B) (MnB B) := by
  refine ⟨fun W k h hm => ?_, fun W W' h hk => ?_⟩
  · rcases hm with rfl | hm
    · exact ⟨Nat.le_refl _, h.1⟩
    · exact h.2 k hm
  · have e : ∀ k, Pts B W' k → Pts B W k := fun k ⟨n, c, hc⟩ => ⟨n, c, (hk.cell (p := ⟨B, 0, none⟩) h.1).symm.trans hc⟩
    exact ⟨⟨Nat.lt_of_lt_of_le h.1 hk.size, fun k hp => ⟨(h.2 k (e k hp)).1, Nat.lt_of_lt_of_le (h.2 k (e k hp)).2 hk.size⟩⟩, fun k hm => hm.elim .inl (fun hp => .inr (e k hp))⟩
/-- What the collector holds between two rounds. -/
def Col (B : Nat) (w : World) (pre : List Nat) (W : World) : Prop :=
  (∃ ao cap, W.heap[B]? = some (.cells #[.slice ao pre.length cap] 32 (0, 0)) ∧ OwnZ (fun k => k ≤ B) W 3 1 ao pre.length cap (ivs pre)) ∧ Below B w W
theorem col_own {B : Nat} {w : World} (B' : Nat) (hB : B < B') : OwnFrom B' (Col B w) := fun pre W W' row h hg hr => by
  obtain ⟨⟨ao, cap, hb, hO⟩, hbel⟩ := h
  have keep : ∀ (k : Nat) (o : Obj), W.heap[k]? = some o → o.isCells = true → W'.heap[k]? = W.heap[k]? := fun k o hk ho => hg.block k (Array.getElem?_eq_some_iff.1 hk).1 (fun e => by
    obtain ⟨_, o', h1, h2⟩ := hr k e.symm
    rw [hk] at h1
    cases h1
    rw [ho] at h2
    cases h2)
  refine ⟨⟨ao, cap, (keep B _ hb rfl).trans hb, ?_⟩, hbel.grown hg (Nat.le_of_lt (lt_block hb)) (fun k e => by have := (hr k e).1; omega)⟩
  refine OwnZ.to hO (fun g hg => (hO.out hg).1) (fun g hg => ?_)
  obtain ⟨_, _, _, h4⟩ := hO
  rcases h4 with ⟨r1, _⟩ | ⟨g', cur, r1, r2, r3, _⟩
  · rw [r1] at hg; cases hg
  · have hg' : ao = some ⟨g, 0, none⟩ := hg
    rw [r1] at hg'
    injection hg' with hg'
    injection hg' with hg'
    subst hg'
    exact keep g' _ r3 rfl
/-- One more is collected. -/
theorem col_step {B : Nat} {w W : World} {pre : List Nat} (x : Nat) (h : Col B w pre W) (hl : pre.length ≤ 10000000) (B' : Nat) :
    ∃ ao cap ao' cap' w', W.cell? ⟨B, 0, none⟩ = some (.slice ao pre.length cap) ∧ (Builtin.append_ #[32, 32] 32 #[.slice ao pre.length cap, .slice (some ⟨W.heap.size, 0, none⟩) 1 1]).run Tryz.prog (W.alloc (.cells #[.int .i64 (x : Int)] 3)) = .ok (.slice ao' (pre.length + 1) cap') w' ∧
      w'.cell? ⟨B, 0, none⟩ = some (.slice ao pre.length cap) ∧ w'.frozen? ⟨B, 0, none⟩ = false ∧
      KeepsFrom B' W (w'.setCell ⟨B, 0, none⟩ (.slice ao' (pre.length + 1) cap')) ∧ KpS B (SnB B) (MnB B) W (w'.setCell ⟨B, 0, none⟩ (.slice ao' (pre.length + 1) cap')) ∧ Col B w (pre ++ [x]) (w'.setCell ⟨B, 0, none⟩ (.slice ao' (pre.length + 1) cap')) := by
  obtain ⟨⟨ao, cap, hb, hO⟩, hbel⟩ := h
  obtain ⟨X, hX⟩ : ∃ X, W.alloc (.cells #[.int .i64 (x : Int)] 3) = X := ⟨_, rfl⟩
  have hkX : Kept (fun k => k < W.heap.size) W X := by rw [← hX]; exact (Kept.refl _ W).alloc (fun _ h => h) _
  have hsz : X.heap.size = W.heap.size + 1 := by rw [← hX]; simp
  have hbx : X.heap[W.heap.size]? = some (.cells #[.int .i64 (x : Int)] 3 (0, 0)) := by rw [← hX]; exact heap_alloc_new W _
  have hBl := lt_block hb
  have hbX : X.heap[B]? = some (.cells #[.slice ao pre.length cap] 32 (0, 0)) := (hkX.block B hBl).trans hb
  have hOX : OwnZ (fun k => k < X.heap.size ∧ ¬ blkOf ao k) X 3 1 ao pre.length cap (ivs pre) := OwnZ.to hO (fun g hg hh => hh.2 hg) (fun g hg => hkX.block g (hO.out hg).2)
  have hxs : IntsAt (fun _ => True) X (some ⟨W.heap.size, 0, none⟩) [x] := fun j hj => ⟨W.heap.size, 0, rfl, trivial, by
    have : j = 0 := by simp at hj; omega
    subst this
    rw [cell_block hbx]; rfl⟩
  obtain ⟨ao', cap', w', hrun, hO', hk'⟩ := app_ints (ac := 1) hOX rfl hxs (fun k h => h.1) (by omega) (by simp)
  have hrB : ¬ blkOf ao B := fun h => (hO.out h).1 (Nat.le_refl _)
  have hKB : (fun k => k < X.heap.size ∧ ¬ blkOf ao k) B := ⟨by omega, hrB⟩
  have hbw : w'.heap[B]? = some (.cells #[.slice ao pre.length cap] 32 (0, 0)) := (hk'.block B hKB).trans hbX
  have hnew : ∀ g, blkOf ao' g → B < g ∧ (X.heap.size ≤ g ∨ blkOf ao g) := fun g hg => by
    have h1 := (hO'.out hg).1
    rcases Nat.lt_or_ge g X.heap.size with h2 | h2
    · have h3 : blkOf ao g := Classical.byContradiction fun h => h1 ⟨h2, h⟩
      exact ⟨Nat.lt_of_not_le (hO.out h3).1, .inr h3⟩
    · exact ⟨by omega, .inl h2⟩
  have hset := heap_setCell_at hbw 0 (.slice ao' (pre.length + 1) cap')
  have hoth : ∀ k, k ≠ B → (w'.setCell ⟨B, 0, none⟩ (.slice ao' (pre.length + 1) cap')).heap[k]? = w'.heap[k]? := fun k hk => ((Kept.refl (fun k => k ≠ B) w').setCell (p := ⟨B, 0, none⟩) (fun h => h rfl) _).block k hk
  have hall : ∀ k, k < W.heap.size → k ≠ B → ¬ blkOf ao k → (w'.setCell ⟨B, 0, none⟩ (.slice ao' (pre.length + 1) cap')).heap[k]? = W.heap[k]? := fun k h1 h2 h3 => by
    rw [hoth k h2, hk'.block k ⟨by omega, h3⟩, hkX.block k h1]
  have hsz' : W.heap.size ≤ (w'.setCell ⟨B, 0, none⟩ (.slice ao' (pre.length + 1) cap')).heap.size := by
    have h1 := hk'.size
    have h2 := ((Kept.refl (fun k => k ≠ B) w').setCell (p := ⟨B, 0, none⟩) (fun h => h rfl) (.slice ao' (pre.length + 1) cap')).size
    omega
  have hkb : Kept (fun k => k < B) W (w'.setCell ⟨B, 0, none⟩ (.slice ao' (pre.length + 1) cap')) := by
    have q1 := hkX.mono (K' := fun k => k < B) (fun k h => by omega)
    have q2 := hk'.mono (K' := fun k => k < B) (fun k h => ⟨by omega, fun hb => (hO.out hb).1 (Nat.le_of_lt h)⟩)
    have q3 := (Kept.refl (fun k => k < B) w').setCell (p := ⟨B, 0, none⟩) (fun h => Nat.lt_irrefl _ h) (.slice ao' (pre.length + 1) cap')
    exact (q1.trans q2).trans q3
  have hcB : (w'.setCell ⟨B, 0, none⟩ (.slice ao' (pre.length + 1) cap')).cell? ⟨B, 0, none⟩ = some (.slice ao' (pre.length + 1) cap') := by rw [cell_block hset]; rfl
  have hpts : ∀ k, Pts B (w'.setCell ⟨B, 0, none⟩ (.slice ao' (pre.length + 1) cap')) k → blkOf ao' k := fun k ⟨n, c, hc⟩ => by
    have h2 : Value.slice ao' (pre.length + 1) cap' = Value.slice (some ⟨k, 0, none⟩) n c := Option.some.inj (hcB.symm.trans hc)
    exact (Value.slice.inj h2).1
  refine ⟨ao, cap, ao', cap', w', by rw [cell_block hb]; rfl, by rw [hX]; exact hrun, by rw [cell_block hbw]; rfl, frozen_block hbw 0, ⟨hsz', fun k o _ hk ho => ?_⟩, ⟨⟨hkb.below, fun k o hk ho hm => ?_⟩, fun hs => ⟨Nat.lt_of_lt_of_le hBl hsz', fun k hp => ?_⟩⟩, ⟨ao', cap', by rw [List.length_append]; exact hset, ?_⟩, hbel.trans hkb.below⟩
  · have hkl := (Array.getElem?_eq_some_iff.1 hk).1
    have h1 : k ≠ B := fun e => by
      rw [e, hb] at hk
      injection hk with hk
      rw [← hk] at ho
      cases ho
    have h2 : ¬ blkOf ao k := fun e => by
      obtain ⟨_, _, _, h4⟩ := hO
      rcases h4 with ⟨r1, _⟩ | ⟨g', cur, r1, r2, r3, _⟩
      · rw [r1] at e; cases e
      · have e' : ao = some ⟨k, 0, none⟩ := e
        rw [r1] at e'
        injection e' with e'
        injection e' with e'
        rw [e'] at r3
        rw [r3] at hk
        injection hk with hk
        rw [← hk] at ho
        cases ho
    exact (hall k hkl h1 h2).trans hk
  · have hkl := (Array.getElem?_eq_some_iff.1 hk).1
    have h1 : k ≠ B := fun e => hm (.inl e)
    have h2 : ¬ blkOf ao k := fun e => hm (.inr ⟨pre.length, cap, by
      have e' : ao = some ⟨k, 0, none⟩ := e
      rw [cell_block hb, e']; rfl⟩)
    refine ⟨(hall k hkl h1 h2).trans hk, fun hm' => ?_⟩
    rcases hm' with e | hp
    · exact h1 e
    · rcases (hnew k (hpts k hp)).2 with q | q
      · omega
      · exact h2 q
  · have hg := hpts k hp
    refine ⟨Nat.le_of_lt (hnew k hg).1, ?_⟩
    have h1 := (hO'.out hg).2
    have h2 := ((Kept.refl (fun k => k ≠ B) w').setCell (p := ⟨B, 0, none⟩) (fun h => h rfl) (.slice ao' (pre.length + 1) cap')).size
    omega
  · rw [List.length_append]
    exact OwnZ.to hO' (fun g hg => Nat.not_le_of_lt (hnew g hg).1) (fun g hg => hoth g (fun e => by have := (hnew g hg).1; omega))
theorem kpS_t {n₀ : Nat} {Sn : World → Prop} {Mn : World → Nat → Prop} {A B C : World} (h : KpS n₀ Sn Mn A B) (k : KpS n₀ Sn Mn B C) : KpS n₀ Sn Mn A C := ⟨h.1.trans k.1, fun hs => k.2 (h.2 hs)⟩
theorem kpB_b {B : Nat} {w : World} (hB : B < w.heap.size) (W : World) (l : Nat) (o o' : Obj) (hl : w.heap.size ≤ l) (h : W.heap[l]? = some o) (hc : o.isCells = false) (hw : o.isWalk = false) : KpS B (SnB B) (MnB B) W (W.putObj l o') := by
  have hsz : (W.putObj l o').heap.size = W.heap.size := by simp [World.putObj]
  have hlB : l ≠ B := by omega
  have oth : ∀ k, k ≠ l → (W.putObj l o').heap[k]? = W.heap[k]? := fun k hk => World.putObj_heap_other hk
  have e : ∀ k, Pts B (W.putObj l o') k → Pts B W k := fun k ⟨n, c, hp⟩ => ⟨n, c, by rw [← hp]; exact (World.cell?_of_block (w := W) (a := ⟨B, 0, none⟩) (oth B (fun e => hlB e.symm))).symm⟩
  refine ⟨⟨belowK_b (Nat.le_of_lt hB) W l o o' hl h hc hw, fun k q hk ho hm => ⟨?_, fun hm' => ?_⟩⟩, fun hs => ⟨by rw [hsz]; exact hs.1, fun k hp => by rw [hsz]; exact hs.2 k (e k hp)⟩⟩
  · rw [oth k (fun e => by rw [e, h] at hk; injection hk with hk; rw [hk, ho] at hc; cases hc)]
    exact hk
  · rcases hm' with rfl | hp
    · exact hm (.inl rfl)
    · exact hm (.inr (e k hp))
set_option maxRecDepth 100000 in
set_option maxHeartbeats 4000000 in
theorem appSeq_any (K : Nat → Prop) (p : Nat) (M : Dm) (R : Nat → List Nat) (rk : Nat → Nat) (w : World) (hd : DX K w p M) (hG : Good M R rk) (hn : M.n ≤ 100000) (Fw : Nat → List Nat) (hF : Falls M.n Fw rk) (hFl : ∀ i, i < M.n → (Fw i).length ≤ 200000) (fo : Nat) (hfo : FoOk fo M R Fw)
    (hen : ∀ (args : Array Value) (X : World), (callFunc fo args).run Tryz.prog X = .ok (.enter fo args) X) (i : Int) (ht : (trI M.n Fw i).length ≤ 1000000) (b0 b1 b2 : Nat)
    (c0 : w.cell? ⟨b0, 0, none⟩ = some (.pointer (some ⟨p, 0, none⟩))) (c1 : w.cell? ⟨b1, 0, none⟩ = some (.int .i64 i)) (c2 : w.cell? ⟨b2, 0, none⟩ = some (.func (.func fo) #[] #[])) (l0 : b0 < w.heap.size) (l1 : b1 < w.heap.size) (l2 : b2 < w.heap.size) :
    Calls Tryz.prog 140 #[.slice none 0 0, .func (.func 141) #[] #[.pointer (some ⟨b0, 0, none⟩), .pointer (some ⟨b1, 0, none⟩), .pointer (some ⟨b2, 0, none⟩)]] w fun e w' => ∃ ao c, e = .returned (.slice ao (trI M.n Fw i).length c) ∧ OwnZ (fun k => k < w.heap.size) w' 3 1 ao (trI M.n Fw i).length c (ivs (trI M.n Fw i)) ∧ Kept (fun k => k < w.heap.size) w w' := by
  obtain ⟨W1, hW1⟩ : ∃ W1, w.alloc (.cells #[.slice none 0 0] 32) = W1 := ⟨_, rfl⟩
  obtain ⟨B, hB⟩ : ∃ B, w.heap.size = B := ⟨_, rfl⟩
  have kW1 : Kept (fun k => k < w.heap.size) w W1 := by rw [← hW1]; exact (Kept.refl _ w).alloc (fun _ h => h) _
  have hb1 : W1.heap[B]? = some (.cells #[.slice none 0 0] 32 (0, 0)) := by rw [← hW1, ← hB]; exact heap_alloc_new w _
  have hs1 : W1.heap.size = B + 1 := by rw [← hW1, ← hB]; simp
  have hseq := from_stops K p M R rk w hd hG hn Fw hF hFl fo hfo hen i (3 - 1) b0 b1 b2 W1 kW1 (SnB B) (MnB B) (by rw [hB]; exact mineB B) (fun W hW => ⟨Nat.lt_of_lt_of_le (by omega) hW.size, fun k ⟨n, c, hc⟩ => by
      rw [hW.cell (p := ⟨B, 0, none⟩) (by show B < _; omega), cell_block hb1] at hc
      exact absurd (Option.some.inj hc) (by intro h; injection h with h; cases h)⟩)
    ((kW1.cell (p := ⟨b0, 0, none⟩) l0).trans c0) ((kW1.cell (p := ⟨b1, 0, none⟩) l1).trans c1) ((kW1.cell (p := ⟨b2, 0, none⟩) l2).trans c2) (by omega) (by omega) (by omega)
  rw [hB] at hseq
  have h0 : Col B w [] W1 := ⟨⟨none, 0, hb1, OwnZ.nil _ _ _ _⟩, by rw [← hB]; exact kW1.below⟩
  have HW1 : Hid (w.alloc (.cells #[.slice none 0 0] 32) = W1) := hW1
  have HB : Hid (w.heap.size = B) := hB
  obtain ⟨T, hT⟩ : ∃ T, trI M.n Fw i = T := ⟨_, rfl⟩
  rw [hT] at hseq ht ⊢
  have hBW : B < W1.heap.size := by omega
  have HKW : Hid (Kept (fun k => k < w.heap.size) w W1) := kW1
  clear hW1 hd hfo hen c0 c1 c2 hT hB kW1
  refine (callsIn_wide (n := 3)).1 ?_
  refine callsIn_of_wp_marks Tryz.func140 rfl trivial ?_ rfl
  simp only [Tryz.ntmps140, List.size_toArray, List.length_cons, List.length_nil, Nat.reduceAdd, Nat.reduceSub, Array.replicate_succ, Array.replicate_zero, List.push_toArray, List.append_toArray, List.nil_append, List.cons_append]
  gi_wp2
  rw [HW1.out, HB.out]
  refine wpIn_rangeFunc_ownG rfl (by omega) (gf := 141) (lb := #[.pointer (some ⟨b0, 0, none⟩), .pointer (some ⟨b1, 0, none⟩), .pointer (some ⟨b2, 0, none⟩)]) rfl trivial (enters_of Tryz.func141 (by kernel_rfl) rfl)
    hseq kpS_t (kpB_b hBW) (Below.refl _ _) (fun _ => rfl) (Col B w) (fun _ _ _ => False) (col_own _ hBW) (fun _ _ _ _ _ hs _ _ => hs) h0
    (fun x => { tmps := #[.slice none 0 0, .func (.func 141) #[] #[.pointer (some ⟨b0, 0, none⟩), .pointer (some ⟨b1, 0, none⟩), .pointer (some ⟨b2, 0, none⟩)], .pointer (some ⟨B, 0, none⟩), undef, .slice none 0 0, .int .i64 (x : Int), .func (.func 141) #[] #[.pointer (some ⟨b0, 0, none⟩), .pointer (some ⟨b1, 0, none⟩), .pointer (some ⟨b2, 0, none⟩)], .int .i64 (x : Int), undef, undef, undef, undef, undef], defers := [] }) ?assign ?body ?done ?stop
  case assign =>
    intro l x W K hK
    gi_wp2
    exact hK
  case body =>
    rintro l pre x W hcol hlt
    obtain ⟨ao, cap, ao', cap', w', d0, hrun, d1, d2, q1, q2, q3⟩ := col_step x hcol (by omega) W1.heap.size
    have Q1 : Hid (KeepsFrom W1.heap.size W (w'.setCell ⟨B, 0, none⟩ (.slice ao' (pre.length + 1) cap')) ∧ KpS B (SnB B) (MnB B) W (w'.setCell ⟨B, 0, none⟩ (.slice ao' (pre.length + 1) cap')) ∧ Col B w (pre ++ [x]) (w'.setCell ⟨B, 0, none⟩ (.slice ao' (pre.length + 1) cap'))) := ⟨q1, q2, q3⟩
    clear q1 q2 q3 hcol
    gi_wp2_with (gi_at_builtin; refine wpIn_appR (w' := w') rfl (.tmp 8) (.tmp 10) 32 32 rfl _ _ (.slice ao' (pre.length + 1) cap') rfl rfl hrun ?_)
    exact Q1.out
  case done =>
    rintro D ys W hD rfl ⟨⟨ao, cap, hb, hO⟩, hbel⟩ hK
    have hc : W.cell? ⟨B, 0, none⟩ = some (.slice ao ys.length cap) := by rw [cell_block hb]; rfl
    gi_wp2
    refine ⟨by simp, .inl ⟨_, _, rfl, run_takeDeferred hK, ?_⟩⟩
    have oth : ∀ (k : Nat) (o : Obj), W.heap[k]? = some o → o.isCells = true → (W.putObj D (.deferred none)).heap[k]? = W.heap[k]? := fun k o hk ho => World.putObj_heap_other (fun e => by rw [e, hK] at hk; injection hk with hk; rw [← hk] at ho; cases ho)
    refine ⟨_, results_tmp rfl _ _ _, ao, cap, rfl, OwnZ.to hO (fun g hg hh => (hO.out hg).1 (by rw [HB.out] at hh; omega)) (fun g hg => ?_), ?_⟩
    · obtain ⟨_, _, _, h4⟩ := hO
      rcases h4 with ⟨r1, _⟩ | ⟨g', cur, r1, r2, r3, _⟩
      · rw [r1] at hg; cases hg
      · have hg' : ao = some ⟨g, 0, none⟩ := hg
        rw [r1] at hg'
        injection hg' with hg'
        injection hg' with hg'
        subst hg'
        exact oth g' _ r3 rfl
    · have hb2 : Below B W (W.putObj D (.deferred none)) := belowK_b (w := W1) (by omega) W D _ _ hD hK rfl rfl
      rw [HB.out]
      exact Below.kept (hbel.trans hb2)
  case stop =>
    rintro D c pre W _ _ h _
    exact h.elim
end Go.Proofs.YtbhfnbplbkncmaaGreat
