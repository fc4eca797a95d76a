/-
 slices.AppendSeq, slices.Collect over such an iterator; order.Tree, order.All: WHAT THEY TELL.; order.Tree, order.All: WHAT THEY TELL.; slots: pick, slices.IndexFunc and ContainsFunc over numbers, first.
-/
import Derived.Test.YtljnjdckhkglfaaP18
import Derived.Test.YtljnjdckhkglfaaP19
namespace Go.Proofs.Ytljnjdckhkglfaa
set_option linter.unusedVariables false
set_option maxRecDepth 100000
set_option maxHeartbeats 8000000
section
open Go.RowKit Go.Shelf
attribute [local go_sem] Oper.semAt_some
theorem wpIn_appR {F : Fence} {n : Nat} {P : Program} {w w' : World} {ops : Array Oper} {rest : List Oper} {o : Oper} {a : Act} {Q : Exit -> Act -> World -> Prop} (hgd : o.guard = none) (s x : Operand) (t tx : TypeId)
  (ho : o.op = .call { callee := .builtin .append, args := #[s, x], argTypes := #[t, tx] }) (vs vx v : Value) (hs : a.eval s = vs) (hx : a.eval x = vx)
  (hr : (Builtin.append_ #[t, tx] o.type #[vs, vx]).run P w = .ok v w') (h : wpListIn F n P ops Q rest (a.put o.dst v) w') : wpListIn F n P ops Q (o :: rest) a w := by
 refine wpListIn_plain hgd fun K hK' => ?_
 unfold Oper.wpIn
 refine ⟨?_, ?_⟩
 ·simp [Oper.about, ho, resolve, Target.leads, Sem.run_pure]
 ·rw [Oper.semAt_plain F _ _ (by rw [ho]; intro c hc'; cases hc')]
  simp [execOp, ho, resolve, invoke, builtin, hs, hx, hr, Result.andThen]
  exact hK' _ _ h
def Pts (B : Nat) (W : World) (k : Nat) : Prop := ∃ n c, W.cell? ⟨B, 0, none⟩ = some (.slice (some ⟨k, 0, none⟩) n c)
def SnB (B : Nat) (W : World) : Prop := B < W.heap.size /\ ∀ k, Pts B W k -> B <= k /\ k < W.heap.size
def MnB (B : Nat) (W : World) (k : Nat) : Prop := k = B \/ Pts B W k
theorem mineB (B : Nat) : Mine B (SnB B) (MnB B) := by
 refine ⟨fun W k h hm => ?_, fun W W' h hk => ?_⟩
 ·rcases hm with rfl | hm
  ·exact ⟨Nat.le_refl _, h.1⟩
  ·exact h.2 k hm
 ·have e : ∀ k, Pts B W' k -> Pts B W k := fun k ⟨n, c, hc⟩ => ⟨n, c, (hk.cell (p := ⟨B, 0, none⟩) h.1).symm.trans hc⟩
  exact ⟨⟨Nat.lt_of_lt_of_le h.1 hk.size, fun k hp => ⟨(h.2 k (e k hp)).1, Nat.lt_of_lt_of_le (h.2 k (e k hp)).2 hk.size⟩⟩, fun k hm => hm.elim .inl (fun hp => .inr (e k hp))⟩
def Col (B : Nat) (w : World) (pre : List Nat) (W : World) : Prop :=
 (∃ ao cap, W.heap[B]? = some (.cells #[.slice ao pre.length cap] 34 (0, 0)) /\ OwnZ (fun k => k <= B) W 3 1 ao pre.length cap (ivs pre)) /\ Below B w W
theorem col_own {B : Nat} {w : World} (B' : Nat) (hB : B < B') : OwnFrom B' (Col B w) := fun pre W W' row h hg hr => by
 obtain ⟨⟨ao, cap, hb, hO⟩, hbel⟩ := h
 have keep : ∀ (k : Nat) (o : Obj), W.heap[k]? = some o -> o.isCells = true -> W'.heap[k]? = W.heap[k]? := fun k o hk ho => hg.block k (Array.getElem?_eq_some_iff.1 hk).1 (fun e => by
  obtain ⟨_, o', h1, h2⟩ := hr k e.symm
  rw [hk] at h1
  cases h1
  rw [ho] at h2
  cases h2)
 refine ⟨⟨ao, cap, (keep B _ hb rfl).trans hb, ?_⟩, hbel.grown hg (Nat.le_of_lt (lt_block hb)) (fun k e => by have := (hr k e).1; omega)⟩
 refine OwnZ.to hO (fun g hg => (hO.out hg).1) (fun g hg => ?_)
 obtain ⟨_, _, _, h4⟩ := hO
 rcases h4 with ⟨r1, _⟩ | ⟨g', cur, r1, r2, r3, _⟩
 ·rw [r1] at hg; cases hg
 ·have hg' : ao = some ⟨g, 0, none⟩ := hg
  rw [r1] at hg'
  injection hg' with hg'
  injection hg' with hg'
  subst hg'
  exact keep g' _ r3 rfl
theorem col_step {B : Nat} {w W : World} {pre : List Nat} (x : Nat) (h : Col B w pre W) (hl : pre.length <= 10000000) (B' : Nat) :
  ∃ ao cap ao' cap' w', W.cell? ⟨B, 0, none⟩ = some (.slice ao pre.length cap) /\ (Builtin.append_ #[34, 34] 34 #[.slice ao pre.length cap, .slice (some ⟨W.heap.size, 0, none⟩) 1 1]).run Try.prog (W.alloc (.cells #[.int .i64 (x : Int)] 3)) = .ok (.slice ao' (pre.length + 1) cap') w' /\
   w'.cell? ⟨B, 0, none⟩ = some (.slice ao pre.length cap) /\ w'.frozen? ⟨B, 0, none⟩ = false /\
   KeepsFrom B' W (w'.setCell ⟨B, 0, none⟩ (.slice ao' (pre.length + 1) cap')) /\ KpS B (SnB B) (MnB B) W (w'.setCell ⟨B, 0, none⟩ (.slice ao' (pre.length + 1) cap')) /\ Col B w (pre ++ [x]) (w'.setCell ⟨B, 0, none⟩ (.slice ao' (pre.length + 1) cap')) := by
 obtain ⟨⟨ao, cap, hb, hO⟩, hbel⟩ := h
 obtain ⟨X, hX⟩ : ∃ X, W.alloc (.cells #[.int .i64 (x : Int)] 3) = X := ⟨_, rfl⟩
 have hkX : Kept (fun k => k < W.heap.size) W X := by rw [<- hX]; exact (Kept.refl _ W).alloc (fun _ h => h) _
 have hsz : X.heap.size = W.heap.size + 1 := by rw [<- hX]; simp
 have hbx : X.heap[W.heap.size]? = some (.cells #[.int .i64 (x : Int)] 3 (0, 0)) := by rw [<- hX]; exact heap_alloc_new W _
 have hBl := lt_block hb
 have hbX : X.heap[B]? = some (.cells #[.slice ao pre.length cap] 34 (0, 0)) := (hkX.block B hBl).trans hb
 have hOX : OwnZ (fun k => k < X.heap.size /\ ¬ blkOf ao k) X 3 1 ao pre.length cap (ivs pre) := OwnZ.to hO (fun g hg hh => hh.2 hg) (fun g hg => hkX.block g (hO.out hg).2)
 have hxs : IntsAt (fun _ => True) X (some ⟨W.heap.size, 0, none⟩) [x] := fun j hj => ⟨W.heap.size, 0, rfl, trivial, by
  have : j = 0 := by simp at hj; omega
  subst this
  rw [cell_block hbx]; rfl⟩
 obtain ⟨ao', cap', w', hrun, hO', hk'⟩ := app_ints (ac := 1) hOX rfl hxs (fun k h => h.1) (by omega) (by simp)
 have hrB : ¬ blkOf ao B := fun h => (hO.out h).1 (Nat.le_refl _)
 have hKB : (fun k => k < X.heap.size /\ ¬ blkOf ao k) B := ⟨by omega, hrB⟩
 have hbw : w'.heap[B]? = some (.cells #[.slice ao pre.length cap] 34 (0, 0)) := (hk'.block B hKB).trans hbX
 have hnew : ∀ g, blkOf ao' g -> B < g /\ (X.heap.size <= g \/ blkOf ao g) := fun g hg => by
  have h1 := (hO'.out hg).1
  rcases Nat.lt_or_ge g X.heap.size with h2 | h2
  ·have h3 : blkOf ao g := Classical.byContradiction fun h => h1 ⟨h2, h⟩
   exact ⟨Nat.lt_of_not_le (hO.out h3).1, .inr h3⟩
  ·exact ⟨by omega, .inl h2⟩
 have hset := heap_setCell_at hbw 0 (.slice ao' (pre.length + 1) cap')
 have hoth : ∀ k, k ≠ B -> (w'.setCell ⟨B, 0, none⟩ (.slice ao' (pre.length + 1) cap')).heap[k]? = w'.heap[k]? := fun k hk => ((Kept.refl (fun k => k ≠ B) w').setCell (p := ⟨B, 0, none⟩) (fun h => h rfl) _).block k hk
 have hall : ∀ k, k < W.heap.size -> k ≠ B -> ¬ blkOf ao k -> (w'.setCell ⟨B, 0, none⟩ (.slice ao' (pre.length + 1) cap')).heap[k]? = W.heap[k]? := fun k h1 h2 h3 => by
  rw [hoth k h2, hk'.block k ⟨by omega, h3⟩, hkX.block k h1]
 have hsz' : W.heap.size <= (w'.setCell ⟨B, 0, none⟩ (.slice ao' (pre.length + 1) cap')).heap.size := by
  have h1 := hk'.size
  have h2 := ((Kept.refl (fun k => k ≠ B) w').setCell (p := ⟨B, 0, none⟩) (fun h => h rfl) (.slice ao' (pre.length + 1) cap')).size
  omega
 have hkb : Kept (fun k => k < B) W (w'.setCell ⟨B, 0, none⟩ (.slice ao' (pre.length + 1) cap')) := by
  have q1 := hkX.mono (K' := fun k => k < B) (fun k h => by omega)
  have q2 := hk'.mono (K' := fun k => k < B) (fun k h => ⟨by omega, fun hb => (hO.out hb).1 (Nat.le_of_lt h)⟩)
  have q3 := (Kept.refl (fun k => k < B) w').setCell (p := ⟨B, 0, none⟩) (fun h => Nat.lt_irrefl _ h) (.slice ao' (pre.length + 1) cap')
  exact (q1.trans q2).trans q3
 have hcB : (w'.setCell ⟨B, 0, none⟩ (.slice ao' (pre.length + 1) cap')).cell? ⟨B, 0, none⟩ = some (.slice ao' (pre.length + 1) cap') := by rw [cell_block hset]; rfl
 have hpts : ∀ k, Pts B (w'.setCell ⟨B, 0, none⟩ (.slice ao' (pre.length + 1) cap')) k -> blkOf ao' k := fun k ⟨n, c, hc⟩ => by
  have h2 : Value.slice ao' (pre.length + 1) cap' = Value.slice (some ⟨k, 0, none⟩) n c := Option.some.inj (hcB.symm.trans hc)
  exact (Value.slice.inj h2).1
 refine ⟨ao, cap, ao', cap', w', by rw [cell_block hb]; rfl, by rw [hX]; exact hrun, by rw [cell_block hbw]; rfl, frozen_block hbw 0, ⟨hsz', fun k o _ hk ho => ?_⟩, ⟨⟨hkb.below, fun k o hk ho hm => ?_⟩, fun hs => ⟨Nat.lt_of_lt_of_le hBl hsz', fun k hp => ?_⟩⟩, ⟨ao', cap', by rw [List.length_append]; exact hset, ?_⟩, hbel.trans hkb.below⟩
 ·have hkl := (Array.getElem?_eq_some_iff.1 hk).1
  have h1 : k ≠ B := fun e => by
   rw [e, hb] at hk
   injection hk with hk
   rw [<- hk] at ho
   cases ho
  have h2 : ¬ blkOf ao k := fun e => by
   obtain ⟨_, _, _, h4⟩ := hO
   rcases h4 with ⟨r1, _⟩ | ⟨g', cur, r1, r2, r3, _⟩
   ·rw [r1] at e; cases e
   ·have e' : ao = some ⟨k, 0, none⟩ := e
    rw [r1] at e'
    injection e' with e'
    injection e' with e'
    rw [e'] at r3
    rw [r3] at hk
    injection hk with hk
    rw [<- hk] at ho
    cases ho
  exact (hall k hkl h1 h2).trans hk
 ·have hkl := (Array.getElem?_eq_some_iff.1 hk).1
  have h1 : k ≠ B := fun e => hm (.inl e)
  have h2 : ¬ blkOf ao k := fun e => hm (.inr ⟨pre.length, cap, by
   have e' : ao = some ⟨k, 0, none⟩ := e
   rw [cell_block hb, e']; rfl⟩)
  refine ⟨(hall k hkl h1 h2).trans hk, fun hm' => ?_⟩
  rcases hm' with e | hp
  ·exact h1 e
  ·rcases (hnew k (hpts k hp)).2 with q | q
   ·omega
   ·exact h2 q
 ·have hg := hpts k hp
  refine ⟨Nat.le_of_lt (hnew k hg).1, ?_⟩
  have h1 := (hO'.out hg).2
  have h2 := ((Kept.refl (fun k => k ≠ B) w').setCell (p := ⟨B, 0, none⟩) (fun h => h rfl) (.slice ao' (pre.length + 1) cap')).size
  omega
 ·rw [List.length_append]
  exact OwnZ.to hO' (fun g hg => Nat.not_le_of_lt (hnew g hg).1) (fun g hg => hoth g (fun e => by have := (hnew g hg).1; omega))
theorem kpS_t {n₀ : Nat} {Sn : World -> Prop} {Mn : World -> Nat -> Prop} {A B C : World} (h : KpS n₀ Sn Mn A B) (k : KpS n₀ Sn Mn B C) : KpS n₀ Sn Mn A C := ⟨h.1.trans k.1, fun hs => k.2 (h.2 hs)⟩
theorem kpB_b {B : Nat} {w : World} (hB : B < w.heap.size) (W : World) (l : Nat) (o o' : Obj) (hl : w.heap.size <= l) (h : W.heap[l]? = some o) (hc : o.isCells = false) (hw : o.isWalk = false) : KpS B (SnB B) (MnB B) W (W.putObj l o') := by
 have hsz : (W.putObj l o').heap.size = W.heap.size := by simp [World.putObj]
 have hlB : l ≠ B := by omega
 have oth : ∀ k, k ≠ l -> (W.putObj l o').heap[k]? = W.heap[k]? := fun k hk => World.putObj_heap_other hk
 have e : ∀ k, Pts B (W.putObj l o') k -> Pts B W k := fun k ⟨n, c, hp⟩ => ⟨n, c, by rw [<- hp]; exact (World.cell?_of_block (w := W) (a := ⟨B, 0, none⟩) (oth B (fun e => hlB e.symm))).symm⟩
 refine ⟨⟨belowK_b (Nat.le_of_lt hB) W l o o' hl h hc hw, fun k q hk ho hm => ⟨?_, fun hm' => ?_⟩⟩, fun hs => ⟨by rw [hsz]; exact hs.1, fun k hp => by rw [hsz]; exact hs.2 k (e k hp)⟩⟩
 ·rw [oth k (fun e => by rw [e, h] at hk; injection hk with hk; rw [hk, ho] at hc; cases hc)]
  exact hk
 ·rcases hm' with rfl | hp
  ·exact hm (.inl rfl)
  ·exact hm (.inr (e k hp))
theorem appSeq_any (K : Nat -> Prop) (p : Nat) (M : Dm) (R : Nat -> List Nat) (rk : Nat -> Nat) (w : World) (hd : DX K w p M) (hG : Good M R rk) (hn : M.n <= 100000) (Fw : Nat -> List Nat) (hF : Falls M.n Fw rk) (hFl : ∀ i, i < M.n -> (Fw i).length <= 200000) (fo : Nat) (hfo : FoOk fo M R Fw)
  (hen : ∀ (args : Array Value) (X : World), (callFunc fo args).run Try.prog X = .ok (.enter fo args) X) (i : Int) (ht : (trI M.n Fw i).length <= 1000000) (b0 b1 b2 : Nat)
  (c0 : w.cell? ⟨b0, 0, none⟩ = some (.pointer (some ⟨p, 0, none⟩))) (c1 : w.cell? ⟨b1, 0, none⟩ = some (.int .i64 i)) (c2 : w.cell? ⟨b2, 0, none⟩ = some (.func (.func fo) #[] #[])) (l0 : b0 < w.heap.size) (l1 : b1 < w.heap.size) (l2 : b2 < w.heap.size) :
  Calls Try.prog 105 #[.slice none 0 0, .func (.func 106) #[] #[.pointer (some ⟨b0, 0, none⟩), .pointer (some ⟨b1, 0, none⟩), .pointer (some ⟨b2, 0, none⟩)]] w fun e w' => ∃ ao c, e = .returned (.slice ao (trI M.n Fw i).length c) /\ OwnZ (fun k => k < w.heap.size) w' 3 1 ao (trI M.n Fw i).length c (ivs (trI M.n Fw i)) /\ Kept (fun k => k < w.heap.size) w w' := by
 obtain ⟨W1, hW1⟩ : ∃ W1, w.alloc (.cells #[.slice none 0 0] 34) = W1 := ⟨_, rfl⟩
 obtain ⟨B, hB⟩ : ∃ B, w.heap.size = B := ⟨_, rfl⟩
 have kW1 : Kept (fun k => k < w.heap.size) w W1 := by rw [<- hW1]; exact (Kept.refl _ w).alloc (fun _ h => h) _
 have hb1 : W1.heap[B]? = some (.cells #[.slice none 0 0] 34 (0, 0)) := by rw [<- hW1, <- hB]; exact heap_alloc_new w _
 have hs1 : W1.heap.size = B + 1 := by rw [<- hW1, <- hB]; simp
 have hseq := from_stops K p M R rk w hd hG hn Fw hF hFl fo hfo hen i (3 - 1) b0 b1 b2 W1 kW1 (SnB B) (MnB B) (by rw [hB]; exact mineB B) (fun W hW => ⟨Nat.lt_of_lt_of_le (by omega) hW.size, fun k ⟨n, c, hc⟩ => by
   rw [hW.cell (p := ⟨B, 0, none⟩) (by show B < _; omega), cell_block hb1] at hc
   exact absurd (Option.some.inj hc) (by intro h; injection h with h; cases h)⟩)
  ((kW1.cell (p := ⟨b0, 0, none⟩) l0).trans c0) ((kW1.cell (p := ⟨b1, 0, none⟩) l1).trans c1) ((kW1.cell (p := ⟨b2, 0, none⟩) l2).trans c2) (by omega) (by omega) (by omega)
 rw [hB] at hseq
 have h0 : Col B w [] W1 := ⟨⟨none, 0, hb1, OwnZ.nil _ _ _ _⟩, by rw [<- hB]; exact kW1.below⟩
 have HW1 : Hid (w.alloc (.cells #[.slice none 0 0] 34) = W1) := hW1
 have HB : Hid (w.heap.size = B) := hB
 obtain ⟨T, hT⟩ : ∃ T, trI M.n Fw i = T := ⟨_, rfl⟩
 rw [hT] at hseq ht ⊢
 have hBW : B < W1.heap.size := by omega
 have HKW : Hid (Kept (fun k => k < w.heap.size) w W1) := kW1
 clear hW1 hd hfo hen c0 c1 c2 hT hB kW1
 refine (callsIn_wide (n := 3)).1 ?_
 refine callsIn_of_wp_marks Try.func105 rfl trivial ?_ rfl
 simp only [Try.ntmps105, List.size_toArray, List.length_cons, List.length_nil, Nat.reduceAdd, Nat.reduceSub, Array.replicate_succ, Array.replicate_zero, List.push_toArray, List.append_toArray, List.nil_append, List.cons_append]
 gi_wp2
 rw [HW1.out, HB.out]
 refine wpIn_rangeFunc_ownG rfl (by omega) (gf := 106) (lb := #[.pointer (some ⟨b0, 0, none⟩), .pointer (some ⟨b1, 0, none⟩), .pointer (some ⟨b2, 0, none⟩)]) rfl trivial (enters_of Try.func106 (by kernel_rfl) rfl)
  hseq kpS_t (kpB_b hBW) (Below.refl _ _) (fun _ => rfl) (Col B w) (fun _ _ _ => False) (col_own _ hBW) (fun _ _ _ _ _ hs _ _ => hs) h0
  (fun x => { tmps := #[.slice none 0 0, .func (.func 106) #[] #[.pointer (some ⟨b0, 0, none⟩), .pointer (some ⟨b1, 0, none⟩), .pointer (some ⟨b2, 0, none⟩)], .pointer (some ⟨B, 0, none⟩), undef, .slice none 0 0, .int .i64 (x : Int), .func (.func 106) #[] #[.pointer (some ⟨b0, 0, none⟩), .pointer (some ⟨b1, 0, none⟩), .pointer (some ⟨b2, 0, none⟩)], .int .i64 (x : Int), undef, undef, undef, undef, undef], defers := [] }) ?assign ?body ?done ?stop
 case assign =>
  intro l x W K hK
  gi_wp2
  exact hK
 case body =>
  rintro l pre x W hcol hlt
  obtain ⟨ao, cap, ao', cap', w', d0, hrun, d1, d2, q1, q2, q3⟩ := col_step x hcol (by omega) W1.heap.size
  have Q1 : Hid (KeepsFrom W1.heap.size W (w'.setCell ⟨B, 0, none⟩ (.slice ao' (pre.length + 1) cap')) /\ KpS B (SnB B) (MnB B) W (w'.setCell ⟨B, 0, none⟩ (.slice ao' (pre.length + 1) cap')) /\ Col B w (pre ++ [x]) (w'.setCell ⟨B, 0, none⟩ (.slice ao' (pre.length + 1) cap'))) := ⟨q1, q2, q3⟩
  clear q1 q2 q3 hcol
  gi_wp2_with (gi_at_builtin; refine wpIn_appR (w' := w') rfl (.tmp 8) (.tmp 10) 34 34 rfl _ _ (.slice ao' (pre.length + 1) cap') rfl rfl hrun ?_)
  exact Q1.out
 case done =>
  rintro D ys W hD rfl ⟨⟨ao, cap, hb, hO⟩, hbel⟩ hK
  have hc : W.cell? ⟨B, 0, none⟩ = some (.slice ao ys.length cap) := by rw [cell_block hb]; rfl
  gi_wp2
  refine ⟨by simp, .inl ⟨_, _, rfl, run_takeDeferred hK, ?_⟩⟩
  have oth : ∀ (k : Nat) (o : Obj), W.heap[k]? = some o -> o.isCells = true -> (W.putObj D (.deferred none)).heap[k]? = W.heap[k]? := fun k o hk ho => World.putObj_heap_other (fun e => by rw [e, hK] at hk; injection hk with hk; rw [<- hk] at ho; cases ho)
  refine ⟨_, results_tmp rfl _ _ _, ao, cap, rfl, OwnZ.to hO (fun g hg hh => (hO.out hg).1 (by rw [HB.out] at hh; omega)) (fun g hg => ?_), ?_⟩
  ·obtain ⟨_, _, _, h4⟩ := hO
   rcases h4 with ⟨r1, _⟩ | ⟨g', cur, r1, r2, r3, _⟩
   ·rw [r1] at hg; cases hg
   ·have hg' : ao = some ⟨g, 0, none⟩ := hg
    rw [r1] at hg'
    injection hg' with hg'
    injection hg' with hg'
    subst hg'
    exact oth g' _ r3 rfl
  ·have hb2 : Below B W (W.putObj D (.deferred none)) := belowK_b (w := W1) (by omega) W D _ _ hD hK rfl rfl
   rw [HB.out]
   exact Below.kept (hbel.trans hb2)
 case stop =>
  rintro D c pre W _ _ h _
  exact h.elim
end
section
open Go.RowKit
theorem enter89 (args : Array Value) (X : World) : (callFunc 89 args).run Try.prog X = .ok (.enter 89 args) X := entersE Try.func89 (by kernel_rfl) (c := _) rfl args X
def Lst (w : World) (l : List Nat) (e : Ending) (w' : World) : Prop := ∃ ao c, e = .returned (.slice ao l.length c) /\ OwnZ (fun k => k < w.heap.size) w' 3 1 ao l.length c (ivs l) /\ Kept (fun k => k < w.heap.size) w w'
theorem trI_len {n : Nat} {F : Nat -> List Nat} {rk : Nat -> Nat} (h : Only n F rk) (i : Int) : (trI n F i).length <= n := by
 by_cases c : i < 0 \/ (n : Int) <= i
 ·rw [trI_no c]; exact Nat.zero_le _
 ·obtain ⟨k, hk, rfl⟩ : ∃ k : Nat, k < n /\ i = (k : Int) := ⟨i.toNat, by omega, by omega⟩
  rw [trI_in hk]; exact tr_len h hk
theorem collect_any (K : Nat -> Prop) (p : Nat) (M : Dm) (R : Nat -> List Nat) (rk : Nat -> Nat) (w : World) (hd : DX K w p M) (hG : Good M R rk) (hn : M.n <= 100000) (Fw : Nat -> List Nat) (hF : Only M.n Fw rk) (hFl : ∀ i, i < M.n -> (Fw i).length <= 200000) (fo : Nat) (hfo : FoOk fo M R Fw)
  (hen : ∀ (args : Array Value) (X : World), (callFunc fo args).run Try.prog X = .ok (.enter fo args) X) (i : Int) (b0 b1 b2 : Nat)
  (c0 : w.cell? ⟨b0, 0, none⟩ = some (.pointer (some ⟨p, 0, none⟩))) (c1 : w.cell? ⟨b1, 0, none⟩ = some (.int .i64 i)) (c2 : w.cell? ⟨b2, 0, none⟩ = some (.func (.func fo) #[] #[])) (l0 : b0 < w.heap.size) (l1 : b1 < w.heap.size) (l2 : b2 < w.heap.size) :
  Calls Try.prog 87 #[.func (.func 106) #[] #[.pointer (some ⟨b0, 0, none⟩), .pointer (some ⟨b1, 0, none⟩), .pointer (some ⟨b2, 0, none⟩)]] w (Lst w (trI M.n Fw i)) := by
 have r := appSeq_any K p M R rk w hd hG hn Fw hF.falls hFl fo hfo hen i (Nat.le_trans (trI_len hF i) (by omega)) b0 b1 b2 c0 c1 c2 l0 l1 l2
 clear hd hfo hen c0 c1 c2
 go_enter Try.func87, Try.ntmps87
 go_wp2_with fail
 refine r.mono ?_
 rintro e w1 ⟨ao, c, rfl, hO, hK⟩
 have HO : Hid (OwnZ (fun k => k < w.heap.size) w1 3 1 ao (trI M.n Fw i).length c (ivs (trI M.n Fw i)) /\ Kept (fun k => k < w.heap.size) w w1) := ⟨hO, hK⟩
 clear r hO hK
 go_wp2
 go_ret
 exact ⟨ao, c, rfl, HO.out.1, HO.out.2⟩
abbrev fr3 (p fo : Nat) (i : Int) (w : World) : World := ((w.alloc (.cells #[.pointer (some ⟨p, 0, none⟩)] 24)).alloc (.cells #[.int .i64 i] 3)).alloc (.cells #[.func (.func fo) #[] #[]] 129)
theorem fr3_ok (p fo : Nat) (i : Int) (w : World) : Kept (fun k => k < w.heap.size) w (fr3 p fo i w) /\ (fr3 p fo i w).heap.size = w.heap.size + 3 /\ (fr3 p fo i w).cell? ⟨w.heap.size, 0, none⟩ = some (.pointer (some ⟨p, 0, none⟩)) /\ (fr3 p fo i w).cell? ⟨w.heap.size + 1, 0, none⟩ = some (.int .i64 i) /\ (fr3 p fo i w).cell? ⟨w.heap.size + 2, 0, none⟩ = some (.func (.func fo) #[] #[]) := by
 obtain ⟨A, hA⟩ : ∃ A, w.alloc (.cells #[.pointer (some ⟨p, 0, none⟩)] 24) = A := ⟨_, rfl⟩
 obtain ⟨B, hB⟩ : ∃ B, A.alloc (.cells #[.int .i64 i] 3) = B := ⟨_, rfl⟩
 obtain ⟨C, hC⟩ : ∃ C, B.alloc (.cells #[.func (.func fo) #[] #[]] 129) = C := ⟨_, rfl⟩
 have e : fr3 p fo i w = C := by unfold fr3; rw [hA, hB, hC]
 have sA : A.heap.size = w.heap.size + 1 := by rw [<- hA]; simp
 have sB : B.heap.size = w.heap.size + 2 := by rw [<- hB]; simp [sA]
 have sC : C.heap.size = w.heap.size + 3 := by rw [<- hC]; simp [sB]
 have kA : Kept (fun k => k < w.heap.size) w A := by rw [<- hA]; exact (Kept.refl _ w).alloc (fun _ h => h) _
 have kB : Kept (fun k => k < A.heap.size) A B := by rw [<- hB]; exact (Kept.refl _ A).alloc (fun _ h => h) _
 have kC : Kept (fun k => k < B.heap.size) B C := by rw [<- hC]; exact (Kept.refl _ B).alloc (fun _ h => h) _
 have a0 : A.cell? ⟨w.heap.size, 0, none⟩ = some (.pointer (some ⟨p, 0, none⟩)) := by rw [<- hA, cell_block (heap_alloc_new w _)]; rfl
 have b0 : B.cell? ⟨w.heap.size + 1, 0, none⟩ = some (.int .i64 i) := by rw [<- hB, <- sA, cell_block (heap_alloc_new A _)]; rfl
 have c0 : C.cell? ⟨w.heap.size + 2, 0, none⟩ = some (.func (.func fo) #[] #[]) := by rw [<- hC, <- sB, cell_block (heap_alloc_new B _)]; rfl
 rw [e]
 refine ⟨(kA.trans (kB.mono fun k h => by omega)).trans (kC.mono fun k h => by omega), sC, ?_, ?_, c0⟩
 ·exact (kC.cell (p := ⟨w.heap.size, 0, none⟩) (by show w.heap.size < _; omega)).trans ((kB.cell (p := ⟨w.heap.size, 0, none⟩) (by show w.heap.size < _; omega)).trans a0)
 ·exact (kC.cell (p := ⟨w.heap.size + 1, 0, none⟩) (by show w.heap.size + 1 < _; omega)).trans b0
theorem tree_any (K : Nat -> Prop) (p : Nat) (M : Dm) (R : Nat -> List Nat) (rk : Nat -> Nat) (w : World) (hd : DX K w p M) (hG : Good M R rk) (hn : M.n <= 100000) (i : Int) :
  Calls Try.prog 56 #[.pointer (some ⟨p, 0, none⟩), .int .i64 i] w (Lst w (trI M.n R i)) := by
 obtain ⟨hk, hs, c0, c1, c2⟩ := fr3_ok p 89 i w
 have r0 := from_any p 89 i w
 have r1 := collect_any K p M R rk (fr3 p 89 i w) (hd.kept hk) hG hn R hG.only (fun i hi => by have := hG.wf.len_le hi; omega) 89 (kids_ok M R) enter89 i _ _ _ c0 c1 c2 (by omega) (by omega) (by omega)
 have HK : Hid (Kept (fun k => k < w.heap.size) w (fr3 p 89 i w)) := hk
 clear hk hs c0 c1 c2 hd
 go_enter Try.func56, Try.ntmps56
 go_wp2_with fail
 refine r0.mono ?_
 rintro e w1 ⟨rfl, rfl⟩
 clear r0
 go_wp2_with fail
 refine r1.mono ?_
 rintro e w2 ⟨ao, c, rfl, hO, hK⟩
 have HO : Hid (OwnZ (fun k => k < w.heap.size) w2 3 1 ao (trI M.n R i).length c (ivs (trI M.n R i)) /\ Kept (fun k => k < w.heap.size) w w2) := ⟨OwnZ.to hO (fun g hg hh => (hO.out hg).1 (Nat.lt_of_lt_of_le hh HK.out.size)) (fun _ _ => rfl), HK.out.trans (hK.mono fun k h => Nat.lt_of_lt_of_le h HK.out.size)⟩
 clear r1 hO hK
 go_wp2
 go_ret
 exact ⟨ao, c, rfl, HO.out.1, HO.out.2⟩
end
section
open Go.RowKit
theorem pick_any (l : List Nat) (n m : Nat) (hln : l.length = n) (hn : n <= 1000000) (hlt : ∀ i ∈ l, i < m) (a : Option Addr) (cap : Nat) (v : Value) (b : Nat -> Bool) (w : World) (hr : IntsAt (fun g => g < w.heap.size) w a l) (hv : TellK w v b m) :
  Calls Try.prog 55 #[.slice a n cap, v] w (Lst w (l.filter b)) := by
 obtain ⟨f, caps, rfl, he, hc⟩ := hv
 have HR : Hid (IntsAt (fun g => g < w.heap.size) w a l) := hr
 have HC : Hid (∀ i, i < m -> ∀ X, Kept (fun k => k < w.heap.size) w X -> Calls Try.prog f (#[.int .i64 (i : Int)] ++ caps) X fun e Y => e = .returned (.bool (b i)) /\ Kept (fun k => k < X.heap.size) X Y) := hc
 have HL : Hid (l.length = n) := hln
 have HLT : Hid (∀ i ∈ l, i < m) := hlt
 clear hr hc hln hlt
 go_enter Try.func55, Try.ntmps55
 go_upto_region 3 with fail
 go_loopg [5, 10] n (fun gh v5 v10 wr => ∃ (j q c : Nat) (ao : Option Addr), gh = n - j /\ j <= n /\ v10 = .int .i64 (j : Int) /\ v5 = .slice ao q c /\ ((l.take j).filter b).length = q /\ OwnZ (fun k => k < w.heap.size) wr 3 1 ao q c (ivs ((l.take j).filter b)) /\ Kept (fun k => k < w.heap.size) w wr)
 case atStart => exact ⟨0, 0, 0, none, rfl, Nat.zero_le _, rfl, rfl, rfl, OwnZ.nil _ _ _ _, Kept.refl _ _⟩
 case round =>
  obtain ⟨j, q, c, ao, hgj, hj, rfl, rfl, hq, hO, hK⟩ := hrel
  by_cases hlt : j < n
  ·have hl : j < l.length := by rw [HL.out]; exact hlt
   obtain ⟨g, o, rfl, hg, d⟩ := HR.out j hl
   have d' : wr.cell? ⟨g, o + j, none⟩ = some (.int .i64 (l[j] : Int)) := (hK.cell (p := ⟨g, o + j, none⟩) hg).trans d
   have hx := HLT.out l[j] (List.getElem_mem hl)
   have htk : l.take (j + 1) = l.take j ++ [l[j]] := List.take_succ_eq_append_getElem hl
   have hql : q <= n := by
    rw [<- hq]
    refine Nat.le_trans (List.length_filter_le ..) ?_
    rw [List.length_take]
    omega
   obtain ⟨x, hxe⟩ : ∃ x, l[j] = x := ⟨_, rfl⟩
   rw [hxe] at d' hx htk
   have r := HC.out x hx wr hK
   obtain ⟨t, ht⟩ : ∃ t, b x = t := ⟨_, rfl⟩
   rw [ht] at r
   have hfl : (l.take (j + 1)).filter b = (l.take j).filter b ++ if t then [x] else [] := by rw [htk, List.filter_append, <- ht]; cases hb : b x <;> simp [hb]
   have HFL : Hid ((l.take (j + 1)).filter b = (l.take j).filter b ++ if t then [x] else []) := hfl
   have HRR : Hid (Calls Try.prog f (#[.int .i64 (x : Int)] ++ caps) wr fun e Y => e = .returned (.bool t) /\ Kept (fun k => k < wr.heap.size) wr Y) := r
   have HO : Hid (OwnZ (fun k => k < w.heap.size) wr 3 1 ao q c (ivs ((l.take j).filter b))) := hO
   have HK : Hid (Kept (fun k => k < w.heap.size) w wr) := hK
   have HQ : Hid (((l.take j).filter b).length = q) := hq
   clear d hx htk hxe r ht hfl hO hK hq
   go_wp2_with fail
   refine HRR.out.mono ?_
   rintro e w2 ⟨rfl, hk2⟩
   have HK2 : Hid (Kept (fun k => k < w.heap.size) w w2) := HK.out.trans (hk2.mono fun k h => Nat.lt_of_lt_of_le h HK.out.size)
   have hO2 : OwnZ (fun k => k < w.heap.size) w2 3 1 ao q c (ivs ((l.take j).filter b)) := HO.out.to (fun g hg => (HO.out.out hg).1) (fun g hg => hk2.block g (HO.out.out hg).2)
   clear HRR d' hk2 he
   cases t with
   | false =>
    have HO2 : Hid (OwnZ (fun k => k < w.heap.size) w2 3 1 ao q c (ivs ((l.take j).filter b))) := hO2
    clear hO2
    go_wp2
    go_roundg (n - (j + 1))
    case rel => exact ⟨j + 1, q, c, ao, rfl, by omega, by go_num, rfl, by rw [HFL.out]; simpa using HQ.out, by rw [HFL.out]; simpa using HO2.out, HK2.out⟩
    case measure => omega
   | true =>
    obtain ⟨ao', c', w', hrun, hO', hK'⟩ := appI hO2 (fun k hk => Nat.lt_of_lt_of_le hk HK2.out.size) (by omega) (x : Int)
    have HO3 : Hid (OwnZ (fun k => k < w.heap.size) w' 3 1 ao' (q + 1) c' (ivs ((l.take j).filter b) ++ [.int .i64 (x : Int)])) := hO'
    have HK3 : Hid (Kept (fun k => k < w.heap.size) w w') := HK2.out.trans hK'
    clear hO2 hO' hK'
    go_wp2_with (at_builtin; refine wpList_appR (w' := w') rfl (.tmp 17) (.tmp 19) 34 34 rfl _ _ (.slice ao' (q + 1) c') rfl rfl hrun ?_)
    go_roundg (n - (j + 1))
    case rel => exact ⟨j + 1, q + 1, c', ao', rfl, by omega, by go_num, rfl, by rw [HFL.out]; simp [HQ.out], by rw [HFL.out, ivs, List.map_append]; exact HO3.out, HK3.out⟩
    case measure => omega
  ·have hjn : n = j := by omega
   subst hjn
   have hall : l.take n = l := List.take_of_length_le (by rw [HL.out]; exact Nat.le_refl _)
   rw [hall] at hO hq
   have HO : Hid (OwnZ (fun k => k < w.heap.size) wr 3 1 ao q c (ivs (l.filter b))) := hO
   have HK : Hid (Kept (fun k => k < w.heap.size) w wr) := hK
   have HQ : Hid ((l.filter b).length = q) := hq
   clear hall hO hK hq he
   go_wp2
   go_ret
   exact ⟨ao, c, by rw [HQ.out]; rfl, by rw [HQ.out]; exact HO.out, HK.out⟩
inductive ZanyN (l : List Nat) (b : Nat -> Bool) : Int -> Prop
 | yes (k : Nat) : l.any b = true -> ZanyN l b (k : Int)
 | no : l.any b = false -> ZanyN l b (-1)
theorem indexK_any (l : List Nat) (n m : Nat) (hln : l.length = n) (hn : n <= 1000000) (hlt : ∀ i ∈ l, i < m) (a : Option Addr) (cap : Nat) (v : Value) (b : Nat -> Bool) (w : World) (hr : IntsAt (fun g => g < w.heap.size) w a l) (hv : TellK w v b m) :
  Calls Try.prog 103 #[.slice a n cap, v] w fun e w' => ∃ z, ZanyN l b z /\ e = .returned (.int .i64 z) /\ Kept (fun k => k < w.heap.size) w w' := by
 obtain ⟨f, caps, rfl, he, hc⟩ := hv
 have HR : Hid (IntsAt (fun g => g < w.heap.size) w a l) := hr
 have HC : Hid (∀ i, i < m -> ∀ X, Kept (fun k => k < w.heap.size) w X -> Calls Try.prog f (#[.int .i64 (i : Int)] ++ caps) X fun e Y => e = .returned (.bool (b i)) /\ Kept (fun k => k < X.heap.size) X Y) := hc
 have HL : Hid (l.length = n) := hln
 have HLT : Hid (∀ i ∈ l, i < m) := hlt
 clear hr hc hln hlt
 go_enter Try.func103, Try.ntmps103
 go_upto_region 2 with fail
 go_loopg [8] n (fun gh s wr => ∃ j : Nat, gh = n - j /\ j <= n /\ s = .int .i64 (j : Int) /\ (l.take j).any b = false /\ Kept (fun k => k < w.heap.size) w wr)
 case atStart => exact ⟨0, rfl, Nat.zero_le _, rfl, rfl, Kept.refl _ _⟩
 case round =>
  obtain ⟨j, hgj, hj, rfl, hno, hK⟩ := hrel
  have HNO : Hid ((l.take j).any b = false) := hno
  clear hno
  by_cases hlt : j < n
  ·have hl : j < l.length := by rw [HL.out]; exact hlt
   obtain ⟨g, o, rfl, hg, d⟩ := HR.out j hl
   have d' : wr.cell? ⟨g, o + j, none⟩ = some (.int .i64 (l[j] : Int)) := (hK.cell (p := ⟨g, o + j, none⟩) hg).trans d
   have hx := HLT.out l[j] (List.getElem_mem hl)
   have htk : l.take (j + 1) = l.take j ++ [l[j]] := List.take_succ_eq_append_getElem hl
   have hmem := List.getElem_mem hl
   obtain ⟨x, hxe⟩ : ∃ x, l[j] = x := ⟨_, rfl⟩
   rw [hxe] at d' hx htk hmem
   have r := HC.out x hx wr hK
   obtain ⟨t, ht⟩ : ∃ t, b x = t := ⟨_, rfl⟩
   rw [ht] at r
   have HT : Hid (b x = t) := ht
   have HMEM : Hid (x ∈ l) := hmem
   have HTK : Hid (l.take (j + 1) = l.take j ++ [x]) := htk
   have HRR : Hid (Calls Try.prog f (#[.int .i64 (x : Int)] ++ caps) wr fun e Y => e = .returned (.bool t) /\ Kept (fun k => k < wr.heap.size) wr Y) := r
   have HK : Hid (Kept (fun k => k < w.heap.size) w wr) := hK
   clear d hx htk hxe r ht hK hmem
   go_wp2_with fail
   refine HRR.out.mono ?_
   rintro e w2 ⟨rfl, hk2⟩
   have HK2 : Hid (Kept (fun k => k < w.heap.size) w w2) := HK.out.trans (hk2.mono fun k h => Nat.lt_of_lt_of_le h HK.out.size)
   clear HRR d' hk2 he
   cases t with
   | false =>
    go_wp2
    go_roundg (n - (j + 1))
    case rel => exact ⟨j + 1, rfl, by omega, by go_num, by rw [HTK.out, List.any_append, HNO.out]; simp [HT.out], HK2.out⟩
    case measure => omega
   | true =>
    go_wp2
    go_ret
    exact ⟨_, .yes j (List.any_eq_true.2 ⟨x, HMEM.out, HT.out⟩), rfl, HK2.out⟩
  ·have hjn : n = j := by omega
   subst hjn
   have HK : Hid (Kept (fun k => k < w.heap.size) w wr) := hK
   clear he hK
   go_wp2
   go_ret
   exact ⟨_, .no (by have := HNO.out; rw [List.take_of_length_le (by rw [HL.out]; exact Nat.le_refl _)] at this; exact this), rfl, HK.out⟩
theorem containsK_any (l : List Nat) (n m : Nat) (hln : l.length = n) (hn : n <= 1000000) (hlt : ∀ i ∈ l, i < m) (a : Option Addr) (cap : Nat) (v : Value) (b : Nat -> Bool) (w : World) (hr : IntsAt (fun g => g < w.heap.size) w a l) (hv : TellK w v b m) :
  Calls Try.prog 81 #[.slice a n cap, v] w fun e w' => e = .returned (.bool (l.any b)) /\ Kept (fun k => k < w.heap.size) w w' := by
 have r := indexK_any l n m hln hn hlt a cap v b w hr hv
 obtain ⟨q, hq⟩ : ∃ q, l.any b = q := ⟨_, rfl⟩
 have HQ : Hid (l.any b = q) := hq
 rw [hq]
 obtain ⟨f, caps, rfl, -, -⟩ := hv
 clear hr hq hln hlt
 go_enter Try.func81, Try.ntmps81
 go_wp2_with fail
 refine r.mono ?_
 rintro e w2 ⟨z, hz, rfl, hk⟩
 clear r
 cases hz with
 | yes k e =>
  have e0 : decide ((k : Int) >= 0) = true := decide_eq_true (by omega)
  have HE : Hid (q = true) := HQ.out.symm.trans e
  go_wp2
  go_ret
  exact ⟨by rw [HE.out]; rfl, hk⟩
 | no e =>
  have e0 : decide ((-1 : Int) >= 0) = false := by decide
  have HE : Hid (q = false) := HQ.out.symm.trans e
  go_wp2
  go_ret
  exact ⟨by rw [HE.out]; rfl, hk⟩
theorem fstO_cons (P : Nat -> Bool) (x : Nat) (l : List Nat) : fstO P (x :: l) = if P x = true then (x : Int) else fstO P l := by
 unfold fstO
 rw [List.find?_cons]
 cases P x <;> rfl
theorem fstO_append (P : Nat -> Bool) (l r : List Nat) : fstO P (l ++ r) = if fstO P l = -1 then fstO P r else fstO P l := by
 induction l with
 | nil => rw [List.nil_append, if_pos (show fstO P [] = -1 from rfl)]
 | cons x l ih =>
  rw [List.cons_append, fstO_cons, fstO_cons, ih]
  cases P x with
  | true => simp
  | false => simp
theorem first_in (K : Nat -> Prop) (p : Nat) (M : Dm) (R : Nat -> List Nat) (rk : Nat -> Nat) (P : Nd -> Int -> Bool) (v : Value) (w0 : World) (hd : DX K w0 p M) (hG : Good M R rk) (hn : M.n <= 100000) (ha : AskN w0 v P) :
  ∀ (d i : Nat), dn M.n rk i < d -> i < M.n -> ∀ X, Kept (fun k => k < w0.heap.size) w0 X ->
   Calls Try.prog 36 #[.pointer (some ⟨p, 0, none⟩), .int .i64 (i : Int), v] X fun e w' => e = .returned (.int .i64 (fstO (fun k => P (M.nd k) (M.pl k).up) (tr M.n R i))) /\ Kept (fun k => k < X.heap.size) X w' := by
 intro d
 induction d with
 | zero => exact fun i h => absurd h (Nat.not_lt_zero _)
 | succ d ih =>
  intro i hdi hi X hX
  have rn := node_any K p i M R X (hd.kept hX) hG.wf hi (by omega) hG.few
  have HIH : Hid (∀ k, k ∈ R i -> ∀ Y, Kept (fun k => k < X.heap.size) X Y -> Calls Try.prog 36 #[.pointer (some ⟨p, 0, none⟩), .int .i64 (k : Int), v] Y fun e w' => e = .returned (.int .i64 (fstO (fun k => P (M.nd k) (M.pl k).up) (tr M.n R k))) /\ Kept (fun k => k < Y.heap.size) Y w') := fun k hk Y hY => by
   obtain ⟨h1, h2⟩ := hG.falls i hi k hk
   have := dn_lt h1 h2
   exact ih k (by omega) h1 Y (hX.trans (hY.mono fun k h => Nat.lt_of_lt_of_le h hX.size))
  have HA : Hid (AskN X v P) := ha.kept hX
  have HF : Hid ((M.nd i).attrs.length <= 1000) := hG.few i hi
  have HTR : Hid (tr M.n R i = i :: (R i).flatMap (tr M.n R)) := tr_eq hG.falls hi
  have HRL : Hid ((R i).length <= 100000) := Nat.le_trans (hG.wf.len_le hi) hn
  obtain ⟨P', hP'⟩ : ∃ P' : Nat -> Bool, (fun k => P (M.nd k) (M.pl k).up) = P' := ⟨_, rfl⟩
  have HPI : Hid (P (M.nd i) (M.pl i).up = P' i) := by rw [<- hP']; exact rfl
  rw [hP'] at HIH
  rw [hP', HTR.out]
  obtain ⟨Z, hZ⟩ : ∃ Z, fstO P' (i :: (R i).flatMap (tr M.n R)) = Z := ⟨_, rfl⟩
  have HZ : Hid (Z = if P' i = true then (i : Int) else fstO P' ((R i).flatMap (tr M.n R))) := by rw [<- hZ, fstO_cons]; exact rfl
  rw [hZ]
  obtain ⟨f, caps, rfl, he, -⟩ := ha
  clear ih hdi hd hG hX hP' hZ
  go_enter Try.func36, Try.ntmps36
  go_wp2_with fail
  refine rn.mono ?_
  rintro e v1 ⟨ao, ac, ko, kc, rfl, hO, hQ, hK⟩
  obtain ⟨V, N, hV, hN, hb, hk, -⟩ := alloc_box v1 (nV (M.nd i) ao ac (M.pl i).up ko (R i).length kc)  42
  have kXV : Kept (fun k => k < X.heap.size) X V := hK.trans (hk.mono fun k h => Nat.lt_of_lt_of_le h hK.size)
  have haV : AtsAt (fun k => k < V.heap.size) V ao (M.nd i).attrs := (hO.atsAt (K' := fun k => k < v1.heap.size) fun g hg => (OwnZ.out hO hg).2).kept hk fun k h => Nat.lt_of_lt_of_le h hk.size
  have hrow : IntsAt (fun g => g < V.heap.size) V ko (R i) := (hQ.intsAt (F := fun g => g < v1.heap.size) fun g hg => (hQ.out hg).2).to (fun g hg => Nat.lt_of_lt_of_le hg hk.size) (fun g hg => hk.block g hg)
  have c5 : V.cell? ⟨N, 5, none⟩ = some (.slice ko (R i).length kc) := by rw [cell_block hb]; rfl
  obtain ⟨f', caps', e', -, hc⟩ := HA.out
  injection e' with e1 e2 e3
  injection e1 with e1
  subst e1
  subst e3
  have r := hc (M.nd i) ao ac (M.pl i).up ko (R i).length kc V kXV HF.out haV
  rw [HPI.out] at r
  obtain ⟨cs, hcs⟩ : ∃ cs, nV (M.nd i) ao ac (M.pl i).up ko (R i).length kc = cs := ⟨_, rfl⟩
  have hcz : cs.size = 14 := by rw [<- hcs]; rfl
  have hcI := size41 cs hcz
  have HV : Hid (v1.alloc (.cells (nV (M.nd i) ao ac (M.pl i).up ko (R i).length kc) 42) = V) := hV
  have HN : Hid (v1.heap.size = N) := hN
  have HK : Hid (Kept (fun k => k < X.heap.size) X V) := kXV
  have HNV : Hid (N < V.heap.size) := lt_block hb
  have HROW : Hid (IntsAt (fun g => g < V.heap.size) V ko (R i)) := hrow
  rw [hcs] at r hb
  have HR : Hid (Calls Try.prog f (#[.agg cs] ++ caps) V fun e Y => e = .returned (.bool (P' i)) /\ Kept (fun k => k < V.heap.size) V Y) := r
  obtain ⟨kl, hkl⟩ : ∃ kl, (R i).length = kl := ⟨_, rfl⟩
  have HKL : Hid ((R i).length = kl) := hkl
  have hkl9 : kl <= 100000 := by rw [<- hkl]; exact HRL.out
  rw [hkl] at c5
  clear rn hO hQ hK hV hN hk kXV hc r hcs haV hrow hkl
  go_upto_region 2 with fail
  rw [HV.out, HN.out]
  clear HV HN
  go_wp2_with (refine wpList_load_row rfl 42 _ rfl N rfl 42 cs (0, 0) _ hb Try.underlying42 rfl hcI ?_)
  refine HR.out.mono ?_
  rintro e w2 ⟨rfl, hk2⟩
  have HK2 : Hid (Kept (fun k => k < X.heap.size) X w2) := HK.out.trans (hk2.mono fun k h => Nat.lt_of_lt_of_le h HK.out.size)
  have c5' : w2.cell? ⟨N, 5, none⟩ = some (.slice ko kl kc) := (hk2.cell (p := ⟨N, 5, none⟩) HNV.out).trans c5
  have HROW2 : Hid (IntsAt (fun g => g < w2.heap.size) w2 ko (R i)) := HROW.out.to (fun g hg => Nat.lt_of_lt_of_le hg hk2.size) (fun g hg => hk2.block g hg)
  obtain ⟨t, ht⟩ : ∃ t, P' i = t := ⟨_, rfl⟩
  rw [ht]
  have HT : Hid (P' i = t) := ht
  clear HR hk2 hb c5 HROW ht
  cases t with
  | true =>
   go_wp2
   go_ret
   exact ⟨by rw [HZ.out, if_pos HT.out]; rfl, HK2.out⟩
  | false =>
   go_upto_region 5 with fail
   go_loopg [25] kl (fun gh v25 wr => ∃ j : Nat, gh = kl - j /\ j <= kl /\ v25 = .int .i64 (j : Int) /\ fstO P' (((R i).take j).flatMap (tr M.n R)) = -1 /\ Kept (fun k => k < w2.heap.size) w2 wr)
   case atStart => exact ⟨0, rfl, Nat.zero_le _, rfl, rfl, Kept.refl _ _⟩
   case round =>
    obtain ⟨j, hgj, hj, rfl, hno, hKr⟩ := hrel
    have HNO : Hid (fstO P' (((R i).take j).flatMap (tr M.n R)) = -1) := hno
    have HKR : Hid (Kept (fun k => k < w2.heap.size) w2 wr) := hKr
    have HKX : Hid (Kept (fun k => k < X.heap.size) X wr) := HK2.out.trans (hKr.mono fun k h => Nat.lt_of_lt_of_le h HK2.out.size)
    clear hno
    by_cases hlt : j < kl
    ·have hl : j < (R i).length := by rw [HKL.out]; exact hlt
     obtain ⟨g, o, rfl, hg, dd⟩ := HROW2.out j hl
     have d' : wr.cell? ⟨g, o + j, none⟩ = some (.int .i64 ((R i)[j] : Int)) := (hKr.cell (p := ⟨g, o + j, none⟩) hg).trans dd
     have hs := fm_split (tr M.n R) (R i) j hl
     have hs2 := fm_succ (tr M.n R) (R i) j hl
     have hmem := List.getElem_mem hl
     obtain ⟨x, hx⟩ : ∃ x, (R i)[j] = x := ⟨_, rfl⟩
     rw [hx] at d' hs hs2 hmem
     have r := HIH.out x hmem wr HKX.out
     obtain ⟨z, hz⟩ : ∃ z, fstO P' (tr M.n R x) = z := ⟨_, rfl⟩
     rw [hz] at r
     have HS : Hid (fstO P' ((R i).flatMap (tr M.n R)) = if z = -1 then fstO P' (((R i).drop (j + 1)).flatMap (tr M.n R)) else z) := by rw [hs, fstO_append, if_pos HNO.out, fstO_append, hz]; exact rfl
     have HS2 : Hid (fstO P' (((R i).take (j + 1)).flatMap (tr M.n R)) = z) := by rw [hs2, fstO_append, if_pos HNO.out]; exact hz
     clear dd hs hs2 hx hmem hz hKr
     go_wp2_with fail
     refine r.mono ?_
     rintro e w3 ⟨rfl, hk3⟩
     have HK3 : Hid (Kept (fun k => k < w2.heap.size) w2 w3) := HKR.out.trans (hk3.mono fun k h => Nat.lt_of_lt_of_le h HKR.out.size)
     have HK3X : Hid (Kept (fun k => k < X.heap.size) X w3) := HKX.out.trans (hk3.mono fun k h => Nat.lt_of_lt_of_le h HKX.out.size)
     clear r hk3 d' he
     by_cases cz : z = -1
     ·subst cz
      go_wp2
      go_roundg (kl - (j + 1))
      case rel => exact ⟨j + 1, rfl, by omega, by go_num, HS2.out, HK3.out⟩
      case measure => omega
     ·have e1 : (z == -1) = false := by simpa using cz
      have e2 : (z != -1) = true := by simp [cz]
      have HCZ : Hid (¬ z = -1) := cz
      clear cz
      go_wp2
      go_ret
      exact ⟨by rw [HZ.out, if_neg (by rw [HT.out]; simp), HS.out, if_neg HCZ.out]; rfl, HK3X.out⟩
    ·have hjn : kl = j := by omega
     subst hjn
     have HE : Hid (fstO P' ((R i).flatMap (tr M.n R)) = -1) := by have := HNO.out; rw [List.take_of_length_le (by rw [HKL.out]; exact Nat.le_refl _)] at this; exact this
     clear hKr he
     go_wp2
     go_ret
     exact ⟨by rw [HZ.out, if_neg (by rw [HT.out]; simp), HE.out]; rfl, HKX.out⟩
end
end Go.Proofs.Ytljnjdckhkglfaa
