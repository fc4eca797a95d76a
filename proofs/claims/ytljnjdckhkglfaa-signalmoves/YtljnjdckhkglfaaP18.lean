/-
 order.kids, shadowAndKids; an append of a row of numbers.; order.visit: a node and all that follow it are handed out, in order, till one is enough.; order.from: what it hands back goes through a node and all that follow it.
-/
import Derived.Test.YtljnjdckhkglfaaP17
import Derived.Test.YtljnjdckhkglfaaP14
import Derived.Test.YtljnjdckhkglfaaP16
import Derived.Test.YtljnjdckhkglfaaP13
import Derived.RangeFuncNested
import Derived.RangeFuncBound
import Derived.RangeFuncCalls
import Derived.RangeFuncLeaves
import Derived.Shelf.Abstract
import Derived.Shelf.RegionOpen
import Derived.WalkKit
import Derived.OwnWalkIn
import Derived.TacticsInMore
import Derived.LoopNIn
import Derived.LoopIn
namespace Go.Proofs.Ytljnjdckhkglfaa
set_option linter.unusedVariables false
set_option maxRecDepth 100000
set_option maxHeartbeats 8000000
section
open Go.RowKit Go.Sort
theorem ivs_append (a b : List Nat) : ivs (a ++ b) = ivs a ++ ivs b := List.map_append
theorem app_ints {K F : Nat -> Prop} {w : World} {ao aa : Option Addr} {n cap m ac : Nat} {xs l : List Nat} (hO : OwnZ K w 3 1 ao n cap (ivs xs)) (hl : l.length = m) (ha : IntsAt F w aa l) (hK : ∀ k, K k -> k < w.heap.size) (hn : n <= 100000000) (hm : m <= 100000000) :
  ∃ ao' c' w', (Builtin.append_ #[34, 34] 34 #[.slice ao n cap, .slice aa m ac]).run Try.prog w = .ok (.slice ao' (n + m) c') w' /\ OwnZ K w' 3 1 ao' (n + m) c' (ivs (xs ++ l)) /\ Kept K w w' := by
 obtain ⟨i, hi, hip⟩ := Option.map_eq_some_iff.1 infoInt
 have hz : i.zero = _ := congrArg (·.1) hip
 have hsz : i.size = 1 := congrArg (·.2.1) hip
 have hby : i.bytes = 8 := congrArg (·.2.2) hip
 by_cases h0 : m = 0
 ·subst h0
  have hl0 : l = [] := List.eq_nil_of_length_eq_zero hl
  subst hl0
  have hs : Src Try.prog i.size 34 (.slice aa 0 ac) 0 [] w := by
   cases aa with
   | none => exact Src.ofNil w Try.underlying34 _
   | some a => exact Src.ofSlice w Try.underlying34 a 0 ac [] (by simp) (fun j u hj => by simp at hj) (fun u hu => by cases hu)
  exact ⟨ao, cap, w, run_append_nothing w 34 34 34 3 i Try.underlying34 hi ao n cap hO.2.1 _ hs, by rw [List.append_nil]; exact hO, Kept.refl _ _⟩
 ·obtain ⟨g, o, rfl, hg, hc⟩ := ha.cells (by omega)
  have hl2 : (ivs l).length = m * 1 := by rw [ivs, List.length_map, hl, Nat.mul_one]
  have hs : Src Try.prog 1 34 (.slice (some ⟨g, o, none⟩) m ac) m (ivs l) w := by
   refine Src.ofSlice w Try.underlying34 _ m ac (ivs l) (by rw [hl2]) (fun j u hj => ?_) (ivs_one l)
   rw [Addr.add_lit]
   exact hc j u hj
  obtain ⟨ao', c', w', hr, ho, hk⟩ := run_appM (P := Try.prog) (K := K) w 34 34 34 3 i _ Try.underlying34 hi hz 1 hsz rfl (by omega) hO _ m (by omega) hm _ hs hK (by omega)
  exact ⟨ao', c', w', hr, by rw [ivs_append]; exact ho, hk⟩
def FoOk (fo : Nat) (M : Dm) (R Fw : Nat -> List Nat) : Prop := ∀ i, i < M.n -> ∀ ao ac up ko kc (P : Nat -> Prop) X, IntsAt (fun g => P g /\ g < X.heap.size) X ko (R i) -> (R i).length <= 100000 ->
 Calls Try.prog fo #[.agg (outN (M.nd i) ao ac up ko (R i).length kc)] X fun e w' => ∃ fa fc, e = .returned (.slice fa (Fw i).length fc) /\ IntsAt (fun g => (P g \/ X.heap.size <= g) /\ g < w'.heap.size) w' fa (Fw i) /\ Kept (fun k => k < X.heap.size) X w'
theorem kids_ok (M : Dm) (R : Nat -> List Nat) : FoOk 89 M R R := by
 intro i hi ao ac up ko kc P X hQ hl
 obtain ⟨V, hV⟩ : ∃ V, X.alloc (.cells (outN (M.nd i) ao ac up ko (R i).length kc) 42) = V := ⟨_, rfl⟩
 obtain ⟨N, hN⟩ : ∃ N, X.heap.size = N := ⟨_, rfl⟩
 have hb : V.heap[N]? = some (.cells (outN (M.nd i) ao ac up ko (R i).length kc) 42 (0, 0)) := by rw [<- hV, <- hN]; exact heap_alloc_new X _
 have c5 : V.cell? ⟨N, 5, none⟩ = some (.slice ko (R i).length kc) := by rw [cell_block hb]; rfl
 have hk : Kept (fun k => k < X.heap.size) X V := by rw [<- hV]; exact (Kept.refl _ X).alloc (fun _ h => h) _
 have HR : Hid (IntsAt (fun g => (P g \/ X.heap.size <= g) /\ g < V.heap.size) V ko (R i)) := hQ.to (fun g hg => ⟨.inl hg.1, Nat.lt_of_lt_of_le hg.2 hk.size⟩) (fun g hg => hk.block g hg.2)
 have HK : Hid (Kept (fun k => k < X.heap.size) X V) := hk
 have HV : Hid (X.alloc (.cells (outN (M.nd i) ao ac up ko (R i).length kc) 42) = V) := hV
 have HN : Hid (X.heap.size = N) := hN
 clear hV hN hb hk hQ
 go_enter Try.func89, Try.ntmps89
 go_upto_region 1 with fail
 rw [HV.out, HN.out]
 go_wp2
 go_ret
 exact ⟨ko, kc, rfl, HR.out, HK.out⟩
end
section
open Go.RowKit Go.Shelf
attribute [local go_sem] Oper.semAt_some
structure Kp (n₀ : Nat) (Mn : World -> Nat -> Prop) (W W' : World) : Prop where
 below : Below n₀ W W'
 cells : ∀ k o, W.heap[k]? = some o -> o.isCells = true -> ¬ Mn W k -> W'.heap[k]? = some o /\ ¬ Mn W' k
theorem Kp.trans {n₀ : Nat} {Mn : World -> Nat -> Prop} {A B C : World} (h : Kp n₀ Mn A B) (k : Kp n₀ Mn B C) : Kp n₀ Mn A C :=
 ⟨h.below.trans k.below, fun j o hj ho hn => k.cells j o (h.cells j o hj ho hn).1 ho (h.cells j o hj ho hn).2⟩
structure MnOk (n₀ : Nat) (Mn : World -> Nat -> Prop) (J : List Nat -> World -> Prop) : Prop where
 lo : ∀ pre W k, J pre W -> Mn W k -> n₀ <= k /\ k < W.heap.size
 new : ∀ pre W W', J pre W -> Kept (fun k => k < W.heap.size) W W' -> J pre W' /\ ∀ k, Mn W' k -> Mn W k
theorem Kp.of_kept {n₀ : Nat} {Mn : World -> Nat -> Prop} {J : List Nat -> World -> Prop} (hM : MnOk n₀ Mn J) {pre : List Nat} {W W' : World} (hJ : J pre W) (hn : n₀ <= W.heap.size) (hk : Kept (fun k => k < W.heap.size) W W') : Kp n₀ Mn W W' :=
 ⟨(hk.mono fun k h => Nat.lt_of_lt_of_le h hn).below, fun k o ho _ hm => ⟨(hk.block k (Array.getElem?_eq_some_iff.1 ho).1).trans ho, fun h => hm ((hM.new pre W W' hJ hk).2 k h)⟩⟩
theorem IntsAt.kp {n₀ : Nat} {Mn : World -> Nat -> Prop} {W W' : World} {fa : Option Addr} {l : List Nat} (h : IntsAt (fun g => ¬ Mn W g) W fa l) (hk : Kp n₀ Mn W W') : IntsAt (fun g => ¬ Mn W' g) W' fa l := fun j hj => by
 obtain ⟨g, o, h1, h2, h3⟩ := h j hj
 obtain ⟨ob, hb, hc⟩ := cells_of_cell h3
 obtain ⟨k1, k2⟩ := hk.cells g ob hb hc h2
 exact ⟨g, o, h1, k2, by rw [World.cell?_of_block (w := W) (a := ⟨g, o + j, none⟩) (k1.trans hb.symm)]; exact h3⟩
theorem wpIn_load_row {F : Fence} {n : Nat} {P : Program} {ops : Array Oper} {rest : List Oper} {o : Oper} {a : Act} {w : World} {Q : Exit -> Act -> World -> Prop} (hgd : o.guard = none) (ty : TypeId) (x : Operand) (ho : o.op = .load ty x)
  (g : Nat) (hx : a.eval x = .pointer (some ⟨g, 0, none⟩)) (t : TypeId) (cs : Array Value) (fr : Nat × Nat) (d : TypeDesc) (hg : w.heap[g]? = some (.cells cs t fr))
  (hu : P.underlying ty = some d) (hd : (match d with | .struct _ | .array _ _ => true | _ => false) = true) (hi : (P.info? ty).map (·.size) = some cs.size)
  (h : wpListIn F n P ops Q rest (a.put o.dst (.agg cs)) w) : wpListIn F n P ops Q (o :: rest) a w := by
 refine wpListIn_plain hgd fun K hK' => ?_
 unfold Oper.wpIn
 refine ⟨?_, ?_⟩
 ·simp [Oper.about, ho]
 ·rw [Oper.semAt_plain F _ _ (by rw [ho]; intro c hc'; cases hc')]
  simp only [execOp, ho, hx, Instr.loadAt, Instr.sureAddr, Sem.run_bind, Sem.run_pure, Result.andThen_ok, run_loadVar_row w g t ty cs fr d hg hu hd hi]
  exact hK' _ _ h
theorem IntsAt.inn {F : Nat -> Prop} {w : World} {ka : Option Addr} {l : List Nat} (h : IntsAt F w ka l) : IntsAt (fun g => F g /\ g < w.heap.size) w ka l := fun j hj => by
 obtain ⟨g, o, h1, h2, h3⟩ := h j hj
 obtain ⟨ob, hb, _⟩ := cells_of_cell h3
 exact ⟨g, o, h1, ⟨h2, (Array.getElem?_eq_some_iff.1 hb).1⟩, h3⟩
theorem fm_split (f : Nat -> List Nat) (l : List Nat) (j : Nat) (hj : j < l.length) : l.flatMap f = (l.take j).flatMap f ++ (f l[j] ++ (l.drop (j + 1)).flatMap f) := by
 have h : l = l.take j ++ (l[j] :: l.drop (j + 1)) := by rw [<- List.drop_eq_getElem_cons hj, List.take_append_drop]
 have h2 := congrArg (List.flatMap f) h
 rw [List.flatMap_append, List.flatMap_cons] at h2
 exact h2
theorem fm_succ (f : Nat -> List Nat) (l : List Nat) (j : Nat) (hj : j < l.length) : (l.take (j + 1)).flatMap f = (l.take j).flatMap f ++ f l[j] := by
 rw [List.take_succ_eq_append_getElem hj, List.flatMap_append, List.flatMap_singleton]
theorem wide_deep (k : Nat) : Fence.wide.depth.isSome = true -> 1 <= k := fun h => by cases h
theorem visit_in (K : Nat -> Prop) (p : Nat) (M : Dm) (R : Nat -> List Nat) (rk : Nat -> Nat) (w0 : World) (hd : DX K w0 p M) (hG : Good M R rk) (hn : M.n <= 100000) (Fw : Nat -> List Nat) (hF : Falls M.n Fw rk) (hFl : ∀ i, i < M.n -> (Fw i).length <= 200000) (fo : Nat) (hfo : FoOk fo M R Fw)
  (hen : ∀ (args : Array Value) (X : World), (callFunc fo args).run Try.prog X = .ok (.enter fo args) X) (l : Nat) (Mn : World -> Nat -> Prop) (J Jx : List Nat -> World -> Prop) (hM : MnOk w0.heap.size Mn J) (N : Nat)
  (hY : ∀ m pre (x : Nat) W, J pre W -> pre.length < N -> YieldAt Fence.wide m Try.prog l #[.int .i64 (x : Int)] W fun e W' =>
   (e = .returned (.bool true) /\ J (pre ++ [x]) W' /\ Kp w0.heap.size Mn W W') \/ (e = .returned (.bool false) /\ Jx (pre ++ [x]) W')) :
  ∀ (i : Nat), i < M.n -> ∀ (n : Nat) (pre : List Nat) (W : World), J pre W -> Kept (fun k => k < w0.heap.size) w0 W -> pre.length + (tr M.n Fw i).length <= N ->
   CallsIn Fence.wide n Try.prog 107 #[.pointer (some ⟨p, 0, none⟩), .int .i64 (i : Int), .func (.func fo) #[] #[], .func (.yield l) #[] #[]] W fun e W' =>
    (e = .returned (.bool true) /\ J (pre ++ tr M.n Fw i) W' /\ Kp w0.heap.size Mn W W') \/ (e = .returned (.bool false) /\ ∃ q, q <+: tr M.n Fw i /\ Jx (pre ++ q) W') := by
 suffices hmain : ∀ (d i : Nat), dn M.n rk i < d -> i < M.n -> ∀ (n : Nat) (pre : List Nat) (W : World), J pre W -> Kept (fun k => k < w0.heap.size) w0 W -> pre.length + (tr M.n Fw i).length <= N ->
   CallsIn Fence.wide n Try.prog 107 #[.pointer (some ⟨p, 0, none⟩), .int .i64 (i : Int), .func (.func fo) #[] #[], .func (.yield l) #[] #[]] W fun e W' =>
    (e = .returned (.bool true) /\ J (pre ++ tr M.n Fw i) W' /\ Kp w0.heap.size Mn W W') \/ (e = .returned (.bool false) /\ ∃ q, q <+: tr M.n Fw i /\ Jx (pre ++ q) W') from fun i hi => hmain _ i (Nat.lt_succ_self _) hi
 intro d
 induction d with
 | zero => exact fun i h => absurd h (Nat.not_lt_zero _)
 | succ d ih =>
  intro i hdi hi n pre W hJ hK hN
  have rn := node_any K p i M R W (hd.kept hK) hG.wf hi (by omega) hG.few
  refine callsIn_of_wp Try.func107 rfl trivial ?_ rfl
  simp only [Try.ntmps107, List.size_toArray, List.length_cons, List.length_nil, Nat.reduceAdd, Nat.reduceSub, Array.replicate_succ, Array.replicate_zero, List.push_toArray, List.append_toArray, List.nil_append, List.cons_append]
  gi_wp2_with fail
  refine ⟨trivial, wide_deep _, ?_⟩
  refine (callsIn_wide.2 rn).mono ?_
  rintro e v1 ⟨ao1, ac1, ko1, kc1, rfl, -, hQ1, hKa⟩
  obtain ⟨N1, hN1⟩ : ∃ N, v1.heap.size = N := ⟨_, rfl⟩
  obtain ⟨V1, hV1⟩ : ∃ V, v1.alloc (.cells (outN (M.nd i) ao1 ac1 (M.pl i).up ko1 (R i).length kc1) 42) = V := ⟨_, rfl⟩
  have kV1 : Kept (fun k => k < W.heap.size) W V1 := by rw [<- hV1]; exact hKa.alloc (fun k h => Nat.lt_of_lt_of_le h hKa.size) _
  have hb1 : V1.heap[N1]? = some (.cells (outN (M.nd i) ao1 ac1 (M.pl i).up ko1 (R i).length kc1) 42 (0, 0)) := by rw [<- hV1, <- hN1]; exact heap_alloc_new v1 _
  have hJ1 := (hM.new pre W V1 hJ kV1).1
  have HV1 : Hid (v1.alloc (.cells (outN (M.nd i) ao1 ac1 (M.pl i).up ko1 (R i).length kc1) 42) = V1) := hV1
  have HN1 : Hid (v1.heap.size = N1) := hN1
  obtain ⟨fn, tmps, assign, body, hy, hR⟩ := hY (n - 1) pre i V1 hJ1 (by rw [tr_eq hF hi] at hN; simp at hN; omega)
  clear rn hV1 hN1
  gi_wp2_with (rw [HV1.out])
  rw [HN1.out]
  refine ⟨wide_deep _, ?_⟩
  refine hR.mono ?_
  clear hR
  rintro e W2 (⟨rfl, hJ2, hk2⟩ | ⟨rfl, hx2⟩)
  ·have hnm : ¬ Mn V1 N1 := fun h => by
    have h1 := (hM.new pre W V1 hJ kV1).2 N1 h
    have h2 := (hM.lo pre W N1 hJ h1).2
    have h3 := hKa.size
    rw [HN1.out] at h3
    omega
   have hb2 := (hk2.cells N1 _ hb1 rfl hnm).1
   have hKp1 : Kp w0.heap.size Mn W V1 := Kp.of_kept hM hJ hK.size kV1
   obtain ⟨cs, hcs⟩ : ∃ cs, outN (M.nd i) ao1 ac1 (M.pl i).up ko1 (R i).length kc1 = cs := ⟨_, rfl⟩
   have hcz : cs.size = 14 := by rw [<- hcs]; rfl
   have hcI : (Try.prog.info? 42).map (·.size) = some cs.size := by rw [hcz]; exact info36
   have HCS : Hid (outN (M.nd i) ao1 ac1 (M.pl i).up ko1 (R i).length kc1 = cs) := hcs
   rw [hcs] at hb2
   have hrow : IntsAt (fun g => ¬ Mn W2 g) W2 ko1 (R i) := by
    have h1 : IntsAt (fun g => W.heap.size <= g /\ g < v1.heap.size) v1 ko1 (R i) := hQ1.intsAt fun g hg => ⟨Nat.le_of_not_lt (hQ1.out hg).1, (hQ1.out hg).2⟩
    have h2 : IntsAt (fun g => ¬ Mn V1 g) V1 ko1 (R i) := h1.to (fun g hg hh => by
     have q1 := (hM.new pre W V1 hJ kV1).2 g hh
     have q2 := (hM.lo pre W g hJ q1).2
     omega) (fun g hg => by rw [<- HV1.out]; exact Below.heap_alloc _ _ _ hg.2)
    exact h2.kp hk2
   have rfo := hfo i hi ao1 ac1 (M.pl i).up ko1 kc1 (fun g => ¬ Mn W2 g) W2 hrow.inn (by have := hG.wf.len_le hi; omega)
   rw [hcs] at rfo
   clear hb1 hQ1 hKa hnm hrow hcs hJ1 hy
   gi_wp2_with (refine wpIn_load_row rfl 42 _ rfl N1 rfl 42 cs (0, 0) _ hb2 Try.underlying42 rfl hcI ?_)
   refine ⟨trivial, wide_deep _, ?_⟩
   refine (callsIn_wide.2 rfo).mono ?_
   rintro e W3 ⟨fa, fc, rfl, hrow3, hk3⟩
   have hJ3 := (hM.new _ W2 W3 hJ2 hk3).1
   have hr3 : IntsAt (fun g => ¬ Mn W3 g) W3 fa (Fw i) := hrow3.to (fun g hg hh => by
    have q1 := (hM.new _ W2 W3 hJ2 hk3).2 g hh
    rcases hg.1 with q | q
    ·exact q q1
    ·have q2 := (hM.lo _ W2 g hJ2 q1).2
     omega) (fun _ _ => rfl)
   have hn2 : w0.heap.size <= W2.heap.size := Nat.le_trans hK.size (Nat.le_trans kV1.size hk2.below.size)
   have hKp3 : Kp w0.heap.size Mn W W3 := (hKp1.trans hk2).trans (Kp.of_kept hM hJ2 hn2 hk3)
   have HK3 : Hid (Kept (fun k => k < w0.heap.size) w0 W3 /\ Kp w0.heap.size Mn W W3) := ⟨hK.trans (Below.kept hKp3.below), hKp3⟩
   have HR3 : Hid (IntsAt (fun g => ¬ Mn W3 g) W3 fa (Fw i)) := hr3
   obtain ⟨ln, hln⟩ : ∃ ln, (Fw i).length = ln := ⟨_, rfl⟩
   have HLN : Hid ((Fw i).length = ln) := hln
   have hlnb : ln <= 200000 := by rw [<- hln]; exact hFl i hi
   rw [hln]
   clear rfo hrow3 hk3 hr3 hKp3 hKp1 hk2 hb2 hln kV1
   gi_wp2_with fail
   have HN : Hid (pre.length + (tr M.n Fw i).length <= N) := hN
   have HTR : Hid (tr M.n Fw i = i :: (Fw i).flatMap (tr M.n Fw)) := tr_eq hF hi
   have HJ3 : Hid (J (pre ++ [i]) W3) := hJ3
   have HIH : Hid (∀ k, k ∈ Fw i -> ∀ (n : Nat) (pre : List Nat) (W : World), J pre W -> Kept (fun k => k < w0.heap.size) w0 W -> pre.length + (tr M.n Fw k).length <= N ->
    CallsIn Fence.wide n Try.prog 107 #[.pointer (some ⟨p, 0, none⟩), .int .i64 (k : Int), .func (.func fo) #[] #[], .func (.yield l) #[] #[]] W fun e W' =>
     (e = .returned (.bool true) /\ J (pre ++ tr M.n Fw k) W' /\ Kp w0.heap.size Mn W W') \/ (e = .returned (.bool false) /\ ∃ q, q <+: tr M.n Fw k /\ Jx (pre ++ q) W')) := fun k hk => by
    obtain ⟨h1, h2⟩ := hF i hi k hk
    have := dn_lt h1 h2
    exact ih k (by omega) h1
   clear hJ3 hN ih hY hfo hen hJ2 hJ hK hn2 hM hF hd hG hFl
   gi_loopw [12, 29, 30, 31, 32, 33, 34, 35, 36, 37, 38, 39] (fun _ v _ _ _ _ _ _ _ _ _ _ wr => ∃ j : Nat, j <= ln /\ v = .int .i64 (j : Int) /\ J (pre ++ i :: ((Fw i).take j).flatMap (tr M.n Fw)) wr /\ Kept (fun k => k < w0.heap.size) w0 wr /\ Kp w0.heap.size Mn W wr /\ IntsAt (fun g => ¬ Mn wr g) wr fa (Fw i)) (fun _ v _ _ _ _ _ _ _ _ _ _ _ => ln - (intOf v).toNat)
   case atStart => exact ⟨0, Nat.zero_le _, rfl, by simpa using HJ3.out, HK3.out.1, HK3.out.2, HR3.out⟩
   case round =>
    obtain ⟨j, hj, rfl, hJj, hKj, hKpj, hrj⟩ := hrel
    by_cases hlt : j < ln
    ·have hjl : j < (Fw i).length := by rw [HLN.out]; exact hlt
     obtain ⟨g, o, rfl, -, hc⟩ := hrj j hjl
     have hs := fm_split (tr M.n Fw) (Fw i) j hjl
     have hs2 := fm_succ (tr M.n Fw) (Fw i) j hjl
     have hmem := List.getElem_mem hjl
     obtain ⟨k, hk⟩ : ∃ k, (Fw i)[j] = k := ⟨_, rfl⟩
     rw [hk] at hc hs hs2 hmem
     have hlen : (pre ++ i :: ((Fw i).take j).flatMap (tr M.n Fw)).length + (tr M.n Fw k).length <= N := by
      have := HN.out
      rw [HTR.out, hs] at this
      simp only [List.length_append, List.length_cons] at this ⊢
      omega
     have rv := HIH.out k hmem (n - 1) _ wr hJj hKj hlen
     have HS2 : Hid ((List.take (j + 1) (Fw i)).flatMap (tr M.n Fw) = (List.take j (Fw i)).flatMap (tr M.n Fw) ++ tr M.n Fw k) := hs2
     have HS : Hid ((Fw i).flatMap (tr M.n Fw) = (List.take j (Fw i)).flatMap (tr M.n Fw) ++ (tr M.n Fw k ++ (List.drop (j + 1) (Fw i)).flatMap (tr M.n Fw))) := hs
     have hc' : wr.cell? ⟨g, o + j, none⟩ = some (.int .i64 (k : Int)) := hc
     have HRJ : Hid (IntsAt (fun g => ¬ Mn wr g) wr (some ⟨g, o, none⟩) (Fw i)) := hrj
     have HKJ : Hid (Kept (fun k => k < w0.heap.size) w0 wr /\ Kp w0.heap.size Mn W wr) := ⟨hKj, hKpj⟩
     clear hs hs2 hk hlen hc hJj hKj hKpj hrj hmem
     gi_wp2_with fail
     refine ⟨trivial, wide_deep _, ?_⟩
     refine rv.mono ?_
     clear rv
     rintro e W4 (⟨rfl, hJ4, hk4⟩ | ⟨rfl, q, hq, hx4⟩)
     ·gi_wp2
      go_roundw
      case rel => exact ⟨j + 1, by omega, by go_num, by rw [HS2.out, <- List.cons_append, <- List.append_assoc]; exact hJ4, HKJ.out.1.trans (Below.kept hk4.below), HKJ.out.2.trans hk4, HRJ.out.kp hk4⟩
      case measure => simp [intOf]; omega
     ·gi_wp2
      go_ret
      refine .inr ⟨rfl, i :: ((Fw i).take j).flatMap (tr M.n Fw) ++ q, ?_, by rw [<- List.append_assoc]; exact hx4⟩
      obtain ⟨t, ht⟩ := hq
      refine ⟨t ++ (List.drop (j + 1) (Fw i)).flatMap (tr M.n Fw), ?_⟩
      rw [HTR.out, HS.out, <- ht]
      simp
    ·have hjn : ln = j := by omega
     subst hjn
     have HJJ : Hid (J (pre ++ tr M.n Fw i) wr /\ Kp w0.heap.size Mn W wr) := ⟨by
      rw [List.take_of_length_le (by rw [HLN.out]; exact Nat.le_refl _)] at hJj
      rw [HTR.out]
      exact hJj, hKpj⟩
     clear hJj hKj hKpj hrj
     gi_wp2
     go_ret
     exact .inl ⟨rfl, HJJ.out.1, HJJ.out.2⟩
  ·gi_wp2
   go_ret
   exact .inr ⟨rfl, [i], by rw [tr_eq hF hi]; exact ⟨_, rfl⟩, hx2⟩
end
section
open Go.RowKit Go.Shelf
attribute [local go_sem] Oper.semAt_some
theorem visit_none (K : Nat -> Prop) (p : Nat) (M : Dm) (i : Int) (fv yv : Value) (W : World) (h : DX K W p M) (hi : i < 0 \/ (M.n : Int) <= i) (hn : M.n <= 1000000) :
  Calls Try.prog 107 #[.pointer (some ⟨p, 0, none⟩), .int .i64 i, fv, yv] W fun e w' => e = .returned (.bool true) /\ Kept (fun k => k < W.heap.size) W w' := by
 have r1 := node_none K p M i W h hi hn
 clear h hi
 go_enter Try.func107, Try.ntmps107
 go_wp2_with fail
 refine r1.mono ?_
 rintro e v1 ⟨rfl, hK1⟩
 have HK : Hid (∀ o, Kept (fun k => k < W.heap.size) W (v1.alloc o)) := fun o => hK1.alloc (fun k h => Nat.lt_of_lt_of_le h hK1.size) o
 clear r1 hK1
 go_wp2
 go_ret
 exact ⟨rfl, HK.out _⟩
def trI (n : Nat) (F : Nat -> List Nat) (i : Int) : List Nat := if i < 0 \/ (n : Int) <= i then [] else tr n F i.toNat
theorem trI_in {n : Nat} {F : Nat -> List Nat} {i : Nat} (h : i < n) : trI n F (i : Int) = tr n F i := by unfold trI; rw [if_neg (by omega), Int.toNat_natCast]
theorem trI_no {n : Nat} {F : Nat -> List Nat} {i : Int} (h : i < 0 \/ (n : Int) <= i) : trI n F i = [] := if_pos h
theorem from_any (p fo : Nat) (i : Int) (w : World) :
  Calls Try.prog 88 #[.pointer (some ⟨p, 0, none⟩), .int .i64 i, .func (.func fo) #[] #[]] w fun e w' => e = .returned (.func (.func 106) #[] #[.pointer (some ⟨w.heap.size, 0, none⟩), .pointer (some ⟨w.heap.size + 1, 0, none⟩), .pointer (some ⟨w.heap.size + 2, 0, none⟩)]) /\ w' = ((w.alloc (.cells #[.pointer (some ⟨p, 0, none⟩)] 24)).alloc (.cells #[.int .i64 i] 3)).alloc (.cells #[.func (.func fo) #[] #[]] 129) := by
 go_enter Try.func88, Try.ntmps88
 go_wp2
 go_ret
 exact ⟨rfl, rfl⟩
structure Mine (n₀ : Nat) (Sn : World -> Prop) (Mn : World -> Nat -> Prop) : Prop where
 lo : ∀ W k, Sn W -> Mn W k -> n₀ <= k /\ k < W.heap.size
 new : ∀ W W', Sn W -> Kept (fun k => k < W.heap.size) W W' -> Sn W' /\ ∀ k, Mn W' k -> Mn W k
def KpS (n₀ : Nat) (Sn : World -> Prop) (Mn : World -> Nat -> Prop) (W W' : World) : Prop := Kp n₀ Mn W W' /\ (Sn W -> Sn W')
theorem kept_grown {W W' : World} (h : Kept (fun k => k < W.heap.size) W W') : W.grownBy W' none := ⟨h.os, h.tape, h.output, h.size, fun k hk _ => h.block k hk⟩
theorem from_stops (K : Nat -> Prop) (p : Nat) (M : Dm) (R : Nat -> List Nat) (rk : Nat -> Nat) (w0 : World) (hd : DX K w0 p M) (hG : Good M R rk) (hn : M.n <= 100000) (Fw : Nat -> List Nat) (hF : Falls M.n Fw rk) (hFl : ∀ i, i < M.n -> (Fw i).length <= 200000) (fo : Nat) (hfo : FoOk fo M R Fw)
  (hen : ∀ (args : Array Value) (X : World), (callFunc fo args).run Try.prog X = .ok (.enter fo args) X) (i : Int) (n : Nat) (b0 b1 b2 : Nat) (w : World) (hw : Kept (fun k => k < w0.heap.size) w0 w) (Sn : World -> Prop) (Mn : World -> Nat -> Prop) (hM : Mine w0.heap.size Sn Mn) (hS : ∀ W, Below w.heap.size w W -> Sn W)
  (c0 : w.cell? ⟨b0, 0, none⟩ = some (.pointer (some ⟨p, 0, none⟩))) (c1 : w.cell? ⟨b1, 0, none⟩ = some (.int .i64 i)) (c2 : w.cell? ⟨b2, 0, none⟩ = some (.func (.func fo) #[] #[])) (l0 : b0 < w.heap.size) (l1 : b1 < w.heap.size) (l2 : b2 < w.heap.size) :
  SeqStopsK Fence.wide n Try.prog 106 #[.pointer (some ⟨b0, 0, none⟩), .pointer (some ⟨b1, 0, none⟩), .pointer (some ⟨b2, 0, none⟩)] (fun x : Nat => #[Value.int .i64 (x : Int)]) (KpS w0.heap.size Sn Mn) (fun ys => ys = trI M.n Fw i) (fun pre => pre <+: trI M.n Fw i) (trI M.n Fw i).length w := fun l J Jx W hW hJ _ hY h0 => by
 have a0 : W.cell? ⟨b0, 0, none⟩ = some (.pointer (some ⟨p, 0, none⟩)) := (hW.cell (p := ⟨b0, 0, none⟩) l0).trans c0
 have a1 : W.cell? ⟨b1, 0, none⟩ = some (.int .i64 i) := (hW.cell (p := ⟨b1, 0, none⟩) l1).trans c1
 have a2 : W.cell? ⟨b2, 0, none⟩ = some (.func (.func fo) #[] #[]) := (hW.cell (p := ⟨b2, 0, none⟩) l2).trans c2
 have hkW : Kept (fun k => k < w0.heap.size) w0 W := hw.trans ((Below.kept hW).mono fun k h => Nat.lt_of_lt_of_le h hw.size)
 have hsW := hS W hW
 by_cases hno : i < 0 \/ (M.n : Int) <= i
 ·have rv := visit_none K p M i (.func (.func fo) #[] #[]) (.func (.yield l) #[] #[]) W (hd.kept hkW) hno (by omega)
  refine callsIn_of_wp Try.func106 rfl trivial ?_ rfl
  simp only [Try.ntmps106, List.size_toArray, List.length_cons, List.length_nil, Nat.reduceAdd, Nat.reduceSub, Array.replicate_succ, Array.replicate_zero, List.push_toArray, List.append_toArray, List.nil_append, List.cons_append]
  gi_wp2_with fail
  refine ⟨trivial, wide_deep _, ?_⟩
  refine (callsIn_wide.2 rv).mono ?_
  rintro e W1 ⟨rfl, hk1⟩
  have hJ1 : J [] W1 := hJ [] W W1 none h0 (kept_grown hk1) (fun r e => by cases e)
  gi_wp2
  go_end0
  exact ⟨⟨_, rfl⟩, .inl ⟨[], by rw [trI_no hno], hJ1⟩⟩
 ·obtain ⟨k, hk, rfl⟩ : ∃ k : Nat, k < M.n /\ i = (k : Int) := ⟨i.toNat, by omega, by omega⟩
  rw [trI_in hk] at hY ⊢
  have rv := visit_in K p M R rk w0 hd hG hn Fw hF hFl fo hfo hen l Mn (fun pre W => J pre W /\ Sn W) Jx
   ⟨fun pre W k h hm => hM.lo W k h.2 hm, fun pre W W' h hk => ⟨⟨hJ pre W W' none h.1 (kept_grown hk) (fun r e => by cases e), (hM.new W W' h.2 hk).1⟩, (hM.new W W' h.2 hk).2⟩⟩ (tr M.n Fw k).length
   (fun m pre x W h hl => by
    have hy := hY pre x W h.1 hl
    obtain ⟨fn, tmps, assign, body, e1, hR⟩ := hy
    refine ⟨fn, tmps, assign, body, e1, ?_⟩
    have hR2 := hR.mono (R' := fun e W' => (e = .returned (.bool true) /\ (J (pre ++ [x]) W' /\ Sn W') /\ Kp w0.heap.size Mn W W') \/ (e = .returned (.bool false) /\ Jx (pre ++ [x]) W')) (fun e W' hh => by
     rcases hh with ⟨q1, q2, q3⟩ | q
     ·exact .inl ⟨q1, ⟨q2, q3.2 h.2⟩, q3.1⟩
     ·exact .inr q)
    exact ⟨hR2.1, fun c cs _ => hR2.2 c cs (room_wide _)⟩) k hk (n - 1) [] W ⟨h0, hsW⟩ hkW (by simp)
  refine callsIn_of_wp Try.func106 rfl trivial ?_ rfl
  simp only [Try.ntmps106, List.size_toArray, List.length_cons, List.length_nil, Nat.reduceAdd, Nat.reduceSub, Array.replicate_succ, Array.replicate_zero, List.push_toArray, List.append_toArray, List.nil_append, List.cons_append]
  gi_wp2_with fail
  refine ⟨trivial, wide_deep _, ?_⟩
  refine rv.mono ?_
  rintro e W1 (⟨rfl, hJ1, -⟩ | ⟨rfl, q, hq, hx⟩)
  ·gi_wp2
   go_end0
   exact ⟨⟨_, rfl⟩, .inl ⟨_, rfl, by simpa using hJ1.1⟩⟩
  ·gi_wp2
   go_end0
   exact ⟨⟨_, rfl⟩, .inr ⟨q, hq, by simpa using hx⟩⟩
end
end Go.Proofs.Ytljnjdckhkglfaa
