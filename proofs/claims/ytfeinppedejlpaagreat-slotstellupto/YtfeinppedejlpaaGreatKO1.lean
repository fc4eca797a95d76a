/-
  order.All: what it tells.
-/
import Derived.Test.YtfeinppedejlpaaGreatKW32
import Derived.Test.YtfeinppedejlpaaGreatKOa
import Derived.RangeFuncNested
import Derived.RangeFuncBound
import Derived.RangeFuncCalls
import Derived.RangeFuncLeaves
import Derived.Shelf.Abstract
import Derived.Shelf.RegionOpen
import Derived.WalkKit
import Derived.OwnWalkIn
import Derived.TacticsInMore
import Derived.LoopNIn
import Derived.LoopIn
import Derived.Laws.EntriesVeiled
namespace Go.Proofs.YtfeinppedejlpaaGreat
open Go.RowKit
set_option linter.unusedVariables false
abbrev zra (x : Nd) (ao : Option Addr) (ac : Nat) (up : Int) (ko : Option Addr) (kn kc : Nat) : Array Value := zku x.kind ⟨x.name.toArray⟩ ⟨x.data.toArray⟩ ao x.attrs.length ac up ko kn kc x.shadow x.host x.content x.fl
set_option linter.unusedVariables false
set_option maxRecDepth 100000
set_option maxHeartbeats 8000000
section
open Go.RowKit Go.Sort
def Zt7 (fo : Nat) (M : Dm) (R Fw : Nat -> List Nat) : Prop := ∀ i, i < M.n -> ∀ ao ac up ko kc (P : Nat -> Prop) X, Zad (fun g => P g /\ g < X.heap.size) X ko (R i) -> (R i).length <= 100000 ->
 Calls Tryz.prog fo #[.agg (zra (M.nd i) ao ac up ko (R i).length kc)] X fun e w' => ∃ fa fc, e = .returned (.slice fa (Fw i).length fc) /\ Zad (fun g => (P g \/ X.heap.size <= g) /\ g < w'.heap.size) w' fa (Fw i) /\ Kept (fun k => k < X.heap.size) X w'
theorem zsd (M : Dm) (R : Nat -> List Nat) : Zt7 164 M R R := by
 intro i hi ao ac up ko kc P X hQ hl
 obtain ⟨V, hV⟩ : ∃ V, X.alloc (.cells (zra (M.nd i) ao ac up ko (R i).length kc) 58) = V := ⟨_, rfl⟩
 obtain ⟨N, hN⟩ : ∃ N, X.heap.size = N := ⟨_, rfl⟩
 have hb : V.heap[N]? = some (.cells (zra (M.nd i) ao ac up ko (R i).length kc) 58 (0, 0)) := by rw [<- hV, <- hN]; exact heap_alloc_new X _
 have c5 : V.cell? ⟨N, 5, none⟩ = some (.slice ko (R i).length kc) := by rw [zaa hb]; rfl
 have hk : Kept (fun k => k < X.heap.size) X V := by rw [<- hV]; exact (Kept.refl _ X).alloc (fun _ h => h) _
 have HR : Hid (Zad (fun g => (P g \/ X.heap.size <= g) /\ g < V.heap.size) V ko (R i)) := hQ.to (fun g hg => ⟨.inl hg.1, ltl hg.2 hk.size⟩) (fun g hg => hk.block g hg.2)
 have HK : Hid (Kept (fun k => k < X.heap.size) X V) := hk
 have HV : Hid (X.alloc (.cells (zra (M.nd i) ao ac up ko (R i).length kc) 58) = V) := hV
 have HN : Hid (X.heap.size = N) := hN
 clear hV hN hb hk hQ
 go_enter Tryz.func164, Tryz.ntmps164
 go_upto_region 1 with fail
 rw [HV.out, HN.out]
 go_wp2
 go_ret
 exact ⟨ko, kc, rfl, HR.out, HK.out⟩
end
section
open Go.RowKit Go.Shelf
attribute [local go_sem] Oper.semAt_some
structure Kp (n₀ : Nat) (Mn : World -> Nat -> Prop) (W W' : World) : Prop where
 below : Below n₀ W W'
 cells : ∀ k o, W.heap[k]? = some o -> o.isCells = true -> ¬ Mn W k -> W'.heap[k]? = some o /\ ¬ Mn W' k
theorem Kp.trans {n₀ : Nat} {Mn : World -> Nat -> Prop} {A B C : World} (h : Kp n₀ Mn A B) (k : Kp n₀ Mn B C) : Kp n₀ Mn A C :=
 ⟨h.below.trans k.below, fun j o hj ho hn => k.cells j o (h.cells j o hj ho hn).1 ho (h.cells j o hj ho hn).2⟩
structure Zv2 (n₀ : Nat) (Mn : World -> Nat -> Prop) (J : List Nat -> World -> Prop) : Prop where
 lo : ∀ pre W k, J pre W -> Mn W k -> n₀ <= k /\ k < W.heap.size
 new : ∀ pre W W', J pre W -> Kept (fun k => k < W.heap.size) W W' -> J pre W' /\ ∀ k, Mn W' k -> Mn W k
theorem Kp.of_kept {n₀ : Nat} {Mn : World -> Nat -> Prop} {J : List Nat -> World -> Prop} (hM : Zv2 n₀ Mn J) {pre : List Nat} {W W' : World} (hJ : J pre W) (hn : n₀ <= W.heap.size) (hk : Kept (fun k => k < W.heap.size) W W') : Kp n₀ Mn W W' :=
 ⟨(hk.mono fun k h => ltl h hn).below, fun k o ho _ hm => ⟨(hk.block k (Array.getElem?_eq_some_iff.1 ho).1).trans ho, fun h => hm ((hM.new pre W W' hJ hk).2 k h)⟩⟩
theorem Zad.kp {n₀ : Nat} {Mn : World -> Nat -> Prop} {W W' : World} {fa : Option Addr} {l : List Nat} (h : Zad (fun g => ¬ Mn W g) W fa l) (hk : Kp n₀ Mn W W') : Zad (fun g => ¬ Mn W' g) W' fa l := fun j hj => by
 obtain ⟨g, o, h1, h2, h3⟩ := h j hj
 obtain ⟨ob, hb, hc⟩ := cells_of_cell h3
 obtain ⟨k1, k2⟩ := hk.cells g ob hb hc h2
 exact ⟨g, o, h1, k2, by rw [World.cell?_of_block (w := W) (a := ⟨g, o + j, none⟩) (k1.trans hb.symm)]; exact h3⟩
theorem zim {F : Fence} {n : Nat} {P : Program} {ops : Array Oper} {rest : List Oper} {o : Oper} {a : Act} {w : World} {Q : Exit -> Act -> World -> Prop} (hgd : o.guard = none) (ty : TypeId) (x : Operand) (ho : o.op = .load ty x)
  (g : Nat) (hx : a.eval x = .pointer (some ⟨g, 0, none⟩)) (t : TypeId) (cs : Array Value) (fr : Nat × Nat) (d : TypeDesc) (hg : w.heap[g]? = some (.cells cs t fr))
  (hu : P.underlying ty = some d) (hd : (match d with | .struct _ | .array _ _ => true | _ => false) = true) (hi : (P.info? ty).map (·.size) = some cs.size)
  (h : wpListIn F n P ops Q rest (a.put o.dst (.agg cs)) w) : wpListIn F n P ops Q (o :: rest) a w := by
 refine wpListIn_plain hgd fun K hK' => ?_
 unfold Oper.wpIn
 refine ⟨?_, ?_⟩
 ·simp [Oper.about, ho]
 ·rw [Oper.semAt_plain F _ _ (by rw [ho]; intro c hc'; cases hc')]
  simp only [execOp, ho, hx, Instr.loadAt, Instr.sureAddr, Sem.run_bind, Sem.run_pure, Result.andThen_ok, run_loadVar_row w g t ty cs fr d hg hu hd hi]
  exact hK' _ _ h
theorem Zad.inn {F : Nat -> Prop} {w : World} {ka : Option Addr} {l : List Nat} (h : Zad F w ka l) : Zad (fun g => F g /\ g < w.heap.size) w ka l := fun j hj => by
 obtain ⟨g, o, h1, h2, h3⟩ := h j hj
 obtain ⟨ob, hb, _⟩ := cells_of_cell h3
 exact ⟨g, o, h1, ⟨h2, (Array.getElem?_eq_some_iff.1 hb).1⟩, h3⟩
theorem zcw (k : Nat) : Fence.wide.depth.isSome = true -> 1 <= k := fun h => by cases h
theorem zp4 (K : Nat -> Prop) (p : Nat) (M : Dm) (R : Nat -> List Nat) (rk : Nat -> Nat) (w0 : World) (hd : DX K w0 p M) (hG : Good M R rk) (hn : M.n <= 100000) (Fw : Nat -> List Nat) (hF : Falls M.n Fw rk) (hFl : ∀ i, i < M.n -> (Fw i).length <= 200000) (fo : Nat) (hfo : Zt7 fo M R Fw)
  (hen : ∀ (args : Array Value) (X : World), (callFunc fo args).run Tryz.prog X = .ok (.enter fo args) X) (l : Nat) (Mn : World -> Nat -> Prop) (J Jx : List Nat -> World -> Prop) (hM : Zv2 w0.heap.size Mn J) (N : Nat)
  (hY : ∀ m pre (x : Nat) W, J pre W -> pre.length < N -> YieldAt Fence.wide m Tryz.prog l #[.int .i64 (x : Int)] W fun e W' =>
   (e = .returned (.bool true) /\ J (pre ++ [x]) W' /\ Kp w0.heap.size Mn W W') \/ (e = .returned (.bool false) /\ Jx (pre ++ [x]) W')) :
  ∀ (i : Nat), i < M.n -> ∀ (n : Nat) (pre : List Nat) (W : World), J pre W -> Kept (fun k => k < w0.heap.size) w0 W -> pre.length + (tr M.n Fw i).length <= N ->
   CallsIn Fence.wide n Tryz.prog 232 #[.pointer (some ⟨p, 0, none⟩), .int .i64 (i : Int), .func (.func fo) #[] #[], .func (.yield l) #[] #[]] W fun e W' =>
    (e = .returned (.bool true) /\ J (pre ++ tr M.n Fw i) W' /\ Kp w0.heap.size Mn W W') \/ (e = .returned (.bool false) /\ ∃ q, q <+: tr M.n Fw i /\ Jx (pre ++ q) W') := by
 suffices hmain : ∀ (d i : Nat), dn M.n rk i < d -> i < M.n -> ∀ (n : Nat) (pre : List Nat) (W : World), J pre W -> Kept (fun k => k < w0.heap.size) w0 W -> pre.length + (tr M.n Fw i).length <= N ->
   CallsIn Fence.wide n Tryz.prog 232 #[.pointer (some ⟨p, 0, none⟩), .int .i64 (i : Int), .func (.func fo) #[] #[], .func (.yield l) #[] #[]] W fun e W' =>
    (e = .returned (.bool true) /\ J (pre ++ tr M.n Fw i) W' /\ Kp w0.heap.size Mn W W') \/ (e = .returned (.bool false) /\ ∃ q, q <+: tr M.n Fw i /\ Jx (pre ++ q) W') from fun i hi => hmain _ i (Nat.lt_succ_self _) hi
 intro d
 induction d with
 | zero => exact fun i h => absurd h (Nat.not_lt_zero _)
 | succ d ih =>
  intro i hdi hi n pre W hJ hK hN
  have rn := zc3 K p i M R W (hd.kept hK) hG.wf hi (by omega) hG.few
  refine callsIn_of_wp Tryz.func232 rfl trivial ?_ rfl
  simp only [Tryz.ntmps232, List.size_toArray, List.length_cons, List.length_nil, Nat.reduceAdd, Nat.reduceSub, Array.replicate_succ, Array.replicate_zero, List.push_toArray, List.append_toArray, List.nil_append, List.cons_append]
  gi_wp2_with fail
  refine ⟨trivial, zcw _, ?_⟩
  refine (callsIn_wide.2 rn).mono ?_
  rintro e v1 ⟨ao1, ac1, ko1, kc1, rfl, -, hQ1, hKa⟩
  obtain ⟨N1, hN1⟩ : ∃ N, v1.heap.size = N := ⟨_, rfl⟩
  obtain ⟨V1, hV1⟩ : ∃ V, v1.alloc (.cells (zra (M.nd i) ao1 ac1 (M.pl i).up ko1 (R i).length kc1) 58) = V := ⟨_, rfl⟩
  have kV1 : Kept (fun k => k < W.heap.size) W V1 := by rw [<- hV1]; exact hKa.alloc (fun k h => ltl h hKa.size) _
  have hb1 : V1.heap[N1]? = some (.cells (zra (M.nd i) ao1 ac1 (M.pl i).up ko1 (R i).length kc1) 58 (0, 0)) := by rw [<- hV1, <- hN1]; exact heap_alloc_new v1 _
  have hJ1 := (hM.new pre W V1 hJ kV1).1
  have HV1 : Hid (v1.alloc (.cells (zra (M.nd i) ao1 ac1 (M.pl i).up ko1 (R i).length kc1) 58) = V1) := hV1
  have HN1 : Hid (v1.heap.size = N1) := hN1
  obtain ⟨fn, tmps, assign, body, hy, hR⟩ := hY (n - 1) pre i V1 hJ1 (by rw [zcz hF hi] at hN; simp at hN; omega)
  clear rn hV1 hN1
  gi_wp2_with (rw [HV1.out])
  rw [HN1.out]
  refine ⟨zcw _, ?_⟩
  refine hR.mono ?_
  clear hR
  rintro e W2 (⟨rfl, hJ2, hk2⟩ | ⟨rfl, hx2⟩)
  ·have hnm : ¬ Mn V1 N1 := fun h => by
    have h1 := (hM.new pre W V1 hJ kV1).2 N1 h
    have h2 := (hM.lo pre W N1 hJ h1).2
    have h3 := hKa.size
    rw [HN1.out] at h3
    omega
   have hb2 := (hk2.cells N1 _ hb1 rfl hnm).1
   have hKp1 : Kp w0.heap.size Mn W V1 := Kp.of_kept hM hJ hK.size kV1
   obtain ⟨cs, hcs⟩ : ∃ cs, zra (M.nd i) ao1 ac1 (M.pl i).up ko1 (R i).length kc1 = cs := ⟨_, rfl⟩
   have hcz : cs.size = 14 := by rw [<- hcs]; rfl
   have hcI : (Tryz.prog.info? 58).map (·.size) = some cs.size := by rw [hcz]; exact zg0
   have HCS : Hid (zra (M.nd i) ao1 ac1 (M.pl i).up ko1 (R i).length kc1 = cs) := hcs
   rw [hcs] at hb2
   have hrow : Zad (fun g => ¬ Mn W2 g) W2 ko1 (R i) := by
    have h1 : Zad (fun g => W.heap.size <= g /\ g < v1.heap.size) v1 ko1 (R i) := hQ1.intsAt fun g hg => ⟨Nat.le_of_not_lt (hQ1.out hg).1, (hQ1.out hg).2⟩
    have h2 : Zad (fun g => ¬ Mn V1 g) V1 ko1 (R i) := h1.to (fun g hg hh => by
     have q1 := (hM.new pre W V1 hJ kV1).2 g hh
     have q2 := (hM.lo pre W g hJ q1).2
     omega) (fun g hg => by rw [<- HV1.out]; exact Below.heap_alloc _ _ _ hg.2)
    exact h2.kp hk2
   have rfo := hfo i hi ao1 ac1 (M.pl i).up ko1 kc1 (fun g => ¬ Mn W2 g) W2 hrow.inn (by have := hG.wf.len_le hi; omega)
   rw [hcs] at rfo
   clear hb1 hQ1 hKa hnm hrow hcs hJ1 hy
   gi_wp2_with (refine zim rfl 58 _ rfl N1 rfl 58 cs (0, 0) _ hb2 Tryz.underlying58 rfl hcI ?_)
   refine ⟨trivial, zcw _, ?_⟩
   refine (callsIn_wide.2 rfo).mono ?_
   rintro e W3 ⟨fa, fc, rfl, hrow3, hk3⟩
   have hJ3 := (hM.new _ W2 W3 hJ2 hk3).1
   have hr3 : Zad (fun g => ¬ Mn W3 g) W3 fa (Fw i) := hrow3.to (fun g hg hh => by
    have q1 := (hM.new _ W2 W3 hJ2 hk3).2 g hh
    rcases hg.1 with q | q
    ·exact q q1
    ·have q2 := (hM.lo _ W2 g hJ2 q1).2
     omega) (fun _ _ => rfl)
   have hn2 : w0.heap.size <= W2.heap.size := Nat.le_trans hK.size (Nat.le_trans kV1.size hk2.below.size)
   have hKp3 : Kp w0.heap.size Mn W W3 := (hKp1.trans hk2).trans (Kp.of_kept hM hJ2 hn2 hk3)
   have HK3 : Hid (Kept (fun k => k < w0.heap.size) w0 W3 /\ Kp w0.heap.size Mn W W3) := ⟨hK.trans (Below.kept hKp3.below), hKp3⟩
   have HR3 : Hid (Zad (fun g => ¬ Mn W3 g) W3 fa (Fw i)) := hr3
   obtain ⟨ln, hln⟩ : ∃ ln, (Fw i).length = ln := ⟨_, rfl⟩
   have HLN : Hid ((Fw i).length = ln) := hln
   have hlnb : ln <= 200000 := by rw [<- hln]; exact hFl i hi
   rw [hln]
   clear rfo hrow3 hk3 hr3 hKp3 hKp1 hk2 hb2 hln kV1
   gi_wp2_with fail
   have HN : Hid (pre.length + (tr M.n Fw i).length <= N) := hN
   have HTR : Hid (tr M.n Fw i = i :: (Fw i).flatMap (tr M.n Fw)) := zcz hF hi
   have HJ3 : Hid (J (pre ++ [i]) W3) := hJ3
   have HIH : Hid (∀ k, k ∈ Fw i -> ∀ (n : Nat) (pre : List Nat) (W : World), J pre W -> Kept (fun k => k < w0.heap.size) w0 W -> pre.length + (tr M.n Fw k).length <= N ->
    CallsIn Fence.wide n Tryz.prog 232 #[.pointer (some ⟨p, 0, none⟩), .int .i64 (k : Int), .func (.func fo) #[] #[], .func (.yield l) #[] #[]] W fun e W' =>
     (e = .returned (.bool true) /\ J (pre ++ tr M.n Fw k) W' /\ Kp w0.heap.size Mn W W') \/ (e = .returned (.bool false) /\ ∃ q, q <+: tr M.n Fw k /\ Jx (pre ++ q) W')) := fun k hk => by
    obtain ⟨h1, h2⟩ := hF i hi k hk
    have := zfh h1 h2
    exact ih k (by omega) h1
   clear hJ3 hN ih hY hfo hen hJ2 hJ hK hn2 hM hF hd hG hFl
   gi_loopw [12, 29, 30, 31, 32, 33, 34, 35, 36, 37, 38, 39] (fun _ v _ _ _ _ _ _ _ _ _ _ wr => ∃ j : Nat, j <= ln /\ v = .int .i64 (j : Int) /\ J (pre ++ i :: ((Fw i).take j).flatMap (tr M.n Fw)) wr /\ Kept (fun k => k < w0.heap.size) w0 wr /\ Kp w0.heap.size Mn W wr /\ Zad (fun g => ¬ Mn wr g) wr fa (Fw i)) (fun _ v _ _ _ _ _ _ _ _ _ _ _ => ln - (intOf v).toNat)
   case atStart => exact ⟨0, Nat.zero_le _, rfl, by simpa using HJ3.out, HK3.out.1, HK3.out.2, HR3.out⟩
   case round =>
    obtain ⟨j, hj, rfl, hJj, hKj, hKpj, hrj⟩ := hrel
    by_cases hlt : j < ln
    ·have hjl : j < (Fw i).length := by rw [HLN.out]; exact hlt
     obtain ⟨g, o, rfl, -, hc⟩ := hrj j hjl
     have hs := zf4 (tr M.n Fw) (Fw i) j hjl
     have hs2 := zh5 (tr M.n Fw) (Fw i) j hjl
     have hmem := List.getElem_mem hjl
     obtain ⟨k, hk⟩ : ∃ k, (Fw i)[j] = k := ⟨_, rfl⟩
     rw [hk] at hc hs hs2 hmem
     have hlen : (pre ++ i :: ((Fw i).take j).flatMap (tr M.n Fw)).length + (tr M.n Fw k).length <= N := by
      have := HN.out
      rw [HTR.out, hs] at this
      simp only [List.length_append, List.length_cons] at this ⊢
      omega
     have rv := HIH.out k hmem (n - 1) _ wr hJj hKj hlen
     have HS2 : Hid ((List.take (j + 1) (Fw i)).flatMap (tr M.n Fw) = (List.take j (Fw i)).flatMap (tr M.n Fw) ++ tr M.n Fw k) := hs2
     have HS : Hid ((Fw i).flatMap (tr M.n Fw) = (List.take j (Fw i)).flatMap (tr M.n Fw) ++ (tr M.n Fw k ++ (List.drop (j + 1) (Fw i)).flatMap (tr M.n Fw))) := hs
     have hc' : wr.cell? ⟨g, o + j, none⟩ = some (.int .i64 (k : Int)) := hc
     have HRJ : Hid (Zad (fun g => ¬ Mn wr g) wr (some ⟨g, o, none⟩) (Fw i)) := hrj
     have HKJ : Hid (Kept (fun k => k < w0.heap.size) w0 wr /\ Kp w0.heap.size Mn W wr) := ⟨hKj, hKpj⟩
     clear hs hs2 hk hlen hc hJj hKj hKpj hrj hmem
     gi_wp2_with fail
     refine ⟨trivial, zcw _, ?_⟩
     refine rv.mono ?_
     clear rv
     rintro e W4 (⟨rfl, hJ4, hk4⟩ | ⟨rfl, q, hq, hx4⟩)
     ·gi_wp2
      go_roundw
      case rel => exact ⟨j + 1, by omega, by go_num, by rw [HS2.out, <- List.cons_append, <- List.append_assoc]; exact hJ4, HKJ.out.1.trans (Below.kept hk4.below), HKJ.out.2.trans hk4, HRJ.out.kp hk4⟩
      case measure => simp [intOf]; omega
     ·gi_wp2
      go_ret
      refine .inr ⟨rfl, i :: ((Fw i).take j).flatMap (tr M.n Fw) ++ q, ?_, by rw [<- List.append_assoc]; exact hx4⟩
      obtain ⟨t, ht⟩ := hq
      refine ⟨t ++ (List.drop (j + 1) (Fw i)).flatMap (tr M.n Fw), ?_⟩
      rw [HTR.out, HS.out, <- ht]
      simp
    ·have hjn : ln = j := by omega
     subst hjn
     have HJJ : Hid (J (pre ++ tr M.n Fw i) wr /\ Kp w0.heap.size Mn W wr) := ⟨by
      rw [List.take_of_length_le (by rw [HLN.out]; exact Nat.le_refl _)] at hJj
      rw [HTR.out]
      exact hJj, hKpj⟩
     clear hJj hKj hKpj hrj
     gi_wp2
     go_ret
     exact .inl ⟨rfl, HJJ.out.1, HJJ.out.2⟩
  ·gi_wp2
   go_ret
   exact .inr ⟨rfl, [i], by rw [zcz hF hi]; exact ⟨_, rfl⟩, hx2⟩
end
section
open Go.RowKit Go.Shelf
attribute [local go_sem] Oper.semAt_some
theorem zmv (K : Nat -> Prop) (p : Nat) (M : Dm) (i : Int) (fv yv : Value) (W : World) (h : DX K W p M) (hi : i < 0 \/ (M.n : Int) <= i) (hn : M.n <= 1000000) :
  Calls Tryz.prog 232 #[.pointer (some ⟨p, 0, none⟩), .int .i64 i, fv, yv] W fun e w' => e = .returned (.bool true) /\ Kept (fun k => k < W.heap.size) W w' := by
 have r1 := ze1 K p M i W h hi hn
 clear h hi
 go_enter Tryz.func232, Tryz.ntmps232
 go_wp2_with fail
 refine r1.mono ?_
 rintro e v1 ⟨rfl, hK1⟩
 have HK : Hid (∀ o, Kept (fun k => k < W.heap.size) W (v1.alloc o)) := fun o => hK1.alloc (fun k h => ltl h hK1.size) o
 clear r1 hK1
 go_wp2
 go_ret
 exact ⟨rfl, HK.out _⟩
theorem zqt (p fo : Nat) (i : Int) (w : World) :
  Calls Tryz.prog 163 #[.pointer (some ⟨p, 0, none⟩), .int .i64 i, .func (.func fo) #[] #[]] w fun e w' => e = .returned (.func (.func 231) #[] #[.pointer (some ⟨w.heap.size, 0, none⟩), .pointer (some ⟨w.heap.size + 1, 0, none⟩), .pointer (some ⟨w.heap.size + 2, 0, none⟩)]) /\ w' = ((w.alloc (.cells #[.pointer (some ⟨p, 0, none⟩)] 25)).alloc (.cells #[.int .i64 i] 3)).alloc (.cells #[.func (.func fo) #[] #[]] 231) := by
 go_enter Tryz.func163, Tryz.ntmps163
 go_wp2
 go_ret
 exact ⟨rfl, rfl⟩
structure Mine (n₀ : Nat) (Sn : World -> Prop) (Mn : World -> Nat -> Prop) : Prop where
 lo : ∀ W k, Sn W -> Mn W k -> n₀ <= k /\ k < W.heap.size
 new : ∀ W W', Sn W -> Kept (fun k => k < W.heap.size) W W' -> Sn W' /\ ∀ k, Mn W' k -> Mn W k
def KpS (n₀ : Nat) (Sn : World -> Prop) (Mn : World -> Nat -> Prop) (W W' : World) : Prop := Kp n₀ Mn W W' /\ (Sn W -> Sn W')
theorem zhk {W W' : World} (h : Kept (fun k => k < W.heap.size) W W') : W.grownBy W' none := ⟨h.os, h.tape, h.output, h.size, fun k hk _ => h.block k hk⟩
theorem zm3 (K : Nat -> Prop) (p : Nat) (M : Dm) (R : Nat -> List Nat) (rk : Nat -> Nat) (w0 : World) (hd : DX K w0 p M) (hG : Good M R rk) (hn : M.n <= 100000) (Fw : Nat -> List Nat) (hF : Falls M.n Fw rk) (hFl : ∀ i, i < M.n -> (Fw i).length <= 200000) (fo : Nat) (hfo : Zt7 fo M R Fw)
  (hen : ∀ (args : Array Value) (X : World), (callFunc fo args).run Tryz.prog X = .ok (.enter fo args) X) (i : Int) (n : Nat) (b0 b1 b2 : Nat) (w : World) (hw : Kept (fun k => k < w0.heap.size) w0 w) (Sn : World -> Prop) (Mn : World -> Nat -> Prop) (hM : Mine w0.heap.size Sn Mn) (hS : ∀ W, Below w.heap.size w W -> Sn W)
  (c0 : w.cell? ⟨b0, 0, none⟩ = some (.pointer (some ⟨p, 0, none⟩))) (c1 : w.cell? ⟨b1, 0, none⟩ = some (.int .i64 i)) (c2 : w.cell? ⟨b2, 0, none⟩ = some (.func (.func fo) #[] #[])) (l0 : b0 < w.heap.size) (l1 : b1 < w.heap.size) (l2 : b2 < w.heap.size) :
  SeqStopsK Fence.wide n Tryz.prog 231 #[.pointer (some ⟨b0, 0, none⟩), .pointer (some ⟨b1, 0, none⟩), .pointer (some ⟨b2, 0, none⟩)] (fun x : Nat => #[Value.int .i64 (x : Int)]) (KpS w0.heap.size Sn Mn) (fun ys => ys = trI M.n Fw i) (fun pre => pre <+: trI M.n Fw i) (trI M.n Fw i).length w := fun l J Jx W hW hJ _ hY h0 => by
 have a0 : W.cell? ⟨b0, 0, none⟩ = some (.pointer (some ⟨p, 0, none⟩)) := (hW.cell (p := ⟨b0, 0, none⟩) l0).trans c0
 have a1 : W.cell? ⟨b1, 0, none⟩ = some (.int .i64 i) := (hW.cell (p := ⟨b1, 0, none⟩) l1).trans c1
 have a2 : W.cell? ⟨b2, 0, none⟩ = some (.func (.func fo) #[] #[]) := (hW.cell (p := ⟨b2, 0, none⟩) l2).trans c2
 have hkW : Kept (fun k => k < w0.heap.size) w0 W := hw.trans ((Below.kept hW).mono fun k h => ltl h hw.size)
 have hsW := hS W hW
 by_cases hno : i < 0 \/ (M.n : Int) <= i
 ·have rv := zmv K p M i (.func (.func fo) #[] #[]) (.func (.yield l) #[] #[]) W (hd.kept hkW) hno (by omega)
  refine callsIn_of_wp Tryz.func231 rfl trivial ?_ rfl
  simp only [Tryz.ntmps231, List.size_toArray, List.length_cons, List.length_nil, Nat.reduceAdd, Nat.reduceSub, Array.replicate_succ, Array.replicate_zero, List.push_toArray, List.append_toArray, List.nil_append, List.cons_append]
  gi_wp2_with fail
  refine ⟨trivial, zcw _, ?_⟩
  refine (callsIn_wide.2 rv).mono ?_
  rintro e W1 ⟨rfl, hk1⟩
  have hJ1 : J [] W1 := hJ [] W W1 none h0 (zhk hk1) (fun r e => by cases e)
  gi_wp2
  go_end0
  exact ⟨⟨_, rfl⟩, .inl ⟨[], by rw [zfn hno], hJ1⟩⟩
 ·obtain ⟨k, hk, rfl⟩ : ∃ k : Nat, k < M.n /\ i = (k : Int) := ⟨i.toNat, by omega, by omega⟩
  rw [zdd hk] at hY ⊢
  have rv := zp4 K p M R rk w0 hd hG hn Fw hF hFl fo hfo hen l Mn (fun pre W => J pre W /\ Sn W) Jx
   ⟨fun pre W k h hm => hM.lo W k h.2 hm, fun pre W W' h hk => ⟨⟨hJ pre W W' none h.1 (zhk hk) (fun r e => by cases e), (hM.new W W' h.2 hk).1⟩, (hM.new W W' h.2 hk).2⟩⟩ (tr M.n Fw k).length
   (fun m pre x W h hl => by
    have hy := hY pre x W h.1 hl
    obtain ⟨fn, tmps, assign, body, e1, hR⟩ := hy
    refine ⟨fn, tmps, assign, body, e1, ?_⟩
    have hR2 := hR.mono (R' := fun e W' => (e = .returned (.bool true) /\ (J (pre ++ [x]) W' /\ Sn W') /\ Kp w0.heap.size Mn W W') \/ (e = .returned (.bool false) /\ Jx (pre ++ [x]) W')) (fun e W' hh => by
     rcases hh with ⟨q1, q2, q3⟩ | q
     ·exact .inl ⟨q1, ⟨q2, q3.2 h.2⟩, q3.1⟩
     ·exact .inr q)
    exact ⟨hR2.1, fun c cs _ => hR2.2 c cs (room_wide _)⟩) k hk (n - 1) [] W ⟨h0, hsW⟩ hkW (by simp)
  refine callsIn_of_wp Tryz.func231 rfl trivial ?_ rfl
  simp only [Tryz.ntmps231, List.size_toArray, List.length_cons, List.length_nil, Nat.reduceAdd, Nat.reduceSub, Array.replicate_succ, Array.replicate_zero, List.push_toArray, List.append_toArray, List.nil_append, List.cons_append]
  gi_wp2_with fail
  refine ⟨trivial, zcw _, ?_⟩
  refine rv.mono ?_
  rintro e W1 (⟨rfl, hJ1, -⟩ | ⟨rfl, q, hq, hx⟩)
  ·gi_wp2
   go_end0
   exact ⟨⟨_, rfl⟩, .inl ⟨_, rfl, by simpa using hJ1.1⟩⟩
  ·gi_wp2
   go_end0
   exact ⟨⟨_, rfl⟩, .inr ⟨q, hq, by simpa using hx⟩⟩
end
set_option linter.unusedVariables false
set_option maxRecDepth 100000
set_option maxHeartbeats 8000000
section
open Go.RowKit Go.Shelf
attribute [local go_sem] Oper.semAt_some
theorem zpv {F : Fence} {n : Nat} {P : Program} {w w' : World} {ops : Array Oper} {rest : List Oper} {o : Oper} {a : Act} {Q : Exit -> Act -> World -> Prop} (hgd : o.guard = none) (s x : Operand) (t tx : TypeId)
  (ho : o.op = .call { callee := .builtin .append, args := #[s, x], argTypes := #[t, tx] }) (vs vx v : Value) (hs : a.eval s = vs) (hx : a.eval x = vx)
  (hr : (Builtin.append_ #[t, tx] o.type #[vs, vx]).run P w = .ok v w') (h : wpListIn F n P ops Q rest (a.put o.dst v) w') : wpListIn F n P ops Q (o :: rest) a w := by
 refine wpListIn_plain hgd fun K hK' => ?_
 unfold Oper.wpIn
 refine ⟨?_, ?_⟩
 ·simp [Oper.about, ho, resolve, Target.leads, Sem.run_pure]
 ·rw [Oper.semAt_plain F _ _ (by rw [ho]; intro c hc'; cases hc')]
  simp [execOp, ho, resolve, invoke, builtin, hs, hx, hr, Result.andThen]
  exact hK' _ _ h
def Pts (B : Nat) (W : World) (k : Nat) : Prop := ∃ n c, W.cell? ⟨B, 0, none⟩ = some (.slice (some ⟨k, 0, none⟩) n c)
def SnB (B : Nat) (W : World) : Prop := B < W.heap.size /\ ∀ k, Pts B W k -> B <= k /\ k < W.heap.size
def MnB (B : Nat) (W : World) (k : Nat) : Prop := k = B \/ Pts B W k
theorem zvk (B : Nat) : Mine B (SnB B) (MnB B) := by
 refine ⟨fun W k h hm => ?_, fun W W' h hk => ?_⟩
 ·rcases hm with rfl | hm
  ·exact ⟨Nat.le_refl _, h.1⟩
  ·exact h.2 k hm
 ·have e : ∀ k, Pts B W' k -> Pts B W k := fun k ⟨n, c, hc⟩ => ⟨n, c, (hk.cell (p := ⟨B, 0, none⟩) h.1).symm.trans hc⟩
  exact ⟨⟨ltl h.1 hk.size, fun k hp => ⟨(h.2 k (e k hp)).1, ltl (h.2 k (e k hp)).2 hk.size⟩⟩, fun k hm => hm.elim .inl (fun hp => .inr (e k hp))⟩
def Col (B : Nat) (w : World) (pre : List Nat) (W : World) : Prop :=
 (∃ ao cap, W.heap[B]? = some (.cells #[.slice ao pre.length cap] 33 (0, 0)) /\ Zac (fun k => k <= B) W 3 1 ao pre.length cap (ivs pre)) /\ Below B w W
theorem zsq {B : Nat} {w : World} (B' : Nat) (hB : B < B') : OwnFrom B' (Col B w) := fun pre W W' row h hg hr => by
 obtain ⟨⟨ao, cap, hb, hO⟩, hbel⟩ := h
 have keep : ∀ (k : Nat) (o : Obj), W.heap[k]? = some o -> o.isCells = true -> W'.heap[k]? = W.heap[k]? := fun k o hk ho => hg.block k (Array.getElem?_eq_some_iff.1 hk).1 (fun e => by
  obtain ⟨_, o', h1, h2⟩ := hr k e.symm
  rw [hk] at h1
  cases h1
  rw [ho] at h2
  cases h2)
 refine ⟨⟨ao, cap, (keep B _ hb rfl).trans hb, ?_⟩, hbel.grown hg (Nat.le_of_lt (zai hb)) (fun k e => by have := (hr k e).1; omega)⟩
 refine Zac.to hO (fun g hg => (hO.out hg).1) (fun g hg => ?_)
 obtain ⟨_, _, _, h4⟩ := hO
 rcases h4 with ⟨r1, _⟩ | ⟨g', cur, r1, r2, r3, _⟩
 ·rw [r1] at hg; cases hg
 ·have hg' : ao = some ⟨g, 0, none⟩ := hg
  rw [r1] at hg'
  injection hg' with hg'
  injection hg' with hg'
  subst hg'
  exact keep g' _ r3 rfl
theorem zqc {B : Nat} {w W : World} {pre : List Nat} (x : Nat) (h : Col B w pre W) (hl : pre.length <= 10000000) (B' : Nat) :
  ∃ ao cap ao' cap' w', W.cell? ⟨B, 0, none⟩ = some (.slice ao pre.length cap) /\ (Builtin.append_ #[33, 33] 33 #[.slice ao pre.length cap, .slice (some ⟨W.heap.size, 0, none⟩) 1 1]).run Tryz.prog (W.alloc (.cells #[.int .i64 (x : Int)] 3)) = .ok (.slice ao' (pre.length + 1) cap') w' /\
   w'.cell? ⟨B, 0, none⟩ = some (.slice ao pre.length cap) /\ w'.frozen? ⟨B, 0, none⟩ = false /\
   KeepsFrom B' W (w'.setCell ⟨B, 0, none⟩ (.slice ao' (pre.length + 1) cap')) /\ KpS B (SnB B) (MnB B) W (w'.setCell ⟨B, 0, none⟩ (.slice ao' (pre.length + 1) cap')) /\ Col B w (pre ++ [x]) (w'.setCell ⟨B, 0, none⟩ (.slice ao' (pre.length + 1) cap')) := by
 obtain ⟨⟨ao, cap, hb, hO⟩, hbel⟩ := h
 obtain ⟨X, hX⟩ : ∃ X, W.alloc (.cells #[.int .i64 (x : Int)] 3) = X := ⟨_, rfl⟩
 have hkX : Kept (fun k => k < W.heap.size) W X := by rw [<- hX]; exact (Kept.refl _ W).alloc (fun _ h => h) _
 have hsz : X.heap.size = W.heap.size + 1 := by rw [<- hX]; simp
 have hbx : X.heap[W.heap.size]? = some (.cells #[.int .i64 (x : Int)] 3 (0, 0)) := by rw [<- hX]; exact heap_alloc_new W _
 have hBl := zai hb
 have hbX : X.heap[B]? = some (.cells #[.slice ao pre.length cap] 33 (0, 0)) := (hkX.block B hBl).trans hb
 have hOX : Zac (fun k => k < X.heap.size /\ ¬ zaf ao k) X 3 1 ao pre.length cap (ivs pre) := Zac.to hO (fun g hg hh => hh.2 hg) (fun g hg => hkX.block g (hO.out hg).2)
 have hxs : Zad (fun _ => True) X (some ⟨W.heap.size, 0, none⟩) [x] := fun j hj => ⟨W.heap.size, 0, rfl, trivial, by
  have : j = 0 := by simp at hj; omega
  subst this
  rw [zaa hbx]; rfl⟩
 obtain ⟨ao', cap', w', hrun, hO', hk'⟩ := zcf (ac := 1) hOX rfl hxs (fun k h => h.1) (by omega) (by simp)
 have hrB : ¬ zaf ao B := fun h => (hO.out h).1 (Nat.le_refl _)
 have hKB : (fun k => k < X.heap.size /\ ¬ zaf ao k) B := ⟨by omega, hrB⟩
 have hbw : w'.heap[B]? = some (.cells #[.slice ao pre.length cap] 33 (0, 0)) := (hk'.block B hKB).trans hbX
 have hnew : ∀ g, zaf ao' g -> B < g /\ (X.heap.size <= g \/ zaf ao g) := fun g hg => by
  have h1 := (hO'.out hg).1
  rcases Nat.lt_or_ge g X.heap.size with h2 | h2
  ·have h3 : zaf ao g := Classical.byContradiction fun h => h1 ⟨h2, h⟩
   exact ⟨Nat.lt_of_not_le (hO.out h3).1, .inr h3⟩
  ·exact ⟨by omega, .inl h2⟩
 have hset := zag hbw 0 (.slice ao' (pre.length + 1) cap')
 have hoth : ∀ k, k ≠ B -> (w'.setCell ⟨B, 0, none⟩ (.slice ao' (pre.length + 1) cap')).heap[k]? = w'.heap[k]? := fun k hk => ((Kept.refl (fun k => k ≠ B) w').setCell (p := ⟨B, 0, none⟩) (fun h => h rfl) _).block k hk
 have hall : ∀ k, k < W.heap.size -> k ≠ B -> ¬ zaf ao k -> (w'.setCell ⟨B, 0, none⟩ (.slice ao' (pre.length + 1) cap')).heap[k]? = W.heap[k]? := fun k h1 h2 h3 => by
  rw [hoth k h2, hk'.block k ⟨by omega, h3⟩, hkX.block k h1]
 have hsz' : W.heap.size <= (w'.setCell ⟨B, 0, none⟩ (.slice ao' (pre.length + 1) cap')).heap.size := by
  have h1 := hk'.size
  have h2 := ((Kept.refl (fun k => k ≠ B) w').setCell (p := ⟨B, 0, none⟩) (fun h => h rfl) (.slice ao' (pre.length + 1) cap')).size
  omega
 have hkb : Kept (fun k => k < B) W (w'.setCell ⟨B, 0, none⟩ (.slice ao' (pre.length + 1) cap')) := by
  have q1 := hkX.mono (K' := fun k => k < B) (fun k h => by omega)
  have q2 := hk'.mono (K' := fun k => k < B) (fun k h => ⟨by omega, fun hb => (hO.out hb).1 (Nat.le_of_lt h)⟩)
  have q3 := (Kept.refl (fun k => k < B) w').setCell (p := ⟨B, 0, none⟩) (fun h => Nat.lt_irrefl _ h) (.slice ao' (pre.length + 1) cap')
  exact (q1.trans q2).trans q3
 have hcB : (w'.setCell ⟨B, 0, none⟩ (.slice ao' (pre.length + 1) cap')).cell? ⟨B, 0, none⟩ = some (.slice ao' (pre.length + 1) cap') := by rw [zaa hset]; rfl
 have hpts : ∀ k, Pts B (w'.setCell ⟨B, 0, none⟩ (.slice ao' (pre.length + 1) cap')) k -> zaf ao' k := fun k ⟨n, c, hc⟩ => by
  have h2 : Value.slice ao' (pre.length + 1) cap' = Value.slice (some ⟨k, 0, none⟩) n c := Option.some.inj (hcB.symm.trans hc)
  exact (Value.slice.inj h2).1
 refine ⟨ao, cap, ao', cap', w', by rw [zaa hb]; rfl, by rw [hX]; exact hrun, by rw [zaa hbw]; rfl, zak hbw 0, ⟨hsz', fun k o _ hk ho => ?_⟩, ⟨⟨hkb.below, fun k o hk ho hm => ?_⟩, fun hs => ⟨ltl hBl hsz', fun k hp => ?_⟩⟩, ⟨ao', cap', by rw [List.length_append]; exact hset, ?_⟩, hbel.trans hkb.below⟩
 ·have hkl := (Array.getElem?_eq_some_iff.1 hk).1
  have h1 : k ≠ B := fun e => by
   rw [e, hb] at hk
   injection hk with hk
   rw [<- hk] at ho
   cases ho
  have h2 : ¬ zaf ao k := fun e => by
   obtain ⟨_, _, _, h4⟩ := hO
   rcases h4 with ⟨r1, _⟩ | ⟨g', cur, r1, r2, r3, _⟩
   ·rw [r1] at e; cases e
   ·have e' : ao = some ⟨k, 0, none⟩ := e
    rw [r1] at e'
    injection e' with e'
    injection e' with e'
    rw [e'] at r3
    rw [r3] at hk
    injection hk with hk
    rw [<- hk] at ho
    cases ho
  exact (hall k hkl h1 h2).trans hk
 ·have hkl := (Array.getElem?_eq_some_iff.1 hk).1
  have h1 : k ≠ B := fun e => hm (.inl e)
  have h2 : ¬ zaf ao k := fun e => hm (.inr ⟨pre.length, cap, by
   have e' : ao = some ⟨k, 0, none⟩ := e
   rw [zaa hb, e']; rfl⟩)
  refine ⟨(hall k hkl h1 h2).trans hk, fun hm' => ?_⟩
  rcases hm' with e | hp
  ·exact h1 e
  ·rcases (hnew k (hpts k hp)).2 with q | q
   ·omega
   ·exact h2 q
 ·have hg := hpts k hp
  refine ⟨Nat.le_of_lt (hnew k hg).1, ?_⟩
  have h1 := (hO'.out hg).2
  have h2 := ((Kept.refl (fun k => k ≠ B) w').setCell (p := ⟨B, 0, none⟩) (fun h => h rfl) (.slice ao' (pre.length + 1) cap')).size
  omega
 ·rw [List.length_append]
  exact Zac.to hO' (fun g hg => Nat.not_le_of_lt (hnew g hg).1) (fun g hg => hoth g (fun e => by have := (hnew g hg).1; omega))
theorem zvj {n₀ : Nat} {Sn : World -> Prop} {Mn : World -> Nat -> Prop} {A B C : World} (h : KpS n₀ Sn Mn A B) (k : KpS n₀ Sn Mn B C) : KpS n₀ Sn Mn A C := ⟨h.1.trans k.1, fun hs => k.2 (h.2 hs)⟩
theorem zvf {B : Nat} {w : World} (hB : B < w.heap.size) (W : World) (l : Nat) (o o' : Obj) (hl : w.heap.size <= l) (h : W.heap[l]? = some o) (hc : o.isCells = false) (hw : o.isWalk = false) : KpS B (SnB B) (MnB B) W (W.putObj l o') := by
 have hsz : (W.putObj l o').heap.size = W.heap.size := by simp [World.putObj]
 have hlB : l ≠ B := by omega
 have oth : ∀ k, k ≠ l -> (W.putObj l o').heap[k]? = W.heap[k]? := fun k hk => World.putObj_heap_other hk
 have e : ∀ k, Pts B (W.putObj l o') k -> Pts B W k := fun k ⟨n, c, hp⟩ => ⟨n, c, by rw [<- hp]; exact (World.cell?_of_block (w := W) (a := ⟨B, 0, none⟩) (oth B (fun e => hlB e.symm))).symm⟩
 refine ⟨⟨belowK_b (Nat.le_of_lt hB) W l o o' hl h hc hw, fun k q hk ho hm => ⟨?_, fun hm' => ?_⟩⟩, fun hs => ⟨by rw [hsz]; exact hs.1, fun k hp => by rw [hsz]; exact hs.2 k (e k hp)⟩⟩
 ·rw [oth k (fun e => by rw [e, h] at hk; injection hk with hk; rw [hk, ho] at hc; cases hc)]
  exact hk
 ·rcases hm' with rfl | hp
  ·exact hm (.inl rfl)
  ·exact hm (.inr (e k hp))
theorem zmx (K : Nat -> Prop) (p : Nat) (M : Dm) (R : Nat -> List Nat) (rk : Nat -> Nat) (w : World) (hd : DX K w p M) (hG : Good M R rk) (hn : M.n <= 100000) (Fw : Nat -> List Nat) (hF : Falls M.n Fw rk) (hFl : ∀ i, i < M.n -> (Fw i).length <= 200000) (fo : Nat) (hfo : Zt7 fo M R Fw)
  (hen : ∀ (args : Array Value) (X : World), (callFunc fo args).run Tryz.prog X = .ok (.enter fo args) X) (i : Int) (ht : (trI M.n Fw i).length <= 1000000) (b0 b1 b2 : Nat)
  (c0 : w.cell? ⟨b0, 0, none⟩ = some (.pointer (some ⟨p, 0, none⟩))) (c1 : w.cell? ⟨b1, 0, none⟩ = some (.int .i64 i)) (c2 : w.cell? ⟨b2, 0, none⟩ = some (.func (.func fo) #[] #[])) (l0 : b0 < w.heap.size) (l1 : b1 < w.heap.size) (l2 : b2 < w.heap.size) :
  Calls Tryz.prog 230 #[.slice none 0 0, .func (.func 231) #[] #[.pointer (some ⟨b0, 0, none⟩), .pointer (some ⟨b1, 0, none⟩), .pointer (some ⟨b2, 0, none⟩)]] w fun e w' => ∃ ao c, e = .returned (.slice ao (trI M.n Fw i).length c) /\ Zac (fun k => k < w.heap.size) w' 3 1 ao (trI M.n Fw i).length c (ivs (trI M.n Fw i)) /\ Kept (fun k => k < w.heap.size) w w' := by
 obtain ⟨W1, hW1⟩ : ∃ W1, w.alloc (.cells #[.slice none 0 0] 33) = W1 := ⟨_, rfl⟩
 obtain ⟨B, hB⟩ : ∃ B, w.heap.size = B := ⟨_, rfl⟩
 have kW1 : Kept (fun k => k < w.heap.size) w W1 := by rw [<- hW1]; exact (Kept.refl _ w).alloc (fun _ h => h) _
 have hb1 : W1.heap[B]? = some (.cells #[.slice none 0 0] 33 (0, 0)) := by rw [<- hW1, <- hB]; exact heap_alloc_new w _
 have hs1 : W1.heap.size = B + 1 := by rw [<- hW1, <- hB]; simp
 have hseq := zm3 K p M R rk w hd hG hn Fw hF hFl fo hfo hen i (3 - 1) b0 b1 b2 W1 kW1 (SnB B) (MnB B) (by rw [hB]; exact zvk B) (fun W hW => ⟨ltl (by omega) hW.size, fun k ⟨n, c, hc⟩ => by
   rw [hW.cell (p := ⟨B, 0, none⟩) (by show B < _; omega), zaa hb1] at hc
   exact absurd (Option.some.inj hc) (by intro h; injection h with h; cases h)⟩)
  ((kW1.cell (p := ⟨b0, 0, none⟩) l0).trans c0) ((kW1.cell (p := ⟨b1, 0, none⟩) l1).trans c1) ((kW1.cell (p := ⟨b2, 0, none⟩) l2).trans c2) (by omega) (by omega) (by omega)
 rw [hB] at hseq
 have h0 : Col B w [] W1 := ⟨⟨none, 0, hb1, Zac.nil _ _ _ _⟩, by rw [<- hB]; exact kW1.below⟩
 have HW1 : Hid (w.alloc (.cells #[.slice none 0 0] 33) = W1) := hW1
 have HB : Hid (w.heap.size = B) := hB
 obtain ⟨T, hT⟩ : ∃ T, trI M.n Fw i = T := ⟨_, rfl⟩
 rw [hT] at hseq ht ⊢
 have hBW : B < W1.heap.size := by omega
 have HKW : Hid (Kept (fun k => k < w.heap.size) w W1) := kW1
 clear hW1 hd hfo hen c0 c1 c2 hT hB kW1
 refine (callsIn_wide (n := 3)).1 ?_
 refine callsIn_of_wp_marks Tryz.func230 rfl trivial ?_ rfl
 simp only [Tryz.ntmps230, List.size_toArray, List.length_cons, List.length_nil, Nat.reduceAdd, Nat.reduceSub, Array.replicate_succ, Array.replicate_zero, List.push_toArray, List.append_toArray, List.nil_append, List.cons_append]
 gi_wp2
 rw [HW1.out, HB.out]
 refine wpIn_rangeFunc_ownG rfl (by omega) (gf := 231) (lb := #[.pointer (some ⟨b0, 0, none⟩), .pointer (some ⟨b1, 0, none⟩), .pointer (some ⟨b2, 0, none⟩)]) rfl trivial (enters_of Tryz.func231 (by kernel_rfl) rfl)
  hseq zvj (zvf hBW) (Below.refl _ _) (fun _ => rfl) (Col B w) (fun _ _ _ => False) (zsq _ hBW) (fun _ _ _ _ _ hs _ _ => hs) h0
  (fun x => { tmps := #[.slice none 0 0, .func (.func 231) #[] #[.pointer (some ⟨b0, 0, none⟩), .pointer (some ⟨b1, 0, none⟩), .pointer (some ⟨b2, 0, none⟩)], .pointer (some ⟨B, 0, none⟩), undef, .slice none 0 0, .int .i64 (x : Int), .func (.func 231) #[] #[.pointer (some ⟨b0, 0, none⟩), .pointer (some ⟨b1, 0, none⟩), .pointer (some ⟨b2, 0, none⟩)], .int .i64 (x : Int), undef, undef, undef, undef, undef], defers := [] }) ?assign ?body ?done ?stop
 case assign =>
  intro l x W K hK
  gi_wp2
  exact hK
 case body =>
  rintro l pre x W hcol hlt
  obtain ⟨ao, cap, ao', cap', w', d0, hrun, d1, d2, q1, q2, q3⟩ := zqc x hcol (by omega) W1.heap.size
  have Q1 : Hid (KeepsFrom W1.heap.size W (w'.setCell ⟨B, 0, none⟩ (.slice ao' (pre.length + 1) cap')) /\ KpS B (SnB B) (MnB B) W (w'.setCell ⟨B, 0, none⟩ (.slice ao' (pre.length + 1) cap')) /\ Col B w (pre ++ [x]) (w'.setCell ⟨B, 0, none⟩ (.slice ao' (pre.length + 1) cap'))) := ⟨q1, q2, q3⟩
  clear q1 q2 q3 hcol
  gi_wp2_with (gi_at_builtin; refine zpv (w' := w') rfl (.tmp 8) (.tmp 10) 33 33 rfl _ _ (.slice ao' (pre.length + 1) cap') rfl rfl hrun ?_)
  exact Q1.out
 case done =>
  rintro D ys W hD rfl ⟨⟨ao, cap, hb, hO⟩, hbel⟩ hK
  have hc : W.cell? ⟨B, 0, none⟩ = some (.slice ao ys.length cap) := by rw [zaa hb]; rfl
  gi_wp2
  refine ⟨by simp, .inl ⟨_, _, rfl, run_takeDeferred hK, ?_⟩⟩
  have oth : ∀ (k : Nat) (o : Obj), W.heap[k]? = some o -> o.isCells = true -> (W.putObj D (.deferred none)).heap[k]? = W.heap[k]? := fun k o hk ho => World.putObj_heap_other (fun e => by rw [e, hK] at hk; injection hk with hk; rw [<- hk] at ho; cases ho)
  refine ⟨_, results_tmp rfl _ _ _, ao, cap, rfl, Zac.to hO (fun g hg hh => (hO.out hg).1 (by rw [HB.out] at hh; omega)) (fun g hg => ?_), ?_⟩
  ·obtain ⟨_, _, _, h4⟩ := hO
   rcases h4 with ⟨r1, _⟩ | ⟨g', cur, r1, r2, r3, _⟩
   ·rw [r1] at hg; cases hg
   ·have hg' : ao = some ⟨g, 0, none⟩ := hg
    rw [r1] at hg'
    injection hg' with hg'
    injection hg' with hg'
    subst hg'
    exact oth g' _ r3 rfl
  ·have hb2 : Below B W (W.putObj D (.deferred none)) := belowK_b (w := W1) (by omega) W D _ _ hD hK rfl rfl
   rw [HB.out]
   exact Below.kept (hbel.trans hb2)
 case stop =>
  rintro D c pre W _ _ h _
  exact h.elim
end
section
theorem enter164 (args : Array Value) (X : World) : (callFunc 164 args).run Tryz.prog X = .ok (.enter 164 args) X := zan Tryz.func164 (by kernel_rfl) (c := _) rfl args X
theorem zh2 {n : Nat} {F : Nat -> List Nat} {rk : Nat -> Nat} (h : Only n F rk) (i : Int) : (trI n F i).length <= n := by
 by_cases c : i < 0 \/ (n : Int) <= i
 ·rw [zfn c]; exact Nat.zero_le _
 ·obtain ⟨k, hk, rfl⟩ : ∃ k : Nat, k < n /\ i = (k : Int) := ⟨i.toNat, by omega, by omega⟩
  rw [zdd hk]; exact zjd h hk
theorem zk7 (K : Nat -> Prop) (p : Nat) (M : Dm) (R : Nat -> List Nat) (rk : Nat -> Nat) (w : World) (hd : DX K w p M) (hG : Good M R rk) (hn : M.n <= 100000) (Fw : Nat -> List Nat) (hF : Only M.n Fw rk) (hFl : ∀ i, i < M.n -> (Fw i).length <= 200000) (fo : Nat) (hfo : Zt7 fo M R Fw)
  (hen : ∀ (args : Array Value) (X : World), (callFunc fo args).run Tryz.prog X = .ok (.enter fo args) X) (i : Int) (b0 b1 b2 : Nat)
  (c0 : w.cell? ⟨b0, 0, none⟩ = some (.pointer (some ⟨p, 0, none⟩))) (c1 : w.cell? ⟨b1, 0, none⟩ = some (.int .i64 i)) (c2 : w.cell? ⟨b2, 0, none⟩ = some (.func (.func fo) #[] #[])) (l0 : b0 < w.heap.size) (l1 : b1 < w.heap.size) (l2 : b2 < w.heap.size) :
  Calls Tryz.prog 162 #[.func (.func 231) #[] #[.pointer (some ⟨b0, 0, none⟩), .pointer (some ⟨b1, 0, none⟩), .pointer (some ⟨b2, 0, none⟩)]] w (Lst w (trI M.n Fw i)) := by
 have r := zmx K p M R rk w hd hG hn Fw hF.falls hFl fo hfo hen i (Nat.le_trans (zh2 hF i) (by omega)) b0 b1 b2 c0 c1 c2 l0 l1 l2
 clear hd hfo hen c0 c1 c2
 go_enter Tryz.func162, Tryz.ntmps162
 go_wp2_with fail
 refine r.mono ?_
 rintro e w1 ⟨ao, c, rfl, hO, hK⟩
 have HO : Hid (Zac (fun k => k < w.heap.size) w1 3 1 ao (trI M.n Fw i).length c (ivs (trI M.n Fw i)) /\ Kept (fun k => k < w.heap.size) w w1) := ⟨hO, hK⟩
 clear r hO hK
 go_wp2
 go_ret
 exact ⟨ao, c, rfl, HO.out.1, HO.out.2⟩
abbrev fr3 (p fo : Nat) (i : Int) (w : World) : World := ((w.alloc (.cells #[.pointer (some ⟨p, 0, none⟩)] 25)).alloc (.cells #[.int .i64 i] 3)).alloc (.cells #[.func (.func fo) #[] #[]] 231)
theorem zuf (p fo : Nat) (i : Int) (w : World) : Kept (fun k => k < w.heap.size) w (fr3 p fo i w) /\ (fr3 p fo i w).heap.size = w.heap.size + 3 /\ (fr3 p fo i w).cell? ⟨w.heap.size, 0, none⟩ = some (.pointer (some ⟨p, 0, none⟩)) /\ (fr3 p fo i w).cell? ⟨w.heap.size + 1, 0, none⟩ = some (.int .i64 i) /\ (fr3 p fo i w).cell? ⟨w.heap.size + 2, 0, none⟩ = some (.func (.func fo) #[] #[]) := by
 obtain ⟨A, hA⟩ : ∃ A, w.alloc (.cells #[.pointer (some ⟨p, 0, none⟩)] 25) = A := ⟨_, rfl⟩
 obtain ⟨B, hB⟩ : ∃ B, A.alloc (.cells #[.int .i64 i] 3) = B := ⟨_, rfl⟩
 obtain ⟨C, hC⟩ : ∃ C, B.alloc (.cells #[.func (.func fo) #[] #[]] 231) = C := ⟨_, rfl⟩
 have e : fr3 p fo i w = C := by unfold fr3; rw [hA, hB, hC]
 have sA : A.heap.size = w.heap.size + 1 := by rw [<- hA]; simp
 have sB : B.heap.size = w.heap.size + 2 := by rw [<- hB]; simp [sA]
 have sC : C.heap.size = w.heap.size + 3 := by rw [<- hC]; simp [sB]
 have kA : Kept (fun k => k < w.heap.size) w A := by rw [<- hA]; exact (Kept.refl _ w).alloc (fun _ h => h) _
 have kB : Kept (fun k => k < A.heap.size) A B := by rw [<- hB]; exact (Kept.refl _ A).alloc (fun _ h => h) _
 have kC : Kept (fun k => k < B.heap.size) B C := by rw [<- hC]; exact (Kept.refl _ B).alloc (fun _ h => h) _
 have a0 : A.cell? ⟨w.heap.size, 0, none⟩ = some (.pointer (some ⟨p, 0, none⟩)) := by rw [<- hA, zaa (heap_alloc_new w _)]; rfl
 have b0 : B.cell? ⟨w.heap.size + 1, 0, none⟩ = some (.int .i64 i) := by rw [<- hB, <- sA, zaa (heap_alloc_new A _)]; rfl
 have c0 : C.cell? ⟨w.heap.size + 2, 0, none⟩ = some (.func (.func fo) #[] #[]) := by rw [<- hC, <- sB, zaa (heap_alloc_new B _)]; rfl
 rw [e]
 refine ⟨(kA.trans (kB.mono fun k h => by omega)).trans (kC.mono fun k h => by omega), sC, ?_, ?_, c0⟩
 ·exact (kC.cell (p := ⟨w.heap.size, 0, none⟩) (by show w.heap.size < _; omega)).trans ((kB.cell (p := ⟨w.heap.size, 0, none⟩) (by show w.heap.size < _; omega)).trans a0)
 ·exact (kC.cell (p := ⟨w.heap.size + 1, 0, none⟩) (by show w.heap.size + 1 < _; omega)).trans b0
theorem zqj (K : Nat -> Prop) (p : Nat) (M : Dm) (R : Nat -> List Nat) (rk : Nat -> Nat) (w : World) (hd : DX K w p M) (hG : Good M R rk) (hn : M.n <= 100000) (i : Int) :
  Calls Tryz.prog 88 #[.pointer (some ⟨p, 0, none⟩), .int .i64 i] w (Lst w (trI M.n R i)) := by
 obtain ⟨hk, hs, c0, c1, c2⟩ := zuf p 164 i w
 have r0 := zqt p 164 i w
 have r1 := zk7 K p M R rk (fr3 p 164 i w) (hd.kept hk) hG hn R hG.only (fun i hi => by have := hG.wf.len_le hi; omega) 164 (zsd M R) enter164 i _ _ _ c0 c1 c2 (by omega) (by omega) (by omega)
 have HK : Hid (Kept (fun k => k < w.heap.size) w (fr3 p 164 i w)) := hk
 clear hk hs c0 c1 c2 hd
 go_enter Tryz.func88, Tryz.ntmps88
 go_wp2_with fail
 refine r0.mono ?_
 rintro e w1 ⟨rfl, rfl⟩
 clear r0
 go_wp2_with fail
 refine r1.mono ?_
 rintro e w2 ⟨ao, c, rfl, hO, hK⟩
 have HO : Hid (Zac (fun k => k < w.heap.size) w2 3 1 ao (trI M.n R i).length c (ivs (trI M.n R i)) /\ Kept (fun k => k < w.heap.size) w w2) := ⟨Zac.to hO (fun g hg hh => (hO.out hg).1 (ltl hh HK.out.size)) (fun _ _ => rfl), kt HK.out hK⟩
 clear r1 hO hK
 go_wp2
 go_ret
 exact ⟨ao, c, rfl, HO.out.1, HO.out.2⟩
end
end Go.Proofs.YtfeinppedejlpaaGreat
