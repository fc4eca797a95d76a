/-
  order.visit: a node and all that follow it are handed out, in order, till one is enough.
-/
import Derived.Test.YtbhfnbplbkncmaaGreatVOTUlsKa
import Derived.RangeFuncNested
import Derived.RangeFuncBound
import Derived.RangeFuncCalls
import Derived.RangeFuncLeaves
import Derived.Shelf.Abstract
import Derived.Shelf.RegionOpen
import Derived.WalkKit
import Derived.OwnWalkIn
import Derived.TacticsInMore
import Derived.LoopNIn
import Derived.LoopIn
namespace Go.Proofs.YtbhfnbplbkncmaaGreat
open Go.RowKit Go.Shelf
set_option linter.unusedVariables false
attribute [local go_sem] Oper.semAt_some
/-- What a round keeps: all below n₀, and every row of cells that is not the loop's own. -/
structure Kp (n₀ : Nat) (Mn : World → Nat → Prop) (W W' : World) : Prop where
  below : Below n₀ W W'
  cells : ∀ k o, W.heap[k]? = some o → o.isCells = true → ¬ Mn W k → W'.heap[k]? = some o ∧ ¬ Mn W' k
theorem Kp.trans {n₀ : Nat} {Mn : World → Nat → Prop} {A B C : World} (h : Kp n₀ Mn A B) (k : Kp n₀ Mn B C) : Kp n₀ Mn A C :=
  ⟨h.below.trans k.below, fun j o hj ho hn => k.cells j o (h.cells j o hj ho hn).1 ho (h.cells j o hj ho hn).2⟩
/-- The loop's own rows: they do not grow where only new blocks are made. -/
structure MnOk (n₀ : Nat) (Mn : World → Nat → Prop) (J : List Nat → World → Prop) : Prop where
  lo : ∀ pre W k, J pre W → Mn W k → n₀ ≤ k ∧ k < W.heap.size
  new : ∀ pre W W', J pre W → Kept (fun k => k < W.heap.size) W W' → J pre W' ∧ ∀ k, Mn W' k → Mn W k
theorem Kp.of_kept {n₀ : Nat} {Mn : World → Nat → Prop} {J : List Nat → World → Prop} (hM : MnOk n₀ Mn J) {pre : List Nat} {W W' : World} (hJ : J pre W) (hn : n₀ ≤ W.heap.size) (hk : Kept (fun k => k < W.heap.size) W W') : Kp n₀ Mn W W' :=
  ⟨(hk.mono fun k h => Nat.lt_of_lt_of_le h hn).below, fun k o ho _ hm => ⟨(hk.block k (Array.getElem?_eq_some_iff.1 ho).1).trans ho, fun h => hm ((hM.new pre W W' hJ hk).2 k h)⟩⟩
theorem IntsAt.kp {n₀ : Nat} {Mn : World → Nat → Prop} {W W' : World} {fa : Option Addr} {l : List Nat} (h : IntsAt (fun g => ¬ Mn W g) W fa l) (hk : Kp n₀ Mn W W') : IntsAt (fun g => ¬ Mn W' g) W' fa l := fun j hj => by
  obtain ⟨g, o, h1, h2, h3⟩ := h j hj
  obtain ⟨ob, hb, hc⟩ := cells_of_cell h3
  obtain ⟨k1, k2⟩ := hk.cells g ob hb hc h2
  exact ⟨g, o, h1, k2, by rw [World.cell?_of_block (w := W) (a := ⟨g, o + j, none⟩) (k1.trans hb.symm)]; exact h3⟩
theorem wpIn_load_row {F : Fence} {n : Nat} {P : Program} {ops : Array Oper} {rest : List Oper} {o : Oper} {a : Act} {w : World} {Q : Exit → Act → World → Prop} (hgd : o.guard = none) (ty : TypeId) (x : Operand) (ho : o.op = .load ty x)
    (g : Nat) (hx : a.eval x = .pointer (some ⟨g, 0, none⟩)) (t : TypeId) (cs : Array Value) (fr : Nat × Nat) (d : TypeDesc) (hg : w.heap[g]? = some (.cells cs t fr))
    (hu : P.underlying ty = some d) (hd : (match d with | .struct _ | .array _ _ => true | _ => false) = true) (hi : (P.info? ty).map (·.size) = some cs.size)
    (h : wpListIn F n P ops Q rest (a.put o.dst (.agg cs)) w) : wpListIn F n P ops Q (o :: rest) a w := by
  refine wpListIn_plain hgd fun K hK' => ?_
  unfold Oper.wpIn
  refine ⟨?_, ?_⟩
  · simp [Oper.about, ho]
  · rw [Oper.semAt_plain F _ _ (by rw [ho]; intro c hc'; cases hc')]
    simp only [execOp, ho, hx, Instr.loadAt, Instr.sureAddr, Sem.run_bind, Sem.run_pure, Result.andThen_ok, run_loadVar_row w g t ty cs fr d hg hu hd hi]
    exact hK' _ _ h
theorem IntsAt.inn {F : Nat → Prop} {w : World} {ka : Option Addr} {l : List Nat} (h : IntsAt F w ka l) : IntsAt (fun g => F g ∧ g < w.heap.size) w ka l := fun j hj => by
  obtain ⟨g, o, h1, h2, h3⟩ := h j hj
  obtain ⟨ob, hb, _⟩ := cells_of_cell h3
  exact ⟨g, o, h1, ⟨h2, (Array.getElem?_eq_some_iff.1 hb).1⟩, h3⟩
theorem fm_split (f : Nat → List Nat) (l : List Nat) (j : Nat) (hj : j < l.length) : l.flatMap f = (l.take j).flatMap f ++ (f l[j] ++ (l.drop (j + 1)).flatMap f) := by
  have h : l = l.take j ++ (l[j] :: l.drop (j + 1)) := by rw [← List.drop_eq_getElem_cons hj, List.take_append_drop]
  have h2 := congrArg (List.flatMap f) h
  rw [List.flatMap_append, List.flatMap_cons] at h2
  exact h2
theorem fm_succ (f : Nat → List Nat) (l : List Nat) (j : Nat) (hj : j < l.length) : (l.take (j + 1)).flatMap f = (l.take j).flatMap f ++ f l[j] := by
  rw [List.take_succ_eq_append_getElem hj, List.flatMap_append, List.flatMap_singleton]
theorem wide_deep (k : Nat) : Fence.wide.depth.isSome = true → 1 ≤ k := fun h => by cases h
set_option maxRecDepth 100000 in
set_option maxHeartbeats 4000000 in
theorem visit_in (K : Nat → Prop) (p : Nat) (M : Dm) (R : Nat → List Nat) (rk : Nat → Nat) (w0 : World) (hd : DX K w0 p M) (hG : Good M R rk) (hn : M.n ≤ 100000) (Fw : Nat → List Nat) (hF : Falls M.n Fw rk) (hFl : ∀ i, i < M.n → (Fw i).length ≤ 200000) (fo : Nat) (hfo : FoOk fo M R Fw)
    (hen : ∀ (args : Array Value) (X : World), (callFunc fo args).run Tryz.prog X = .ok (.enter fo args) X) (l : Nat) (Mn : World → Nat → Prop) (J Jx : List Nat → World → Prop) (hM : MnOk w0.heap.size Mn J) (N : Nat)
    (hY : ∀ m pre (x : Nat) W, J pre W → pre.length < N → YieldAt Fence.wide m Tryz.prog l #[.int .i64 (x : Int)] W fun e W' =>
      (e = .returned (.bool true) ∧ J (pre ++ [x]) W' ∧ Kp w0.heap.size Mn W W') ∨ (e = .returned (.bool false) ∧ Jx (pre ++ [x]) W')) :
    ∀ (i : Nat), i < M.n → ∀ (n : Nat) (pre : List Nat) (W : World), J pre W → Kept (fun k => k < w0.heap.size) w0 W → pre.length + (tr M.n Fw i).length ≤ N →
      CallsIn Fence.wide n Tryz.prog 142 #[.pointer (some ⟨p, 0, none⟩), .int .i64 (i : Int), .func (.func fo) #[] #[], .func (.yield l) #[] #[]] W fun e W' =>
        (e = .returned (.bool true) ∧ J (pre ++ tr M.n Fw i) W' ∧ Kp w0.heap.size Mn W W') ∨ (e = .returned (.bool false) ∧ ∃ q, q <+: tr M.n Fw i ∧ Jx (pre ++ q) W') := by
  suffices hmain : ∀ (d i : Nat), dn M.n rk i < d → i < M.n → ∀ (n : Nat) (pre : List Nat) (W : World), J pre W → Kept (fun k => k < w0.heap.size) w0 W → pre.length + (tr M.n Fw i).length ≤ N →
      CallsIn Fence.wide n Tryz.prog 142 #[.pointer (some ⟨p, 0, none⟩), .int .i64 (i : Int), .func (.func fo) #[] #[], .func (.yield l) #[] #[]] W fun e W' =>
        (e = .returned (.bool true) ∧ J (pre ++ tr M.n Fw i) W' ∧ Kp w0.heap.size Mn W W') ∨ (e = .returned (.bool false) ∧ ∃ q, q <+: tr M.n Fw i ∧ Jx (pre ++ q) W') from fun i hi => hmain _ i (Nat.lt_succ_self _) hi
  intro d
  induction d with
  | zero => exact fun i h => absurd h (Nat.not_lt_zero _)
  | succ d ih =>
    intro i hdi hi n pre W hJ hK hN
    have rn := node_any K p i M R W (hd.kept hK) hG.wf hi (by omega) hG.few
    refine callsIn_of_wp Tryz.func142 rfl trivial ?_ rfl
    simp only [Tryz.ntmps142, List.size_toArray, List.length_cons, List.length_nil, Nat.reduceAdd, Nat.reduceSub, Array.replicate_succ, Array.replicate_zero, List.push_toArray, List.append_toArray, List.nil_append, List.cons_append]
    gi_wp2_with fail
    refine ⟨trivial, wide_deep _, ?_⟩
    refine (callsIn_wide.2 rn).mono ?_
    rintro e v1 ⟨ao1, ac1, ko1, kc1, rfl, -, hQ1, hKa⟩
    obtain ⟨N1, hN1⟩ : ∃ N, v1.heap.size = N := ⟨_, rfl⟩
    obtain ⟨V1, hV1⟩ : ∃ V, v1.alloc (.cells (outN (M.nd i) ao1 ac1 (M.pl i).up ko1 (R i).length kc1) 36) = V := ⟨_, rfl⟩
    have kV1 : Kept (fun k => k < W.heap.size) W V1 := by rw [← hV1]; exact hKa.alloc (fun k h => Nat.lt_of_lt_of_le h hKa.size) _
    have hb1 : V1.heap[N1]? = some (.cells (outN (M.nd i) ao1 ac1 (M.pl i).up ko1 (R i).length kc1) 36 (0, 0)) := by rw [← hV1, ← hN1]; exact heap_alloc_new v1 _
    have hJ1 := (hM.new pre W V1 hJ kV1).1
    have HV1 : Hid (v1.alloc (.cells (outN (M.nd i) ao1 ac1 (M.pl i).up ko1 (R i).length kc1) 36) = V1) := hV1
    have HN1 : Hid (v1.heap.size = N1) := hN1
    obtain ⟨fn, tmps, assign, body, hy, hR⟩ := hY (n - 1) pre i V1 hJ1 (by rw [tr_eq hF hi] at hN; simp at hN; omega)
    clear rn hV1 hN1
    gi_wp2_with (rw [HV1.out])
    rw [HN1.out]
    refine ⟨wide_deep _, ?_⟩
    refine hR.mono ?_
    clear hR
    rintro e W2 (⟨rfl, hJ2, hk2⟩ | ⟨rfl, hx2⟩)
    · have hnm : ¬ Mn V1 N1 := fun h => by
        have h1 := (hM.new pre W V1 hJ kV1).2 N1 h
        have h2 := (hM.lo pre W N1 hJ h1).2
        have h3 := hKa.size
        rw [HN1.out] at h3
        omega
      have hb2 := (hk2.cells N1 _ hb1 rfl hnm).1
      have hKp1 : Kp w0.heap.size Mn W V1 := Kp.of_kept hM hJ hK.size kV1
      obtain ⟨cs, hcs⟩ : ∃ cs, outN (M.nd i) ao1 ac1 (M.pl i).up ko1 (R i).length kc1 = cs := ⟨_, rfl⟩
      have hcz : cs.size = 14 := by rw [← hcs]; rfl
      have hcI : (Tryz.prog.info? 36).map (·.size) = some cs.size := by rw [hcz]; exact info36
      have HCS : Hid (outN (M.nd i) ao1 ac1 (M.pl i).up ko1 (R i).length kc1 = cs) := hcs
      rw [hcs] at hb2
      have hrow : IntsAt (fun g => ¬ Mn W2 g) W2 ko1 (R i) := by
        have h1 : IntsAt (fun g => W.heap.size ≤ g ∧ g < v1.heap.size) v1 ko1 (R i) := hQ1.intsAt fun g hg => ⟨Nat.le_of_not_lt (hQ1.out hg).1, (hQ1.out hg).2⟩
        have h2 : IntsAt (fun g => ¬ Mn V1 g) V1 ko1 (R i) := h1.to (fun g hg hh => by
          have q1 := (hM.new pre W V1 hJ kV1).2 g hh
          have q2 := (hM.lo pre W g hJ q1).2
          omega) (fun g hg => by rw [← HV1.out]; exact Below.heap_alloc _ _ _ hg.2)
        exact h2.kp hk2
      have rfo := hfo i hi ao1 ac1 (M.pl i).up ko1 kc1 (fun g => ¬ Mn W2 g) W2 hrow.inn (by have := hG.wf.len_le hi; omega)
      rw [hcs] at rfo
      clear hb1 hQ1 hKa hnm hrow hcs hJ1 hy
      gi_wp2_with (refine wpIn_load_row rfl 36 _ rfl N1 rfl 36 cs (0, 0) _ hb2 Tryz.underlying36 rfl hcI ?_)
      refine ⟨trivial, wide_deep _, ?_⟩
      refine (callsIn_wide.2 rfo).mono ?_
      rintro e W3 ⟨fa, fc, rfl, hrow3, hk3⟩
      have hJ3 := (hM.new _ W2 W3 hJ2 hk3).1
      have hr3 : IntsAt (fun g => ¬ Mn W3 g) W3 fa (Fw i) := hrow3.to (fun g hg hh => by
        have q1 := (hM.new _ W2 W3 hJ2 hk3).2 g hh
        rcases hg.1 with q | q
        · exact q q1
        · have q2 := (hM.lo _ W2 g hJ2 q1).2
          omega) (fun _ _ => rfl)
      have hn2 : w0.heap.size ≤ W2.heap.size := Nat.le_trans hK.size (Nat.le_trans kV1.size hk2.below.size)
      have hKp3 : Kp w0.heap.size Mn W W3 := (hKp1.trans hk2).trans (Kp.of_kept hM hJ2 hn2 hk3)
      have HK3 : Hid (Kept (fun k => k < w0.heap.size) w0 W3 ∧ Kp w0.heap.size Mn W W3) := ⟨hK.trans (Below.kept hKp3.below), hKp3⟩
      have HR3 : Hid (IntsAt (fun g => ¬ Mn W3 g) W3 fa (Fw i)) := hr3
      obtain ⟨ln, hln⟩ : ∃ ln, (Fw i).length = ln := ⟨_, rfl⟩
      have HLN : Hid ((Fw i).length = ln) := hln
      have hlnb : ln ≤ 200000 := by rw [← hln]; exact hFl i hi
      rw [hln]
      clear rfo hrow3 hk3 hr3 hKp3 hKp1 hk2 hb2 hln kV1
      gi_wp2_with fail
      have HN : Hid (pre.length + (tr M.n Fw i).length ≤ N) := hN
      have HTR : Hid (tr M.n Fw i = i :: (Fw i).flatMap (tr M.n Fw)) := tr_eq hF hi
      have HJ3 : Hid (J (pre ++ [i]) W3) := hJ3
      have HIH : Hid (∀ k, k ∈ Fw i → ∀ (n : Nat) (pre : List Nat) (W : World), J pre W → Kept (fun k => k < w0.heap.size) w0 W → pre.length + (tr M.n Fw k).length ≤ N →
        CallsIn Fence.wide n Tryz.prog 142 #[.pointer (some ⟨p, 0, none⟩), .int .i64 (k : Int), .func (.func fo) #[] #[], .func (.yield l) #[] #[]] W fun e W' =>
          (e = .returned (.bool true) ∧ J (pre ++ tr M.n Fw k) W' ∧ Kp w0.heap.size Mn W W') ∨ (e = .returned (.bool false) ∧ ∃ q, q <+: tr M.n Fw k ∧ Jx (pre ++ q) W')) := fun k hk => by
        obtain ⟨h1, h2⟩ := hF i hi k hk
        have := dn_lt h1 h2
        exact ih k (by omega) h1
      clear hJ3 hN ih hY hfo hen hJ2 hJ hK hn2 hM hF hd hG hFl
      gi_loopw [12, 29, 30, 31, 32, 33, 34, 35, 36, 37, 38, 39] (fun _ v _ _ _ _ _ _ _ _ _ _ wr => ∃ j : Nat, j ≤ ln ∧ v = .int .i64 (j : Int) ∧ J (pre ++ i :: ((Fw i).take j).flatMap (tr M.n Fw)) wr ∧ Kept (fun k => k < w0.heap.size) w0 wr ∧ Kp w0.heap.size Mn W wr ∧ IntsAt (fun g => ¬ Mn wr g) wr fa (Fw i)) (fun _ v _ _ _ _ _ _ _ _ _ _ _ => ln - (intOf v).toNat)
      case atStart => exact ⟨0, Nat.zero_le _, rfl, by simpa using HJ3.out, HK3.out.1, HK3.out.2, HR3.out⟩
      case round =>
        obtain ⟨j, hj, rfl, hJj, hKj, hKpj, hrj⟩ := hrel
        by_cases hlt : j < ln
        · have hjl : j < (Fw i).length := by rw [HLN.out]; exact hlt
          obtain ⟨g, o, rfl, -, hc⟩ := hrj j hjl
          have hs := fm_split (tr M.n Fw) (Fw i) j hjl
          have hs2 := fm_succ (tr M.n Fw) (Fw i) j hjl
          have hmem := List.getElem_mem hjl
          obtain ⟨k, hk⟩ : ∃ k, (Fw i)[j] = k := ⟨_, rfl⟩
          rw [hk] at hc hs hs2 hmem
          have hlen : (pre ++ i :: ((Fw i).take j).flatMap (tr M.n Fw)).length + (tr M.n Fw k).length ≤ N := by
            have := HN.out
            rw [HTR.out, hs] at this
            simp only [List.length_append, List.length_cons] at this ⊢
            omega
          have rv := HIH.out k hmem (n - 1) _ wr hJj hKj hlen
          have HS2 : Hid ((List.take (j + 1) (Fw i)).flatMap (tr M.n Fw) = (List.take j (Fw i)).flatMap (tr M.n Fw) ++ tr M.n Fw k) := hs2
          have HS : Hid ((Fw i).flatMap (tr M.n Fw) = (List.take j (Fw i)).flatMap (tr M.n Fw) ++ (tr M.n Fw k ++ (List.drop (j + 1) (Fw i)).flatMap (tr M.n Fw))) := hs
          have hc' : wr.cell? ⟨g, o + j, none⟩ = some (.int .i64 (k : Int)) := hc
          have HRJ : Hid (IntsAt (fun g => ¬ Mn wr g) wr (some ⟨g, o, none⟩) (Fw i)) := hrj
          have HKJ : Hid (Kept (fun k => k < w0.heap.size) w0 wr ∧ Kp w0.heap.size Mn W wr) := ⟨hKj, hKpj⟩
          clear hs hs2 hk hlen hc hJj hKj hKpj hrj hmem
          gi_wp2_with fail
          refine ⟨trivial, wide_deep _, ?_⟩
          refine rv.mono ?_
          clear rv
          rintro e W4 (⟨rfl, hJ4, hk4⟩ | ⟨rfl, q, hq, hx4⟩)
          · gi_wp2
            go_roundw
            case rel => exact ⟨j + 1, by omega, by go_num, by rw [HS2.out, ← List.cons_append, ← List.append_assoc]; exact hJ4, HKJ.out.1.trans (Below.kept hk4.below), HKJ.out.2.trans hk4, HRJ.out.kp hk4⟩
            case measure => simp [intOf]; omega
          · gi_wp2
            go_ret
            refine .inr ⟨rfl, i :: ((Fw i).take j).flatMap (tr M.n Fw) ++ q, ?_, by rw [← List.append_assoc]; exact hx4⟩
            obtain ⟨t, ht⟩ := hq
            refine ⟨t ++ (List.drop (j + 1) (Fw i)).flatMap (tr M.n Fw), ?_⟩
            rw [HTR.out, HS.out, ← ht]
            simp
        · have hjn : ln = j := by omega
          subst hjn
          have HJJ : Hid (J (pre ++ tr M.n Fw i) wr ∧ Kp w0.heap.size Mn W wr) := ⟨by
            rw [List.take_of_length_le (by rw [HLN.out]; exact Nat.le_refl _)] at hJj
            rw [HTR.out]
            exact hJj, hKpj⟩
          clear hJj hKj hKpj hrj
          gi_wp2
          go_ret
          exact .inl ⟨rfl, HJJ.out.1, HJJ.out.2⟩
    · gi_wp2
      go_ret
      exact .inr ⟨rfl, [i], by rw [tr_eq hF hi]; exact ⟨_, rfl⟩, hx2⟩
end Go.Proofs.YtbhfnbplbkncmaaGreat
