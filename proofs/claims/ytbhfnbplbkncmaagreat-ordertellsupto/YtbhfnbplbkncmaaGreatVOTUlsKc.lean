/-
  order.from: what it hands back goes through a node and all that follow it.
-/
import Derived.Test.YtbhfnbplbkncmaaGreatVOTUlsKb
import Derived.Test.YtbhfnbplbkncmaaGreatZ28
namespace Go.Proofs.YtbhfnbplbkncmaaGreat
open Go.RowKit Go.Shelf
set_option linter.unusedVariables false
attribute [local go_sem] Oper.semAt_some
set_option maxRecDepth 100000 in
set_option maxHeartbeats 1000000 in
theorem visit_none (K : Nat → Prop) (p : Nat) (M : Dm) (i : Int) (fv yv : Value) (W : World) (h : DX K W p M) (hi : i < 0 ∨ (M.n : Int) ≤ i) (hn : M.n ≤ 1000000) :
    Calls Tryz.prog 142 #[.pointer (some ⟨p, 0, none⟩), .int .i64 i, fv, yv] W fun e w' => e = .returned (.bool true) ∧ Kept (fun k => k < W.heap.size) W w' := by
  have r1 := node_none K p M i W h hi hn
  clear h hi
  go_enter Tryz.func142, Tryz.ntmps142
  go_wp2_with fail
  refine r1.mono ?_
  rintro e v1 ⟨rfl, hK1⟩
  have HK : Hid (∀ o, Kept (fun k => k < W.heap.size) W (v1.alloc o)) := fun o => hK1.alloc (fun k h => Nat.lt_of_lt_of_le h hK1.size) o
  clear r1 hK1
  go_wp2
  go_ret
  exact ⟨rfl, HK.out _⟩
/-- The node and all that follow it; nothing, if there is no such node. -/
def trI (n : Nat) (F : Nat → List Nat) (i : Int) : List Nat := if i < 0 ∨ (n : Int) ≤ i then [] else tr n F i.toNat
theorem trI_in {n : Nat} {F : Nat → List Nat} {i : Nat} (h : i < n) : trI n F (i : Int) = tr n F i := by unfold trI; rw [if_neg (by omega), Int.toNat_natCast]
theorem trI_no {n : Nat} {F : Nat → List Nat} {i : Int} (h : i < 0 ∨ (n : Int) ≤ i) : trI n F i = [] := if_pos h
set_option maxRecDepth 20000 in
theorem from_any (p fo : Nat) (i : Int) (w : World) :
    Calls Tryz.prog 81 #[.pointer (some ⟨p, 0, none⟩), .int .i64 i, .func (.func fo) #[] #[]] w fun e w' => e = .returned (.func (.func 141) #[] #[.pointer (some ⟨w.heap.size, 0, none⟩), .pointer (some ⟨w.heap.size + 1, 0, none⟩), .pointer (some ⟨w.heap.size + 2, 0, none⟩)]) ∧ w' = ((w.alloc (.cells #[.pointer (some ⟨p, 0, none⟩)] 26)).alloc (.cells #[.int .i64 i] 3)).alloc (.cells #[.func (.func fo) #[] #[]] 152) := by
  go_enter Tryz.func81, Tryz.ntmps81
  go_wp2
  go_ret
  exact ⟨rfl, rfl⟩
/-- The loop's own rows, told by the world alone. -/
structure Mine (n₀ : Nat) (Sn : World → Prop) (Mn : World → Nat → Prop) : Prop where
  lo : ∀ W k, Sn W → Mn W k → n₀ ≤ k ∧ k < W.heap.size
  new : ∀ W W', Sn W → Kept (fun k => k < W.heap.size) W W' → Sn W' ∧ ∀ k, Mn W' k → Mn W k
def KpS (n₀ : Nat) (Sn : World → Prop) (Mn : World → Nat → Prop) (W W' : World) : Prop := Kp n₀ Mn W W' ∧ (Sn W → Sn W')
theorem kept_grown {W W' : World} (h : Kept (fun k => k < W.heap.size) W W') : W.grownBy W' none := ⟨h.os, h.tape, h.output, h.size, fun k hk _ => h.block k hk⟩
set_option maxRecDepth 100000 in
set_option maxHeartbeats 2000000 in
theorem from_stops (K : Nat → Prop) (p : Nat) (M : Dm) (R : Nat → List Nat) (rk : Nat → Nat) (w0 : World) (hd : DX K w0 p M) (hG : Good M R rk) (hn : M.n ≤ 100000) (Fw : Nat → List Nat) (hF : Falls M.n Fw rk) (hFl : ∀ i, i < M.n → (Fw i).length ≤ 200000) (fo : Nat) (hfo : FoOk fo M R Fw)
    (hen : ∀ (args : Array Value) (X : World), (callFunc fo args).run Tryz.prog X = .ok (.enter fo args) X) (i : Int) (n : Nat) (b0 b1 b2 : Nat) (w : World) (hw : Kept (fun k => k < w0.heap.size) w0 w) (Sn : World → Prop) (Mn : World → Nat → Prop) (hM : Mine w0.heap.size Sn Mn) (hS : ∀ W, Below w.heap.size w W → Sn W)
    (c0 : w.cell? ⟨b0, 0, none⟩ = some (.pointer (some ⟨p, 0, none⟩))) (c1 : w.cell? ⟨b1, 0, none⟩ = some (.int .i64 i)) (c2 : w.cell? ⟨b2, 0, none⟩ = some (.func (.func fo) #[] #[])) (l0 : b0 < w.heap.size) (l1 : b1 < w.heap.size) (l2 : b2 < w.heap.size) :
    SeqStopsK Fence.wide n Tryz.prog 141 #[.pointer (some ⟨b0, 0, none⟩), .pointer (some ⟨b1, 0, none⟩), .pointer (some ⟨b2, 0, none⟩)] (fun x : Nat => #[Value.int .i64 (x : Int)]) (KpS w0.heap.size Sn Mn) (fun ys => ys = trI M.n Fw i) (fun pre => pre <+: trI M.n Fw i) (trI M.n Fw i).length w := fun l J Jx W hW hJ _ hY h0 => by
  have a0 : W.cell? ⟨b0, 0, none⟩ = some (.pointer (some ⟨p, 0, none⟩)) := (hW.cell (p := ⟨b0, 0, none⟩) l0).trans c0
  have a1 : W.cell? ⟨b1, 0, none⟩ = some (.int .i64 i) := (hW.cell (p := ⟨b1, 0, none⟩) l1).trans c1
  have a2 : W.cell? ⟨b2, 0, none⟩ = some (.func (.func fo) #[] #[]) := (hW.cell (p := ⟨b2, 0, none⟩) l2).trans c2
  have hkW : Kept (fun k => k < w0.heap.size) w0 W := hw.trans ((Below.kept hW).mono fun k h => Nat.lt_of_lt_of_le h hw.size)
  have hsW := hS W hW
  by_cases hno : i < 0 ∨ (M.n : Int) ≤ i
  · have rv := visit_none K p M i (.func (.func fo) #[] #[]) (.func (.yield l) #[] #[]) W (hd.kept hkW) hno (by omega)
    refine callsIn_of_wp Tryz.func141 rfl trivial ?_ rfl
    simp only [Tryz.ntmps141, List.size_toArray, List.length_cons, List.length_nil, Nat.reduceAdd, Nat.reduceSub, Array.replicate_succ, Array.replicate_zero, List.push_toArray, List.append_toArray, List.nil_append, List.cons_append]
    gi_wp2_with fail
    refine ⟨trivial, wide_deep _, ?_⟩
    refine (callsIn_wide.2 rv).mono ?_
    rintro e W1 ⟨rfl, hk1⟩
    have hJ1 : J [] W1 := hJ [] W W1 none h0 (kept_grown hk1) (fun r e => by cases e)
    gi_wp2
    go_end0
    exact ⟨⟨_, rfl⟩, .inl ⟨[], by rw [trI_no hno], hJ1⟩⟩
  · obtain ⟨k, hk, rfl⟩ : ∃ k : Nat, k < M.n ∧ i = (k : Int) := ⟨i.toNat, by omega, by omega⟩
    rw [trI_in hk] at hY ⊢
    have rv := visit_in K p M R rk w0 hd hG hn Fw hF hFl fo hfo hen l Mn (fun pre W => J pre W ∧ Sn W) Jx
      ⟨fun pre W k h hm => hM.lo W k h.2 hm, fun pre W W' h hk => ⟨⟨hJ pre W W' none h.1 (kept_grown hk) (fun r e => by cases e), (hM.new W W' h.2 hk).1⟩, (hM.new W W' h.2 hk).2⟩⟩ (tr M.n Fw k).length
      (fun m pre x W h hl => by
        have hy := hY pre x W h.1 hl
        obtain ⟨fn, tmps, assign, body, e1, hR⟩ := hy
        refine ⟨fn, tmps, assign, body, e1, ?_⟩
        have hR2 := hR.mono (R' := fun e W' => (e = .returned (.bool true) ∧ (J (pre ++ [x]) W' ∧ Sn W') ∧ Kp w0.heap.size Mn W W') ∨ (e = .returned (.bool false) ∧ Jx (pre ++ [x]) W')) (fun e W' hh => by
          rcases hh with ⟨q1, q2, q3⟩ | q
          · exact .inl ⟨q1, ⟨q2, q3.2 h.2⟩, q3.1⟩
          · exact .inr q)
        exact ⟨hR2.1, fun c cs _ => hR2.2 c cs (room_wide _)⟩) k hk (n - 1) [] W ⟨h0, hsW⟩ hkW (by simp)
    refine callsIn_of_wp Tryz.func141 rfl trivial ?_ rfl
    simp only [Tryz.ntmps141, List.size_toArray, List.length_cons, List.length_nil, Nat.reduceAdd, Nat.reduceSub, Array.replicate_succ, Array.replicate_zero, List.push_toArray, List.append_toArray, List.nil_append, List.cons_append]
    gi_wp2_with fail
    refine ⟨trivial, wide_deep _, ?_⟩
    refine rv.mono ?_
    rintro e W1 (⟨rfl, hJ1, -⟩ | ⟨rfl, q, hq, hx⟩)
    · gi_wp2
      go_end0
      exact ⟨⟨_, rfl⟩, .inl ⟨_, rfl, by simpa using hJ1.1⟩⟩
    · gi_wp2
      go_end0
      exact ⟨⟨_, rfl⟩, .inr ⟨q, hq, by simpa using hx⟩⟩
end Go.Proofs.YtbhfnbplbkncmaaGreat
