/-
  Several texts, one behind the other: TkE, Lower, All, Clean.
-/
import Derived.Test.YtncfgahnjakeiaaDoorTkD
import Derived.Test.YtncfgahnjakeiaaDoorProg
import Derived.Test.YtncfgahnjakeiaaDoorBase
import Derived.Test.YtncfgahnjakeiaaDoorMa
import Derived.Deep.QuietTactic
import Derived.BigQuiet
import Derived.Test.YtncfgahnjakeiaaDoorTake
import Derived.Test.YtncfgahnjakeiaaDoorBld
import Derived.Test.YtncfgahnjakeiaaDoorTkA
import Derived.Deep.LoopGhost
section
namespace Go.Proofs.YtncfgahnjakeiaaDoor
open Go.RowKit

/-- A call of a function that has a body. -/
theorem entersE {f : FuncId} {fn : Func} {c : Code} (hf : Tryd.prog.funcs[f]? = some fn) (hname : (fn.name == "runtime.NumGoroutine") = false) (hb : fn.body = some c) (args : Array Value) (w : World) :
    (callFunc f args).run Tryd.prog w = .ok (.enter f args) w := by
  have hname : ¬ fn.name = "runtime.NumGoroutine" := by simpa using hname
  simp [callFunc, hf, hb, hname]
theorem enter33 (args : Array Value) (X : World) : (callFunc 33 args).run Tryd.prog X = .ok (.enter 33 args) X := entersE Tryd.func33 (by kernel_rfl) (c := _) rfl args X

/-- A call of a Go function, at a step of a region that draws its order. -/
theorem step_call {P : Program} {w : World} {ops : Array Oper} {o : Oper} {a : Act} {Kn : Act → World → Prop} {Q : Exit → Act → World → Prop} {E : Prop} (hgd : o.guard = none) (f : FuncId) (args : Array Operand) (tys : Array TypeId)
    (ho : o.op = .call { callee := .value (.func f), args := args, argTypes := tys }) (vs : Array Value) (hv : args.map a.eval = vs) (hE : (callFunc f vs).run P w = .ok (.enter f vs) w) (v : Value) (R : World → Prop)
    (hc : Calls P f vs w fun e w' => e = .returned v ∧ R w') (h : ∀ w', R w' → Kn (a.put o.dst v) w') : if Region.wanted o (yielded ops a.tmps) = true then Oper.wp P o a w Kn Q else E := by
  have hw : Region.wanted o (yielded ops a.tmps) = true := by simp [Region.wanted, hgd]
  rw [if_pos hw]
  have e : (execOp a.eval o).run P w = .ok (.enter f vs) w := by
    simp [execOp, ho, resolve, Deferred.ofValue, Act.eval, invoke, hv, hE]
  unfold Oper.wp
  rw [e, Oper.upon_enter]
  refine hc.mono ?_
  rintro e w' ⟨rfl, hR⟩
  exact h w' hR

set_option maxRecDepth 20000 in
set_option maxHeartbeats 1000000 in
theorem endText_any (K A : Nat → Prop) (p : Nat) (st : TS) (w : World) (h : TK K A w p st) (hKl : ∀ k, K k → k < w.heap.size) (hn : pot st ≤ 1000000000) :
    Calls Tryd.prog 17 #[.pointer (some ⟨p, 0, none⟩)] w fun e w' => e = .returned (.tuple #[]) ∧ TK K A w' p st.endT ∧ Kept K w w' := by
  have hlen := lenT_any K A p st w h
  by_cases ht : st.text = []
  · have HR : Hid (st.endT = st) := by
      show TS.endT _ = _
      unfold TS.endT
      rw [if_pos ht]
    have H : Hid (TK K A w p st) := h
    rw [ht] at hlen
    clear h ht hn
    go_enter Tryd.func17, Tryd.ntmps17
    go_wp2_with fail
    refine hlen.mono ?_
    rintro e w1 ⟨rfl, rfl⟩
    go_wp2
    refine bodyPost_ret (results_none rfl _ _ _) rfl ?_
    refine ⟨rfl, ?_, Kept.refl _ _⟩
    rw [HR.out]
    exact H.out
  · obtain ⟨bp, ba, bc, ho, hp, how⟩ := h.apart
    have hKp := h.1
    have hb := ho
    obtain ⟨_, _, ta, tc, tcs, fa, fc, hb, _⟩ := hb
    have c2 : w.drew.cell? ⟨p, 2, none⟩ = some (.slice ta st.toks.length tc) := by rw [cell_block (w := w.drew) hb]; rfl
    have c5 : w.drew.cell? ⟨p, 5, none⟩ = some (.slice ba st.text.length bc) := by rw [cell_block (w := w.drew) hb]; rfl
    have c6 : w.drew.cell? ⟨p, 6, none⟩ = some (.int .i64 (st.tat : Int)) := by rw [cell_block (w := w.drew) hb]; rfl
    have hstr := strT_any p ba bc st.text w.drew c5 _ (how.of (w' := w.drew) fun _ _ _ => rfl) ht (by unfold pot at hn; omega)
    have HR : Hid (st.endT = { st with toks := st.toks ++ [⟨3, [], [], false, st.text, st.tat⟩], text := [] }) := by
      show TS.endT _ = _
      unfold TS.endT
      rw [if_neg ht]
    have hl0 : (((st.text.length : Nat) : Int) == 0) = false := by
      have : 0 < st.text.length := List.length_pos_iff.2 ht
      simp
      intro e
      exact ht e
    have hnt : st.toks.length ≤ 1000000000 := by unfold pot at hn; omega
    have hpb : ¬ blkOf ba p := fun hh => (how.out hh).1 (.inr rfl)
    obtain ⟨n, hne⟩ : ∃ n, st.toks.length = n := ⟨_, rfl⟩
    obtain ⟨m, hme⟩ : ∃ m, st.text.length = m := ⟨_, rfl⟩
    have HA : Hid (∀ X, Kept (fun k => ¬ blkOf ba k) w.drew X → X.cell? ⟨p, 2, none⟩ = some (.slice ta n tc) ∧ X.cell? ⟨p, 6, none⟩ = some (.int .i64 (st.tat : Int)) ∧ (X.alloc (.cells #[.int .u8 3, .string ⟨#[]⟩, .slice none 0 0, .bool false, sv st.text, .int .i64 (st.tat : Int)] 29)).cell? ⟨p, 2, none⟩ = some (.slice ta n tc) ∧ ∃ ta' tc' w',
        (Builtin.append_ #[23, 23] 23 #[.slice ta n tc, .slice (some ⟨X.heap.size, 0, none⟩) 1 1]).run Tryd.prog (X.alloc (.cells #[.int .u8 3, .string ⟨#[]⟩, .slice none 0 0, .bool false, sv st.text, .int .i64 (st.tat : Int)] 29)) = .ok (.slice ta' (n + 1) tc') w' ∧
        w'.cell? ⟨p, 2, none⟩ = some (.slice ta n tc) ∧ w'.frozen? ⟨p, 2, none⟩ = false ∧ (w'.setCell ⟨p, 2, none⟩ (.slice ta' (n + 1) tc')).cell? ⟨p, 4, none⟩ = some (.pointer bp) ∧ (w'.setCell ⟨p, 2, none⟩ (.slice ta' (n + 1) tc')).cell? ⟨p, 5, none⟩ = some (.slice ba m bc) ∧
        (∀ i, (w'.setCell ⟨p, 2, none⟩ (.slice ta' (n + 1) tc')).frozen? ⟨p, i, none⟩ = false) ∧ TKo K A (w'.setCell ⟨p, 2, none⟩ (.slice ta' (n + 1) tc')) p { st with toks := st.toks ++ [⟨3, [], [], false, st.text, st.tat⟩] } (.pointer bp) (.slice ba m bc) (fun _ => False) ∧ Kept K w (w'.setCell ⟨p, 2, none⟩ (.slice ta' (n + 1) tc'))) := by
      intro X hX
      have hk : Kept (fun k => ¬ blkOf ba k) w X := ⟨hX.os, hX.tape, hX.output, hX.size, hX.block⟩
      have hto : TKo K A X p st (.pointer bp) (.slice ba st.text.length bc) (fun _ => False) := ho.kept (fun g hg hh => (how.out hh).1 hg) (hk.mono fun _ h => h.2) hKl
      have hkK : Kept K w X := hk.mono fun k hk hh => (how.out hh).1 (.inl hk)
      have hbX := (hk.block p hpb).trans hb
      obtain ⟨ta1, tc1, q1, ta', tc', w', r1, r2, r3, r4, r5, _⟩ := hto.appT (fun k hk => Nat.lt_of_lt_of_le (hKl k hk) hkK.size) (fun _ h => h.elim) hnt ⟨3, [], [], false, st.text, st.tat⟩ none 0 (AtsIn.nil _ _ _)
      have q2 : X.cell? ⟨p, 2, none⟩ = some (.slice ta st.toks.length tc) := by rw [cell_block hbX]; rfl
      rw [q1] at q2
      injection q2 with q2
      injection q2 with e1 e2 e3
      subst e1
      subst e3
      have hb4 := r4
      obtain ⟨_, _, _, _, _, _, _, hb4, _⟩ := hb4
      rw [hne] at q1 r1 r2 r4 r5 hb4
      rw [hme] at r4 hb4
      exact ⟨q1, by rw [cell_block hbX]; rfl, by rw [cell_block (heap_alloc_past hbX _), ← cell_block hbX]; exact q1, ta', tc', w', r1, r2, r3, by rw [cell_block hb4]; rfl, by rw [cell_block hb4]; rfl, fun i => frozen_block hb4 i, r4, hkK.trans r5⟩
    rw [hne] at c2
    rw [hme] at c5 hlen hl0
    clear h ht hn hb ho hp how hne hme
    go_enter Tryd.func17, Tryd.ntmps17
    go_wp2_with fail
    refine hlen.mono ?_
    rintro e w1 ⟨rfl, rfl⟩
    clear hlen
    go_wp2_with fail
    go_region_law (first | (refine step_call rfl 33 #[.tmp 14] #[45] rfl #[.pointer (some ⟨p, 4, none⟩)] (by first | (simp [Act.eval]; done) | (simp [Act.eval, Act.put]; done)) (enter33 _ _) _ _ hstr ?_; rintro w2 ⟨hk2, -⟩; obtain ⟨d2, d6, d2a, ta', tc', w3, hrun, e2, g2, e4, e5, gf, hto, hkf⟩ := HA.out w2 hk2) | (refine step_appR (w' := w3) rfl (.tmp 11) (.tmp 21) 23 23 rfl _ _ (.slice ta' (n + 1) tc') rfl rfl hrun ?_))
    all_goals
      go_wp2_with fail
      refine (resetT_any p _ _ _ e4 e5 (gf 4) (gf 5)).mono ?_
      rintro e w4 ⟨rfl, rfl⟩
      go_wp2
      go_end0
      refine ⟨rfl, ?_, (hkf.setCell (p := ⟨p, 4, none⟩) hKp _).setCell (p := ⟨p, 5, none⟩) hKp _⟩
      rw [HR.out]
      have h4 := (hto.set 4 (.pointer none) (.pointer none) _ (fun _ _ _ _ _ => rfl)).set 5 (.slice none 0 0) _ (.slice none 0 0) (fun _ _ _ _ _ => rfl)
      obtain ⟨q1, qA, ta2, tc2, tcs2, fa2, fc2, q2, q3, q4, q5⟩ := h4
      refine TKo.join (bp := none) (ba := none) (bc := 0) ⟨q1, qA, ta2, tc2, tcs2, fa2, fc2, q2, q3.to (fun g hg => ?_) (fun _ _ => rfl), q4, q5.to (fun g hg => ?_) (fun _ _ => rfl)⟩ (.inl rfl) (Own.nil _ _ _)
      · rintro (hh | hh | hh | hh)
        · exact (q3.out hg).1 (.inl hh)
        · exact (q3.out hg).1 (.inr (.inl hh))
        · exact (q3.out hg).1 (.inr (.inr (.inl hh)))
        · cases hh
      · rintro (hh | hh | hh | hh)
        · exact (q5.out hg).1 (.inl hh)
        · exact (q5.out hg).1 (.inr (.inl hh))
        · exact (q5.out hg).1 (.inr (.inr (.inl hh)))
        · cases hh
end Go.Proofs.YtncfgahnjakeiaaDoor
end
section
namespace Go.Proofs.YtncfgahnjakeiaaDoor
open Go.RowKit
theorem info5 : (Tryd.prog.info? 5).map (fun i => (i.zero, i.size, i.bytes)) = some (some (.int .u8 0), 1, 1) := by kernel_rfl

theorem lowB_up {c : UInt8} (h1 : 65 ≤ c.toNat) (h2 : c.toNat ≤ 90) : Value.int .u8 ((c.toNat : Int) - 65 + 97) = bv (lowB c) := by
  have : (lowB c).toNat = c.toNat + 32 := by
    unfold lowB
    rw [if_pos ⟨h1, h2⟩, UInt8.toNat_add]
    show (c.toNat + 32) % 256 = _
    omega
  show _ = Value.int .u8 ((lowB c).toNat : Int)
  rw [this]
  exact congrArg (Value.int .u8) (by omega)
theorem lowB_up' {c : UInt8} (h1 : 65 ≤ c.toNat) (h2 : c.toNat ≤ 90) : Value.int .u8 ((c.toNat : Int) + 32) = bv (lowB c) := by
  rw [← lowB_up h1 h2]
  exact congrArg (Value.int .u8) (by omega)
theorem lowL_snoc {s : ByteArray} {k : Nat} (hk : k < s.size) : bvs (lowL (s.data.toList.take (k + 1))) = bvs (lowL (s.data.toList.take k)) ++ [bv (lowB s[k])] := by
  have h : k < s.data.toList.length := hk
  rw [List.take_succ_eq_append_getElem h]
  simp [lowL, bvs]
  rfl

/-- What '[]byte(st)' lays. -/
def bcap (X : World) (st : ByteArray) : Nat := grownCap X st.size 0 5
def bobj (X : World) (st : ByteArray) : Obj := .cells (bytesRow st (bcap X st)) 5 ((bytesRow st (bcap X st)).size, (bytesRow st (bcap X st)).size + 1)
theorem conv_bytes (X : World) (st : ByteArray) : (convert 9 34 (.string st)).run Tryd.prog X = .ok (.slice (some ⟨X.heap.size, 0, none⟩) st.size (bcap X st)) (X.alloc (bobj X st)).drew :=
  run_bytes_of_string X 9 34 5 st Tryd.underlying9 Tryd.underlying34 Tryd.underlying5

/-- A row of bytes in a block, of which the first k are made small. -/
def Low (w : World) (N : Nat) (s : ByteArray) (k : Nat) : Prop := N < w.heap.size ∧ ∀ j (hj : j < s.size), w.cell? ⟨N, j, none⟩ = some (bv (if j < k then lowB s[j] else s[j])) ∧ w.frozen? ⟨N, j, none⟩ = false

theorem bobj_row (X : World) (st : ByteArray) : Low (X.alloc (bobj X st)).drew X.heap.size st 0 := by
  refine ⟨by simp, fun j hj => ?_⟩
  have hj' : j < st.data.size := hj
  have hb : (X.alloc (bobj X st)).drew.heap[X.heap.size]? = some (bobj X st) := heap_alloc_new X _
  have hs : j < (bytesRow st (bcap X st)).size := by
    unfold bytesRow
    rw [Array.size_append, Array.size_map]
    omega
  constructor
  · rw [cell_block hb, if_neg (Nat.not_lt_zero _)]
    unfold bytesRow
    rw [Array.getElem?_append_left (by simpa using hj'), Array.getElem?_map, Array.getElem?_eq_getElem hj']
    rfl
  · unfold World.frozen?
    rw [hb]
    have : ¬ (bytesRow st (bcap X st)).size ≤ j := by omega
    simp [bobj, this]

theorem Low.at {w : World} {N : Nat} {s : ByteArray} {k : Nat} (h : Low w N s k) (hk : k < s.size) : w.cell? ⟨N, k, none⟩ = some (bv s[k]) ∧ w.frozen? ⟨N, k, none⟩ = false := by
  have := h.2 k hk
  rwa [if_neg (Nat.lt_irrefl _)] at this
theorem Low.stay {w : World} {N : Nat} {s : ByteArray} {k : Nat} (h : Low w N s k) (hk : k < s.size) (hs : lowB s[k] = s[k]) : Low w N s (k + 1) := by
  refine ⟨h.1, fun j hj => ?_⟩
  have := h.2 j hj
  rcases Nat.lt_trichotomy j k with hl | rfl | hg
  · rw [if_pos (by omega)]
    rwa [if_pos hl] at this
  · rw [if_pos (by omega), hs]
    rwa [if_neg (Nat.lt_irrefl _)] at this
  · rw [if_neg (by omega)]
    rwa [if_neg (by omega)] at this
theorem Low.set {w : World} {N : Nat} {s : ByteArray} {k : Nat} (h : Low w N s k) (hk : k < s.size) (v : Value) (hv : v = bv (lowB s[k])) : Low (w.setCell ⟨N, k, none⟩ v) N s (k + 1) := by
  refine ⟨by simpa using h.1, fun j hj => ⟨?_, by rw [World.frozen?_setCell]; exact (h.2 j hj).2⟩⟩
  have := (h.2 j hj).1
  rcases Nat.lt_trichotomy j k with hl | rfl | hg
  · rw [if_pos (by omega), World.cell?_setCell_other _ _ _ _ (by intro e; injection e; omega)]
    rwa [if_pos hl] at this
  · rw [if_pos (by omega), World.cell?_setCell_same _ _ _ this, hv]
  · rw [if_neg (by omega), World.cell?_setCell_other _ _ _ _ (by intro e; injection e; omega)]
    rwa [if_neg (by omega)] at this
theorem Low.text {w : World} {N : Nat} {s : ByteArray} {k : Nat} (h : Low w N s k) (hk : ¬ k < s.size) (cap : Nat) : (convert 34 9 (.slice (some ⟨N, 0, none⟩) s.size cap)).run Tryd.prog w = .ok (.string ⟨(lowL s.data.toList).toArray⟩) w := by
  have hl : (lowL s.data.toList).length = s.size := by
    unfold lowL
    rw [List.length_map]
    rfl
  rw [← hl]
  refine run_convert_bytes_back w 34 9 5 ⟨N, 0, none⟩ cap (lowL s.data.toList) Tryd.underlying34 Tryd.underlying5 Tryd.underlying9 fun j hj => ?_
  have hj' : j < s.size := by omega
  have := (h.2 j hj').1
  rw [if_pos (by omega)] at this
  rw [Addr.add_lit, Nat.zero_add, this]
  have e : (lowL s.data.toList)[j] = lowB s[j] := List.getElem_map ..
  rw [e]

set_option maxRecDepth 20000 in
set_option maxHeartbeats 1000000 in
theorem lower_any (s : ByteArray) (K : Nat → Prop) (w : World) (hK : ∀ k, K k → k < w.heap.size) (hs : s.size < 1000000) :
    Calls Tryd.prog 77 #[.string s] w fun e w' => e = .returned (.string ⟨(lowL s.data.toList).toArray⟩) ∧ Kept K w w' := by
  have hcv := conv_bytes w s
  have hrow := bobj_row w s
  have hk0 : Kept K w (w.alloc (bobj w s)).drew := ((Kept.refl K w).alloc hK _).drew
  obtain ⟨cap, hcap⟩ : ∃ c, bcap w s = c := ⟨_, rfl⟩
  rw [hcap] at hcv
  obtain ⟨X, hX⟩ : ∃ X, (w.alloc (bobj w s)).drew = X := ⟨_, rfl⟩
  rw [hX] at hcv hrow hk0
  clear hX hcap
  go_enter Tryd.func77, Tryd.ntmps77
  go_wp2_with fail
  go_loopw [4, 5, 10, 11, 12, 13, 14, 15, 16, 17, 18, 19, 20, 21, 22, 23, 24, 25, 26, 27] (fun _ _ i _ _ _ _ _ _ _ _ _ _ _ _ _ _ _ _ _ wr => ∃ k : Nat, k ≤ s.size ∧ i = .int .i64 k ∧ Low wr w.heap.size s k ∧ Kept K w wr) (fun _ _ i _ _ _ _ _ _ _ _ _ _ _ _ _ _ _ _ _ _ => s.size - (intOf i).toNat)
  case atStart => exact ⟨0, Nat.zero_le _, rfl, hrow, hk0⟩
  case round =>
    clear hrow hk0 hcv
    obtain ⟨k, hk, rfl, hr, hkp⟩ := hrel
    by_cases hlt : k < s.size
    · obtain ⟨hck, hfk⟩ := hr.at hlt
      by_cases g1 : 65 ≤ s[k].toNat
      · have e1 : decide ((65 : Int) ≤ (s[k].toNat : Int)) = true := by simp; omega
        by_cases g2 : s[k].toNat ≤ 90
        · have e2 : decide ((s[k].toNat : Int) ≤ 90) = true := by simp; omega
          have hset := fun v hv => hr.set hlt v hv
          have hN : ¬ K w.heap.size := fun h => Nat.lt_irrefl _ (hK _ h)
          have hl := lowB_up g1 g2
          have g1' : (65 : Int) ≤ (s[k].toNat : Int) := by omega
          have g2' : (s[k].toNat : Int) ≤ 90 := by omega
          clear hr g1 g2
          go_wp2
          go_roundw
          case rel => exact ⟨k + 1, by omega, by go_num, hset _ rfl, hkp.setCell hN _⟩
          case measure => simp [intOf]; omega
        · have e2 : decide ((s[k].toNat : Int) ≤ 90) = false := by simp; omega
          have hnew := hr.stay hlt (if_neg fun h => g2 h.2)
          clear hr g1 g2
          go_wp2
          go_roundw
          case rel => exact ⟨k + 1, by omega, by go_num, hnew, hkp⟩
          case measure => simp [intOf]; omega
      · have e1 : decide ((65 : Int) ≤ (s[k].toNat : Int)) = false := by simp; omega
        have hnew := hr.stay hlt (if_neg fun h => g1 h.1)
        clear hr g1
        go_wp2
        go_roundw
        case rel => exact ⟨k + 1, by omega, by go_num, hnew, hkp⟩
        case measure => simp [intOf]; omega
    · have hcv2 := hr.text hlt cap
      go_wp2
      go_ret
      exact ⟨rfl, hkp⟩

set_option maxRecDepth 20000 in
set_option maxHeartbeats 1000000 in
theorem rlower_any (s : ByteArray) (K : Nat → Prop) (w : World) (hK : ∀ k, K k → k < w.heap.size) (hs : s.size < 1000000) :
    Calls Tryd.prog 64 #[.string s] w fun e w' => e = .returned (.string ⟨(lowL s.data.toList).toArray⟩) ∧ Kept K w w' := by
  obtain ⟨i0, hi, hz0, hz1, hz2⟩ := info_parts info5
  have hz3 : i0.bytes ≤ 64 := by omega
  go_enter Tryd.func64, Tryd.ntmps64
  go_wp2_with fail
  go_loopw [3, 4, 5, 6, 7, 8, 9, 10, 11, 12, 13, 14, 15, 16, 17, 18, 19, 20, 21, 22, 23, 24, 25, 26] (fun b i _ _ _ _ _ _ _ _ _ _ _ _ _ _ _ _ _ _ _ _ _ _ wr => ∃ (k : Nat) (ao : Option Addr) (cap : Nat), k ≤ s.size ∧ i = .int .i64 k ∧ b = .slice ao k cap ∧ Own K wr 5 ao k cap (bvs (lowL (s.data.toList.take k))) ∧ Kept K w wr) (fun _ i _ _ _ _ _ _ _ _ _ _ _ _ _ _ _ _ _ _ _ _ _ _ _ => s.size - (intOf i).toNat)
  case atStart => exact ⟨0, none, 0, Nat.zero_le _, rfl, rfl, Own.nil _ _ _, Kept.refl _ _⟩
  case round =>
    obtain ⟨k, ao, cap, hk, rfl, rfl, how, hkp⟩ := hrel
    by_cases hlt : k < s.size
    · have hsn := lowL_snoc hlt
      have HS : Hid (bvs (lowL (s.data.toList.take (k + 1))) = bvs (lowL (s.data.toList.take k)) ++ [bv (lowB s[k])]) := hsn
      have HK : Hid (∀ k, K k → k < wr.heap.size) := fun k hk => Nat.lt_of_lt_of_le (hK k hk) hkp.size
      have hkb : k ≤ 1099511627776 := by omega
      have cls : (65 ≤ s[k].toNat ∧ s[k].toNat ≤ 90) ∨ s[k].toNat < 65 ∨ 90 < s[k].toNat := by omega
      rcases cls with hg | hg | hg
      · have e1 : decide ((s[k].toNat : Int) ≥ 65) = true := by simp; omega
        have e2 : decide ((s[k].toNat : Int) ≤ 90) = true := by simp; omega
        have g1' : (65 : Int) ≤ (s[k].toNat : Int) := by omega
        have g2' : (s[k].toNat : Int) ≤ 90 := by omega
        have HW : Hid (Value.int .u8 ((s[k].toNat : Int) + 32) = bv (lowB s[k])) := lowB_up' hg.1 hg.2
        clear hg hsn
        go_wp2_with (at_builtin; refine wpList_app1 (K := K) rfl (.tmp 23) (.tmp 25) 34 5 rfl i0 (.int .u8 0) Tryd.underlying34 hi hz0 hz1 rfl hz3 ao k cap (bvs (lowL (s.data.toList.take k))) rfl (Value.int .u8 ((s[k].toNat : Int) + 32)) rfl wr.heap.size rfl hkb how HK.out rfl ?_)
        intro ao1 cap1 w1 own1 kept1
        have HO : Hid (Own K w1 5 ao1 (k + 1) cap1 (bvs (lowL (s.data.toList.take (k + 1))))) := by
          show Own _ _ _ _ _ _ _
          rw [HS.out, ← HW.out]
          exact own1
        clear own1 how
        go_wp2
        go_roundw
        case rel => exact ⟨k + 1, ao1, cap1, by omega, by go_num, rfl, HO.out, hkp.trans kept1⟩
        case measure => simp [intOf]; omega
      · have e1 : decide ((s[k].toNat : Int) ≥ 65) = false := by simp; omega
        have HW : Hid (bv s[k] = bv (lowB s[k])) := by unfold lowB; rw [if_neg (by omega)]; exact (rfl : bv s[k] = bv s[k])
        clear hg hsn
        go_wp2_with (at_builtin; refine wpList_app1 (K := K) rfl (.tmp 23) (.tmp 25) 34 5 rfl i0 (.int .u8 0) Tryd.underlying34 hi hz0 hz1 rfl hz3 ao k cap (bvs (lowL (s.data.toList.take k))) rfl (bv s[k]) rfl wr.heap.size rfl hkb how HK.out rfl ?_)
        intro ao1 cap1 w1 own1 kept1
        have HO : Hid (Own K w1 5 ao1 (k + 1) cap1 (bvs (lowL (s.data.toList.take (k + 1))))) := by
          show Own _ _ _ _ _ _ _
          rw [HS.out, ← HW.out]
          exact own1
        clear own1 how
        go_wp2
        go_roundw
        case rel => exact ⟨k + 1, ao1, cap1, by omega, by go_num, rfl, HO.out, hkp.trans kept1⟩
        case measure => simp [intOf]; omega
      · have e1 : decide ((s[k].toNat : Int) ≥ 65) = true := by simp; omega
        have e2 : decide ((s[k].toNat : Int) ≤ 90) = false := by simp; omega
        have HW : Hid (bv s[k] = bv (lowB s[k])) := by unfold lowB; rw [if_neg (by omega)]; exact (rfl : bv s[k] = bv s[k])
        clear hg hsn
        go_wp2_with (at_builtin; refine wpList_app1 (K := K) rfl (.tmp 23) (.tmp 25) 34 5 rfl i0 (.int .u8 0) Tryd.underlying34 hi hz0 hz1 rfl hz3 ao k cap (bvs (lowL (s.data.toList.take k))) rfl (bv s[k]) rfl wr.heap.size rfl hkb how HK.out rfl ?_)
        intro ao1 cap1 w1 own1 kept1
        have HO : Hid (Own K w1 5 ao1 (k + 1) cap1 (bvs (lowL (s.data.toList.take (k + 1))))) := by
          show Own _ _ _ _ _ _ _
          rw [HS.out, ← HW.out]
          exact own1
        clear own1 how
        go_wp2
        go_roundw
        case rel => exact ⟨k + 1, ao1, cap1, by omega, by go_num, rfl, HO.out, hkp.trans kept1⟩
        case measure => simp [intOf]; omega
    · have hcv2 : (convert 34 9 (.slice ao k cap)).run Tryd.prog wr = .ok (.string ⟨(lowL s.data.toList).toArray⟩) wr := by
        have := run_string_own (P := Tryd.prog) wr 34 9 5 Tryd.underlying34 Tryd.underlying5 Tryd.underlying9 how
        have hk' : s.data.toList.take k = s.data.toList := List.take_of_length_le (by simp; omega)
        rwa [hk'] at this
      clear how
      go_wp2
      go_ret
      exact ⟨rfl, hkp⟩
end Go.Proofs.YtncfgahnjakeiaaDoor
end
section
namespace Go.Proofs.YtncfgahnjakeiaaDoor
open Go.RowKit

theorem takeS_at {s : ByteArray} {k : Nat} (h : k < s.size) (attr : Bool) : takeS s k attr = takeL (s.data.toList.drop k) attr := by
  unfold takeS
  rw [if_pos (by omega), Int.toNat_natCast]
theorem Bld.kept {K : Nat → Prop} {w w' : World} {b : Nat} {l : List UInt8} (h : Bld K w b l) (hk : ∀ g, ¬ K g → g < w.heap.size → w'.heap[g]? = w.heap[g]?) : Bld K w' b l := by
  obtain ⟨h1, p, ao, cap, h2, h3, h4⟩ := h
  exact ⟨h1, p, ao, cap, by rw [hk b h1 (lt_block h2)]; exact h2, h3, h4.of fun g hg hl => hk g (fun h => hg (.inl h)) hl⟩

set_option maxRecDepth 20000 in
set_option maxHeartbeats 1000000 in
theorem all_any (s : ByteArray) (attr : Bool) (K : Nat → Prop) (w : World) (hK : ∀ k, K k → k < w.heap.size) (hs : s.size < 1000000) (hT : Tab w) (h0 : K 0) (h1 : K 1) :
    Calls Tryd.prog 92 #[.string s, .bool attr] w fun e w' => e = .returned (.string ⟨(allL attr s.data.toList).toArray⟩) ∧ Kept K w w' := by
  have hl0 : s.data.toList.length = s.size := rfl
  obtain ⟨A, hA⟩ : ∃ A, allL attr s.data.toList = A := ⟨_, rfl⟩
  rw [hA]
  have HA : Hid ([] ++ allL attr (s.data.toList.drop 0) = A) := hA
  clear hA
  obtain ⟨B, hB⟩ : ∃ B, w.heap.size = B := ⟨_, rfl⟩
  have hKB : ¬ K B := fun h => by have := hK B h; omega
  go_enter Tryd.func92, Tryd.ntmps92
  go_wp2_with fail
  go_loopw [6, 7, 8, 9, 10, 11, 12, 13, 14, 15, 16, 17, 18, 19, 20, 21, 22, 23, 24, 25, 26, 27, 28, 29, 30, 31, 32, 33] (fun i _ _ _ _ _ _ _ _ _ _ _ _ _ _ _ _ _ _ _ _ _ _ _ _ _ _ _ wr => ∃ (k : Nat) (out : List UInt8), k ≤ s.size ∧ i = .int .i64 k ∧ out ++ allL attr (s.data.toList.drop k) = A ∧ out.length ≤ 4 * k ∧ Bld K wr B out ∧ Kept K w wr) (fun i _ _ _ _ _ _ _ _ _ _ _ _ _ _ _ _ _ _ _ _ _ _ _ _ _ _ _ _ => s.size - (intOf i).toNat)
  case atStart =>
    refine ⟨0, [], Nat.zero_le _, rfl, HA.out, Nat.zero_le _, ⟨hKB, none, none, 0, ?_, .inl rfl, Own.nil _ _ _⟩, (Kept.refl K w).alloc hK _⟩
    rw [← hB]
    exact heap_alloc_new w _
  case round =>
    clear HA
    obtain ⟨k, out, hk, rfl, HO, hol, hbl, hkp⟩ := hrel
    have HO : Hid (out ++ allL attr (s.data.toList.drop k) = A) := HO
    have hKr : ∀ k, K k → k < wr.heap.size := fun k hk => Nat.lt_of_lt_of_le (hK k hk) hkp.size
    have hTr := hT.kept hkp h0 h1
    by_cases hlt : k < s.size
    · have htk := take_any s k attr (fun j => j < wr.heap.size) wr (fun _ h => h) hs hTr
      rw [takeS_at hlt attr] at htk
      have hn := takeL_n (s.data.toList.drop k) attr
      rw [List.length_drop, hl0] at hn
      have htx := text_le (s.data.toList.drop k) attr
      have hfl := fault_le (s.data.toList.drop k) attr
      have HN : Hid ((takeL (s.data.toList.drop k) attr).n = 0 → allL attr (s.data.toList.drop k) = s[k] :: allL attr (s.data.toList.drop (k + 1))) := by
        intro h
        rw [drop_cons hlt] at h ⊢
        exact allL_none h
      have HY : Hid ((takeL (s.data.toList.drop k) attr).n ≠ 0 → allL attr (s.data.toList.drop k) = (takeL (s.data.toList.drop k) attr).text.data.toList ++ allL attr (s.data.toList.drop (k + (takeL (s.data.toList.drop k) attr).n))) := by
        intro h
        rw [← List.drop_drop]
        exact allL_some h
      obtain ⟨R, hR⟩ : ∃ R, takeL (s.data.toList.drop k) attr = R := ⟨_, rfl⟩
      rw [hR] at htk hn htx hfl HN HY
      clear hR
      obtain ⟨tx, n, fl⟩ := R
      dsimp only at htk hn htx hfl HN HY
      have hKs : ∀ j, K j → j < wr.heap.size := hKr
      by_cases hn0 : n = 0
      · subst hn0
        have HE : Hid ((out ++ [s[k]]) ++ allL attr (s.data.toList.drop (k + 1)) = A) := by
          have := HO.out
          rw [HN.out rfl] at this
          show (out ++ [s[k]]) ++ _ = A
          simpa using this
        have hone : (s.extract k (k + 1)).data.toList = [s[k]] := by
          rw [extract_list, List.drop_take, Nat.add_sub_cancel_left, drop_cons hlt]
          rfl
        have hosz : (s.extract k (k + 1)).size = 1 := congrArg List.length hone
        have hwr := fun X hX hX1 => write_any K B out (s.extract k (k + 1)) X hX hX1 (by omega)
        clear HO HN HY hn hosz
        go_wp2_with fail
        refine htk.mono ?_
        rintro e w1 ⟨rfl, hk1⟩
        have hb1 : Bld K w1 B out := hbl.kept fun g _ hg => hk1.block g hg
        have hk2 := hkp.trans (hk1.mono hKs)
        clear hk1 htk
        go_wp2_with fail
        refine (hwr _ hb1 (fun k hk => Nat.lt_of_lt_of_le (hK k hk) hk2.size)).mono ?_
        rintro e w2 ⟨rfl, hb2, hk3⟩
        have hk4 := hk2.trans hk3
        rw [hone] at hb2
        clear hwr hb1 hk2 hk3 hone
        go_wp2
        go_roundw
        case rel => exact ⟨k + 1, _, by omega, by go_num, HE.out, by rw [List.length_append]; simp; omega, hb2, hk4⟩
        case measure => simp [intOf]; omega
      · have HE : Hid ((out ++ tx.data.toList) ++ allL attr (s.data.toList.drop (k + n)) = A) := by
          have := HO.out
          rw [HY.out hn0] at this
          show (out ++ tx.data.toList) ++ _ = A
          simpa using this
        have hwr := fun X hX hX1 => write_any K B out tx X hX hX1 (by omega)
        have en : ((n : Int) == 0) = false := by simp; omega
        clear HO HN HY
        go_wp2_with fail
        refine htk.mono ?_
        rintro e w1 ⟨rfl, hk1⟩
        have hb1 : Bld K w1 B out := hbl.kept fun g _ hg => hk1.block g hg
        have hk2 := hkp.trans (hk1.mono hKs)
        clear hk1 htk
        go_wp2_with fail
        refine (hwr _ hb1 (fun k hk => Nat.lt_of_lt_of_le (hK k hk) hk2.size)).mono ?_
        rintro e w2 ⟨rfl, hb2, hk3⟩
        have hk4 := hk2.trans hk3
        have hsz : tx.data.toList.length = tx.size := rfl
        clear hwr hb1 hk2 hk3
        go_wp2
        go_roundw
        case rel => exact ⟨k + n, _, by omega, by go_num, HE.out, by rw [List.length_append, hsz]; omega, hb2, hk4⟩
        case measure => simp [intOf]; omega
    · have hst := string_any K B out wr hbl hKr (by omega)
      have hAe : out = A := by
        have := HO.out
        rw [List.drop_eq_nil_of_le (by omega), allL_nil, List.append_nil] at this
        exact this
      subst hAe
      clear HO hol hbl
      go_wp2_with fail
      refine hst.mono ?_
      rintro e w1 ⟨rfl, hk1⟩
      go_wp2
      go_ret
      exact ⟨rfl, hkp.trans hk1⟩
end Go.Proofs.YtncfgahnjakeiaaDoor
end
section
namespace Go.Proofs.YtncfgahnjakeiaaDoor
open Go.RowKit

set_option maxRecDepth 20000 in
set_option maxHeartbeats 1000000 in
theorem writeB_any (K : Nat → Prop) (b : Nat) (l : List UInt8) (c : UInt8) (w : World) (h : Bld K w b l) (hK : ∀ k, K k → k < w.heap.size) (hl : l.length ≤ 1099511627776) :
    Calls Tryd.prog 103 #[.pointer (some ⟨b, 0, none⟩), .int .u8 c.toNat] w fun e w' => e = .returned .nilIface ∧ Bld K w' b (l ++ [c]) ∧ Kept K w w' := by
  obtain ⟨i0, hi, hz0, hz1, hz2⟩ := info_parts infoY
  have hz3 : i0.bytes ≤ 64 := by omega
  have hcc := cc_any K b l w h
  have hKb : ¬ K b := h.1
  clear h
  go_enter Tryd.func103, Tryd.ntmps103
  go_wp2_with fail
  refine hcc.mono ?_
  rintro e w1 ⟨rfl, ⟨ao, cap, hb, hown⟩, hk1⟩
  have c1 : w1.cell? ⟨b, 1, none⟩ = some (.slice ao l.length cap) := by rw [cell_block hb]; rfl
  have hK1 : ∀ k, (K k ∨ k = b) → k < w1.heap.size := by
    rintro k (hk | rfl)
    · exact Nat.lt_of_lt_of_le (hK k hk) hk1.size
    · exact lt_block hb
  obtain ⟨K', hK'⟩ : ∃ K' : Nat → Prop, (fun k => K k ∨ k = b) = K' := ⟨_, rfl⟩
  have hKK : ∀ k, K k → K' k := fun k hk => by rw [← hK']; exact .inl hk
  have hKb' : K' b := by rw [← hK']; exact .inr rfl
  have HKe : Hid ((fun k => K k ∨ k = b) = K') := hK'
  rw [hK'] at hown
  have hK2 : ∀ k, K' k → k < w1.heap.size := fun k hk => hK1 k (by rw [← hK'] at hk; exact hk)
  clear hcc hK' hK1
  obtain ⟨n, hn⟩ : ∃ n, l.length = n := ⟨_, rfl⟩
  rw [hn] at hl c1 hown hb
  go_wp2_with (at_builtin; refine wpList_app1 (K := K') rfl (.tmp 11) (.tmp 13) 34 5 rfl i0 (.int .u8 0) Tryd.underlying34 hi hz0 hz1 rfl hz3 ao n cap (bvs l) rfl (bv c) rfl w1.heap.size rfl hl hown hK2 rfl ?_)
  intro ao2 cap2 w2 own2 kept2
  have hb2 : w2.heap[b]? = some (.cells #[.pointer (some ⟨b, 0, none⟩), .slice ao n cap] 45 (0, 0)) := by rw [kept2.block b hKb']; exact hb
  have d1 : w2.cell? ⟨b, 1, none⟩ = some (.slice ao n cap) := by rw [cell_block hb2]; rfl
  have f1 : w2.frozen? ⟨b, 1, none⟩ = false := frozen_block hb2 1
  clear c1
  go_wp2
  go_ret
  refine ⟨rfl, ⟨hKb, some ⟨b, 0, none⟩, ao2, cap2, ?_, .inr rfl, ?_⟩, ?_⟩
  · rw [heap_setCell_at hb2, List.length_append, hn]
    rfl
  · rw [HKe.out]
    refine Own.setCell (p := ⟨b, 1, none⟩) ?_ hKb' _
    refine own2.cast ?_ ?_
    · rw [List.length_append, hn]; rfl
    · rw [bvs_append]; rfl
  · exact (hk1.trans (kept2.mono hKK)).setCell (p := ⟨b, 1, none⟩) hKb _

theorem cleanL_length : ∀ l : List UInt8, (cleanL l).length ≤ 3 * l.length
  | [] => Nat.le_refl _
  | c :: r => by
    have := cleanL_length r
    have e : cleanL (c :: r) = cleanB c ++ cleanL r := rfl
    rw [e, List.length_append, List.length_cons]
    unfold cleanB
    split <;> simp only [List.length_cons, List.length_nil] <;> omega
theorem cleanL_append (a b : List UInt8) : cleanL (a ++ b) = cleanL a ++ cleanL b := by simp [cleanL]

theorem Low.at' {w : World} {N : Nat} {s : ByteArray} (h : Low w N s 0) {k : Nat} (hk : k < s.size) : w.cell? ⟨N, k, none⟩ = some (bv s[k]) := by
  have := (h.2 k hk).1
  rwa [if_neg (Nat.not_lt_zero _)] at this

set_option maxRecDepth 20000 in
set_option maxHeartbeats 1000000 in
theorem clean_any (s : List UInt8) (K : Nat → Prop) (w : World) (hK : ∀ k, K k → k < w.heap.size) (hs : s.length < 10000000) :
    Calls Tryd.prog 87 #[sv s] w fun e w' => e = .returned (sv (cleanL s)) ∧ Kept K w w' := by
  obtain ⟨B, hB⟩ : ∃ B, w.heap.size = B := ⟨_, rfl⟩
  have hKB : ¬ K B := fun h => by have := hK B h; omega
  obtain ⟨S, hS⟩ : ∃ S : ByteArray, (⟨s.toArray⟩ : ByteArray) = S := ⟨_, rfl⟩
  have hSz : S.size = s.length := by rw [← hS]; exact sv_size s
  have hSg : ∀ k (h : k < S.size), S[k] = s[k]'(by omega) := by
    subst hS
    intro k h
    rfl
  obtain ⟨W0, hW0⟩ : ∃ W0, w.alloc (.cells #[.pointer none, .slice none 0 0] 45) = W0 := ⟨_, rfl⟩
  have hk0 : Kept K w W0 := by rw [← hW0]; exact (Kept.refl K w).alloc hK _
  have hb0 : Bld K W0 B [] := by
    rw [← hW0, ← hB]
    exact ⟨by rw [hB]; exact hKB, none, none, 0, heap_alloc_new w _, .inl rfl, Own.nil _ _ _⟩
  have hK0 : ∀ k, K k → k < W0.heap.size := fun k hk => Nat.lt_of_lt_of_le (hK k hk) hk0.size
  have hcv := conv_bytes W0 S
  have hrow := bobj_row W0 S
  obtain ⟨K', hK'⟩ : ∃ K' : Nat → Prop, (fun k => K k ∨ k = W0.heap.size) = K' := ⟨_, rfl⟩
  obtain ⟨cap, hcap⟩ : ∃ c, bcap W0 S = c := ⟨_, rfl⟩
  rw [hcap] at hcv
  obtain ⟨X, hX⟩ : ∃ X, (W0.alloc (bobj W0 S)).drew = X := ⟨_, rfl⟩
  have hkX : Kept K w X := by rw [← hX]; exact (hk0.alloc hK0 _).drew
  have hNB : B ≠ W0.heap.size := by
    have := lt_block hb0.2.choose_spec.choose_spec.choose_spec.1
    omega
  have hbX : Bld K' X B [] := by
    rw [← hX, ← hK']
    refine ⟨?_, none, none, 0, ?_, .inl rfl, Own.nil _ _ _⟩
    · rintro (hh | hh)
      · exact hKB hh
      · exact hNB hh
    · show (W0.alloc (bobj W0 S)).heap[B]? = _
      refine heap_alloc_past ?_ _
      rw [← hW0, ← hB]
      exact heap_alloc_new w _
  have hKX : ∀ k, K' k → k < X.heap.size := by
    intro k hk
    rw [← hK'] at hk
    rw [← hX]
    rcases hk with hk | rfl
    · have := hK0 k hk
      simp
      omega
    · simp
  have hKN : K' W0.heap.size := by rw [← hK']; exact .inr rfl
  have hKK : ∀ k, K k → K' k := fun k hk => by rw [← hK']; exact .inl hk
  rw [hX] at hcv hrow
  have HR : Hid (∀ wr, Kept K' X wr → ∀ k (h : k < S.size), wr.cell? ⟨W0.heap.size, k, none⟩ = some (bv S[k])) := by
    intro wr hk k h
    rw [hk.cell (p := ⟨W0.heap.size, k, none⟩) hKN]
    exact (hrow.at' h)
  clear hX hcap hrow hK' hb0 hk0
  obtain ⟨N, hN⟩ : ∃ N, W0.heap.size = N := ⟨_, rfl⟩
  rw [hN] at hcv HR hKN
  rw [← hW0] at hcv
  have HA : Hid (cleanL (s.take s.length) = cleanL s) := by show cleanL _ = _; rw [List.take_length]
  show Calls Tryd.prog 87 #[.string ⟨s.toArray⟩] w _
  rw [hS]
  clear hNB hN hW0 hS
  go_enter Tryd.func87, Tryd.ntmps87
  go_wp2_with fail
  go_loopg [9] s.length (fun gm i wr => ∃ k : Nat, gm = s.length - k ∧ k ≤ s.length ∧ i = .int .i64 k ∧ Bld K' wr B (cleanL (s.take k)) ∧ Kept K' X wr)
  case atStart => exact ⟨0, rfl, Nat.zero_le _, rfl, hbX, Kept.refl _ _⟩
  case round =>
    obtain ⟨k, hgk, hk, rfl, hb, hkp⟩ := hrel
    have hKr : ∀ k, K' k → k < wr.heap.size := fun k hk => Nat.lt_of_lt_of_le (hKX k hk) hkp.size
    have hcl := cleanL_length (s.take k)
    rw [List.length_take, Nat.min_eq_left hk] at hcl
    by_cases hlt : k < s.length
    · have hck := HR.out wr hkp k (by omega)
      rw [hSg k (by omega)] at hck
      have HS : Hid (cleanL (s.take (k + 1)) = cleanL (s.take k) ++ cleanB s[k]) := by
        show cleanL _ = _
        rw [List.take_succ_eq_append_getElem hlt, cleanL_append]
        simp [cleanL]
      have hlt' : k < S.size := by omega
      obtain ⟨c, hc⟩ : ∃ c, s[k] = c := ⟨_, rfl⟩
      rw [hc] at hck HS
      clear hc hbX
      by_cases h0 : c = 0
      · subst h0
        have hck : wr.cell? ⟨N, k, none⟩ = some (.int .u8 0) := hck
        have hw := write_any K' B (cleanL (s.take k)) ⟨#[239, 191, 189]⟩ wr hb hKr (by have : (⟨#[239, 191, 189]⟩ : ByteArray).size = 3 := rfl; omega)
        clear hb
        go_wp2_with fail
        refine hw.mono ?_
        rintro e w1 ⟨rfl, hb1, hk1⟩
        go_wp2
        go_roundg (s.length - (k + 1))
        case rel => exact ⟨k + 1, rfl, by omega, by go_num, by rw [HS.out]; exact hb1, hkp.trans hk1⟩
        case measure => omega
      · have hw := writeB_any K' B (cleanL (s.take k)) c wr hb hKr (by omega)
        have e0 : ((c.toNat : Int) == 0) = false := by
          simp
          intro e
          exact h0 (UInt8.toNat_inj.1 e)
        have HS : Hid (cleanL (s.take (k + 1)) = cleanL (s.take k) ++ [c]) := by
          show cleanL _ = _
          rw [HS.out]
          unfold cleanB
          rw [if_neg h0]
        clear hb h0
        go_wp2_with fail
        refine hw.mono ?_
        rintro e w1 ⟨rfl, hb1, hk1⟩
        go_wp2
        go_roundg (s.length - (k + 1))
        case rel => exact ⟨k + 1, rfl, by omega, by go_num, by rw [HS.out]; exact hb1, hkp.trans hk1⟩
        case measure => omega
    · have hkk : k = s.length := by omega
      subst hkk
      rw [HA.out] at hb hcl
      have hst := string_any K' B (cleanL s) wr hb hKr (by omega)
      clear hb
      go_wp2_with fail
      refine hst.mono ?_
      rintro e w1 ⟨rfl, hk1⟩
      go_wp2
      go_ret
      exact ⟨rfl, (hkX.trans ((hkp.trans hk1).mono hKK))⟩

theorem lowL_length (l : List UInt8) : (lowL l).length = l.length := by simp [lowL]
theorem small_any (s : List UInt8) (K : Nat → Prop) (w : World) (hK : ∀ k, K k → k < w.heap.size) (hs : s.length < 1000000) :
    Calls Tryd.prog 69 #[sv s] w fun e w' => e = .returned (sv (nmL s)) ∧ Kept K w w' := by
  have h1 : Calls Tryd.prog 77 #[sv s] w fun e w' => e = .returned (sv (lowL s)) ∧ Kept K w w' := lower_any ⟨s.toArray⟩ K w hK (by rw [sv_size]; exact hs)
  have h2 := fun X hX => clean_any (lowL s) K X hX (by rw [lowL_length]; omega)
  go_enter Tryd.func69, Tryd.ntmps69
  go_wp2_with fail
  refine h1.mono ?_
  rintro e w1 ⟨rfl, hk1⟩
  go_wp2_with fail
  refine (h2 w1 (fun k hk => Nat.lt_of_lt_of_le (hK k hk) hk1.size)).mono ?_
  rintro e w2 ⟨rfl, hk2⟩
  go_wp2
  go_ret
  exact ⟨rfl, hk1.trans hk2⟩
end Go.Proofs.YtncfgahnjakeiaaDoor
end
