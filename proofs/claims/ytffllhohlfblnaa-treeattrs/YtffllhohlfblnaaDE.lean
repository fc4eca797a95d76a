/-
  What the document's reader does with notes, comments and doctypes.
-/
import Derived.Test.YtffllhohlfblnaaDD
import Derived.Test.YtffllhohlfblnaaDA
namespace Go.Proofs.Ytffllhohlfblnaa
open Go.RowKit Go.Sort

theorem endT_cutTo (s : TS) (P : List UInt8 → Bool) : (s.cutTo P).endT = s.endT.cutTo P := by
  unfold TS.endT
  show (if s.text = [] then _ else _) = _
  split <;> rfl
theorem endT_flt (s : TS) (k a : Nat) : (s.flt k a).endT = s.endT.flt k a := by
  unfold TS.endT
  show (if s.text = [] then _ else _) = _
  split <;> rfl
theorem endT_rest (s : TS) : s.endT.rest = s.rest ∧ s.endT.pl = s.pl := by
  unfold TS.endT
  split <;> exact ⟨rfl, rfl⟩
/-- How far a note goes. -/
def noteN (r : List UInt8) : Nat := upTo (hdIn [62]) r + (if pre [62] (r.drop (upTo (hdIn [62]) r)) = true then 1 else 0)
theorem noteN_min (r : List UInt8) : noteN r = min (upTo (hdIn [62]) r + 1) r.length := by
  unfold noteN
  have hle := upTo_le (hdIn [62]) r
  rcases upTo_spec (hdIn [62]) r with h | h
  · rw [h, if_neg (by decide)]
    have : r.length ≤ upTo (hdIn [62]) r := by
      have := congrArg List.length h
      rw [List.length_drop] at this
      simp at this
      omega
    omega
  · cases hr : r.drop (upTo (hdIn [62]) r) with
    | nil => rw [hr] at h; cases h
    | cons c r2 =>
      rw [hr] at h
      have e3 : ([62] : List UInt8).contains c = true := h
      have e : c = 62 := by simpa using e3
      rw [if_pos (by rw [e]; simp [pre])]
      have := congrArg List.length hr
      rw [List.length_drop, List.length_cons] at this
      omega
theorem note_eq (st : TS) (n a : Nat) : (st.cut n).note a = ({ st.endT.flt 7 a with toks := st.endT.toks ++ [⟨4, [], [], false, cleanL ((st.cut n).front (hdIn [62])), a⟩] } : TS).cut (n + noteN (st.rest.drop n)) := by
  have hE := endT_rest st
  have e1 : (((st.cut n).flt 7 a).cutTo (hdIn [62])).cmt ((st.cut n).front (hdIn [62])) a = ({ st.endT.flt 7 a with toks := st.endT.toks ++ [⟨4, [], [], false, cleanL ((st.cut n).front (hdIn [62])), a⟩] } : TS).cut (n + upTo (hdIn [62]) (st.rest.drop n)) := by
    unfold TS.cmt TS.add
    rw [endT_cutTo, endT_flt, ← cut_endT]
    unfold TS.cutTo TS.cut TS.flt
    dsimp only
    rw [hE.1, List.drop_drop, Nat.add_assoc]
  unfold TS.note
  rw [e1]
  unfold TS.cutIf noteN
  have e2 : (({ st.endT.flt 7 a with toks := st.endT.toks ++ [⟨4, [], [], false, cleanL ((st.cut n).front (hdIn [62])), a⟩] } : TS).cut (n + upTo (hdIn [62]) (st.rest.drop n))).rest = (st.rest.drop n).drop (upTo (hdIn [62]) (st.rest.drop n)) := by
    show st.endT.rest.drop _ = _
    rw [hE.1, List.drop_drop]
  rw [e2]
  split
  · rw [cut_cut]
    congr 1
  · rfl

/-- A call of a function that has a body. -/
theorem entersE {f : FuncId} {fn : Func} {c : Code} (hf : Try.prog.funcs[f]? = some fn) (hname : (fn.name == "runtime.NumGoroutine") = false) (hb : fn.body = some c) (args : Array Value) (w : World) :
    (callFunc f args).run Try.prog w = .ok (.enter f args) w := by
  have hname : ¬ fn.name = "runtime.NumGoroutine" := by simpa using hname
  simp [callFunc, hf, hb, hname]
theorem enter54 (args : Array Value) (X : World) : (callFunc 54 args).run Try.prog X = .ok (.enter 54 args) X := entersE Try.func54 (by kernel_rfl) (c := _) rfl args X

/-- A call of a Go function, at a step of a region that draws its order. -/
theorem step_call {P : Program} {w : World} {ops : Array Oper} {o : Oper} {a : Act} {Kn : Act → World → Prop} {Q : Exit → Act → World → Prop} {E : Prop} (hgd : o.guard = none) (f : FuncId) (args : Array Operand) (tys : Array TypeId)
    (ho : o.op = .call { callee := .value (.func f), args := args, argTypes := tys }) (vs : Array Value) (hv : args.map a.eval = vs) (hE : (callFunc f vs).run P w = .ok (.enter f vs) w) (v : Value) (R : World → Prop)
    (hc : Calls P f vs w fun e w' => e = .returned v ∧ R w') (h : ∀ w', R w' → Kn (a.put o.dst v) w') : if Region.wanted o (yielded ops a.tmps) = true then Oper.wp P o a w Kn Q else E := by
  have hw : Region.wanted o (yielded ops a.tmps) = true := by simp [Region.wanted, hgd]
  rw [if_pos hw]
  have e : (execOp a.eval o).run P w = .ok (.enter f vs) w := by
    simp [execOp, ho, resolve, Deferred.ofValue, Act.eval, invoke, hv, hE]
  unfold Oper.wp
  rw [e, Oper.upon_enter]
  refine hc.mono ?_
  rintro e w' ⟨rfl, hR⟩
  exact h w' hR

theorem DX.near {s : List UInt8} {K : Nat → Prop} {w : World} {p : Nat} {st : TS} (h : DX s K w p st) (n : Nat) : s.drop (st.pl + n) = st.rest.drop n := by
  rw [h.2.2.1.2, List.drop_drop]
set_option maxRecDepth 20000 in
set_option maxHeartbeats 4000000 in
theorem dnote (s : List UInt8) (K : Nat → Prop) (p : Nat) (st : TS) (w : World) (h : DX s K w p st) (hs : s.length < 100000) (hp : pot st ≤ 900000000) (n : Nat) (hn : n ≤ st.rest.length) :
    Calls Try.prog 35 #[.pointer (some ⟨p, 0, none⟩), .int .i64 n] w fun e w' => e = .returned (.tuple #[]) ∧ DX s K w' p ((st.cut n).note st.pl) ∧ Kept K w w' := by
  have hlen := h.len
  have hE := endT_rest st
  have hpE : pot st.endT ≤ 900000000 := by
    unfold TS.endT
    split
    · exact hp
    · rename_i ht
      have : 0 < st.text.length := List.length_pos_iff.2 ht
      unfold pot at hp ⊢
      simp only [List.length_append, List.length_cons, List.length_nil]
      omega
  have r1 := ddone s K p st w h (by omega)
  have r2 := fun X hX => dfault s K p st.endT X hX (by omega) 7 st.pl
  have r3 := fun X hX => dfind s K p (st.endT.flt 7 st.pl) X hX (by omega) 62 (st.pl + n) (by omega)
  rw [h.near n] at r3
  have hu := upTo_le (hdIn [62]) (st.rest.drop n)
  rw [List.length_drop] at hu
  obtain ⟨u, hue⟩ : ∃ u, upTo (hdIn [62]) (st.rest.drop n) = u := ⟨_, rfl⟩
  rw [hue] at hu
  simp only [hue] at r3
  obtain ⟨S, hS⟩ : ∃ S : ByteArray, (⟨s.toArray⟩ : ByteArray) = S := ⟨_, rfl⟩
  have sS : S.size = s.length := by rw [← hS]; exact sv_size _
  have hD : S.extract (st.pl + n) (st.pl + n + u) = ⟨((st.cut n).front (hdIn [62])).toArray⟩ := by
    rw [← hS, sv_extract, List.drop_take, Nat.add_sub_cancel_left, h.near n]
    unfold TS.front
    show _ = (⟨((st.rest.drop n).take (upTo _ (st.rest.drop n))).toArray⟩ : ByteArray)
    rw [hue]
  obtain ⟨D, hDe⟩ : ∃ D, (st.cut n).front (hdIn [62]) = D := ⟨_, rfl⟩
  rw [hDe] at hD
  have hDl : D.length < 100000 := by
    rw [← hDe]
    unfold TS.front
    rw [List.length_take]
    show min _ (st.rest.drop n).length < _
    rw [List.length_drop]
    omega
  have r4 := fun X => rclean_any ⟨D.toArray⟩ (by rw [sv_size]; exact hDl) X
  have hm : min (st.pl + n + u + 1) S.size = st.pl + (n + noteN (st.rest.drop n)) := by
    rw [noteN_min, hue, List.length_drop]
    omega
  have HF : Hid ((st.cut n).note st.pl = ({ st.endT.flt 7 st.pl with toks := st.endT.toks ++ [⟨4, [], [], false, cleanL D, st.pl⟩] } : TS).cut (n + noteN (st.rest.drop n))) := by
    show _ = _
    rw [note_eq, hDe]
  have hmle : n + noteN (st.rest.drop n) ≤ st.rest.length := by rw [noteN_min, List.length_drop]; omega
  have HA : Hid (∀ X, DX s K X p (st.endT.flt 7 st.pl) → X.drew.cell? ⟨p, 0, none⟩ = some (.string S) ∧ X.drew.cell? ⟨p, 1, none⟩ = some (.int .i64 (st.pl : Int)) ∧ ∃ ta tc, X.drew.cell? ⟨p, 2, none⟩ = some (.slice ta st.endT.toks.length tc) ∧ (X.alloc (.cells #[.int .u8 4, .string ⟨#[]⟩, .slice none 0 0, .bool false, sv (cleanL D), .int .i64 (st.pl : Int)] 43)).drew.cell? ⟨p, 2, none⟩ = some (.slice ta st.endT.toks.length tc) ∧
      ∃ ta' tc' w', (Builtin.append_ #[24, 24] 24 #[.slice ta st.endT.toks.length tc, .slice (some ⟨X.drew.heap.size, 0, none⟩) 1 1]).run Try.prog (X.drew.alloc (.cells #[.int .u8 4, .string ⟨#[]⟩, .slice none 0 0, .bool false, sv (cleanL D), .int .i64 (st.pl : Int)] 43)) = .ok (.slice ta' (st.endT.toks.length + 1) tc') w' ∧
      w'.cell? ⟨p, 2, none⟩ = some (.slice ta st.endT.toks.length tc) ∧ w'.frozen? ⟨p, 2, none⟩ = false ∧ (w'.setCell ⟨p, 2, none⟩ (.slice ta' (st.endT.toks.length + 1) tc')).cell? ⟨p, 0, none⟩ = some (.string S) ∧ (w'.setCell ⟨p, 2, none⟩ (.slice ta' (st.endT.toks.length + 1) tc')).cell? ⟨p, 1, none⟩ = some (.int .i64 (st.pl : Int)) ∧ (w'.setCell ⟨p, 2, none⟩ (.slice ta' (st.endT.toks.length + 1) tc')).frozen? ⟨p, 1, none⟩ = false ∧
      ∀ v : Int, v = ((min (st.pl + n + u + 1) S.size : Nat) : Int) → DX s K ((w'.setCell ⟨p, 2, none⟩ (.slice ta' (st.endT.toks.length + 1) tc')).setCell ⟨p, 1, none⟩ (.int .i64 v)) p ((st.cut n).note st.pl) ∧ Kept K X ((w'.setCell ⟨p, 2, none⟩ (.slice ta' (st.endT.toks.length + 1) tc')).setCell ⟨p, 1, none⟩ (.int .i64 v))) := by
    intro X hX
    obtain ⟨x0, x1, -⟩ := hX.drew.cells
    obtain ⟨ta, tc, c2, c2a, ta', tc', w', hr, e2, g2, hY, kY⟩ := hX.drew.app4 (by unfold pot at hpE; show st.endT.toks.length ≤ _; omega) (cleanL D) st.pl
    obtain ⟨y0, y1, y2⟩ := hY.cells
    have x1' : X.drew.cell? ⟨p, 1, none⟩ = some (.int .i64 (st.endT.pl : Int)) := x1
    have y1' : (w'.setCell ⟨p, 2, none⟩ (.slice ta' (st.endT.toks.length + 1) tc')).cell? ⟨p, 1, none⟩ = some (.int .i64 (st.endT.pl : Int)) := y1
    rw [hE.2] at x1' y1'
    refine ⟨by rw [← hS]; exact x0, x1', ta, tc, c2, c2a, ta', tc', w', hr, e2, g2, by rw [← hS]; exact y0, y1', y2 1, fun v hv => ?_⟩
    obtain ⟨z1, z2⟩ := hY.cutAt (m := n + noteN (st.rest.drop n)) (by show _ ≤ st.endT.rest.length; rw [hE.1]; exact hmle) (n := v) (by rw [hv, hm]; show _ = ((st.endT.pl + _ : Nat) : Int); rw [hE.2])
    rw [HF.out]
    exact ⟨z1, ((Kept.refl K X).drew.trans kY).trans z2⟩
  have HC1 : Hid (∀ X, DX s K X p st.endT → X.cell? ⟨p, 1, none⟩ = some (.int .i64 (st.pl : Int))) := fun X hX => by have := hX.cells.2.1; rwa [hE.2] at this
  have HC2 : Hid (∀ X, DX s K X p (st.endT.flt 7 st.pl) → X.cell? ⟨p, 1, none⟩ = some (.int .i64 (st.pl : Int))) := fun X hX => by have := hX.cells.2.1; have e : (st.endT.flt 7 st.pl).pl = st.endT.pl := rfl; rwa [e, hE.2] at this
  have z1 : st.pl + n + u ≤ S.size := by omega
  have z2 : S.size < 100000 := by omega
  obtain ⟨a, ha⟩ : ∃ a, st.pl = a := ⟨_, rfl⟩
  obtain ⟨Z, hZ⟩ : ∃ Z, (st.cut n).note st.pl = Z := ⟨_, rfl⟩
  rw [hZ] at HA
  rw [hZ]
  simp only [ha] at r2 r3 HA HC1 HC2 z1 hD
  obtain ⟨k, hk⟩ : ∃ k, st.endT.toks.length = k := ⟨_, rfl⟩
  simp only [hk] at HA
  obtain ⟨fr, hfr⟩ : ∃ t, a + n = t := ⟨_, rfl⟩
  obtain ⟨v, hv⟩ : ∃ v, fr + u = v := ⟨_, rfl⟩
  have hat : (a : Int) + (n : Int) = (fr : Int) := by omega
  simp only [hfr] at r3 z1 hD HA
  simp only [hv] at r3 z1 hD HA
  have z3 : fr ≤ v := by omega
  clear h hlen hE hp hpE hn hue hS sS hDe hDl hm HF hmle ha hZ hk hu hfr hv
  go_enter Try.func35, Try.ntmps35
  go_wp2_with fail
  refine r1.mono ?_
  rintro e w1 ⟨rfl, x1, k1⟩
  have d1 := HC1.out w1 x1
  replace r2 := r2 w1 x1
  clear r1 x1 HC1
  go_wp2_with fail
  refine r2.mono ?_
  rintro e w2 ⟨rfl, x2, k2⟩
  have d2 := HC2.out w2 x2
  replace r3 := r3 w2 x2
  obtain ⟨p0, p1, ta, tc, p2, p2a, ta', tc', w', hr, q2, g2, q0, q1, g1, HZ⟩ := HA.out w2 x2
  have p2c : (w2.alloc (.cells #[.int .u8 4, .string ⟨#[]⟩, .slice none 0 0, .bool false, sv (cleanL D), .int .i64 (a : Int)] 43)).cell? ⟨p, 2, none⟩ = some (.slice ta k tc) := p2a
  have HZ : Hid _ := HZ
  have k12 : Hid (Kept K w w2) := k1.trans k2
  clear r2 HA HC2 d1 k1 k2 x2
  go_wp2_with fail
  refine r3.mono ?_
  rintro e w3 ⟨rfl, rfl⟩
  clear r3 d2
  go_wp2_with fail
  go_region_law (first | (refine step_call rfl 54 #[.tmp 34] #[9] rfl #[.string ⟨D.toArray⟩] (by first | (simp [Act.eval]; done) | (simp [Act.eval, Act.put]; done)) (enter54 _ _) (sv (cleanL D)) _ (r4 _) ?_; rintro w4 rfl) | (refine step_appR (w' := w') rfl (.tmp 27) (.tmp 41) 24 24 rfl _ _ (.slice ta' (k + 1) tc') rfl rfl hr ?_))
  all_goals
    by_cases hv : v + 1 ≤ S.size
    · go_wp2
      go_end0
      have := HZ.out ((v + 1 : Nat) : Int) (by rw [Nat.min_eq_left hv])
      exact ⟨rfl, this.1, k12.out.trans this.2⟩
    · go_wp2
      go_end0
      have := HZ.out ((S.size : Nat) : Int) (by rw [Nat.min_eq_right (by omega)])
      exact ⟨rfl, this.1, k12.out.trans this.2⟩
end Go.Proofs.Ytffllhohlfblnaa
