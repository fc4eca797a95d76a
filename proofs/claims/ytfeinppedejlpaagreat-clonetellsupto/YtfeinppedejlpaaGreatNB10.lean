/-
 Doc.makeOne, Doc.Make, New.
-/
import Derived.Test.YtfeinppedejlpaaGreatNB09
import Derived.Test.YtfeinppedejlpaaGreatNB06
import Derived.Laws.EntriesVeiled
import Derived.Deep.RegionHeld3
namespace Go.Proofs.YtfeinppedejlpaaGreat
set_option linter.unusedVariables false
set_option maxRecDepth 100000
set_option maxHeartbeats 8000000
section
open Go.RowKit
theorem znh : (Tryz.prog.info? 114).map (·.size) = some 22 := by
 obtain ⟨inf, hi, hip⟩ := Option.map_eq_some_iff.1 zma
 rw [hi]
 exact congrArg some (congrArg (·.2.1) hip)
theorem zfe (K : Nat -> Prop) (p : Nat) (S : Dm) (ga : Option Addr) (cap : Nat) (w0 w : World) (h : DY K w0 p S ga cap) (hk : Kept (fun k => k < w0.heap.size) w0 w) (hn : S.n <= 1000000) (hL : S.limit <= 1000000) (x : Nd) (l q : Lk) (aa : Option Addr) (ac : Nat)
  (ha : Zac (fun k => k < w0.heap.size) w 108 2 aa x.attrs.length ac (zab x.attrs)) :
  Calls Tryz.prog 148 #[.pointer (some ⟨p, 0, none⟩), ndV x l q aa ac] w fun e w' => Kept K w0 w' /\ ((S.n + 1 <= S.limit /\ e = .returned (.tuple #[.int .i64 (S.n : Int), .int .u16 0]) /\ DX K w' p (S.add x)) \/ (¬ S.n + 1 <= S.limit /\ e = .returned (.tuple #[.int .i64 0, .int .u16 3]) /\ DX K w' p S)) := by
 obtain ⟨cs, hcs⟩ : ∃ cs : Array Value, (zcq x l q aa ac).toArray = cs := ⟨_, rfl⟩
 have hsz : cs.size = 22 := by rw [<- hcs]; rfl
 show Calls Tryz.prog 148 #[_, .agg (zcq x l q aa ac).toArray] w _
 rw [hcs]
 obtain ⟨W, hW⟩ : ∃ W, w.alloc (.cells cs 114) = W := ⟨_, rfl⟩
 obtain ⟨N, hN⟩ : ∃ N, w.heap.size = N := ⟨_, rfl⟩
 have kW : Kept (fun k => k < w.heap.size) w W := by rw [<- hW]; exact (Kept.refl _ w).alloc (fun _ h => h) _
 have hbW : W.heap[N]? = some (.cells cs 114) := by rw [<- hW, <- hN]; exact heap_alloc_new w _
 have k0W : Kept (fun k => k < w0.heap.size) w0 W := kt hk kW
 have hYW := h.kept k0W
 have rr := zj6 p S.n cap S.limit 1 ga W hYW.c0 hYW.c1 hL hn
 have radd : ∀ X, Kept (fun k => k < W.heap.size) W X -> Calls Tryz.prog 90 #[.pointer (some ⟨p, 0, none⟩), .agg cs] X fun e w' => e = .returned (.int .i64 (S.n : Int)) /\ DX K w' p (S.add x) /\ Kept K w0 w' := by
  intro X hX
  have k0X : Kept (fun k => k < w0.heap.size) w0 X := kt k0W hX
  have := zgu K p S ga cap w0 X h k0X hn x l q aa ac (Zac.to ha (fun g hg => (Zac.out ha hg).1) (fun g hg => by
   have hgl := (Zac.out ha hg).2
   rw [hX.block g (ltl hgl kW.size), kW.block g hgl]))
  rw [<- hcs]
  exact this
 have HR : Hid (∀ X, Kept (fun k => k < W.heap.size) W X -> Calls Tryz.prog 90 #[.pointer (some ⟨p, 0, none⟩), .agg cs] X fun e w' => e = .returned (.int .i64 (S.n : Int)) /\ DX K w' p (S.add x) /\ Kept K w0 w') := radd
 have HW : Hid (w.alloc (.cells cs 114) = W) := hW
 have HN : Hid (w.heap.size = N) := hN
 have HB : Hid (W.heap[N]? = some (.cells cs 114)) := hbW
 have HY : Hid (DY K w0 p S ga cap) := h
 have HK0 : Hid (Kept (fun k => k < w0.heap.size) w0 W) := k0W
 have hNW : N < W.heap.size := by rw [<- hW, <- hN]; simp
 have hi66 : (Tryz.prog.info? 114).map (·.size) = some cs.size := by rw [hsz]; exact znh
 by_cases hr : S.n + 1 <= S.limit
 ·rw [decide_eq_true hr] at rr
  have HRM : Hid (S.n + 1 <= S.limit) := hr
  clear h hk ha kW k0W hYW radd hcs hW hN hbW hr
  go_enter Tryz.func148, Tryz.ntmps148
  go_upto_region 1 with fail
  rw [HW.out, HN.out]
  go_wp2_with fail
  refine rr.mono ?_
  rintro e w1 ⟨rfl, k1⟩
  have hb1 : w1.heap[N]? = some (.cells cs 114) := by rw [k1.block N hNW]; exact HB.out
  have ra := HR.out w1 k1
  clear rr
  go_wp2_with (first | (refine wpList_load_row rfl 114 _ rfl N rfl 114 cs (0, 0) _ hb1 Tryz.underlying114 rfl hi66 ?_) | (go_at_call 90; refine ra.mono ?_; rintro e w2 ⟨rfl, hX, hK⟩))
  go_ret2
  exact ⟨hK, .inl ⟨HRM.out, rfl, hX⟩⟩
 ·rw [decide_eq_false hr] at rr
  have HRM : Hid (¬ S.n + 1 <= S.limit) := hr
  clear h hk ha kW k0W hYW radd hcs hW hN hbW hr
  go_enter Tryz.func148, Tryz.ntmps148
  go_upto_region 1 with fail
  rw [HW.out, HN.out]
  go_wp2_with fail
  refine rr.mono ?_
  rintro e w1 ⟨rfl, k1⟩
  have HK1 : Hid (Kept (fun k => k < w0.heap.size) w0 w1) := kt HK0.out k1
  clear rr k1
  go_wp2
  go_ret2
  exact ⟨HK1.out.mono HY.out.1, .inr ⟨HRM.out, rfl, ⟨_, _, HY.out.kept HK1.out⟩⟩⟩
theorem zah {P : Program} {w : World} {ops : Array Oper} {o : Oper} {a : Act} {Kn : Act -> World -> Prop} {Q : Exit -> Act -> World -> Prop} {E : Prop} (hgd : o.guard = none) (f : FuncId) (args : Array Operand) (tys : Array TypeId)
  (ho : o.op = .call { callee := .value (.func f), args := args, argTypes := tys }) (vs : Array Value) (hv : args.map a.eval = vs) (hE : (callFunc f vs).run P w = .ok (.enter f vs) w) (R : Ending -> World -> Prop)
  (hc : Calls P f vs w R) (h : ∀ e w', R e w' -> ∃ v, e = .returned v /\ Kn (a.put o.dst v) w') : if Region.wanted o (yielded ops a.tmps) = true then Oper.wp P o a w Kn Q else E := by
 have hw : Region.wanted o (yielded ops a.tmps) = true := by simp [Region.wanted, hgd]
 rw [if_pos hw]
 have e : (execOp a.eval o).run P w = .ok (.enter f vs) w := by
  simp [execOp, ho, resolve, Deferred.ofValue, Act.eval, invoke, hv, hE]
 unfold Oper.wp
 rw [e, Oper.upon_enter]
 refine hc.mono ?_
 intro e w' hR
 obtain ⟨v, rfl, hk⟩ := h e w' hR
 exact hk
theorem za0 {f : FuncId} {fn : Func} {c : Code} (hf : Tryz.prog.funcs[f]? = some fn) (hname : (fn.name == "runtime.NumGoroutine") = false) (hb : fn.body = some c) (args : Array Value) (w : World) :
  (callFunc f args).run Tryz.prog w = .ok (.enter f args) w := by
 have hname : ¬ fn.name = "runtime.NumGoroutine" := by simpa using hname
 simp [callFunc, hf, hb, hname]
theorem enter111 (args : Array Value) (X : World) : (callFunc 111 args).run Tryz.prog X = .ok (.enter 111 args) X := za0 Tryz.func111 (by kernel_rfl) (c := _) rfl args X
theorem zbw {P : Program} {o : Oper} {a : Act} {X : World} (t : TypeId) (parts : Array (Nat × Operand)) (ho : o.op = .build t parts) (cells : Array Value) (h : P.built t (parts.map fun (i, x) => (i, a.eval x)).toList = some cells) : (execOp a.eval o).run P X = .ok (.value (.agg cells)) X := by
 unfold execOp
 simp only [ho, Sem.run_bind, run_build X t _ cells h, Result.andThen_ok, Sem.run_pure]
theorem zev {ops : Array Oper} {o : Oper} {a : Act} {w : World} {Kn : Act -> World -> Prop} {Q : Exit -> Act -> World -> Prop} {E : Prop} (hgd : o.guard = none) (x y : Operand) (ho : o.op = .store 114 x y)
  (g : Nat) (cells : Array Value) (hx : a.eval x = .pointer (some ⟨g, 0, none⟩)) (hy : a.eval y = .agg cells) (old : Array Value) (hg : w.heap[g]? = some (.cells old 114 (0, 0))) (hc : cells.size = 22) (hold : old.size = 22) (h1 : cells.all (·.oneCell') = true)
  (h : Kn (a.put o.dst undef) (w.setRow g cells)) : if Region.wanted o (yielded ops a.tmps) = true then Oper.wp Tryz.prog o a w Kn Q else E := by
 have hw : Region.wanted o (yielded ops a.tmps) = true := by simp [Region.wanted, hgd]
 rw [if_pos hw]
 exact wp_store_row 114 x y ho g cells hx hy 114 old hg (by rw [hc]; exact znh) (by rw [hold, hc]) h1 h
abbrev zg6 : Array Value := #[.int .u8 0, .string ⟨#[]⟩, .string ⟨#[]⟩, .slice none 0 0, .bool false, .bool false, .bool false, .bool false, .bool false, .int .i64 0, .int .i64 0, .int .i64 0, .int .i64 0, .int .i64 0, .int .i64 0, .int .i64 0, .int .i64 0, .int .i64 0, .int .i64 0, .int .i64 0, .int .i64 0, .int .i64 0]
theorem zew {ops : Array Oper} {o : Oper} {a : Act} {w : World} {Kn : Act -> World -> Prop} {Q : Exit -> Act -> World -> Prop} {E : Prop} (hgd : o.guard = none) (ho : o.op = .alloc 114)
  (h : Kn (a.put o.dst (.pointer (some ⟨w.heap.size, 0, none⟩))) (w.alloc (.cells zg6 114))) : if Region.wanted o (yielded ops a.tmps) = true then Oper.wp Tryz.prog o a w Kn Q else E := by
 have hw : Region.wanted o (yielded ops a.tmps) = true := by simp [Region.wanted, hgd]
 rw [if_pos hw]
 obtain ⟨inf, hi, hip⟩ := Option.map_eq_some_iff.1 zma
 have hz : inf.zero = _ := congrArg (·.1) hip
 have e : (Instr.alloc 114 true (.tuple #[])).run Tryz.prog w = .ok (.pointer (some ⟨w.heap.size, 0, none⟩)) (w.alloc (.cells zg6 114)) := by
  simp [Instr.alloc, zeroValue, typeInfo, hi, hz, newVar, newRow, Value.cells]
 unfold Oper.wp execOp
 simp only [ho, Sem.run_bind, e, Result.andThen_ok, Sem.run_pure]
 exact h
def lk0 : Lk := ⟨0, 0, 0, 0, 0⟩
def Mk.nd (x : Mk) : Nd := ⟨x.kind, x.name, x.data, x.attrs, ⟨false, false, false, false, false⟩, 0, 0, 0⟩
abbrev zcl (kd : Nat) (S D : ByteArray) (ao : Option Addr) (n c : Nat) : Array Value := #[.int .u8 (kd : Int), .string S, .string D, .slice ao n c, .bool false, .bool false, .bool false, .bool false, .bool false, .int .i64 0, .int .i64 0, .int .i64 0, .int .i64 0, .int .i64 0, .int .i64 0, .int .i64 0, .int .i64 0, .int .i64 0, .int .i64 0, .int .i64 0, .int .i64 0, .int .i64 0]
theorem zmb (kd : Nat) (S D : ByteArray) (ao : Option Addr) (n c : Nat) : Tryz.prog.built 114 [(0, .int .u8 (kd : Int)), (1, .string S), (2, .string D), (3, .slice ao n c)] = some (zcl kd S D ao n c) := by kernel_rfl
theorem zh8 (kd : Nat) (S D : ByteArray) (ao : Option Addr) (n c : Nat) : (zcl kd S D ao n c).all (·.oneCell') = true := by kernel_rfl
def Made (W : World) (kd : Nat) (S D : ByteArray) (l : List Atr) (n : Nat) (v : Value) (wx : World) : Prop :=
 ∃ (b : Nat) (ao : Option Addr) (c : Nat), v = .pointer (some ⟨b, 0, none⟩) /\ wx.heap[b]? = some (.cells (zcl kd S D ao n c) 114) /\ Zac (fun k => k < W.heap.size) wx 108 2 ao n c (zab l) /\ W.heap.size <= b /\ ¬ zap ao b /\ Kept (fun k => k < W.heap.size) W wx
theorem zaq {K : Nat -> Prop} {a w : World} (h : Kept K a w) {g : Nat} (hg : ¬ K g) (cs : Array Value) : Kept K a (w.setRow g cs) :=
 ⟨h.os, h.tape, h.output, by rw [setRow_size]; exact h.size, fun k hk => by rw [setRow_other _ _ _ _ (fun e => hg (by rw [<- e]; exact hk))]; exact h.block k hk⟩
theorem zr6 {W Y X0 : World} {kd : Nat} {S D : ByteArray} {l : List Atr} {n : Nat} {ao : Option Addr} {c : Nat} (hO : Zac (fun k => k < X0.heap.size) Y 108 2 ao n c (zab l)) (hX : W.heap.size <= X0.heap.size) (hYs : W.heap.size <= Y.heap.size) (hH : Kept (fun k => k < W.heap.size) W (Y.alloc (.cells zg6 114))) :
  Made W kd S D l n (.pointer (some ⟨Y.heap.size, 0, none⟩)) ((Y.alloc (.cells zg6 114)).setRow Y.heap.size (zcl kd S D ao n c)) := by
 refine ⟨Y.heap.size, ao, c, rfl, setRow_heap _ _ _ _ _ _ (heap_alloc_new Y _), ?_, hYs, fun hb => Nat.lt_irrefl _ (Zac.out hO hb).2, zaq hH (fun h => Nat.lt_irrefl _ (ltl h hYs)) _⟩
 refine Zac.to hO (fun g hg hh => (Zac.out hO hg).1 (ltl hh hX)) (fun g hg => ?_)
 have hl := (Zac.out hO hg).2
 rw [setRow_other _ _ _ _ (by omega), Below.heap_alloc _ _ _ hl]
theorem zrt {W X Y : World} {kd : Nat} {S D : ByteArray} {l : List Atr} {n : Nat} {ao : Option Addr} {c : Nat} (hO : Zac (fun k => k < (X.alloc (.cells zg6 114)).heap.size) Y 108 2 ao n c (zab l)) (hX : W.heap.size <= X.heap.size) (hb : Y.heap[X.heap.size]? = some (.cells zg6 114)) (hH : Kept (fun k => k < W.heap.size) W Y) :
  Made W kd S D l n (.pointer (some ⟨X.heap.size, 0, none⟩)) (Y.setRow X.heap.size (zcl kd S D ao n c)) := by
 have hs : (X.alloc (.cells zg6 114)).heap.size = X.heap.size + 1 := by simp
 have hne : ∀ g, zap ao g -> g ≠ X.heap.size := fun g hg e => (Zac.out hO hg).1 (by rw [hs, e]; omega)
 refine ⟨X.heap.size, ao, c, rfl, setRow_heap _ _ _ _ _ _ hb, ?_, hX, fun hb => hne _ hb rfl, zaq hH (fun h => Nat.lt_irrefl _ (ltl h hX)) _⟩
 refine Zac.to hO (fun g hg hh => (Zac.out hO hg).1 (by rw [hs]; omega)) (fun g hg => ?_)
 rw [setRow_other _ _ _ _ (hne g hg)]
theorem zgy (S : ByteArray) : (⟨S.toList.toArray⟩ : ByteArray) = S := by
 apply ByteArray.ext
 rw [ByteArray.toList_eq]
theorem zld (kd : Nat) (S D : ByteArray) (l : List Atr) (ao : Option Addr) (n c : Nat) (hln : l.length = n) : (zcq (Mk.nd ⟨kd, S.toList, D.toList, l⟩) lk0 lk0 ao c).toArray = zcl kd S D ao n c := by
 subst hln
 simp only [zcq, Mk.nd, sv, zgy]
 rfl
def za4 : Nd := ⟨4, [], [], [], ⟨false, false, false, false, false⟩, 0, 0, 0⟩
def Dm.addT (M : Dm) (x : Nd) : Dm := (((M.add x).add za4).setN M.n { ((M.add x).add za4).nd M.n with content := ((M.n + 1 : Nat) : Int) }).setN (M.n + 1) { (((M.add x).add za4).setN M.n { ((M.add x).add za4).nd M.n with content := ((M.n + 1 : Nat) : Int) }).nd (M.n + 1) with host := (M.n : Int) }
theorem zqd (K : Nat -> Prop) (p : Nat) (kd : Nat) (S D : ByteArray) (l : List Atr) (aa : Option Addr) (n ac : Nat) (r : Rest) (w : World) (M : Dm) (ga : Option Addr) (cap : Nat) (hY0 : DY K w p M ga cap) (hMn : M.n <= 100000) (hML : M.limit <= 100000) (hln : l.length = n) (hn : n <= 100000000) (ha : Zag (fun k => k < w.heap.size) w aa l)
  (rs : Calls Tryz.prog 146 #[zlw kd S D aa n ac r] (w.alloc (.cells #[.int .u8 (kd : Int), .string S, .string D, .slice aa n ac, .int .i64 r.up, .slice r.ka r.kn r.kc, .int .i64 r.shadow, .int .i64 r.host, .int .i64 r.content, .bool r.fl.a, .bool r.fl.b, .bool r.fl.c, .bool r.fl.d, .bool r.fl.e] 58)) fun e w' => e = .returned (.bool true) /\ Kept (fun k => k < (w.alloc (.cells #[.int .u8 (kd : Int), .string S, .string D, .slice aa n ac, .int .i64 r.up, .slice r.ka r.kn r.kc, .int .i64 r.shadow, .int .i64 r.host, .int .i64 r.content, .bool r.fl.a, .bool r.fl.b, .bool r.fl.c, .bool r.fl.d, .bool r.fl.e] 58)).heap.size) (w.alloc (.cells #[.int .u8 (kd : Int), .string S, .string D, .slice aa n ac, .int .i64 r.up, .slice r.ka r.kn r.kc, .int .i64 r.shadow, .int .i64 r.host, .int .i64 r.content, .bool r.fl.a, .bool r.fl.b, .bool r.fl.c, .bool r.fl.d, .bool r.fl.e] 58)) w') :
  Calls Tryz.prog 68 #[.pointer (some ⟨p, 0, none⟩), zlw kd S D aa n ac r] w fun e w' => Kept K w w' /\ (if (decide (kd = 1) && S.toList == [116, 101, 109, 112, 108, 97, 116, 101]) = true then ((M.n + 2 <= M.limit /\ e = .returned (.tuple #[.int .i64 (M.n : Int), .int .u16 0]) /\ DX K w' p (M.addT (Mk.nd ⟨kd, S.toList, D.toList, l⟩))) \/ (¬ M.n + 2 <= M.limit /\ e = .returned (.tuple #[.int .i64 0, .int .u16 3]) /\ DX K w' p M)) else ((M.n + 1 <= M.limit /\ e = .returned (.tuple #[.int .i64 (M.n : Int), .int .u16 0]) /\ DX K w' p (M.add (Mk.nd ⟨kd, S.toList, D.toList, l⟩))) \/ (¬ M.n + 1 <= M.limit /\ e = .returned (.tuple #[.int .i64 0, .int .u16 3]) /\ DX K w' p M))) := by
 obtain ⟨tm, htm⟩ : ∃ b, (decide (kd = 1) && S.toList == [116, 101, 109, 112, 108, 97, 116, 101]) = b := ⟨_, rfl⟩
 rw [htm]
 have HTM : Hid ((decide (kd = 1) && S.toList == [116, 101, 109, 112, 108, 97, 116, 101]) = tm) := htm
 clear htm
 obtain ⟨W, hW⟩ : ∃ W, w.alloc (.cells #[.int .u8 (kd : Int), .string S, .string D, .slice aa n ac, .int .i64 r.up, .slice r.ka r.kn r.kc, .int .i64 r.shadow, .int .i64 r.host, .int .i64 r.content, .bool r.fl.a, .bool r.fl.b, .bool r.fl.c, .bool r.fl.d, .bool r.fl.e] 58) = W := ⟨_, rfl⟩
 obtain ⟨N, hN⟩ : ∃ N, w.heap.size = N := ⟨_, rfl⟩
 have kW : Kept (fun k => k < w.heap.size) w W := by rw [<- hW]; exact (Kept.refl _ w).alloc (fun _ h => h) _
 have hb : W.heap[N]? = some (.cells #[.int .u8 (kd : Int), .string S, .string D, .slice aa n ac, .int .i64 r.up, .slice r.ka r.kn r.kc, .int .i64 r.shadow, .int .i64 r.host, .int .i64 r.content, .bool r.fl.a, .bool r.fl.b, .bool r.fl.c, .bool r.fl.d, .bool r.fl.e] 58) := by rw [<- hW, <- hN]; exact heap_alloc_new w _
 have hNW : N < W.heap.size := zad hb
 have c0 : W.cell? ⟨N, 0, none⟩ = some (.int .u8 (kd : Int)) := by rw [zaa hb]; rfl
 have c1 : W.cell? ⟨N, 1, none⟩ = some (.string S) := by rw [zaa hb]; rfl
 have c2 : W.cell? ⟨N, 2, none⟩ = some (.string D) := by rw [zaa hb]; rfl
 have c3 : W.cell? ⟨N, 3, none⟩ = some (.slice aa n ac) := by rw [zaa hb]; rfl
 have hYW := hY0.kept kW
 have HYW : Hid (DY K W p M ga cap) := hYW
 have HKW : Hid (Kept K w W) := kW.mono hY0.1
 have HLN : Hid (l.length = n) := hln
 have RC : Hid (∀ X, Kept (fun k => k < W.heap.size) W X -> Calls Tryz.prog 111 #[.slice aa n ac] X fun e w' => ∃ ao c, e = .returned (.slice ao n c) /\ Zac (fun k => k < X.heap.size) w' 108 2 ao n c (zab l) /\ Kept (fun k => k < X.heap.size) X w') := fun X hX => zft l aa n ac hln hn X ((ha.kept kW fun k h => ltl h kW.size).kept hX fun k h => ltl h hX.size)
 have HW : Hid (w.alloc (.cells #[.int .u8 (kd : Int), .string S, .string D, .slice aa n ac, .int .i64 r.up, .slice r.ka r.kn r.kc, .int .i64 r.shadow, .int .i64 r.host, .int .i64 r.content, .bool r.fl.a, .bool r.fl.b, .bool r.fl.c, .bool r.fl.d, .bool r.fl.e] 58) = W) := hW
 have HN : Hid (w.heap.size = N) := hN
 have rs' : Calls Tryz.prog 146 #[zlw kd S D aa n ac r] W fun e w' => e = .returned (.bool true) /\ Kept (fun k => k < W.heap.size) W w' := by rw [<- hW]; exact rs
 clear rs hW hN kW hb ha hYW hY0 hln
 go_enter Tryz.func68, Tryz.ntmps68
 go_wp2_with fail
 rw [HW.out, HN.out]
 clear HW HN
 refine rs'.mono ?_
 rintro e w2 ⟨rfl, k2⟩
 clear rs'
 go_upto_region 3 with fail
 go_cut [6] (fun v6 wx => Made W kd S D l n v6 wx)
 case first =>
  refine wp_region_held_drew (S := fun X => Kept (fun k => k < W.heap.size) W X) (by kernel_rfl) k2.drew (fun hHeld => ?_)
  refine tkH 0 12 (.pointer (some ⟨N, 0, none⟩)) rfl rfl (by kernel_rfl) (by rfl) (by intro X hX; go_simp; try with_reducible rfl) (fun _ _ _ h => h) hHeld ?_
  try simp only [Act.put, sA, s0, s1]
  refine tkH 1 13 (.int .u8 (kd : Int)) rfl rfl (by kernel_rfl) (by rfl) (by intro X hX; have hc := (hX.cell (p := ⟨N, 0, none⟩) hNW).trans c0; go_simp; try with_reducible rfl) (fun _ _ _ h => h) hHeld ?_
  try simp only [Act.put, sA, s0, s1]
  refine tkH 2 14 (.pointer (some ⟨N, 1, none⟩)) rfl rfl (by kernel_rfl) (by rfl) (by intro X hX; go_simp; try with_reducible rfl) (fun _ _ _ h => h) hHeld ?_
  try simp only [Act.put, sA, s0, s1]
  refine tkH 3 15 (.string S) rfl rfl (by kernel_rfl) (by rfl) (by intro X hX; have hc := (hX.cell (p := ⟨N, 1, none⟩) hNW).trans c1; go_simp; try with_reducible rfl) (fun _ _ _ h => h) hHeld ?_
  try simp only [Act.put, sA, s0, s1]
  refine tkH 4 16 (.pointer (some ⟨N, 2, none⟩)) rfl rfl (by kernel_rfl) (by rfl) (by intro X hX; go_simp; try with_reducible rfl) (fun _ _ _ h => h) hHeld ?_
  try simp only [Act.put, sA, s0, s1]
  refine tkH 5 17 (.string D) rfl rfl (by kernel_rfl) (by rfl) (by intro X hX; have hc := (hX.cell (p := ⟨N, 2, none⟩) hNW).trans c2; go_simp; try with_reducible rfl) (fun _ _ _ h => h) hHeld ?_
  try simp only [Act.put, sA, s0, s1]
  refine tkH 6 18 (.pointer (some ⟨N, 3, none⟩)) rfl rfl (by kernel_rfl) (by rfl) (by intro X hX; go_simp; try with_reducible rfl) (fun _ _ _ h => h) hHeld ?_
  try simp only [Act.put, sA, s0, s1]
  refine tkH 7 19 (.slice aa n ac) rfl rfl (by kernel_rfl) (by rfl) (by intro X hX; have hc := (hX.cell (p := ⟨N, 3, none⟩) hNW).trans c3; go_simp; try with_reducible rfl) (fun _ _ _ h => h) hHeld ?_
  try simp only [Act.put, sA, s0, s1]
  refine wpAnyH_ready (rs := [8, 10]) (by kernel_rfl) (by simp) ?_
  refine AllReadyH.cons (o := { dst := some 20, op := Op.call { callee := Callee.value (Operand.func 111), args := #[Operand.tmp 19], argTypes := #[44] }, type := 44, pos := "make.go:13", after := #[{ on := 7, ground := Ground.data }], guard := none }) rfl (fun Kx hK => ?_) (AllReadyH.cons (o := { dst := some 6, op := Op.alloc 114, type := 0, pos := "make.go:13", after := #[], guard := none }) rfl (fun Kx hK => ?_) AllReadyH.nil)
  ·have hWX := hHeld.size
   refine zah rfl 111 #[.tmp 19] #[44] rfl #[.slice aa n ac] (by first | (simp [Act.eval]; done) | (simp [Act.eval, Act.put]; done)) (enter111 _ _) _ (RC.out _ hHeld) ?_
   rintro e Y ⟨ao, c, rfl, hO, hKY⟩
   refine ⟨_, rfl, hK.out _ _ (hHeld.trans (hKY.mono fun k hk => ltl hk hHeld.size)) (fun hHeld2 => ?_)⟩
   clear hK Kx hHeld
   replace hHeld := hHeld2
   clear hHeld2
   try simp only [Act.put, sA, s0, s1]
   refine tkH 9 21 (.agg (zcl kd S D ao n c)) rfl rfl (by kernel_rfl) (by rfl) (by intro X hX; refine zbw 114 _ rfl (zcl kd S D ao n c) ?_; simp only [List.map_toArray, List.map_cons, List.map_nil, Act.eval]; exact zmb kd S D ao n c) (fun _ _ _ h => h) hHeld ?_
   try simp only [Act.put, sA, s0, s1]
   refine wpAnyH_ready (rs := [10]) (by kernel_rfl) (by simp) ?_
   refine AllReadyH.cons (o := { dst := some 6, op := Op.alloc 114, type := 0, pos := "make.go:13", after := #[], guard := none }) rfl (fun Kx hK => ?_) AllReadyH.nil
   refine zew rfl rfl ?_
   have hYs : W.heap.size <= Y.heap.size := hHeld.size
   refine hK.out _ _ (hHeld.alloc (fun k hk => ltl hk hYs) _) (fun hHeld2 => ?_)
   clear hK Kx hHeld
   replace hHeld := hHeld2
   clear hHeld2
   try simp only [Act.put, sA, s0, s1]
   refine wpAnyH_ready (rs := [11]) (by kernel_rfl) (by simp) ?_
   refine AllReadyH.cons (o := { dst := none, op := Op.store 114 (Operand.tmp 6) (Operand.tmp 21), type := 0, pos := "make.go:13", after := #[{ on := 10, ground := Ground.data }, { on := 9, ground := Ground.data }, { on := 8, ground := Ground.chain }, { on := 0, ground := Ground.phase }, { on := 1, ground := Ground.phase }, { on := 2, ground := Ground.phase }, { on := 3, ground := Ground.phase }, { on := 4, ground := Ground.phase }, { on := 5, ground := Ground.phase }, { on := 6, ground := Ground.phase }, { on := 7, ground := Ground.phase }, { on := 8, ground := Ground.phase }, { on := 9, ground := Ground.phase }, { on := 10, ground := Ground.phase }], guard := none }) rfl (fun Kx hK => ?_) AllReadyH.nil
   refine zev rfl (.tmp 6) (.tmp 21) rfl Y.heap.size (zcl kd S D ao n c) rfl rfl zg6 (heap_alloc_new Y _) rfl rfl (zh8 _ _ _ _ _ _) ?_
   refine hK.out _ _ ?_ (fun hHeld2 => ?_)
   ·exact zaq hHeld (fun h => Nat.lt_irrefl _ (ltl h hYs)) _
   clear hK Kx
   refine wpAnyH_done (by kernel_rfl) ?_ _
   try simp only [Act.put]
   go_wp2_with fail
   go_meet
   case rel => exact zr6 hO hWX hYs hHeld
  ·have hWX := hHeld.size
   refine zew rfl rfl ?_
   refine hK.out _ _ (hHeld.alloc (fun k hk => ltl hk hWX) _) (fun hHeld2 => ?_)
   clear hK Kx hHeld
   replace hHeld := hHeld2
   clear hHeld2
   try simp only [Act.put, sA, s0, s1]
   refine wpAnyH_ready (rs := [8]) (by kernel_rfl) (by simp) ?_
   refine AllReadyH.cons (o := { dst := some 20, op := Op.call { callee := Callee.value (Operand.func 111), args := #[Operand.tmp 19], argTypes := #[44] }, type := 44, pos := "make.go:13", after := #[{ on := 7, ground := Ground.data }], guard := none }) rfl (fun Kx hK => ?_) AllReadyH.nil
   refine zah rfl 111 #[.tmp 19] #[44] rfl #[.slice aa n ac] (by first | (simp [Act.eval]; done) | (simp [Act.eval, Act.put]; done)) (enter111 _ _) _ (RC.out _ hHeld) ?_
   rintro e Y ⟨ao, c, rfl, hO, hKY⟩
   refine ⟨_, rfl, hK.out _ _ (hHeld.trans (hKY.mono fun k hk => ltl hk hHeld.size)) (fun hHeld2 => ?_)⟩
   clear hK Kx hHeld
   replace hHeld := hHeld2
   clear hHeld2
   try simp only [Act.put, sA, s0, s1]
   have hbY := (hKY.block w2.drew.heap.size (by simp)).trans (heap_alloc_new w2.drew _)
   refine tkH 9 21 (.agg (zcl kd S D ao n c)) rfl rfl (by kernel_rfl) (by rfl) (by intro X hX; refine zbw 114 _ rfl (zcl kd S D ao n c) ?_; simp only [List.map_toArray, List.map_cons, List.map_nil, Act.eval]; exact zmb kd S D ao n c) (fun _ _ _ h => h) hHeld ?_
   try simp only [Act.put, sA, s0, s1]
   refine wpAnyH_ready (rs := [11]) (by kernel_rfl) (by simp) ?_
   refine AllReadyH.cons (o := { dst := none, op := Op.store 114 (Operand.tmp 6) (Operand.tmp 21), type := 0, pos := "make.go:13", after := #[{ on := 10, ground := Ground.data }, { on := 9, ground := Ground.data }, { on := 8, ground := Ground.chain }, { on := 0, ground := Ground.phase }, { on := 1, ground := Ground.phase }, { on := 2, ground := Ground.phase }, { on := 3, ground := Ground.phase }, { on := 4, ground := Ground.phase }, { on := 5, ground := Ground.phase }, { on := 6, ground := Ground.phase }, { on := 7, ground := Ground.phase }, { on := 8, ground := Ground.phase }, { on := 9, ground := Ground.phase }, { on := 10, ground := Ground.phase }], guard := none }) rfl (fun Kx hK => ?_) AllReadyH.nil
   refine zev rfl (.tmp 6) (.tmp 21) rfl w2.drew.heap.size (zcl kd S D ao n c) rfl rfl zg6 hbY rfl rfl (zh8 _ _ _ _ _ _) ?_
   refine hK.out _ _ ?_ (fun hHeld2 => ?_)
   ·exact zaq hHeld (fun h => Nat.lt_irrefl _ (ltl h hWX)) _
   clear hK Kx
   refine wpAnyH_done (by kernel_rfl) ?_ _
   try simp only [Act.put]
   go_wp2_with fail
   go_meet
   case rel => exact zrt hO hWX hbY hHeld
 case rest =>
  obtain ⟨b, ao, c, rfl, hb, hO, hWb, hab, hKc⟩ := hcut
  have q0 : wc.cell? ⟨b, 0, none⟩ = some (.int .u8 (kd : Int)) := by rw [zaa hb]; rfl
  have q1 : wc.cell? ⟨b, 0 + 1, none⟩ = some (.string S) := by rw [zaa hb]; rfl
  have re := zea b 0 kd S ⟨#[116, 101, 109, 112, 108, 97, 116, 101]⟩ wc q0 q1
  have e8 : ByteArray.toList ⟨#[116, 101, 109, 112, 108, 97, 116, 101]⟩ = [116, 101, 109, 112, 108, 97, 116, 101] := by rw [ByteArray.toList_eq]
  rw [e8] at re
  have HB : Hid (wc.heap[b]? = some (.cells (zcl kd S D ao n c) 114)) := hb
  have HO : Hid (Zac (fun k => k < W.heap.size) wc 108 2 ao n c (zab l)) := hO
  have HKC : Hid (Kept (fun k => k < W.heap.size) W wc) := hKc
  have hi66 : (Tryz.prog.info? 114).map (·.size) = some (zcl kd S D ao n c).size := znh
  have HO' : Hid (Zac (fun k => k < W.heap.size) wc 108 2 ao (Mk.nd ⟨kd, S.toList, D.toList, l⟩).attrs.length c (zab (Mk.nd ⟨kd, S.toList, D.toList, l⟩).attrs)) := by
   show Zac _ wc 108 2 ao l.length c (zab l)
   rw [HLN.out]; exact hO
  rw [HTM.out] at re
  clear q0 q1 e8 hO hKc HTM c0 c1 c2 c3 RC
  cases tm with
  | false =>
   have rm := zfe K p M ga cap W wc HYW.out HKC.out (by omega) (by omega) (Mk.nd ⟨kd, S.toList, D.toList, l⟩) lk0 lk0 ao c HO'.out
   have rm' : Calls Tryz.prog 148 #[.pointer (some ⟨p, 0, none⟩), .agg (zcl kd S D ao n c)] wc fun e w' => Kept K W w' /\ ((M.n + 1 <= M.limit /\ e = .returned (.tuple #[.int .i64 (M.n : Int), .int .u16 0]) /\ DX K w' p (M.add (Mk.nd ⟨kd, S.toList, D.toList, l⟩))) \/ (¬ M.n + 1 <= M.limit /\ e = .returned (.tuple #[.int .i64 0, .int .u16 3]) /\ DX K w' p M)) := by
    rw [<- zld kd S D l ao n c HLN.out]; exact rm
   clear rm
   obtain ⟨cs, hcs⟩ : ∃ cs, zcl kd S D ao n c = cs := ⟨_, rfl⟩
   rw [hcs] at rm' hb hi66
   clear hcs
   have HM : Hid (Calls Tryz.prog 148 #[.pointer (some ⟨p, 0, none⟩), .agg cs] wc fun e w' => Kept K W w' /\ ((M.n + 1 <= M.limit /\ e = .returned (.tuple #[.int .i64 (M.n : Int), .int .u16 0]) /\ DX K w' p (M.add (Mk.nd ⟨kd, S.toList, D.toList, l⟩))) \/ (¬ M.n + 1 <= M.limit /\ e = .returned (.tuple #[.int .i64 0, .int .u16 3]) /\ DX K w' p M))) := rm'
   clear rm'
   go_wp2_with (first | (go_at_call 147; refine re.mono ?_; rintro e w3 ⟨rfl, hw3⟩; replace hw3 := hw3.symm; subst hw3) | (refine wpList_load_row rfl 114 _ rfl b rfl 114 cs (0, 0) _ hb Tryz.underlying114 rfl hi66 ?_))
   refine HM.out.mono ?_
   rintro e w4 ⟨hK4, ⟨hr, rfl, hX⟩ | ⟨hr, rfl, hX⟩⟩
   ·have HR : Hid (M.n + 1 <= M.limit) := hr
    have HX : Hid (DX K w4 p (M.add (Mk.nd ⟨kd, S.toList, D.toList, l⟩))) := hX
    clear hr hX
    go_wp2
    go_ret2
    exact ⟨HKW.out.trans hK4, .inl ⟨HR.out, rfl, HX.out⟩⟩
   ·have HR : Hid (¬ M.n + 1 <= M.limit) := hr
    have HX : Hid (DX K w4 p M) := hX
    clear hr hX
    go_wp2
    go_ret2
    exact ⟨HKW.out.trans hK4, .inr ⟨by have := HR.out; omega, rfl, HX.out⟩⟩
  | true =>
   have hYc := HYW.out.kept HKC.out
   have rr := zj6 p M.n cap M.limit 2 ga wc hYc.c0 hYc.c1 (by omega) (by omega)
   obtain ⟨cs, hcs⟩ : ∃ cs, zcl kd S D ao n c = cs := ⟨_, rfl⟩
   have HCS : Hid (zcl kd S D ao n c = cs) := hcs
   rw [hcs] at hb hi66
   clear hcs hYc
   by_cases hr : M.n + 2 <= M.limit
   ·rw [decide_eq_true hr] at rr
    have HR : Hid (M.n + 2 <= M.limit) := hr
    clear hr
    go_wp2_with (first | (go_at_call 147; refine re.mono ?_; rintro e w3 ⟨rfl, hw3⟩; replace hw3 := hw3.symm; subst hw3))
    refine rr.mono ?_
    rintro e w3 ⟨rfl, k3⟩
    have hbl := zad hb
    have hb3 : w3.heap[b]? = some (.cells cs 114) := by rw [k3.block b hbl]; exact hb
    have hk3 : Kept (fun k => k < W.heap.size) W w3 := kt HKC.out k3
    have ho3 : Zac (fun k => k < W.heap.size) w3 108 2 ao (Mk.nd ⟨kd, S.toList, D.toList, l⟩).attrs.length c (zab (Mk.nd ⟨kd, S.toList, D.toList, l⟩).attrs) := Zac.to HO'.out (fun g hg => (Zac.out HO'.out hg).1) (fun g hg => k3.block g (Zac.out HO'.out hg).2)
    have r1 := zgu K p M ga cap W w3 HYW.out hk3 (by omega) (Mk.nd ⟨kd, S.toList, D.toList, l⟩) lk0 lk0 ao c ho3
    have r1' : Calls Tryz.prog 90 #[.pointer (some ⟨p, 0, none⟩), .agg cs] w3 fun e w' => e = .returned (.int .i64 (M.n : Int)) /\ DX K w' p (M.add (Mk.nd ⟨kd, S.toList, D.toList, l⟩)) /\ Kept K W w' := by
     rw [<- HCS.out, <- zld kd S D l ao n c HLN.out]; exact r1
    have HR1 : Hid (Calls Tryz.prog 90 #[.pointer (some ⟨p, 0, none⟩), .agg cs] w3 fun e w' => e = .returned (.int .i64 (M.n : Int)) /\ DX K w' p (M.add (Mk.nd ⟨kd, S.toList, D.toList, l⟩)) /\ Kept K W w') := r1'
    clear r1 r1' rr re ho3 hk3 k3 hb
    go_wp2_with (refine wpList_load_row rfl 114 _ rfl b rfl 114 cs (0, 0) _ hb3 Tryz.underlying114 rfl hi66 ?_)
    refine HR1.out.mono ?_
    rintro e w4 ⟨rfl, ⟨ga4, cap4, hY4⟩, hK4⟩
    have r2 := zgu K p _ ga4 cap4 w4 w4 hY4 (Kept.refl _ _) (by show M.n + 1 <= _; omega) za4 lk0 lk0 none 0 (Zac.nil _ _ _ _)
    have HR2 : Hid (Calls Tryz.prog 90 #[.pointer (some ⟨p, 0, none⟩), .agg (zcl 4 ⟨#[]⟩ ⟨#[]⟩ none 0 0)] w4 fun e w' => e = .returned (.int .i64 (((M.n + 1 : Nat) : Int))) /\ DX K w' p ((M.add (Mk.nd ⟨kd, S.toList, D.toList, l⟩)).add za4) /\ Kept K w4 w') := r2
    have HK4 : Hid (Kept K W w4) := hK4
    clear r2 hY4 hK4 HR1 hb3
    go_wp2_with fail
    refine HR2.out.mono ?_
    rintro e w5 ⟨rfl, ⟨ga5, cap5, hY5⟩, hK5⟩
    obtain ⟨g, rfl, -, -, -⟩ := hY5.at (by show 0 < M.n + 1 + 1; omega)
    obtain ⟨x, hx⟩ : ∃ x, Mk.nd ⟨kd, S.toList, D.toList, l⟩ = x := ⟨_, rfl⟩
    obtain ⟨q, hq⟩ : ∃ q, M.n = q := ⟨_, rfl⟩
    have HX : Hid (Mk.nd ⟨kd, S.toList, D.toList, l⟩ = x) := hx
    have HQ : Hid (M.n = q) := hq
    rw [hx] at hY5
    have hin : q < ((M.add x).add za4).n := by show q < M.n + 1 + 1; omega
    have hin2 : q + 1 < ((M.add x).add za4).n := by show q + 1 < M.n + 1 + 1; omega
    have c1 : w5.cell? ⟨p, 1, none⟩ = some (.slice (some ⟨g, 0, none⟩) (q + 2) cap5) := by
     have := hY5.c1
     rw [show ((M.add x).add za4).n = q + 2 from by show M.n + 1 + 1 = _; omega] at this
     exact this
    obtain ⟨aa1, ac1, hc1, -⟩ := hY5.cell hin
    obtain ⟨aa2, ac2, hc2, -⟩ := hY5.cell hin2
    have d11 := hc1 11 _ rfl
    have d10 := hc2 10 _ rfl
    have f11 := hY5.fg (q * 22 + 11)
    have f10 := hY5.fg ((q + 1) * 22 + 10)
    have D1 := hY5.setNcontent hin (((q + 1 : Nat) : Int))
    have D2 := D1.1.setNhost (i := q + 1) hin2 (q : Int)
    have hgp := hY5.gk.2.1
    have HD : Hid (DX K ((w5.setCell ⟨g, q * 22 + 11, none⟩ (.int .i64 ((q + 1 : Nat) : Int))).setCell ⟨g, (q + 1) * 22 + 10, none⟩ (.int .i64 (q : Int))) p (M.addT x)) := by
     unfold Dm.addT
     rw [HQ.out]
     exact ⟨_, _, D2.1⟩
    have HKF : Hid (Kept K w ((w5.setCell ⟨g, q * 22 + 11, none⟩ (.int .i64 ((q + 1 : Nat) : Int))).setCell ⟨g, (q + 1) * 22 + 10, none⟩ (.int .i64 (q : Int)))) := HKW.out.trans (HK4.out.trans (hK5.trans (D1.2.trans D2.2)))
    rw [hq]
    have e2 : q * 22 + 22 + 10 = (q + 1) * 22 + 10 := by omega
    clear D1 D2 hY5 hK5 hc1 hc2 hx hq HR2 e2
    go_wp2
    go_ret2
    exact ⟨HKF.out, .inl ⟨HR.out, by rw [HQ.out]; rfl, by rw [HX.out]; exact HD.out⟩⟩
   ·rw [decide_eq_false hr] at rr
    have HR : Hid (¬ M.n + 2 <= M.limit) := hr
    clear hr
    go_wp2_with (first | (go_at_call 147; refine re.mono ?_; rintro e w3 ⟨rfl, hw3⟩; replace hw3 := hw3.symm; subst hw3))
    refine rr.mono ?_
    rintro e w3 ⟨rfl, k3⟩
    have HK3 : Hid (Kept (fun k => k < W.heap.size) W w3) := kt HKC.out k3
    clear rr re k3
    go_wp2
    go_ret2
    exact ⟨HKW.out.trans (HK3.out.mono HYW.out.1), .inr ⟨by have := HR.out; omega, rfl, ⟨_, _, HYW.out.kept HK3.out⟩⟩⟩
inductive Makes (K : Nat -> Prop) (p : Nat) (M : Dm) (x : Mk) (e : Ending) (w' : World) : Prop
 | arg : zat x = false -> e = .returned (.tuple #[.int .i64 0, .int .u16 1]) -> DX K w' p M -> Makes K p M x e w'
 | full : zat x = true -> M.limit < M.n + (if x.kind = 1 /\ x.name = [116, 101, 109, 112, 108, 97, 116, 101] then 2 else 1) -> e = .returned (.tuple #[.int .i64 0, .int .u16 3]) -> DX K w' p M -> Makes K p M x e w'
 | two : zat x = true -> (x.kind = 1 /\ x.name = [116, 101, 109, 112, 108, 97, 116, 101]) -> M.n + 2 <= M.limit -> e = .returned (.tuple #[.int .i64 (M.n : Int), .int .u16 0]) -> DX K w' p (M.addT x.nd) -> Makes K p M x e w'
 | one : zat x = true -> ¬ (x.kind = 1 /\ x.name = [116, 101, 109, 112, 108, 97, 116, 101]) -> M.n + 1 <= M.limit -> e = .returned (.tuple #[.int .i64 (M.n : Int), .int .u16 0]) -> DX K w' p (M.add x.nd) -> Makes K p M x e w'
theorem zgq (K : Nat -> Prop) (p : Nat) (kd : Nat) (S D : ByteArray) (l : List Atr) (aa : Option Addr) (n ac : Nat) (r : Rest) (w : World) (M : Dm) (hX : DX K w p M) (hMn : M.n <= 100000) (hML : M.limit <= 100000) (hln : l.length = n) (hn : n <= 100000000) (ha : Zag (fun k => k < w.heap.size) w aa l) (hsz : ∀ x ∈ l, x.name.length <= 1000000000 /\ x.value.length <= 1000000000) :
  Calls Tryz.prog 68 #[.pointer (some ⟨p, 0, none⟩), zlw kd S D aa n ac r] w fun e w' => Kept K w w' /\ Makes K p M ⟨kd, S.toList, D.toList, l⟩ e w' := by
 obtain ⟨ga, cap, hY⟩ := hX
 have kb : ∀ o : Obj, Kept (fun k => k < w.heap.size) w (w.alloc o) := fun o => (Kept.refl _ w).alloc (fun _ h => h) _
 have rs := fun o : Obj => zlk kd S D l aa n ac r hln (w.alloc o) (ha.kept (kb o) fun k h => ltl h (kb o).size) hn hsz
 obtain ⟨q, hq⟩ : ∃ q, zat ⟨kd, S.toList, D.toList, l⟩ = q := ⟨_, rfl⟩
 rw [hq] at rs
 cases q with
 | true =>
  refine (zqd K p kd S D l aa n ac r w M ga cap hY hMn hML hln hn ha (rs _)).mono ?_
  rintro e w' ⟨hK, h⟩
  refine ⟨hK, ?_⟩
  by_cases ht : kd = 1 /\ S.toList = [116, 101, 109, 112, 108, 97, 116, 101]
  ·rw [if_pos (by rw [ht.2, decide_eq_true ht.1]; rfl)] at h
   rcases h with ⟨h1, h2, h3⟩ | ⟨h1, h2, h3⟩
   ·exact .two hq ht h1 h2 h3
   ·exact .full hq (by rw [if_pos ht]; omega) h2 h3
  ·have hf : (decide (kd = 1) && S.toList == [116, 101, 109, 112, 108, 97, 116, 101]) = false := by
    rw [Bool.and_eq_false_iff]
    by_cases c : kd = 1
    ·right
     have : S.toList ≠ [116, 101, 109, 112, 108, 97, 116, 101] := fun e => ht ⟨c, e⟩
     simpa using this
    ·left; exact decide_eq_false c
   rw [hf, if_neg (by decide)] at h
   rcases h with ⟨h1, h2, h3⟩ | ⟨h1, h2, h3⟩
   ·exact .one hq ht h1 h2 h3
   ·exact .full hq (by rw [if_neg ht]; omega) h2 h3
 | false =>
  have HY : Hid (DY K w p M ga cap) := hY
  have HQ : Hid (zat ⟨kd, S.toList, D.toList, l⟩ = false) := hq
  have rs1 := rs (.cells #[.int .u8 (kd : Int), .string S, .string D, .slice aa n ac, .int .i64 r.up, .slice r.ka r.kn r.kc, .int .i64 r.shadow, .int .i64 r.host, .int .i64 r.content, .bool r.fl.a, .bool r.fl.b, .bool r.fl.c, .bool r.fl.d, .bool r.fl.e] 58)
  have HK : Hid (∀ o : Obj, Kept (fun k => k < w.heap.size) w (w.alloc o)) := kb
  clear hY hq rs kb ha hsz
  go_enter Tryz.func68, Tryz.ntmps68
  go_wp2_with fail
  refine rs1.mono ?_
  rintro e w1 ⟨rfl, k1⟩
  have HK1 : Hid (Kept (fun k => k < w.heap.size) w w1) := (HK.out _).trans (k1.mono fun k h => ltl h (HK.out _).size)
  clear rs1 k1
  go_wp2
  go_ret2
  exact ⟨HK1.out.mono HY.out.1, .arg HQ.out rfl ⟨_, _, HY.out.kept HK1.out⟩⟩
def Dm.new (limit : Nat) : Dm := ({ limit := limit, n := 0, nd := fun _ => za4, pl := fun _ => Lk.nil, gf := fun _ => Lk.nil } : Dm).add za4
theorem zmr (limit : Nat) (w : World) (h1 : 1 <= limit) (h2 : limit <= 5000) : Calls Tryz.prog 27 #[.int .i64 (limit : Int)] w fun e w' => ∃ p, e = .returned (.pointer (some ⟨p, 0, none⟩)) /\ w.heap.size <= p /\ DX (fun k => k < w.heap.size) w' p (Dm.new limit) /\ Kept (fun k => k < w.heap.size) w w' := by
 obtain ⟨W, hW⟩ : ∃ W, w.alloc (.cells #[.int .i64 (limit : Int), .slice none 0 0] 88) = W := ⟨_, rfl⟩
 obtain ⟨N, hN⟩ : ∃ N, w.heap.size = N := ⟨_, rfl⟩
 have kW : Kept (fun k => k < w.heap.size) w W := by rw [<- hW]; exact (Kept.refl _ w).alloc (fun _ h => h) _
 have hY : DY (fun k => k < w.heap.size) W N { limit := limit, n := 0, nd := fun _ => za4, pl := fun _ => Lk.nil, gf := fun _ => Lk.nil } none 0 := by
  refine ⟨fun k hk => ltl hk kW.size, by rw [<- hN]; exact Nat.lt_irrefl _, by rw [<- hW, <- hN]; exact heap_alloc_new w _, [], fun _ => none, fun _ => 0, Zac.nil _ _ _ _, fun i hi => absurd hi (Nat.not_lt_zero _), fun i hi => absurd hi (Nat.not_lt_zero _), fun i j hi => absurd hi (Nat.not_lt_zero _)⟩
 have r := zgu (fun k => k < w.heap.size) N _ none 0 W W hY (Kept.refl _ _) (Nat.zero_le _) za4 lk0 lk0 none 0 (Zac.nil _ _ _ _)
 have HR : Hid (Calls Tryz.prog 90 #[.pointer (some ⟨N, 0, none⟩), .agg (zcl 4 ⟨#[]⟩ ⟨#[]⟩ none 0 0)] W fun e w' => e = .returned (.int .i64 0) /\ DX (fun k => k < w.heap.size) w' N (Dm.new limit) /\ Kept (fun k => k < w.heap.size) W w') := r
 have HW : Hid (w.alloc (.cells #[.int .i64 (limit : Int), .slice none 0 0] 88) = W) := hW
 have HN : Hid (w.heap.size = N) := hN
 have HK : Hid (Kept (fun k => k < w.heap.size) w W) := kW
 have e1 : decide ((limit : Int) < 1) = false := decide_eq_false (by omega)
 have e2 : decide ((limit : Int) > 5000) = false := decide_eq_false (by omega)
 clear r hW hN kW hY
 go_enter Tryz.func27, Tryz.ntmps27
 go_wp2_with fail
 rw [HW.out, HN.out]
 refine HR.out.mono ?_
 rintro e w1 ⟨rfl, hX, hK1⟩
 have HX : Hid (DX (fun k => k < w.heap.size) w1 N (Dm.new limit)) := hX
 have HK1 : Hid (Kept (fun k => k < w.heap.size) w w1) := HK.out.trans hK1
 clear hX hK1 HR
 go_wp2
 go_ret
 exact ⟨N, rfl, by rw [HN.out]; exact Nat.le_refl _, HX.out, HK1.out⟩
end
end Go.Proofs.YtfeinppedejlpaaGreat
