/-
 Doc.Set.; slices.Delete of one attribute.
-/
import Derived.Test.YtfeinppedejlpaaGreatNB15
import Derived.Lib.SliceRun
namespace Go.Proofs.YtfeinppedejlpaaGreat
set_option linter.unusedVariables false
set_option maxRecDepth 100000
set_option maxHeartbeats 8000000
section
open Go.RowKit
theorem DY.setAttrs {K : Nat -> Prop} {w0 w : World} {p : Nat} {S : Dm} {g : Nat} {cap : Nat} (h : DY K w0 p S (some ⟨g, 0, none⟩) cap) (hk : Kept (fun k => k < w0.heap.size) w0 w) {i : Nat} (hi : i < S.n) {l : List Atr} {ao : Option Addr} {n c : Nat} (hln : l.length = n) (hO : Zac (fun k => k < w0.heap.size) w 108 2 ao n c (zab l)) :
  DY K (w.setCell ⟨g, i * 22 + 3, none⟩ (.slice ao n c)) p (S.setN i { S.nd i with attrs := l }) (some ⟨g, 0, none⟩) cap /\ Kept K w0 (w.setCell ⟨g, i * 22 + 3, none⟩ (.slice ao n c)) := by
 subst hln
 obtain ⟨gk, gp, gl⟩ := h.gk
 have kG : Kept (fun k => k ≠ g) w (w.setCell ⟨g, i * 22 + 3, none⟩ (.slice ao l.length c)) := (Kept.refl _ w).setCell (p := ⟨g, i * 22 + 3, none⟩) (fun h => h rfl) _
 obtain ⟨h1, h2, h3, xs, aa, ac, ho, hx, ha, hs⟩ := h
 have hp := zad h3
 have kO : Kept (fun k => k < w0.heap.size /\ k ≠ g) w0 (w.setCell ⟨g, i * 22 + 3, none⟩ (.slice ao l.length c)) := (hk.mono fun k h => h.1).trans (kG.mono fun k h => h.2)
 refine ⟨⟨fun k hk' => ltl (h1 k hk') kO.size, h2, by rw [kO.block p ⟨hp, fun e => gp e.symm⟩]; exact h3, xs.set (i * 22 + 3) (.slice ao l.length c), fun j => if j = i then ao else aa j, fun j => if j = i then c else ac j, ?_, ?_, ?_, ?_⟩, kO.mono fun k hk' => ⟨h1 k hk', fun e => gk (e ▸ hk')⟩⟩
 ·obtain ⟨o1, o2, o3, o4⟩ := ho
  refine ⟨by rw [List.length_set]; exact o1, o2, o3, ?_⟩
  rcases o4 with ⟨r1, _⟩ | ⟨g', cur, r1, r2, r3, r4, r5⟩
  ·cases r1
  ·injection r1 with r1
   injection r1 with r1
   subst r1
   have r3' : w.heap[g]? = some (.cells cur 114 (0, 0)) := (hk.block g gl).trans r3
   refine .inr ⟨g, _, rfl, r2, zai r3' _ _, by simp [r4], ?_⟩
   rw [Array.toList_setIfInBounds, <- r5, List.take_set]
   rfl
 ·intro j hj f u hu
  have hj' : j < S.n := hj
  have hf : f < 22 := by
   rcases Nat.lt_or_ge f 22 with hh | hh
   ·exact hh
   ·rw [List.getElem?_eq_none (by rw [Dm.cells_len]; exact hh)] at hu; cases hu
  by_cases cj : j = i
  ·subst cj
   have e : (S.setN j { S.nd j with attrs := l }).cells j (if j = j then ao else aa j) (if j = j then c else ac j) = (S.cells j (aa j) (ac j)).set 3 (.slice ao l.length c) := by
    simp only [Dm.cells, Dm.setN, if_pos]
    rfl
   rw [e] at hu
   by_cases c2 : f = 3
   ·subst c2
    have hl : j * 22 + 3 < xs.length := by rw [ho.1]; have := Nat.mul_le_mul_right 22 hi; omega
    rw [List.getElem?_set_self (by rw [Dm.cells_len]; exact hf)] at hu
    rw [List.getElem?_set_self hl]
    exact hu
   ·rw [List.getElem?_set_ne (by omega)] at hu
    rw [List.getElem?_set_ne (by omega)]
    exact hx j hj' f u hu
  ·have e : (S.setN i { S.nd i with attrs := l }).cells j (if j = i then ao else aa j) (if j = i then c else ac j) = S.cells j (aa j) (ac j) := by
    simp only [Dm.cells, Dm.setN, if_neg cj]
   rw [e] at hu
   rw [List.getElem?_set_ne (by omega)]
   exact hx j hj' f u hu
 ·intro j hj
  have hj' : j < S.n := hj
  by_cases cj : j = i
  ·subst cj
   have e : ((S.setN j { S.nd j with attrs := l }).nd j).attrs = l := by simp only [Dm.setN, if_pos]
   rw [e]
   dsimp only
   rw [if_pos rfl, if_pos rfl]
   refine Zac.to hO (fun x hx hh => (Zac.out hO hx).1 ?_) (fun x hx => kG.block x fun e => (Zac.out hO hx).1 (e ▸ gl))
   rcases hh with hh | hh | hh
   ·exact h1 x hh
   ·rw [hh]; exact hp
   ·have : x = g := by have hh' : some (⟨g, 0, none⟩ : Addr) = some ⟨x, 0, none⟩ := hh; injection hh' with hh'; injection hh' with hh'; exact hh'.symm
    rw [this]; exact gl
  ·have e : ((S.setN i { S.nd i with attrs := l }).nd j).attrs = (S.nd j).attrs := by simp only [Dm.setN, if_neg cj]
   rw [e]
   dsimp only
   rw [if_neg cj, if_neg cj]
   exact Zac.to (ha j hj') (fun x hx => ((ha j hj').out hx).1) (fun x hx => kO.block x ⟨((ha j hj').out hx).2, fun e => ((ha j hj').out hx).1 (.inr (.inr (e ▸ rfl)))⟩)
 ·intro j k hj hk' hne x hx1 hx2
  have hj' : j < S.n := hj
  have hk2 : k < S.n := hk'
  dsimp only at hx1 hx2
  by_cases cj : j = i
  ·have ck : ¬ k = i := fun e => hne (cj.trans e.symm)
   rw [if_pos cj] at hx1
   rw [if_neg ck] at hx2
   exact (Zac.out hO hx1).1 ((ha k hk2).out hx2).2
  ·rw [if_neg cj] at hx1
   by_cases ck : k = i
   ·rw [if_pos ck] at hx2
    exact (Zac.out hO hx2).1 ((ha j hj').out hx1).2
   ·rw [if_neg ck] at hx2
    exact hs j k hj' hk2 hne x hx1 hx2
theorem zja : ∀ (l : List Atr) (a x : Atr), x ∈ setA l a -> x ∈ l \/ x = a
 | [], a, x, h => by
  rw [show setA [] a = [a] from rfl, List.mem_singleton] at h
  exact .inr h
 | y :: r, a, x, h => by
  rw [show setA (y :: r) a = if y.name = a.name then a :: r else y :: setA r a from rfl] at h
  by_cases c : y.name = a.name
  ·rw [if_pos c] at h
   rcases List.mem_cons.1 h with h | h
   ·exact .inr h
   ·exact .inl (List.mem_cons_of_mem _ h)
  ·rw [if_neg c] at h
   rcases List.mem_cons.1 h with h | h
   ·exact .inl (h ▸ List.mem_cons_self ..)
   ·rcases zja r a x h with h | h
    ·exact .inl (List.mem_cons_of_mem _ h)
    ·exact .inr h
theorem zi8 : ∀ (l : List Atr) (a : Atr), (setA l a).length <= l.length + 1
 | [], a => by rw [show setA [] a = [a] from rfl]; simp
 | y :: r, a => by
  rw [show setA (y :: r) a = if y.name = a.name then a :: r else y :: setA r a from rfl]
  have := zi8 r a
  by_cases c : y.name = a.name
  ·rw [if_pos c]; simp
  ·rw [if_neg c]; simp; omega
theorem zre (K : Nat -> Prop) (p i : Nat) (M : Dm) (S T : ByteArray) (w : World) (h : DX K w p M) (hi : i < M.n) (hMn : M.n <= 1000000) (hkd : (M.nd i).kind = 1) (hfew : (M.nd i).attrs.length <= 100000) (hsz : ∀ x ∈ (M.nd i).attrs, x.name.length <= 1000000000 /\ x.value.length <= 1000000000) (hS : S.size <= 1000000000) (hT : T.size <= 1000000000) :
  Calls Tryz.prog 62 #[.pointer (some ⟨p, 0, none⟩), .int .i64 (i : Int), .string S, .string T] w fun e w' =>
   ((za7 [⟨0, 1, (M.nd i).name, setA (M.nd i).attrs ⟨S.toList, T.toList⟩, []⟩] = true /\ e = .returned (.int .u16 0) /\ DX K w' p (M.setN i { M.nd i with attrs := setA (M.nd i).attrs ⟨S.toList, T.toList⟩ })) \/
    (za7 [⟨0, 1, (M.nd i).name, setA (M.nd i).attrs ⟨S.toList, T.toList⟩, []⟩] = false /\ e = .returned (.int .u16 82) /\ DX K w' p M)) /\ Kept K w w' := by
 obtain ⟨ga, gc, hY⟩ := h
 obtain ⟨g, rfl, -, -, -⟩ := hY.at (by omega)
 obtain ⟨aa, ac, hc, hO⟩ := hY.cell hi
 have c0 : w.cell? ⟨g, i * 22, none⟩ = some (.int .u8 1) := by have := hc 0 _ rfl; rw [hkd] at this; exact this
 have c1 : w.cell? ⟨g, i * 22 + 1, none⟩ = some (.string ⟨(M.nd i).name.toArray⟩) := hc 1 _ rfl
 have c3 : w.cell? ⟨g, i * 22 + 3, none⟩ = some (.slice aa (M.nd i).attrs.length ac) := hc 3 _ rfl
 have re := zdt p g M.n gc i 81 w hY.c1 hi (by omega) c0
 have gl := hY.gk.2.2
 have rw' := zlc (M.nd i).attrs _ rfl (by omega) aa ac S T w (hO.atsAt (K' := fun k => k < w.heap.size) fun x hx => (Zac.out hO hx).2)
 obtain ⟨nm, hnm⟩ : ∃ nm, (M.nd i).name = nm := ⟨_, rfl⟩
 obtain ⟨l0, hl0⟩ : ∃ l0, (M.nd i).attrs = l0 := ⟨_, rfl⟩
 obtain ⟨l, hl⟩ : ∃ l, setA (M.nd i).attrs ⟨S.toList, T.toList⟩ = l := ⟨_, rfl⟩
 have hll : l.length <= 100001 := by rw [<- hl]; have := zi8 (M.nd i).attrs ⟨S.toList, T.toList⟩; omega
 have hlz : ∀ x ∈ l, x.name.length <= 1000000000 /\ x.value.length <= 1000000000 := fun x hx => by
  rw [<- hl] at hx
  rcases zja _ _ _ hx with h | h
  ·exact hsz x h
  ·rw [h]
   have e1 : S.toList.length = S.size := by rw [ByteArray.toList_eq]; rfl
   have e2 : T.toList.length = T.size := by rw [ByteArray.toList_eq]; rfl
   exact ⟨by show S.toList.length <= _; omega, by show T.toList.length <= _; omega⟩
 rw [hl] at rw' ⊢
 rw [hl0] at rw' c3
 rw [hnm] at c1 ⊢
 obtain ⟨n0, hn0⟩ : ∃ n0, l0.length = n0 := ⟨_, rfl⟩
 rw [hn0] at rw' c3
 obtain ⟨n, hn⟩ : ∃ n, l.length = n := ⟨_, rfl⟩
 rw [hn] at rw'
 have HY : Hid (DY K w p M (some ⟨g, 0, none⟩) gc) := hY
 have HLZ : Hid (∀ x ∈ l, x.name.length <= 1000000000 /\ x.value.length <= 1000000000) := hlz
 have HN : Hid (l.length = n) := hn
 have HLL : Hid (l.length <= 100001) := hll
 have hfg := hY.fg (i * 22 + 3)
 clear hY hc hO hlz hn hll hfew hsz hS hT hkd hn0 hl hl0 hnm c0
 go_enter Tryz.func62, Tryz.ntmps62
 go_upto_region 4 with (go_at_call 135; refine re.mono ?_; rintro e w2 ⟨rfl, hw2⟩; replace hw2 := hw2.symm; subst hw2)
 clear re
 go_wp2_with fail
 refine rw'.mono ?_
 rintro e w1 ⟨ao, c, rfl, hO, hK⟩
 have hc1 : w1.cell? ⟨g, i * 22 + 1, none⟩ = some (.string ⟨nm.toArray⟩) := (hK.cell (p := ⟨g, i * 22 + 1, none⟩) gl).trans c1
 obtain ⟨N, hN⟩ : ∃ N, w1.heap.size = N := ⟨_, rfl⟩
 have ri := iz1 w1 N hN 1 1 rfl ⟨nm.toArray⟩ ⟨#[]⟩ l ao n c HN.out (hO.atsAt (K' := fun k => k < w1.heap.size) fun x hx => (Zac.out hO hx).2) (by have := HLL.out; have := HN.out; omega) HLZ.out
 rw [ByteArray.toList_eq, ByteArray.toList_eq] at ri
 obtain ⟨q, hq⟩ : ∃ q, za7 [⟨0, 1, nm, l, []⟩] = q := ⟨_, rfl⟩
 have HRI : Hid (Calls Tryz.prog 137 #[.slice (some ⟨N, 0, none⟩) 1 1] (w1.alloc (.cells #[.int .i64 0, .int .u8 1, .string ⟨nm.toArray⟩, .string ⟨#[]⟩, .slice ao n c] 163)) fun e w' => e = .returned (.bool q) /\ Kept (fun k => k < w1.heap.size) w1 w') := by rw [<- hq]; exact ri
 have HO : Hid (Zac (fun k => k < w.heap.size) w1 108 2 ao n c (zab l)) := hO
 have HK : Hid (Kept (fun k => k < w.heap.size) w w1) := hK
 have HQ : Hid (za7 [⟨0, 1, nm, l, []⟩] = q) := hq
 have HNe : Hid (w1.heap.size = N) := hN
 clear rw' hO hK hN ri hq c1
 go_wp2_with fail
 rw [HNe.out]
 refine HRI.out.mono ?_
 rintro e w2 ⟨rfl, hk2⟩
 have hK2 : Kept (fun k => k < w.heap.size) w w2 := kt HK.out hk2
 have hO2 : Zac (fun k => k < w.heap.size) w2 108 2 ao n c (zab l) := Zac.to HO.out (fun x hx => (Zac.out HO.out hx).1) (fun x hx => hk2.block x (Zac.out HO.out hx).2)
 have hc3 : w2.cell? ⟨g, i * 22 + 3, none⟩ = some (.slice aa n0 ac) := (hK2.cell (p := ⟨g, i * 22 + 3, none⟩) gl).trans c3
 have hf3 : w2.frozen? ⟨g, i * 22 + 3, none⟩ = false := (hK2.frozen (p := ⟨g, i * 22 + 3, none⟩) gl).trans hfg
 cases q with
 | true =>
  obtain ⟨hY4, hK4⟩ := HY.out.setAttrs hK2 hi HN.out hO2
  have HY4 : Hid (DX K (w2.setCell ⟨g, i * 22 + 3, none⟩ (.slice ao n c)) p (M.setN i { M.nd i with attrs := l })) := ⟨_, _, hY4⟩
  have HK4 : Hid (Kept K w (w2.setCell ⟨g, i * 22 + 3, none⟩ (.slice ao n c))) := hK4
  clear HRI hk2 hK2 hO2 hY4 hK4 hc1 c3 hfg
  go_wp2
  go_ret
  exact ⟨.inl ⟨HQ.out, rfl, HY4.out⟩, HK4.out⟩
 | false =>
  have HX2 : Hid (DX K w2 p M) := ⟨_, _, HY.out.kept hK2⟩
  have HK2 : Hid (Kept K w w2) := hK2.mono HY.out.1
  clear HRI hk2 hK2 hO2 hc1 c3 hfg hc3 hf3
  go_wp2
  go_ret
  exact ⟨.inr ⟨HQ.out, rfl, HX2.out⟩, HK2.out⟩
end
section
open Go.RowKit
theorem Kept.setCells {K : Nat -> Prop} {a w : World} (h : Kept K a w) {g : Nat} (hg : ¬ K g) (hK : ∀ k, K k -> k < w.heap.size) (o : Nat) (vs : List Value) : Kept K a (w.setCells g o vs) := by
 have k1 : ∀ (vs : List Value) (o : Nat) (v : World), (v.setCells g o vs).tape = v.tape := by
  intro vs
  induction vs with
  | nil => intro o v; rfl
  | cons a r ih => intro o v; rw [World.setCells, ih]; rfl
 have k2 : ∀ (vs : List Value) (o : Nat) (v : World), (v.setCells g o vs).heap.size = v.heap.size := by
  intro vs
  induction vs with
  | nil => intro o v; rfl
  | cons a r ih => intro o v; rw [World.setCells, ih]; simp
 exact ⟨(World.os_setCells w g _ vs).trans h.os, (k1 vs o w).trans h.tape, (World.output_setCells w g _ vs).trans h.output, by rw [k2]; exact h.size, fun k hk => (World.heap_setCells_other w g _ vs (hK k hk) (fun e => hg (e ▸ hk))).trans (h.block k hk)⟩
abbrev emp : Value := .string ⟨#[]⟩
theorem zo5 (l : List Atr) (k : Nat) : (zab l).take (k * 2) = zab (l.take k) := by
 induction l generalizing k with
 | nil => simp [zab]
 | cons x r ih =>
  cases k with
  | zero => simp [zab]
  | succ k =>
   rw [show (k + 1) * 2 = k * 2 + 1 + 1 by omega]
   show sv x.name :: sv x.value :: (zab r).take (k * 2) = sv x.name :: sv x.value :: zab (r.take k)
   rw [ih]
theorem zqj {K : Nat -> Prop} {X : World} {g n cap : Nat} {l : List Atr} (h : Zac K X 108 2 (some ⟨g, 0, none⟩) (n + 1) cap (zab l)) (hl : l.length = n + 1) (k : Nat) (hk : k < n + 1) :
  (∃ c1, (X.setCells g (k * 2) (zab (l.drop (k + 1)))).heap[g]? = some (.cells c1 108 (0, 0)) /\ n * 2 + 2 <= c1.size) /\
  Zac K ((X.setCells g (k * 2) (zab (l.drop (k + 1)))).setCells g (n * 2) [emp, emp]) 108 2 (some ⟨g, 0, none⟩) n cap (zab (l.eraseIdx k)) := by
 obtain ⟨h1, h2, h3, h4⟩ := h
 rcases h4 with ⟨r1, _⟩ | ⟨g', cur, r1, r2, r3, r4, r5⟩
 ·cases r1
 injection r1 with r1
 injection r1 with r1
 subst r1
 have hnl : (zab (l.drop (k + 1))).length = (n - k) * 2 := by rw [zb7, List.length_drop, hl]; omega
 obtain ⟨c1, q1, q2⟩ := za9 (b := g) (e := 108) (f := (0, 0)) (zab (l.drop (k + 1))) (k * 2) X cur r3 (by rw [hnl, r4]; omega)
 have e1 : cur.toList.take (k * 2) = zab (l.take k) := by
  rw [<- zo5, <- r5, List.take_take, Nat.min_eq_left (by omega)]
 have s1 : c1.size = cur.size := by
  have := congrArg List.length q2
  rw [List.length_append, List.length_append, List.length_drop, List.length_take, hnl] at this
  simp only [Array.length_toList] at this
  omega
 obtain ⟨c2, p1, p2⟩ := za9 (b := g) (e := 108) (f := (0, 0)) [emp, emp] (n * 2) _ c1 q1 (by rw [s1, r4]; show n * 2 + 2 <= _; omega)
 have e2 : zab (l.eraseIdx k) = zab (l.take k) ++ zab (l.drop (k + 1)) := by rw [List.eraseIdx_eq_take_drop_succ, zbr]
 have hel : (l.eraseIdx k).length = n := by rw [List.length_eraseIdx, if_pos (by omega), hl]; rfl
 have hlen : (zab (l.take k) ++ zab (l.drop (k + 1))).length = n * 2 := by rw [<- e2, zb7, hel]
 refine ⟨⟨c1, q1, by rw [s1, r4]; omega⟩, by rw [zb7, hel], by omega, h3, .inr ⟨g, c2, rfl, r2, p1, ?_, ?_⟩⟩
 ·have := congrArg List.length p2
  rw [List.length_append, List.length_append, List.length_drop, List.length_take] at this
  simp only [Array.length_toList, List.length_cons, List.length_nil] at this
  omega
 ·have t1 : c1.toList.take (n * 2) = zab (l.take k) ++ zab (l.drop (k + 1)) := by
   rw [q2, e1, <- hlen]
   exact List.take_left
  rw [p2, t1, e2, List.append_assoc, <- hlen]
  exact List.take_left
theorem zkz (w : World) (g o c ty : Nat) (hc : ∀ j, j < 2 -> (w.cell? ⟨g, o + j, none⟩).isSome = true) (hf : ∀ j, j < 2 -> w.frozen? ⟨g, o + j, none⟩ = false) :
  (Builtin.clear_ #[44] ty #[.slice (some ⟨g, o, none⟩) 1 c]).run Tryz.prog w = .ok (.tuple #[]) (w.setCells g o [emp, emp]) := by
 have hst := run_storeCells_cells (P := Tryz.prog) g o [emp, emp] 0 w (by simpa using hc) (by simpa using hf) (by intro v hv; rcases List.mem_cons.1 hv with rfl | hv; rfl; rw [List.mem_singleton.1 hv]; rfl)
 simp only [Nat.add_zero] at hst
 have hzc : (Builtin.zeroCells (Value.agg #[emp, emp]).cells 1).toList = [emp, emp] := by kernel_rfl
 simp [Builtin.clear_, run_underlying Tryz.underlying44, hzc, hst]
section
variable {P : Program}
theorem zgk {w w' : World} {ops : Array Oper} {rest : List Oper} {o : Oper} {a : Act} {Q : Exit -> Act -> World -> Prop} (hgd : o.guard = none) (s : Operand) (t : TypeId)
  (ho : o.op = .call { callee := .builtin .clear, args := #[s], argTypes := #[t] }) (vs : Value) (hs : a.eval s = vs)
  (hr : (Builtin.clear_ #[t] o.type #[vs]).run P w = .ok (.tuple #[]) w') (h : wpList P ops Q rest (a.put o.dst (.tuple #[])) w') : wpList P ops Q (o :: rest) a w := by
 refine wpList_plain hgd fun _ hK' => ?_
 unfold Oper.wp execOp
 simp only [ho, resolve, invoke, builtin, Sem.run_bind, Sem.run_pure, Result.andThen_ok, List.map_toArray, List.map_cons, List.map_nil, hs, hr]
 exact hK' _ _ h
end
theorem zke (K : Nat -> Prop) (l : List Atr) (g n cap k : Nat) (hl : l.length = n + 1) (hk : k < n + 1) (hn : n <= 1000000) (w : World) (hO : Zac K w 108 2 (some ⟨g, 0, none⟩) (n + 1) cap (zab l)) :
  Calls Tryz.prog 178 #[.slice (some ⟨g, 0, none⟩) ((n + 1 : Nat)) cap, .int .i64 (k : Int), .int .i64 ((k : Int) + 1)] w fun e w' => e = .returned (.slice (some ⟨g, 0, none⟩) n cap) /\ Zac K w' 108 2 (some ⟨g, 0, none⟩) n cap (zab (l.eraseIdx k)) /\ Kept (fun j => j < w.heap.size /\ j ≠ g) w w' := by
 have hcap : n + 1 <= cap := hO.2.1
 have hkk : ((k : Int) == (k : Int) + 1) = false := by
  have : ¬ (k : Int) = (k : Int) + 1 := by omega
  simpa using this
 go_enter Tryz.func178, Tryz.ntmps178
 go_upto_region 5 with fail
 obtain ⟨W1, hW1⟩ : ∃ W1, w.drew.setCells g (k * 2) (zab (l.drop (k + 1))) = W1 := ⟨_, rfl⟩
 have HRUN : Hid (∀ o, (k < n -> o = (k + 1) * 2) -> (Builtin.append_ #[44, 44] 44 #[.slice (some ⟨g, 0, none⟩) k cap, .slice (some ⟨g, o, none⟩) (n - k) (cap - (k + 1))]).run Tryz.prog w.drew = .ok (.slice (some ⟨g, 0, none⟩) n cap) W1) := fun o ho => by
  obtain ⟨i, hi, hip⟩ := Option.map_eq_some_iff.1 znq
  have hsz : i.size = 2 := congrArg (·.2.1) hip
  have hOd : Zac K w.drew 108 2 (some ⟨g, 0, none⟩) (n + 1) cap (zab l) := hO
  by_cases c : k < n
  ·have eo := ho c
   subst eo
   have hs : Src Tryz.prog i.size 44 (.slice (some ⟨g, (k + 1) * 2, none⟩) (n - k) (cap - (k + 1))) (n - k) (zab (l.drop (k + 1))) w.drew := by
    rw [hsz]
    refine Src.ofSlice w.drew Tryz.underlying44 _ (n - k) _ _ (by rw [zb7, List.length_drop, hl]; omega) (fun j u hj => ?_) (zgp _)
    rw [Addr.add_lit]
    have hd : (zab l)[(k + 1) * 2 + j]? = some u := by
     have e : zab l = zab (l.take (k + 1)) ++ zab (l.drop (k + 1)) := by rw [<- zbr, List.take_append_drop]
     rw [e, List.getElem?_append_right (by rw [zb7, List.length_take]; omega), zb7, List.length_take, Nat.min_eq_left (by omega), Nat.add_sub_cancel_left]
     exact hj
    obtain ⟨g', e', hc'⟩ := hOd.cell hd
    have : g' = g := by injection e' with e'; injection e' with e'; exact e'.symm
    subst this
    exact hc'
   rcases hOd.2.2.2 with ⟨r1, _⟩ | ⟨g', cur, r1, r2, r3, r4, r5⟩
   ·cases r1
   injection r1 with r1
   injection r1 with r1
   subst r1
   have hr := run_append_room_src (P := Tryz.prog) w.drew 44 44 44 108 i Tryz.underlying44 hi g 0 k cap _ (n - k) _ hs (by omega)
    (fun j hj => by rw [zaa r3]; rw [zb7, List.length_drop, hl] at hj; rw [Array.getElem?_eq_getElem (by rw [hsz, r4]; omega)]; rfl)
    (fun j hj => zao r3 _)
   rw [Nat.zero_add, hsz, show k + (n - k) = n by omega, hW1] at hr
   exact hr
  ·have e : k = n := by omega
   subst e
   have hd : l.drop (k + 1) = [] := List.drop_of_length_le (by omega)
   have hw : w.drew = W1 := by rw [<- hW1, hd]; rfl
   rw [<- hw, Nat.sub_self]
   exact run_append_nothing w.drew 44 44 44 108 i Tryz.underlying44 hi _ k cap (by omega) _ (Src.ofSlice w.drew Tryz.underlying44 _ 0 _ [] (by simp) (fun j u hj => by simp at hj) (fun u hu => by cases hu))
 have hOd : Zac K w.drew 108 2 (some ⟨g, 0, none⟩) (n + 1) cap (zab l) := hO
 obtain ⟨⟨c1, q1, q2⟩, hO2⟩ := zqj hOd hl k hk
 rw [hW1] at q1 hO2
 have hclr : ∀ c ty, (Builtin.clear_ #[44] ty #[.slice (some ⟨g, n * 2, none⟩) 1 c]).run Tryz.prog W1 = .ok (.tuple #[]) (W1.setCells g (n * 2) [emp, emp]) := fun c ty => zkz W1 g (n * 2) c ty (fun j hj => by rw [zaa q1, Array.getElem?_eq_getElem (by omega)]; rfl) (fun j hj => zao q1 _)
 have hK2 : Kept (fun j => j < w.heap.size /\ j ≠ g) w (W1.setCells g (n * 2) [emp, emp]) := by
  have k1 : Kept (fun j => j < w.heap.size /\ j ≠ g) w W1 := by
   rw [<- hW1]
   exact (Kept.refl _ w).drew.setCells (fun h => h.2 rfl) (fun k h => h.1) _ _
  exact k1.setCells (fun h => h.2 rfl) (fun k h => ltl h.1 k1.size) _ _
 have HO2 : Hid (Zac K (W1.setCells g (n * 2) [emp, emp]) 108 2 (some ⟨g, 0, none⟩) n cap (zab (l.eraseIdx k))) := hO2
 have HK2 : Hid (Kept (fun j => j < w.heap.size /\ j ≠ g) w (W1.setCells g (n * 2) [emp, emp])) := hK2
 clear hOd q1 q2 hO2 hW1 hK2 hO
 have hkc : k <= cap := by omega
 have hkn : k <= n := by omega
 have h0k : (0 : Int) <= (k : Int) + 1 := by omega
 by_cases hcc : cap = k + 1
 ·have ekn : n = k := by omega
  subst hcc
  subst ekn
  have hrun := HRUN.out 0 (fun h => by omega)
  rw [Nat.sub_self, Nat.sub_self] at hrun
  have hle : (n : Int) <= (n : Int) + 1 := by omega
  clear HRUN
  go_region_law (refine zbf (w' := W1) rfl (.tmp 22) (.tmp 25) 44 44 rfl _ _ (.slice (some ⟨g, 0, none⟩) n (n + 1)) rfl rfl hrun ?_)
  all_goals
   go_upto_region 6 with fail
  all_goals
   go_wp2_with (at_builtin; refine zgk (w' := W1.setCells g (n * 2) [emp, emp]) rfl (.tmp 31) 44 rfl _ rfl (hclr _ _) ?_)
   go_ret
   exact ⟨rfl, HO2.out, HK2.out⟩
 ·have hrun := HRUN.out ((k + 1) * 2) (fun _ => rfl)
  clear HRUN
  go_region_law (refine zbf (w' := W1) rfl (.tmp 22) (.tmp 25) 44 44 rfl _ _ (.slice (some ⟨g, 0, none⟩) n cap) rfl rfl hrun ?_)
  all_goals
   go_upto_region 6 with fail
  all_goals
   go_wp2_with (at_builtin; refine zgk (w' := W1.setCells g (n * 2) [emp, emp]) rfl (.tmp 31) 44 rfl _ rfl (hclr _ _) ?_)
   go_ret
   exact ⟨rfl, HO2.out, HK2.out⟩
end
end Go.Proofs.YtfeinppedejlpaaGreat
