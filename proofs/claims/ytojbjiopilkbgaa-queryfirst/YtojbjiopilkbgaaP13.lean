/-
 withAttribute.; Doc.Set.; slices.Delete of one attribute.; Node of no node; order.Root; shadow.Of, Open, isClosed.
-/
import Derived.Test.YtojbjiopilkbgaaP10
import Derived.Lib.SliceRun
namespace Go.Proofs.Ytojbjiopilkbgaa
set_option linter.unusedVariables false
set_option maxRecDepth 100000
set_option maxHeartbeats 8000000
section
open Go.RowKit
def setA (l : List Atr) (a : Atr) : List Atr := match l with
 | [] => [a]
 | x :: r => if x.name = a.name then a :: r else x :: setA r a
theorem setA_at : ∀ (l : List Atr) (a : Atr) (k : Nat) (h : k < l.length), l[k].name = a.name -> (∀ x ∈ l.take k, x.name ≠ a.name) -> setA l a = l.set k a
 | x :: r, a, 0, h, he, hn => by
  show (if x.name = a.name then a :: r else x :: setA r a) = _
  rw [if_pos (show x.name = a.name from he)]; rfl
 | x :: r, a, k + 1, h, he, hn => by
  show (if x.name = a.name then a :: r else x :: setA r a) = _
  rw [if_neg (hn x (by simp)), setA_at r a k (by simpa using h) he (fun y hy => hn y (by simp [hy]))]
  rfl
theorem setA_no : ∀ (l : List Atr) (a : Atr), (∀ x ∈ l, x.name ≠ a.name) -> setA l a = l ++ [a]
 | [], a, _ => rfl
 | x :: r, a, hn => by
  show (if x.name = a.name then a :: r else x :: setA r a) = _
  rw [if_neg (hn x (by simp)), setA_no r a (fun y hy => hn y (by simp [hy]))]
  rfl
theorem atr_set : ∀ (l : List Atr) (k : Nat) (a : Atr), k < l.length -> atrCells (l.set k a) = ((atrCells l).set (k * 2) (sv a.name)).set (k * 2 + 1) (sv a.value)
 | x :: r, 0, a, _ => rfl
 | x :: r, k + 1, a, h => by
  have ih := atr_set r k a (by simpa using h)
  show [sv x.name, sv x.value] ++ atrCells (r.set k a) = _
  rw [ih]
  show _ = ((sv x.name :: sv x.value :: atrCells r).set ((k + 1) * 2) _).set ((k + 1) * 2 + 1) _
  rw [show (k + 1) * 2 = (k * 2) + 1 + 1 by omega, show k * 2 + 1 + 1 + 1 = (k * 2 + 1) + 1 + 1 by omega]
  rfl
theorem OwnZ.setA {K : Nat -> Prop} {w : World} {g n cap : Nat} {l : List Atr} (h : OwnZ K w 39 2 (some ⟨g, 0, none⟩) n cap (atrCells l)) (k : Nat) (a : Atr) (hk : k < l.length) :
  OwnZ K ((w.setCell ⟨g, k * 2, none⟩ (sv a.name)).setCell ⟨g, k * 2 + 1, none⟩ (sv a.value)) 39 2 (some ⟨g, 0, none⟩) n cap (atrCells (l.set k a)) := by
 obtain ⟨h1, h2, h3, h4⟩ := h
 rw [atr_set l k a hk]
 refine ⟨by rw [List.length_set, List.length_set]; exact h1, h2, h3, ?_⟩
 rcases h4 with ⟨r1, _⟩ | ⟨g', cur, r1, r2, r3, r4, r5⟩
 ·cases r1
 ·injection r1 with r1
  injection r1 with r1
  subst r1
  refine .inr ⟨g, _, rfl, r2, heap_setCell_at (heap_setCell_at r3 _ _) _ _, by simp [r4], ?_⟩
  rw [Array.toList_setIfInBounds, Array.toList_setIfInBounds, <- r5, List.take_set, List.take_set]
theorem appA {K : Nat -> Prop} {w : World} {ao : Option Addr} {n cap : Nat} {l : List Atr} (h : OwnZ K w 39 2 ao n cap (atrCells l)) (hKl : ∀ k, K k -> k < w.heap.size) (hn : n <= 1000000) (S T : ByteArray) :
  ∃ ao' cap' w', (Builtin.append_ #[29, 29] 29 #[.slice ao n cap, .slice (some ⟨w.heap.size, 0, none⟩) 1 1]).run Try.prog (w.alloc (.cells #[.string S, .string T] 39)) = .ok (.slice ao' (n + 1) cap') w' /\ OwnZ K w' 39 2 ao' (n + 1) cap' (atrCells (l ++ [⟨S.toList, T.toList⟩])) /\ Kept K w w' := by
 obtain ⟨i, hi, hip⟩ := Option.map_eq_some_iff.1 infoA
 have hz : i.zero = _ := congrArg (·.1) hip
 have hsz : i.size = 2 := congrArg (·.2.1) hip
 have hby : i.bytes = 32 := congrArg (·.2.2) hip
 obtain ⟨W, hW⟩ : ∃ W, w.alloc (.cells #[.string S, .string T] 39) = W := ⟨_, rfl⟩
 have kW : Kept (fun k => k < w.heap.size) w W := by rw [<- hW]; exact (Kept.refl _ w).alloc (fun _ h => h) _
 have hs : Src Try.prog 2 29 (.slice (some ⟨w.heap.size, 0, none⟩) 1 1) 1 [.string S, .string T] W := by
  rw [<- hW]
  refine src_newZ w w.heap.size [.string S, .string T] _ Try.underlying29 (by intro u hu; rcases List.mem_cons.1 hu with rfl | hu; rfl; rw [List.mem_singleton.1 hu]; rfl) rfl rfl
 have hO : OwnZ K W 39 2 ao n cap (atrCells l) := OwnZ.to h (fun g hg => (OwnZ.out h hg).1) (fun g hg => kW.block g (OwnZ.out h hg).2)
 obtain ⟨ao', cap', w', hr, ho, hk⟩ := run_appM (P := Try.prog) (K := K) W 29 29 29 39 i _ Try.underlying29 hi hz 2 hsz rfl (by omega) hO _ 1 (by omega) (by omega) _ hs (fun k hk => Nat.lt_of_lt_of_le (hKl k hk) kW.size) (by omega)
 refine ⟨ao', cap', w', by rw [hW]; exact hr, ?_, (kW.mono hKl).trans hk⟩
 rw [atrCells_append]
 have e : atrCells [⟨S.toList, T.toList⟩] = [.string S, .string T] := by
  have hS : (⟨S.toList.toArray⟩ : ByteArray) = S := by apply ByteArray.ext; rw [ByteArray.toList_eq]
  have hT : (⟨T.toList.toArray⟩ : ByteArray) = T := by apply ByteArray.ext; rw [ByteArray.toList_eq]
  show [sv S.toList, sv T.toList] = _
  unfold sv
  rw [hS, hT]
 rw [e]
 exact ho

end
section
open Go.RowKit
theorem DY.setAttrs {K : Nat -> Prop} {w0 w : World} {p : Nat} {S : Dm} {g : Nat} {cap : Nat} (h : DY K w0 p S (some ⟨g, 0, none⟩) cap) (hk : Kept (fun k => k < w0.heap.size) w0 w) {i : Nat} (hi : i < S.n) {l : List Atr} {ao : Option Addr} {n c : Nat} (hln : l.length = n) (hO : OwnZ (fun k => k < w0.heap.size) w 39 2 ao n c (atrCells l)) :
  DY K (w.setCell ⟨g, i * 22 + 3, none⟩ (.slice ao n c)) p (S.setN i { S.nd i with attrs := l }) (some ⟨g, 0, none⟩) cap /\ Kept K w0 (w.setCell ⟨g, i * 22 + 3, none⟩ (.slice ao n c)) := by
 subst hln
 obtain ⟨gk, gp, gl⟩ := h.gk
 have kG : Kept (fun k => k ≠ g) w (w.setCell ⟨g, i * 22 + 3, none⟩ (.slice ao l.length c)) := (Kept.refl _ w).setCell (p := ⟨g, i * 22 + 3, none⟩) (fun h => h rfl) _
 obtain ⟨h1, h2, h3, xs, aa, ac, ho, hx, ha, hs⟩ := h
 have hp := lt_block h3
 have kO : Kept (fun k => k < w0.heap.size /\ k ≠ g) w0 (w.setCell ⟨g, i * 22 + 3, none⟩ (.slice ao l.length c)) := (hk.mono fun k h => h.1).trans (kG.mono fun k h => h.2)
 refine ⟨⟨fun k hk' => Nat.lt_of_lt_of_le (h1 k hk') kO.size, h2, by rw [kO.block p ⟨hp, fun e => gp e.symm⟩]; exact h3, xs.set (i * 22 + 3) (.slice ao l.length c), fun j => if j = i then ao else aa j, fun j => if j = i then c else ac j, ?_, ?_, ?_, ?_⟩, kO.mono fun k hk' => ⟨h1 k hk', fun e => gk (e ▸ hk')⟩⟩
 ·obtain ⟨o1, o2, o3, o4⟩ := ho
  refine ⟨by rw [List.length_set]; exact o1, o2, o3, ?_⟩
  rcases o4 with ⟨r1, _⟩ | ⟨g', cur, r1, r2, r3, r4, r5⟩
  ·cases r1
  ·injection r1 with r1
   injection r1 with r1
   subst r1
   have r3' : w.heap[g]? = some (.cells cur 55 (0, 0)) := (hk.block g gl).trans r3
   refine .inr ⟨g, _, rfl, r2, heap_setCell_at r3' _ _, by simp [r4], ?_⟩
   rw [Array.toList_setIfInBounds, <- r5, List.take_set]
   rfl
 ·intro j hj f u hu
  have hj' : j < S.n := hj
  have hf : f < 22 := by
   rcases Nat.lt_or_ge f 22 with hh | hh
   ·exact hh
   ·rw [List.getElem?_eq_none (by rw [Dm.cells_len]; exact hh)] at hu; cases hu
  by_cases cj : j = i
  ·subst cj
   have e : (S.setN j { S.nd j with attrs := l }).cells j (if j = j then ao else aa j) (if j = j then c else ac j) = (S.cells j (aa j) (ac j)).set 3 (.slice ao l.length c) := by
    simp only [Dm.cells, Dm.setN, if_pos]
    rfl
   rw [e] at hu
   by_cases c2 : f = 3
   ·subst c2
    have hl : j * 22 + 3 < xs.length := by rw [ho.1]; have := Nat.mul_le_mul_right 22 hi; omega
    rw [List.getElem?_set_self (by rw [Dm.cells_len]; exact hf)] at hu
    rw [List.getElem?_set_self hl]
    exact hu
   ·rw [List.getElem?_set_ne (by omega)] at hu
    rw [List.getElem?_set_ne (by omega)]
    exact hx j hj' f u hu
  ·have e : (S.setN i { S.nd i with attrs := l }).cells j (if j = i then ao else aa j) (if j = i then c else ac j) = S.cells j (aa j) (ac j) := by
    simp only [Dm.cells, Dm.setN, if_neg cj]
   rw [e] at hu
   rw [List.getElem?_set_ne (by omega)]
   exact hx j hj' f u hu
 ·intro j hj
  have hj' : j < S.n := hj
  by_cases cj : j = i
  ·subst cj
   have e : ((S.setN j { S.nd j with attrs := l }).nd j).attrs = l := by simp only [Dm.setN, if_pos]
   rw [e]
   dsimp only
   rw [if_pos rfl, if_pos rfl]
   refine OwnZ.to hO (fun x hx hh => (OwnZ.out hO hx).1 ?_) (fun x hx => kG.block x fun e => (OwnZ.out hO hx).1 (e ▸ gl))
   rcases hh with hh | hh | hh
   ·exact h1 x hh
   ·rw [hh]; exact hp
   ·have : x = g := by have hh' : some (⟨g, 0, none⟩ : Addr) = some ⟨x, 0, none⟩ := hh; injection hh' with hh'; injection hh' with hh'; exact hh'.symm
    rw [this]; exact gl
  ·have e : ((S.setN i { S.nd i with attrs := l }).nd j).attrs = (S.nd j).attrs := by simp only [Dm.setN, if_neg cj]
   rw [e]
   dsimp only
   rw [if_neg cj, if_neg cj]
   exact OwnZ.to (ha j hj') (fun x hx => ((ha j hj').out hx).1) (fun x hx => kO.block x ⟨((ha j hj').out hx).2, fun e => ((ha j hj').out hx).1 (.inr (.inr (e ▸ rfl)))⟩)
 ·intro j k hj hk' hne x hx1 hx2
  have hj' : j < S.n := hj
  have hk2 : k < S.n := hk'
  dsimp only at hx1 hx2
  by_cases cj : j = i
  ·have ck : ¬ k = i := fun e => hne (cj.trans e.symm)
   rw [if_pos cj] at hx1
   rw [if_neg ck] at hx2
   exact (OwnZ.out hO hx1).1 ((ha k hk2).out hx2).2
  ·rw [if_neg cj] at hx1
   by_cases ck : k = i
   ·rw [if_pos ck] at hx2
    exact (OwnZ.out hO hx2).1 ((ha j hj').out hx1).2
   ·rw [if_neg ck] at hx2
    exact hs j k hj' hk2 hne x hx1 hx2
theorem setA_mem : ∀ (l : List Atr) (a x : Atr), x ∈ setA l a -> x ∈ l \/ x = a
 | [], a, x, h => by
  rw [show setA [] a = [a] from rfl, List.mem_singleton] at h
  exact .inr h
 | y :: r, a, x, h => by
  rw [show setA (y :: r) a = if y.name = a.name then a :: r else y :: setA r a from rfl] at h
  by_cases c : y.name = a.name
  ·rw [if_pos c] at h
   rcases List.mem_cons.1 h with h | h
   ·exact .inr h
   ·exact .inl (List.mem_cons_of_mem _ h)
  ·rw [if_neg c] at h
   rcases List.mem_cons.1 h with h | h
   ·exact .inl (h ▸ List.mem_cons_self ..)
   ·rcases setA_mem r a x h with h | h
    ·exact .inl (List.mem_cons_of_mem _ h)
    ·exact .inr h
theorem setA_len : ∀ (l : List Atr) (a : Atr), (setA l a).length <= l.length + 1
 | [], a => by rw [show setA [] a = [a] from rfl]; simp
 | y :: r, a => by
  rw [show setA (y :: r) a = if y.name = a.name then a :: r else y :: setA r a from rfl]
  have := setA_len r a
  by_cases c : y.name = a.name
  ·rw [if_pos c]; simp
  ·rw [if_neg c]; simp; omega

end
section
open Go.RowKit
theorem Kept.setCells {K : Nat -> Prop} {a w : World} (h : Kept K a w) {g : Nat} (hg : ¬ K g) (hK : ∀ k, K k -> k < w.heap.size) (o : Nat) (vs : List Value) : Kept K a (w.setCells g o vs) := by
 have k1 : ∀ (vs : List Value) (o : Nat) (v : World), (v.setCells g o vs).tape = v.tape := by
  intro vs
  induction vs with
  | nil => intro o v; rfl
  | cons a r ih => intro o v; rw [World.setCells, ih]; rfl
 have k2 : ∀ (vs : List Value) (o : Nat) (v : World), (v.setCells g o vs).heap.size = v.heap.size := by
  intro vs
  induction vs with
  | nil => intro o v; rfl
  | cons a r ih => intro o v; rw [World.setCells, ih]; simp
 exact ⟨(World.os_setCells w g _ vs).trans h.os, (k1 vs o w).trans h.tape, (World.output_setCells w g _ vs).trans h.output, by rw [k2]; exact h.size, fun k hk => (World.heap_setCells_other w g _ vs (hK k hk) (fun e => hg (e ▸ hk))).trans (h.block k hk)⟩
end
section
open Go.RowKit
abbrev zero14 : Array Value := #[.int .u8 0, .string ⟨#[]⟩, .string ⟨#[]⟩, .slice none 0 0, .int .i64 0, .slice none 0 0, .int .i64 0, .int .i64 0, .int .i64 0, .bool false, .bool false, .bool false, .bool false, .bool false]
theorem node_none (K : Nat -> Prop) (p : Nat) (M : Dm) (i : Int) (w : World) (h : DX K w p M) (hi : i < 0 \/ (M.n : Int) <= i) (hn : M.n <= 1000000) :
  Calls Try.prog 32 #[.pointer (some ⟨p, 0, none⟩), .int .i64 i] w fun e w' => e = .returned (.tuple #[.agg zero14, .int .u16 80]) /\ Kept (fun k => k < w.heap.size) w w' := by
 obtain ⟨ga, cap, hY⟩ := h
 obtain ⟨W, hW⟩ : ∃ W, w.alloc (.cells zero14 34) = W := ⟨_, rfl⟩
 have kW : Kept (fun k => k < w.heap.size) w W := by rw [<- hW]; exact (Kept.refl _ w).alloc (fun _ h => h) _
 have hYW := hY.kept kW
 have r := at_no p M.n cap ga i W hYW.c1 hi (by omega)
 have HW : Hid (w.alloc (.cells zero14 34) = W) := hW
 obtain ⟨N, hN⟩ : ∃ N, w.heap.size = N := ⟨_, rfl⟩
 have HN : Hid (w.heap.size = N) := hN
 have hb : W.heap[N]? = some (.cells zero14 34 (0, 0)) := by rw [<- hW, <- hN]; exact heap_alloc_new w _
 have HK : Hid (Kept (fun k => k < w.heap.size) w W) := kW
 clear hN hY hYW hW kW hi
 go_enter Try.func32, Try.ntmps32
 go_upto_region 1 with fail
 rw [HW.out, HN.out]
 go_wp2_with (first | (go_at_call 22; refine r.mono ?_; rintro e w2 ⟨rfl, hw2⟩; replace hw2 := hw2.symm; subst hw2) | (refine wpList_store_row rfl 34 _ _ rfl N zero14 rfl rfl 34 zero14 hb info36 rfl (by kernel_rfl) ?_))
 exact bodyPost_ret (res32 _ _ N zero14 rfl rfl (setRow_heap _ _ _ _ _ _ hb) rfl) rfl ⟨rfl, kept_setRow HK.out (by rw [HN.out]; exact Nat.lt_irrefl _) zero14⟩
inductive TopOf (M : Dm) : Nat -> Nat -> Prop
 | here {k : Nat} : (M.pl k).up = -1 -> TopOf M k k
 | up {k m t : Nat} : (M.pl k).up = (m : Int) -> TopOf M m t -> TopOf M k t
theorem TopOf.one {M : Dm} {k t u : Nat} (h : TopOf M k t) : TopOf M k u -> t = u := by
 induction h with
 | here h0 =>
  intro h
  cases h with
  | here _ => rfl
  | up e _ => omega
 | up e _ ih =>
  intro h
  cases h with
  | here h0 => omega
  | up e' h' =>
   have := e.symm.trans e'
   injection this with this
   subst this
   exact ih h'
end
end Go.Proofs.Ytojbjiopilkbgaa
