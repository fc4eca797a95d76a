/-
 withAttribute.; Doc.Set.; slices.Delete of one attribute.; Node of no node; order.Root; shadow.Of, Open, isClosed.
-/
import Derived.Test.YtljnjdckhkglfaaP10
import Derived.Lib.SliceRun
namespace Go.Proofs.Ytljnjdckhkglfaa
set_option linter.unusedVariables false
set_option maxRecDepth 100000
set_option maxHeartbeats 8000000
section
open Go.RowKit
def setA (l : List Atr) (a : Atr) : List Atr := match l with
 | [] => [a]
 | x :: r => if x.name = a.name then a :: r else x :: setA r a
theorem setA_at : ∀ (l : List Atr) (a : Atr) (k : Nat) (h : k < l.length), l[k].name = a.name -> (∀ x ∈ l.take k, x.name ≠ a.name) -> setA l a = l.set k a
 | x :: r, a, 0, h, he, hn => by
  show (if x.name = a.name then a :: r else x :: setA r a) = _
  rw [if_pos (show x.name = a.name from he)]; rfl
 | x :: r, a, k + 1, h, he, hn => by
  show (if x.name = a.name then a :: r else x :: setA r a) = _
  rw [if_neg (hn x (by simp)), setA_at r a k (by simpa using h) he (fun y hy => hn y (by simp [hy]))]
  rfl
theorem setA_no : ∀ (l : List Atr) (a : Atr), (∀ x ∈ l, x.name ≠ a.name) -> setA l a = l ++ [a]
 | [], a, _ => rfl
 | x :: r, a, hn => by
  show (if x.name = a.name then a :: r else x :: setA r a) = _
  rw [if_neg (hn x (by simp)), setA_no r a (fun y hy => hn y (by simp [hy]))]
  rfl
theorem atr_set : ∀ (l : List Atr) (k : Nat) (a : Atr), k < l.length -> atrCells (l.set k a) = ((atrCells l).set (k * 2) (sv a.name)).set (k * 2 + 1) (sv a.value)
 | x :: r, 0, a, _ => rfl
 | x :: r, k + 1, a, h => by
  have ih := atr_set r k a (by simpa using h)
  show [sv x.name, sv x.value] ++ atrCells (r.set k a) = _
  rw [ih]
  show _ = ((sv x.name :: sv x.value :: atrCells r).set ((k + 1) * 2) _).set ((k + 1) * 2 + 1) _
  rw [show (k + 1) * 2 = (k * 2) + 1 + 1 by omega, show k * 2 + 1 + 1 + 1 = (k * 2 + 1) + 1 + 1 by omega]
  rfl
theorem OwnZ.setA {K : Nat -> Prop} {w : World} {g n cap : Nat} {l : List Atr} (h : OwnZ K w 76 2 (some ⟨g, 0, none⟩) n cap (atrCells l)) (k : Nat) (a : Atr) (hk : k < l.length) :
  OwnZ K ((w.setCell ⟨g, k * 2, none⟩ (sv a.name)).setCell ⟨g, k * 2 + 1, none⟩ (sv a.value)) 76 2 (some ⟨g, 0, none⟩) n cap (atrCells (l.set k a)) := by
 obtain ⟨h1, h2, h3, h4⟩ := h
 rw [atr_set l k a hk]
 refine ⟨by rw [List.length_set, List.length_set]; exact h1, h2, h3, ?_⟩
 rcases h4 with ⟨r1, _⟩ | ⟨g', cur, r1, r2, r3, r4, r5⟩
 ·cases r1
 ·injection r1 with r1
  injection r1 with r1
  subst r1
  refine .inr ⟨g, _, rfl, r2, heap_setCell_at (heap_setCell_at r3 _ _) _ _, by simp [r4], ?_⟩
  rw [Array.toList_setIfInBounds, Array.toList_setIfInBounds, <- r5, List.take_set, List.take_set]
theorem appA {K : Nat -> Prop} {w : World} {ao : Option Addr} {n cap : Nat} {l : List Atr} (h : OwnZ K w 76 2 ao n cap (atrCells l)) (hKl : ∀ k, K k -> k < w.heap.size) (hn : n <= 1000000) (S T : ByteArray) :
  ∃ ao' cap' w', (Builtin.append_ #[38, 38] 38 #[.slice ao n cap, .slice (some ⟨w.heap.size, 0, none⟩) 1 1]).run Try.prog (w.alloc (.cells #[.string S, .string T] 76)) = .ok (.slice ao' (n + 1) cap') w' /\ OwnZ K w' 76 2 ao' (n + 1) cap' (atrCells (l ++ [⟨S.toList, T.toList⟩])) /\ Kept K w w' := by
 obtain ⟨i, hi, hip⟩ := Option.map_eq_some_iff.1 infoA
 have hz : i.zero = _ := congrArg (·.1) hip
 have hsz : i.size = 2 := congrArg (·.2.1) hip
 have hby : i.bytes = 32 := congrArg (·.2.2) hip
 obtain ⟨W, hW⟩ : ∃ W, w.alloc (.cells #[.string S, .string T] 76) = W := ⟨_, rfl⟩
 have kW : Kept (fun k => k < w.heap.size) w W := by rw [<- hW]; exact (Kept.refl _ w).alloc (fun _ h => h) _
 have hs : Src Try.prog 2 38 (.slice (some ⟨w.heap.size, 0, none⟩) 1 1) 1 [.string S, .string T] W := by
  rw [<- hW]
  refine src_newZ w w.heap.size [.string S, .string T] _ Try.underlying38 (by intro u hu; rcases List.mem_cons.1 hu with rfl | hu; rfl; rw [List.mem_singleton.1 hu]; rfl) rfl rfl
 have hO : OwnZ K W 76 2 ao n cap (atrCells l) := OwnZ.to h (fun g hg => (OwnZ.out h hg).1) (fun g hg => kW.block g (OwnZ.out h hg).2)
 obtain ⟨ao', cap', w', hr, ho, hk⟩ := run_appM (P := Try.prog) (K := K) W 38 38 38 76 i _ Try.underlying38 hi hz 2 hsz rfl (by omega) hO _ 1 (by omega) (by omega) _ hs (fun k hk => Nat.lt_of_lt_of_le (hKl k hk) kW.size) (by omega)
 refine ⟨ao', cap', w', by rw [hW]; exact hr, ?_, (kW.mono hKl).trans hk⟩
 rw [atrCells_append]
 have e : atrCells [⟨S.toList, T.toList⟩] = [.string S, .string T] := by
  have hS : (⟨S.toList.toArray⟩ : ByteArray) = S := by apply ByteArray.ext; rw [ByteArray.toList_eq]
  have hT : (⟨T.toList.toArray⟩ : ByteArray) = T := by apply ByteArray.ext; rw [ByteArray.toList_eq]
  show [sv S.toList, sv T.toList] = _
  unfold sv
  rw [hS, hT]
 rw [e]
 exact ho
theorem withA_any (l : List Atr) (n : Nat) (hln : l.length = n) (hn : n <= 1000000) (aa : Option Addr) (cap : Nat) (S T : ByteArray) (w : World) (ha : AtsAt (fun k => k < w.heap.size) w aa l) :
  Calls Try.prog 40 #[.slice aa n cap, .agg #[.string S, .string T]] w fun e w' => ∃ ao c, e = .returned (.slice ao (setA l ⟨S.toList, T.toList⟩).length c) /\ OwnZ (fun k => k < w.heap.size) w' 76 2 ao (setA l ⟨S.toList, T.toList⟩).length c (atrCells (setA l ⟨S.toList, T.toList⟩)) /\ Kept (fun k => k < w.heap.size) w w' := by
 obtain ⟨V, hV⟩ : ∃ V, w.alloc (.cells #[.string S, .string T] 76) = V := ⟨_, rfl⟩
 have kV : Kept (fun k => k < w.heap.size) w V := by rw [<- hV]; exact (Kept.refl _ w).alloc (fun _ h => h) _
 obtain ⟨N, hN⟩ : ∃ N, w.heap.size = N := ⟨_, rfl⟩
 have hbV : V.heap[N]? = some (.cells #[.string S, .string T] 76) := by rw [<- hV, <- hN]; exact heap_alloc_new w _
 have rc := copyA_any l aa n cap hln (by omega) V (ha.kept kV fun k h => Nat.lt_of_lt_of_le h kV.size)
 have HV : Hid (w.alloc (.cells #[.string S, .string T] 76) = V) := hV
 have HKV : Hid (Kept (fun k => k < w.heap.size) w V) := kV
 have HN : Hid (w.heap.size = N) := hN
 have HBV : Hid (V.heap[N]? = some (.cells #[.string S, .string T] 76)) := hbV
 have HL : Hid (l.length = n) := hln
 clear hV kV hN hbV ha hln
 go_enter Try.func40, Try.ntmps40
 go_upto_region 1 with fail
 rw [HV.out, HN.out]
 clear HV
 go_wp2_with fail
 refine rc.mono ?_
 rintro e w1 ⟨ao, c, rfl, hO, hK1⟩
 have hb1 : w1.heap[N]? = some (.cells #[.string S, .string T] 76) := (hK1.block N (lt_block HBV.out)).trans HBV.out
 obtain ⟨W, hW⟩ : ∃ W, w1.alloc (.cells #[.string S] 9) = W := ⟨_, rfl⟩
 have kW : Kept (fun k => k < w1.heap.size) w1 W := by rw [<- hW]; exact (Kept.refl _ w1).alloc (fun _ h => h) _
 obtain ⟨B, hB⟩ : ∃ B, w1.heap.size = B := ⟨_, rfl⟩
 have hsW : W.cell? ⟨B, 0, none⟩ = some (.string S) := by rw [<- hW, <- hB, cell_block (heap_alloc_new w1 _)]; rfl
 have rn := named_any S w1
 have ri := indexA_any l n HL.out hn ao c B S W ((hO.atsAt (K' := fun k => k < w1.heap.size) fun g hg => (OwnZ.out hO hg).2).kept kW fun k h => Nat.lt_of_lt_of_le h kW.size) hsW
 have c0 : w1.cell? ⟨N, 0, none⟩ = some (.string S) := by rw [cell_block hb1]; rfl
 have HO : Hid (OwnZ (fun k => k < V.heap.size) w1 76 2 ao n c (atrCells l)) := hO
 have HK1 : Hid (Kept (fun k => k < w.heap.size) w w1) := HKV.out.trans (hK1.mono fun k h => Nat.lt_of_lt_of_le h HKV.out.size)
 have HKW : Hid (Kept (fun k => k < w1.heap.size) w1 W) := kW
 have HVS : Hid (V.heap.size <= w1.heap.size) := hK1.size
 have HB1 : Hid (w1.heap[N]? = some (.cells #[.string S, .string T] 76)) := hb1
 have HWe : Hid (w1.alloc (.cells #[.string S] 9) = W) := hW
 have HBe : Hid (w1.heap.size = B) := hB
 clear rc hO hK1 hb1 hW kW hB hsW HBV
 go_wp2_with (go_at_call 75; refine rn.mono ?_; rintro e w2 ⟨rfl, hw2⟩; replace hw2 := hw2.symm; subst hw2)
 rw [HWe.out, HBe.out]
 refine ri.mono ?_
 rintro e w2 ⟨hres, hk2⟩
 have hb2 : w2.heap[N]? = some (.cells #[.string S, .string T] 76) := ((HKW.out.trans (hk2.mono fun k h => Nat.lt_of_lt_of_le h HKW.out.size)).block N (lt_block HB1.out)).trans HB1.out
 have hO2 : OwnZ (fun k => k < V.heap.size) w2 76 2 ao n c (atrCells l) := OwnZ.to HO.out (fun g hg => (OwnZ.out HO.out hg).1) (fun g hg => (HKW.out.trans (hk2.mono fun k h => Nat.lt_of_lt_of_le h HKW.out.size)).block g (OwnZ.out HO.out hg).2)
 have hK2 : Kept (fun k => k < w.heap.size) w w2 := HK1.out.trans ((HKW.out.trans (hk2.mono fun k h => Nat.lt_of_lt_of_le h HKW.out.size)).mono fun k h => Nat.lt_of_lt_of_le h HK1.out.size)
 have hO3 : OwnZ (fun k => k < w.heap.size) w2 76 2 ao n c (atrCells l) := OwnZ.to hO2 (fun g hg hh => (OwnZ.out hO2 hg).1 (Nat.lt_of_lt_of_le hh HKV.out.size)) (fun _ _ => rfl)
 have e0 : w2.cell? ⟨N, 0, none⟩ = some (.string S) := by rw [cell_block hb2]; rfl
 have e1 : w2.cell? ⟨N, 1, none⟩ = some (.string T) := by rw [cell_block hb2]; rfl
 clear rn ri c0 hk2 HO HK1 HKW HVS HB1 HWe HBe hO2 hb2
 rcases hres with ⟨k, hk, rfl, hname, hno⟩ | ⟨rfl, hno⟩
 ·have HS : Hid (setA l ⟨S.toList, T.toList⟩ = l.set k ⟨S.toList, T.toList⟩) := setA_at l _ k hk hname hno
  obtain ⟨c0, c1⟩ := atr_get l k hk
  obtain ⟨g, rfl, d0⟩ := hO3.cell c0
  obtain ⟨g', eg, d1⟩ := hO3.cell c1
  have : g' = g := by injection eg with eg; injection eg with eg; exact eg.symm
  subst this
  have hV4 := hO3.setA k ⟨S.toList, T.toList⟩ hk
  have hS : (⟨S.toList.toArray⟩ : ByteArray) = S := by apply ByteArray.ext; rw [ByteArray.toList_eq]
  have hT : (⟨T.toList.toArray⟩ : ByteArray) = T := by apply ByteArray.ext; rw [ByteArray.toList_eq]
  dsimp only [sv] at hV4
  rw [hS, hT] at hV4
  have hgk : ¬ g' < w.heap.size := (OwnZ.out hO3 (g := g') rfl).1
  have hK4 : Kept (fun k => k < w.heap.size) w ((w2.setCell ⟨g', k * 2, none⟩ (.string S)).setCell ⟨g', k * 2 + 1, none⟩ (.string T)) := (hK2.setCell (p := ⟨g', k * 2, none⟩) hgk _).setCell (p := ⟨g', k * 2 + 1, none⟩) hgk _
  have HV4 : Hid (OwnZ (fun k => k < w.heap.size) ((w2.setCell ⟨g', k * 2, none⟩ (.string S)).setCell ⟨g', k * 2 + 1, none⟩ (.string T)) 76 2 (some ⟨g', 0, none⟩) n c (atrCells (l.set k ⟨S.toList, T.toList⟩))) := hV4
  have HK4 : Hid (Kept (fun k => k < w.heap.size) w ((w2.setCell ⟨g', k * 2, none⟩ (.string S)).setCell ⟨g', k * 2 + 1, none⟩ (.string T))) := hK4
  clear hV4 hS hT hgk hK4 eg c0 c1
  unfold sv at d0 d1
  have hfz : ∀ j, w2.frozen? ⟨g', j, none⟩ = false := fun j => by
   rcases hO3.2.2.2 with ⟨r1, _⟩ | ⟨g2, cur, r1, r2, r3, r4⟩
   ·cases r1
   ·injection r1 with r1
    injection r1 with r1
    subst r1
    exact frozen_block r3 j
  have f0 := hfz (k * 2)
  have f1 := hfz (k * 2 + 1)
  have hkn : k < n := by rw [<- HL.out]; exact hk
  clear hO3 hK2 hfz hname hno
  go_wp2
  go_ret
  refine ⟨some ⟨g', 0, none⟩, c, ?_, ?_, HK4.out⟩
  ·rw [HS.out, List.length_set, HL.out]; try rfl
  ·rw [HS.out, List.length_set, HL.out]; exact HV4.out
 ·have HS : Hid (setA l ⟨S.toList, T.toList⟩ = l ++ [⟨S.toList, T.toList⟩]) := setA_no l _ hno
  obtain ⟨ao', c', w', hr, hO4, hK4⟩ := appA hO3 (fun k h => Nat.lt_of_lt_of_le h hK2.size) hn S T
  have HO4 : Hid (OwnZ (fun k => k < w.heap.size) w' 76 2 ao' (n + 1) c' (atrCells (l ++ [⟨S.toList, T.toList⟩]))) := hO4
  have HK4 : Hid (Kept (fun k => k < w.heap.size) w w') := hK2.trans hK4
  clear hO3 hK2 hO4 hK4 hno
  go_wp2_with (at_builtin; refine wpList_appR (w' := w') rfl (.tmp 21) (.tmp 23) 38 38 rfl _ _ (.slice ao' (n + 1) c') rfl rfl hr ?_)
  go_ret
  refine ⟨ao', c', ?_, ?_, HK4.out⟩
  ·rw [HS.out, List.length_append, HL.out]; rfl
  ·rw [HS.out, List.length_append, HL.out]; exact HO4.out
end
section
open Go.RowKit
theorem DY.setAttrs {K : Nat -> Prop} {w0 w : World} {p : Nat} {S : Dm} {g : Nat} {cap : Nat} (h : DY K w0 p S (some ⟨g, 0, none⟩) cap) (hk : Kept (fun k => k < w0.heap.size) w0 w) {i : Nat} (hi : i < S.n) {l : List Atr} {ao : Option Addr} {n c : Nat} (hln : l.length = n) (hO : OwnZ (fun k => k < w0.heap.size) w 76 2 ao n c (atrCells l)) :
  DY K (w.setCell ⟨g, i * 22 + 3, none⟩ (.slice ao n c)) p (S.setN i { S.nd i with attrs := l }) (some ⟨g, 0, none⟩) cap /\ Kept K w0 (w.setCell ⟨g, i * 22 + 3, none⟩ (.slice ao n c)) := by
 subst hln
 obtain ⟨gk, gp, gl⟩ := h.gk
 have kG : Kept (fun k => k ≠ g) w (w.setCell ⟨g, i * 22 + 3, none⟩ (.slice ao l.length c)) := (Kept.refl _ w).setCell (p := ⟨g, i * 22 + 3, none⟩) (fun h => h rfl) _
 obtain ⟨h1, h2, h3, xs, aa, ac, ho, hx, ha, hs⟩ := h
 have hp := lt_block h3
 have kO : Kept (fun k => k < w0.heap.size /\ k ≠ g) w0 (w.setCell ⟨g, i * 22 + 3, none⟩ (.slice ao l.length c)) := (hk.mono fun k h => h.1).trans (kG.mono fun k h => h.2)
 refine ⟨⟨fun k hk' => Nat.lt_of_lt_of_le (h1 k hk') kO.size, h2, by rw [kO.block p ⟨hp, fun e => gp e.symm⟩]; exact h3, xs.set (i * 22 + 3) (.slice ao l.length c), fun j => if j = i then ao else aa j, fun j => if j = i then c else ac j, ?_, ?_, ?_, ?_⟩, kO.mono fun k hk' => ⟨h1 k hk', fun e => gk (e ▸ hk')⟩⟩
 ·obtain ⟨o1, o2, o3, o4⟩ := ho
  refine ⟨by rw [List.length_set]; exact o1, o2, o3, ?_⟩
  rcases o4 with ⟨r1, _⟩ | ⟨g', cur, r1, r2, r3, r4, r5⟩
  ·cases r1
  ·injection r1 with r1
   injection r1 with r1
   subst r1
   have r3' : w.heap[g]? = some (.cells cur 74 (0, 0)) := (hk.block g gl).trans r3
   refine .inr ⟨g, _, rfl, r2, heap_setCell_at r3' _ _, by simp [r4], ?_⟩
   rw [Array.toList_setIfInBounds, <- r5, List.take_set]
   rfl
 ·intro j hj f u hu
  have hj' : j < S.n := hj
  have hf : f < 22 := by
   rcases Nat.lt_or_ge f 22 with hh | hh
   ·exact hh
   ·rw [List.getElem?_eq_none (by rw [Dm.cells_len]; exact hh)] at hu; cases hu
  by_cases cj : j = i
  ·subst cj
   have e : (S.setN j { S.nd j with attrs := l }).cells j (if j = j then ao else aa j) (if j = j then c else ac j) = (S.cells j (aa j) (ac j)).set 3 (.slice ao l.length c) := by
    simp only [Dm.cells, Dm.setN, if_pos]
    rfl
   rw [e] at hu
   by_cases c2 : f = 3
   ·subst c2
    have hl : j * 22 + 3 < xs.length := by rw [ho.1]; have := Nat.mul_le_mul_right 22 hi; omega
    rw [List.getElem?_set_self (by rw [Dm.cells_len]; exact hf)] at hu
    rw [List.getElem?_set_self hl]
    exact hu
   ·rw [List.getElem?_set_ne (by omega)] at hu
    rw [List.getElem?_set_ne (by omega)]
    exact hx j hj' f u hu
  ·have e : (S.setN i { S.nd i with attrs := l }).cells j (if j = i then ao else aa j) (if j = i then c else ac j) = S.cells j (aa j) (ac j) := by
    simp only [Dm.cells, Dm.setN, if_neg cj]
   rw [e] at hu
   rw [List.getElem?_set_ne (by omega)]
   exact hx j hj' f u hu
 ·intro j hj
  have hj' : j < S.n := hj
  by_cases cj : j = i
  ·subst cj
   have e : ((S.setN j { S.nd j with attrs := l }).nd j).attrs = l := by simp only [Dm.setN, if_pos]
   rw [e]
   dsimp only
   rw [if_pos rfl, if_pos rfl]
   refine OwnZ.to hO (fun x hx hh => (OwnZ.out hO hx).1 ?_) (fun x hx => kG.block x fun e => (OwnZ.out hO hx).1 (e ▸ gl))
   rcases hh with hh | hh | hh
   ·exact h1 x hh
   ·rw [hh]; exact hp
   ·have : x = g := by have hh' : some (⟨g, 0, none⟩ : Addr) = some ⟨x, 0, none⟩ := hh; injection hh' with hh'; injection hh' with hh'; exact hh'.symm
    rw [this]; exact gl
  ·have e : ((S.setN i { S.nd i with attrs := l }).nd j).attrs = (S.nd j).attrs := by simp only [Dm.setN, if_neg cj]
   rw [e]
   dsimp only
   rw [if_neg cj, if_neg cj]
   exact OwnZ.to (ha j hj') (fun x hx => ((ha j hj').out hx).1) (fun x hx => kO.block x ⟨((ha j hj').out hx).2, fun e => ((ha j hj').out hx).1 (.inr (.inr (e ▸ rfl)))⟩)
 ·intro j k hj hk' hne x hx1 hx2
  have hj' : j < S.n := hj
  have hk2 : k < S.n := hk'
  dsimp only at hx1 hx2
  by_cases cj : j = i
  ·have ck : ¬ k = i := fun e => hne (cj.trans e.symm)
   rw [if_pos cj] at hx1
   rw [if_neg ck] at hx2
   exact (OwnZ.out hO hx1).1 ((ha k hk2).out hx2).2
  ·rw [if_neg cj] at hx1
   by_cases ck : k = i
   ·rw [if_pos ck] at hx2
    exact (OwnZ.out hO hx2).1 ((ha j hj').out hx1).2
   ·rw [if_neg ck] at hx2
    exact hs j k hj' hk2 hne x hx1 hx2
theorem setA_mem : ∀ (l : List Atr) (a x : Atr), x ∈ setA l a -> x ∈ l \/ x = a
 | [], a, x, h => by
  rw [show setA [] a = [a] from rfl, List.mem_singleton] at h
  exact .inr h
 | y :: r, a, x, h => by
  rw [show setA (y :: r) a = if y.name = a.name then a :: r else y :: setA r a from rfl] at h
  by_cases c : y.name = a.name
  ·rw [if_pos c] at h
   rcases List.mem_cons.1 h with h | h
   ·exact .inr h
   ·exact .inl (List.mem_cons_of_mem _ h)
  ·rw [if_neg c] at h
   rcases List.mem_cons.1 h with h | h
   ·exact .inl (h ▸ List.mem_cons_self ..)
   ·rcases setA_mem r a x h with h | h
    ·exact .inl (List.mem_cons_of_mem _ h)
    ·exact .inr h
theorem setA_len : ∀ (l : List Atr) (a : Atr), (setA l a).length <= l.length + 1
 | [], a => by rw [show setA [] a = [a] from rfl]; simp
 | y :: r, a => by
  rw [show setA (y :: r) a = if y.name = a.name then a :: r else y :: setA r a from rfl]
  have := setA_len r a
  by_cases c : y.name = a.name
  ·rw [if_pos c]; simp
  ·rw [if_neg c]; simp; omega
theorem set_in (K : Nat -> Prop) (p i : Nat) (M : Dm) (S T : ByteArray) (w : World) (h : DX K w p M) (hi : i < M.n) (hMn : M.n <= 1000000) (hkd : (M.nd i).kind = 1) (hfew : (M.nd i).attrs.length <= 100000) (hsz : ∀ x ∈ (M.nd i).attrs, x.name.length <= 1000000000 /\ x.value.length <= 1000000000) (hS : S.size <= 1000000000) (hT : T.size <= 1000000000) :
  Calls Try.prog 14 #[.pointer (some ⟨p, 0, none⟩), .int .i64 (i : Int), .string S, .string T] w fun e w' =>
   ((soundL [⟨0, 1, (M.nd i).name, setA (M.nd i).attrs ⟨S.toList, T.toList⟩, []⟩] = true /\ e = .returned (.int .u16 0) /\ DX K w' p (M.setN i { M.nd i with attrs := setA (M.nd i).attrs ⟨S.toList, T.toList⟩ })) \/
    (soundL [⟨0, 1, (M.nd i).name, setA (M.nd i).attrs ⟨S.toList, T.toList⟩, []⟩] = false /\ e = .returned (.int .u16 82) /\ DX K w' p M)) /\ Kept K w w' := by
 obtain ⟨ga, gc, hY⟩ := h
 obtain ⟨g, rfl, -, -, -⟩ := hY.at (by omega)
 obtain ⟨aa, ac, hc, hO⟩ := hY.cell hi
 have c0 : w.cell? ⟨g, i * 22, none⟩ = some (.int .u8 1) := by have := hc 0 _ rfl; rw [hkd] at this; exact this
 have c1 : w.cell? ⟨g, i * 22 + 1, none⟩ = some (.string ⟨(M.nd i).name.toArray⟩) := hc 1 _ rfl
 have c3 : w.cell? ⟨g, i * 22 + 3, none⟩ = some (.slice aa (M.nd i).attrs.length ac) := hc 3 _ rfl
 have re := element_yes p g M.n gc i 81 w hY.c1 hi (by omega) c0
 have gl := hY.gk.2.2
 have rw' := withA_any (M.nd i).attrs _ rfl (by omega) aa ac S T w (hO.atsAt (K' := fun k => k < w.heap.size) fun x hx => (OwnZ.out hO hx).2)
 obtain ⟨nm, hnm⟩ : ∃ nm, (M.nd i).name = nm := ⟨_, rfl⟩
 obtain ⟨l0, hl0⟩ : ∃ l0, (M.nd i).attrs = l0 := ⟨_, rfl⟩
 obtain ⟨l, hl⟩ : ∃ l, setA (M.nd i).attrs ⟨S.toList, T.toList⟩ = l := ⟨_, rfl⟩
 have hll : l.length <= 100001 := by rw [<- hl]; have := setA_len (M.nd i).attrs ⟨S.toList, T.toList⟩; omega
 have hlz : ∀ x ∈ l, x.name.length <= 1000000000 /\ x.value.length <= 1000000000 := fun x hx => by
  rw [<- hl] at hx
  rcases setA_mem _ _ _ hx with h | h
  ·exact hsz x h
  ·rw [h]
   have e1 : S.toList.length = S.size := by rw [ByteArray.toList_eq]; rfl
   have e2 : T.toList.length = T.size := by rw [ByteArray.toList_eq]; rfl
   exact ⟨by show S.toList.length <= _; omega, by show T.toList.length <= _; omega⟩
 rw [hl] at rw' ⊢
 rw [hl0] at rw' c3
 rw [hnm] at c1 ⊢
 obtain ⟨n0, hn0⟩ : ∃ n0, l0.length = n0 := ⟨_, rfl⟩
 rw [hn0] at rw' c3
 obtain ⟨n, hn⟩ : ∃ n, l.length = n := ⟨_, rfl⟩
 rw [hn] at rw'
 have HY : Hid (DY K w p M (some ⟨g, 0, none⟩) gc) := hY
 have HLZ : Hid (∀ x ∈ l, x.name.length <= 1000000000 /\ x.value.length <= 1000000000) := hlz
 have HN : Hid (l.length = n) := hn
 have HLL : Hid (l.length <= 100001) := hll
 have hfg := hY.fg (i * 22 + 3)
 clear hY hc hO hlz hn hll hfew hsz hS hT hkd hn0 hl hl0 hnm c0
 go_enter Try.func14, Try.ntmps14
 go_upto_region 4 with (go_at_call 39; refine re.mono ?_; rintro e w2 ⟨rfl, hw2⟩; replace hw2 := hw2.symm; subst hw2)
 clear re
 go_wp2_with fail
 refine rw'.mono ?_
 rintro e w1 ⟨ao, c, rfl, hO, hK⟩
 have hc1 : w1.cell? ⟨g, i * 22 + 1, none⟩ = some (.string ⟨nm.toArray⟩) := (hK.cell (p := ⟨g, i * 22 + 1, none⟩) gl).trans c1
 obtain ⟨N, hN⟩ : ∃ N, w1.heap.size = N := ⟨_, rfl⟩
 have ri := iz1 w1 N hN 1 1 rfl ⟨nm.toArray⟩ ⟨#[]⟩ l ao n c HN.out (hO.atsAt (K' := fun k => k < w1.heap.size) fun x hx => (OwnZ.out hO hx).2) (by have := HLL.out; have := HN.out; omega) HLZ.out
 rw [ByteArray.toList_eq, ByteArray.toList_eq] at ri
 obtain ⟨q, hq⟩ : ∃ q, soundL [⟨0, 1, nm, l, []⟩] = q := ⟨_, rfl⟩
 have HRI : Hid (Calls Try.prog 41 #[.slice (some ⟨N, 0, none⟩) 1 1] (w1.alloc (.cells #[.int .i64 0, .int .u8 1, .string ⟨nm.toArray⟩, .string ⟨#[]⟩, .slice ao n c] 79)) fun e w' => e = .returned (.bool q) /\ Kept (fun k => k < w1.heap.size) w1 w') := by rw [<- hq]; exact ri
 have HO : Hid (OwnZ (fun k => k < w.heap.size) w1 76 2 ao n c (atrCells l)) := hO
 have HK : Hid (Kept (fun k => k < w.heap.size) w w1) := hK
 have HQ : Hid (soundL [⟨0, 1, nm, l, []⟩] = q) := hq
 have HNe : Hid (w1.heap.size = N) := hN
 clear rw' hO hK hN ri hq c1
 go_wp2_with fail
 rw [HNe.out]
 refine HRI.out.mono ?_
 rintro e w2 ⟨rfl, hk2⟩
 have hK2 : Kept (fun k => k < w.heap.size) w w2 := HK.out.trans (hk2.mono fun k h => Nat.lt_of_lt_of_le h HK.out.size)
 have hO2 : OwnZ (fun k => k < w.heap.size) w2 76 2 ao n c (atrCells l) := OwnZ.to HO.out (fun x hx => (OwnZ.out HO.out hx).1) (fun x hx => hk2.block x (OwnZ.out HO.out hx).2)
 have hc3 : w2.cell? ⟨g, i * 22 + 3, none⟩ = some (.slice aa n0 ac) := (hK2.cell (p := ⟨g, i * 22 + 3, none⟩) gl).trans c3
 have hf3 : w2.frozen? ⟨g, i * 22 + 3, none⟩ = false := (hK2.frozen (p := ⟨g, i * 22 + 3, none⟩) gl).trans hfg
 cases q with
 | true =>
  obtain ⟨hY4, hK4⟩ := HY.out.setAttrs hK2 hi HN.out hO2
  have HY4 : Hid (DX K (w2.setCell ⟨g, i * 22 + 3, none⟩ (.slice ao n c)) p (M.setN i { M.nd i with attrs := l })) := ⟨_, _, hY4⟩
  have HK4 : Hid (Kept K w (w2.setCell ⟨g, i * 22 + 3, none⟩ (.slice ao n c))) := hK4
  clear HRI hk2 hK2 hO2 hY4 hK4 hc1 c3 hfg
  go_wp2
  go_ret
  exact ⟨.inl ⟨HQ.out, rfl, HY4.out⟩, HK4.out⟩
 | false =>
  have HX2 : Hid (DX K w2 p M) := ⟨_, _, HY.out.kept hK2⟩
  have HK2 : Hid (Kept K w w2) := hK2.mono HY.out.1
  clear HRI hk2 hK2 hO2 hc1 c3 hfg hc3 hf3
  go_wp2
  go_ret
  exact ⟨.inr ⟨HQ.out, rfl, HX2.out⟩, HK2.out⟩
end
section
open Go.RowKit
theorem Kept.setCells {K : Nat -> Prop} {a w : World} (h : Kept K a w) {g : Nat} (hg : ¬ K g) (hK : ∀ k, K k -> k < w.heap.size) (o : Nat) (vs : List Value) : Kept K a (w.setCells g o vs) := by
 have k1 : ∀ (vs : List Value) (o : Nat) (v : World), (v.setCells g o vs).tape = v.tape := by
  intro vs
  induction vs with
  | nil => intro o v; rfl
  | cons a r ih => intro o v; rw [World.setCells, ih]; rfl
 have k2 : ∀ (vs : List Value) (o : Nat) (v : World), (v.setCells g o vs).heap.size = v.heap.size := by
  intro vs
  induction vs with
  | nil => intro o v; rfl
  | cons a r ih => intro o v; rw [World.setCells, ih]; simp
 exact ⟨(World.os_setCells w g _ vs).trans h.os, (k1 vs o w).trans h.tape, (World.output_setCells w g _ vs).trans h.output, by rw [k2]; exact h.size, fun k hk => (World.heap_setCells_other w g _ vs (hK k hk) (fun e => hg (e ▸ hk))).trans (h.block k hk)⟩
end
section
open Go.RowKit
abbrev zero14 : Array Value := #[.int .u8 0, .string ⟨#[]⟩, .string ⟨#[]⟩, .slice none 0 0, .int .i64 0, .slice none 0 0, .int .i64 0, .int .i64 0, .int .i64 0, .bool false, .bool false, .bool false, .bool false, .bool false]
theorem node_none (K : Nat -> Prop) (p : Nat) (M : Dm) (i : Int) (w : World) (h : DX K w p M) (hi : i < 0 \/ (M.n : Int) <= i) (hn : M.n <= 1000000) :
  Calls Try.prog 33 #[.pointer (some ⟨p, 0, none⟩), .int .i64 i] w fun e w' => e = .returned (.tuple #[.agg zero14, .int .u16 80]) /\ Kept (fun k => k < w.heap.size) w w' := by
 obtain ⟨ga, cap, hY⟩ := h
 obtain ⟨W, hW⟩ : ∃ W, w.alloc (.cells zero14 42) = W := ⟨_, rfl⟩
 have kW : Kept (fun k => k < w.heap.size) w W := by rw [<- hW]; exact (Kept.refl _ w).alloc (fun _ h => h) _
 have hYW := hY.kept kW
 have r := at_no p M.n cap ga i W hYW.c1 hi (by omega)
 have HW : Hid (w.alloc (.cells zero14 42) = W) := hW
 obtain ⟨N, hN⟩ : ∃ N, w.heap.size = N := ⟨_, rfl⟩
 have HN : Hid (w.heap.size = N) := hN
 have hb : W.heap[N]? = some (.cells zero14 42 (0, 0)) := by rw [<- hW, <- hN]; exact heap_alloc_new w _
 have HK : Hid (Kept (fun k => k < w.heap.size) w W) := kW
 clear hN hY hYW hW kW hi
 go_enter Try.func33, Try.ntmps33
 go_upto_region 1 with fail
 rw [HW.out, HN.out]
 go_wp2_with (first | (go_at_call 50; refine r.mono ?_; rintro e w2 ⟨rfl, hw2⟩; replace hw2 := hw2.symm; subst hw2) | (refine wpList_store_row rfl 42 _ _ rfl N zero14 rfl rfl 42 zero14 hb info36 rfl (by kernel_rfl) ?_))
 exact bodyPost_ret (res33 _ _ N zero14 rfl rfl (setRow_heap _ _ _ _ _ _ hb) rfl) rfl ⟨rfl, kept_setRow HK.out (by rw [HN.out]; exact Nat.lt_irrefl _) zero14⟩
inductive TopOf (M : Dm) : Nat -> Nat -> Prop
 | here {k : Nat} : (M.pl k).up = -1 -> TopOf M k k
 | up {k m t : Nat} : (M.pl k).up = (m : Int) -> TopOf M m t -> TopOf M k t
theorem TopOf.one {M : Dm} {k t u : Nat} (h : TopOf M k t) : TopOf M k u -> t = u := by
 induction h with
 | here h0 =>
  intro h
  cases h with
  | here _ => rfl
  | up e _ => omega
 | up e _ ih =>
  intro h
  cases h with
  | here h0 => omega
  | up e' h' =>
   have := e.symm.trans e'
   injection this with this
   subst this
   exact ih h'
theorem oroot_any (K : Nat -> Prop) (p i : Nat) (M : Dm) (R : Nat -> List Nat) (rk : Nat -> Nat) (w : World) (h : DX K w p M) (hG : Good M R rk) (hi : i < M.n) (hn : M.n <= 1000000) :
  Calls Try.prog 97 #[.pointer (some ⟨p, 0, none⟩), .int .i64 (i : Int)] w fun e w' => ∃ t, t < M.n /\ TopOf M i t /\ e = .returned (.int .i64 (t : Int)) /\ Kept (fun k => k < w.heap.size) w w' := by
 have rn := fun (j : Nat) (hj : j < M.n) (X : World) (hk : Kept (fun k => k < w.heap.size) w X) => node_any K p j M R X (h.kept hk) hG.wf hj hn hG.few
 have r1 := rn i hi w (Kept.refl _ _)
 have HG : Hid (Good M R rk) := hG
 have HRN : Hid (∀ (j : Nat) (hj : j < M.n) (X : World) (hk : Kept (fun k => k < w.heap.size) w X), Calls Try.prog 33 #[.pointer (some ⟨p, 0, none⟩), .int .i64 (j : Int)] X fun e w' => Told X (M.nd j) (M.pl j).up (R j) e w') := rn
 clear rn h hG
 go_enter Try.func97, Try.ntmps97
 go_wp2_with fail
 refine r1.mono ?_
 rintro e v1 ⟨ao1, ac1, ko1, kc1, rfl, -, -, hK1⟩
 obtain ⟨cs, hcs⟩ : ∃ cs : Array Value, outC (M.nd i).kind ⟨(M.nd i).name.toArray⟩ ⟨(M.nd i).data.toArray⟩ ao1 (M.nd i).attrs.length ac1 (M.pl i).up ko1 (R i).length kc1 (M.nd i).shadow (M.nd i).host (M.nd i).content (M.nd i).fl = cs := ⟨_, rfl⟩
 obtain ⟨N, hN⟩ : ∃ N, v1.heap.size = N := ⟨_, rfl⟩
 obtain ⟨V, hV⟩ : ∃ V, v1.alloc (.cells (outC (M.nd i).kind ⟨(M.nd i).name.toArray⟩ ⟨(M.nd i).data.toArray⟩ ao1 (M.nd i).attrs.length ac1 (M.pl i).up ko1 (R i).length kc1 (M.nd i).shadow (M.nd i).host (M.nd i).content (M.nd i).fl) 42) = V := ⟨_, rfl⟩
 have kV : Kept (fun k => k < v1.heap.size) v1 V := by rw [<- hV]; exact (Kept.refl _ v1).alloc (fun _ h => h) _
 have HKV : Hid (Kept (fun k => k < w.heap.size) w V) := hK1.trans (kV.mono fun k h => Nat.lt_of_lt_of_le h hK1.size)
 have HNw : Hid (w.heap.size <= N) := by rw [<- hN]; exact hK1.size
 have hb : V.heap[N]? = some (.cells cs 42 (0, 0)) := by rw [<- hV, <- hN, <- hcs]; exact heap_alloc_new v1 _
 have HB : Hid (V.heap[N]? = some (.cells cs 42 (0, 0)) /\ cs.size = 14 /\ cs[4]? = some (.int .i64 (M.pl i).up)) := ⟨hb, by rw [<- hcs]; rfl, by rw [<- hcs]; rfl⟩
 have HV : Hid (v1.alloc (.cells (outC (M.nd i).kind ⟨(M.nd i).name.toArray⟩ ⟨(M.nd i).data.toArray⟩ ao1 (M.nd i).attrs.length ac1 (M.pl i).up ko1 (R i).length kc1 (M.nd i).shadow (M.nd i).host (M.nd i).content (M.nd i).fl) 42) = V) := hV
 have HN : Hid (v1.heap.size = N) := hN
 clear hcs hN hV kV hK1 hb r1
 go_upto_region 4 with fail
 rw [HV.out, HN.out]
 clear HV HN
 go_loopg [1] (rk i) (fun gh v wr => ∃ (j : Nat) (cs : Array Value), gh = rk j /\ v = .int .i64 (j : Int) /\ j < M.n /\ (∀ t, TopOf M j t -> TopOf M i t) /\ wr.heap[N]? = some (.cells cs 42 (0, 0)) /\ cs.size = 14 /\ cs[4]? = some (.int .i64 (M.pl j).up) /\ Kept (fun k => k < w.heap.size) w wr)
 case atStart => exact ⟨i, cs, rfl, rfl, hi, fun _ h => h, HB.out.1, HB.out.2.1, HB.out.2.2, HKV.out⟩
 case round =>
  clear HB HKV
  obtain ⟨j, cs, hgj, rfl, hj, hT, hb, hs, h4, hK⟩ := hrel
  have c4 : wr.cell? ⟨N, 4, none⟩ = some (.int .i64 (M.pl j).up) := by rw [cell_block hb]; exact h4
  have HT : Hid (∀ t, TopOf M j t -> TopOf M i t) := hT
  have HB : Hid (wr.heap[N]? = some (.cells cs 42 (0, 0)) /\ cs.size = 14) := ⟨hb, hs⟩
  have HK : Hid (Kept (fun k => k < w.heap.size) w wr) := hK
  rcases HG.out.wf.inn j hj with h0 | ⟨u, hu, hup, -⟩
  ·rw [h0] at c4
   have H0 : Hid ((M.pl j).up = -1) := h0
   clear hT hb hs h4 hK h0
   go_wp2
   go_ret
   exact ⟨j, hj, HT.out j (.here H0.out), rfl, HK.out⟩
  ·have HUP : Hid ((M.pl j).up = (u : Int)) := hup
   have e1 : ((u : Int) == -1) = false := by simp
   have r2 := HRN.out u hu wr hK
   have hrk : rk u < rk j := by
    rcases HG.out.acy j hj with h1 | ⟨m, _, h2, h3⟩
    ·unfold parI at h1; rw [if_neg (by omega)] at h1; omega
    ·unfold parI at h2
     rw [if_neg (by omega), hup] at h2
     injection h2 with h2
     subst h2
     exact h3
   rw [hup] at c4
   clear hT hb hs h4 hK hup
   go_upto_region 6 with fail
   go_wp2_with fail
   refine r2.mono ?_
   rintro e v2 ⟨ao2, ac2, ko2, kc2, rfl, -, -, hK2⟩
   obtain ⟨cs2, hcs2⟩ : ∃ cs2 : Array Value, outC (M.nd u).kind ⟨(M.nd u).name.toArray⟩ ⟨(M.nd u).data.toArray⟩ ao2 (M.nd u).attrs.length ac2 (M.pl u).up ko2 (R u).length kc2 (M.nd u).shadow (M.nd u).host (M.nd u).content (M.nd u).fl = cs2 := ⟨_, rfl⟩
   have hone : cs2.all (·.oneCell') = true := by rw [<- hcs2]; exact outC_one _ _ _ _ _ _ _ _ _ _ _ _ _ _
   have hs2 : cs2.size = 14 := by rw [<- hcs2]; rfl
   have h42 : cs2[4]? = some (.int .i64 (M.pl u).up) := by rw [<- hcs2]; rfl
   have hb2 : v2.heap[N]? = some (.cells cs 42 (0, 0)) := by rw [hK2.block N (lt_block HB.out.1)]; exact HB.out.1
   have hI : (Try.prog.info? 42).map (·.size) = some cs2.size := by rw [hs2]; exact info36
   have hold : cs.size = cs2.size := by rw [hs2]; exact HB.out.2
   have HB2 : Hid ((v2.setRow N cs2).heap[N]? = some (.cells cs2 42 (0, 0)) /\ cs2.size = 14 /\ cs2[4]? = some (.int .i64 (M.pl u).up)) := ⟨setRow_heap _ _ _ _ _ _ hb2, hs2, h42⟩
   have HK2 : Hid (Kept (fun k => k < w.heap.size) w (v2.setRow N cs2)) := kept_setRow (HK.out.trans (hK2.mono fun k h => Nat.lt_of_lt_of_le h HK.out.size)) (by have := HNw.out; omega) cs2
   rw [hcs2]
   clear hcs2 hs2 h42 hK2 r2 c4
   go_wp2_with (refine wpList_store_row rfl 42 _ _ rfl N cs2 rfl rfl 42 cs hb2 hI hold hone ?_)
   go_roundg (rk u)
   case rel => exact ⟨u, cs2, rfl, rfl, hu, fun t ht => HT.out t (.up HUP.out ht), HB2.out.1, HB2.out.2.1, HB2.out.2.2, HK2.out⟩
   case measure => omega
theorem oroot_none (K : Nat -> Prop) (p : Nat) (i : Int) (M : Dm) (w : World) (h : DX K w p M) (hi : i < 0 \/ (M.n : Int) <= i) (hn : M.n <= 1000000) :
  Calls Try.prog 97 #[.pointer (some ⟨p, 0, none⟩), .int .i64 i] w fun e w' => e = .returned (.int .i64 (-1)) /\ Kept (fun k => k < w.heap.size) w w' := by
 have r1 := node_none K p M i w h hi hn
 clear h hi
 go_enter Try.func97, Try.ntmps97
 go_wp2_with fail
 refine r1.mono ?_
 rintro e v1 ⟨rfl, hK1⟩
 have HK : Hid (∀ o, Kept (fun k => k < w.heap.size) w (v1.alloc o)) := fun o => hK1.alloc (fun k h => Nat.lt_of_lt_of_le h hK1.size) o
 clear r1 hK1
 go_wp2
 go_ret
 exact ⟨rfl, HK.out _⟩
inductive OfOf (M : Dm) (i : Nat) : Int -> Prop
 | yes {t : Nat} : TopOf M i t -> (M.nd t).kind = 5 -> OfOf M i (t : Int)
 | no {t : Nat} : TopOf M i t -> (M.nd t).kind ≠ 5 -> OfOf M i (-1)
theorem OfOf.one {M : Dm} {i : Nat} {a b : Int} (h : OfOf M i a) (h' : OfOf M i b) : a = b := by
 cases h with
 | yes t1 k1 => cases h' with
  | yes t2 k2 => rw [t1.one t2]
  | no t2 k2 => rw [t1.one t2] at k1; exact absurd k1 k2
 | no t1 k1 => cases h' with
  | yes t2 k2 => rw [t1.one t2] at k1; exact absurd k2 k1
  | no t2 k2 => rfl
end
end Go.Proofs.Ytljnjdckhkglfaa
