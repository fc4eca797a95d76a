/-
  withAttribute.
-/
import Derived.Test.YtbbknbipppaemaaHa
namespace Go.Proofs.Ytbbknbipppaemaa
open Go.RowKit
set_option linter.unusedVariables false

/-- The same attributes with a: in the place of the one of its name, or behind all. -/
def setA (l : List Atr) (a : Atr) : List Atr := match l with
  | [] => [a]
  | x :: r => if x.name = a.name then a :: r else x :: setA r a
theorem setA_at : ∀ (l : List Atr) (a : Atr) (k : Nat) (h : k < l.length), l[k].name = a.name → (∀ x ∈ l.take k, x.name ≠ a.name) → setA l a = l.set k a
  | x :: r, a, 0, h, he, hn => by
    show (if x.name = a.name then a :: r else x :: setA r a) = _
    rw [if_pos (show x.name = a.name from he)]; rfl
  | x :: r, a, k + 1, h, he, hn => by
    show (if x.name = a.name then a :: r else x :: setA r a) = _
    rw [if_neg (hn x (by simp)), setA_at r a k (by simpa using h) he (fun y hy => hn y (by simp [hy]))]
    rfl
theorem setA_no : ∀ (l : List Atr) (a : Atr), (∀ x ∈ l, x.name ≠ a.name) → setA l a = l ++ [a]
  | [], a, _ => rfl
  | x :: r, a, hn => by
    show (if x.name = a.name then a :: r else x :: setA r a) = _
    rw [if_neg (hn x (by simp)), setA_no r a (fun y hy => hn y (by simp [hy]))]
    rfl
theorem atr_set : ∀ (l : List Atr) (k : Nat) (a : Atr), k < l.length → atrCells (l.set k a) = ((atrCells l).set (k * 2) (sv a.name)).set (k * 2 + 1) (sv a.value)
  | x :: r, 0, a, _ => rfl
  | x :: r, k + 1, a, h => by
    have ih := atr_set r k a (by simpa using h)
    show [sv x.name, sv x.value] ++ atrCells (r.set k a) = _
    rw [ih]
    show _ = ((sv x.name :: sv x.value :: atrCells r).set ((k + 1) * 2) _).set ((k + 1) * 2 + 1) _
    rw [show (k + 1) * 2 = (k * 2) + 1 + 1 by omega, show k * 2 + 1 + 1 + 1 = (k * 2 + 1) + 1 + 1 by omega]
    rfl
/-- One element of a row of one's own is written. -/
theorem OwnZ.setA {K : Nat → Prop} {w : World} {g n cap : Nat} {l : List Atr} (h : OwnZ K w 24 2 (some ⟨g, 0, none⟩) n cap (atrCells l)) (k : Nat) (a : Atr) (hk : k < l.length) :
    OwnZ K ((w.setCell ⟨g, k * 2, none⟩ (sv a.name)).setCell ⟨g, k * 2 + 1, none⟩ (sv a.value)) 24 2 (some ⟨g, 0, none⟩) n cap (atrCells (l.set k a)) := by
  obtain ⟨h1, h2, h3, h4⟩ := h
  rw [atr_set l k a hk]
  refine ⟨by rw [List.length_set, List.length_set]; exact h1, h2, h3, ?_⟩
  rcases h4 with ⟨r1, _⟩ | ⟨g', cur, r1, r2, r3, r4, r5⟩
  · cases r1
  · injection r1 with r1
    injection r1 with r1
    subst r1
    refine .inr ⟨g, _, rfl, r2, heap_setCell_at (heap_setCell_at r3 _ _) _ _, by simp [r4], ?_⟩
    rw [Array.toList_setIfInBounds, Array.toList_setIfInBounds, ← r5, List.take_set, List.take_set]

theorem appA {K : Nat → Prop} {w : World} {ao : Option Addr} {n cap : Nat} {l : List Atr} (h : OwnZ K w 24 2 ao n cap (atrCells l)) (hKl : ∀ k, K k → k < w.heap.size) (hn : n ≤ 1000000) (S T : ByteArray) :
    ∃ ao' cap' w', (Builtin.append_ #[22, 22] 22 #[.slice ao n cap, .slice (some ⟨w.heap.size, 0, none⟩) 1 1]).run Try.prog (w.alloc (.cells #[.string S, .string T] 24)) = .ok (.slice ao' (n + 1) cap') w' ∧ OwnZ K w' 24 2 ao' (n + 1) cap' (atrCells (l ++ [⟨S.toList, T.toList⟩])) ∧ Kept K w w' := by
  obtain ⟨i, hi, hip⟩ := Option.map_eq_some_iff.1 infoA
  have hz : i.zero = _ := congrArg (·.1) hip
  have hsz : i.size = 2 := congrArg (·.2.1) hip
  have hby : i.bytes = 32 := congrArg (·.2.2) hip
  obtain ⟨W, hW⟩ : ∃ W, w.alloc (.cells #[.string S, .string T] 24) = W := ⟨_, rfl⟩
  have kW : Kept (fun k => k < w.heap.size) w W := by rw [← hW]; exact (Kept.refl _ w).alloc (fun _ h => h) _
  have hs : Src Try.prog 2 22 (.slice (some ⟨w.heap.size, 0, none⟩) 1 1) 1 [.string S, .string T] W := by
    rw [← hW]
    refine src_newZ w w.heap.size [.string S, .string T] _ Try.underlying22 (by intro u hu; rcases List.mem_cons.1 hu with rfl | hu; rfl; rw [List.mem_singleton.1 hu]; rfl) rfl rfl
  have hO : OwnZ K W 24 2 ao n cap (atrCells l) := OwnZ.to h (fun g hg => (OwnZ.out h hg).1) (fun g hg => kW.block g (OwnZ.out h hg).2)
  obtain ⟨ao', cap', w', hr, ho, hk⟩ := run_appM (P := Try.prog) (K := K) W 22 22 22 24 i _ Try.underlying22 hi hz 2 hsz rfl (by omega) hO _ 1 (by omega) (by omega) _ hs (fun k hk => Nat.lt_of_lt_of_le (hKl k hk) kW.size) (by omega)
  refine ⟨ao', cap', w', by rw [hW]; exact hr, ?_, (kW.mono hKl).trans hk⟩
  rw [atrCells_append]
  have e : atrCells [⟨S.toList, T.toList⟩] = [.string S, .string T] := by
    have hS : (⟨S.toList.toArray⟩ : ByteArray) = S := by apply ByteArray.ext; rw [ByteArray.toList_eq]
    have hT : (⟨T.toList.toArray⟩ : ByteArray) = T := by apply ByteArray.ext; rw [ByteArray.toList_eq]
    show [sv S.toList, sv T.toList] = _
    unfold sv
    rw [hS, hT]
  rw [e]
  exact ho

set_option maxRecDepth 20000 in
set_option maxHeartbeats 1000000 in
theorem withA_any (l : List Atr) (n : Nat) (hln : l.length = n) (hn : n ≤ 1000000) (aa : Option Addr) (cap : Nat) (S T : ByteArray) (w : World) (ha : AtsAt (fun k => k < w.heap.size) w aa l) :
    Calls Try.prog 22 #[.slice aa n cap, .agg #[.string S, .string T]] w fun e w' => ∃ ao c, e = .returned (.slice ao (setA l ⟨S.toList, T.toList⟩).length c) ∧ OwnZ (fun k => k < w.heap.size) w' 24 2 ao (setA l ⟨S.toList, T.toList⟩).length c (atrCells (setA l ⟨S.toList, T.toList⟩)) ∧ Kept (fun k => k < w.heap.size) w w' := by
  obtain ⟨V, hV⟩ : ∃ V, w.alloc (.cells #[.string S, .string T] 24) = V := ⟨_, rfl⟩
  have kV : Kept (fun k => k < w.heap.size) w V := by rw [← hV]; exact (Kept.refl _ w).alloc (fun _ h => h) _
  obtain ⟨N, hN⟩ : ∃ N, w.heap.size = N := ⟨_, rfl⟩
  have hbV : V.heap[N]? = some (.cells #[.string S, .string T] 24) := by rw [← hV, ← hN]; exact heap_alloc_new w _
  have rc := copyA_any l aa n cap hln (by omega) V (ha.kept kV fun k h => Nat.lt_of_lt_of_le h kV.size)
  have HV : Hid (w.alloc (.cells #[.string S, .string T] 24) = V) := hV
  have HKV : Hid (Kept (fun k => k < w.heap.size) w V) := kV
  have HN : Hid (w.heap.size = N) := hN
  have HBV : Hid (V.heap[N]? = some (.cells #[.string S, .string T] 24)) := hbV
  have HL : Hid (l.length = n) := hln
  clear hV kV hN hbV ha hln
  go_enter Try.func22, Try.ntmps22
  go_upto_region 1 with fail
  rw [HV.out, HN.out]
  clear HV
  go_wp2_with fail
  refine rc.mono ?_
  rintro e w1 ⟨ao, c, rfl, hO, hK1⟩
  have hb1 : w1.heap[N]? = some (.cells #[.string S, .string T] 24) := (hK1.block N (lt_block HBV.out)).trans HBV.out
  obtain ⟨W, hW⟩ : ∃ W, w1.alloc (.cells #[.string S] 9) = W := ⟨_, rfl⟩
  have kW : Kept (fun k => k < w1.heap.size) w1 W := by rw [← hW]; exact (Kept.refl _ w1).alloc (fun _ h => h) _
  obtain ⟨B, hB⟩ : ∃ B, w1.heap.size = B := ⟨_, rfl⟩
  have hsW : W.cell? ⟨B, 0, none⟩ = some (.string S) := by rw [← hW, ← hB, cell_block (heap_alloc_new w1 _)]; rfl
  have rn := named_any S w1
  have ri := indexA_any l n HL.out hn ao c B S W ((hO.atsAt (K' := fun k => k < w1.heap.size) fun g hg => (OwnZ.out hO hg).2).kept kW fun k h => Nat.lt_of_lt_of_le h kW.size) hsW
  have c0 : w1.cell? ⟨N, 0, none⟩ = some (.string S) := by rw [cell_block hb1]; rfl
  have HO : Hid (OwnZ (fun k => k < V.heap.size) w1 24 2 ao n c (atrCells l)) := hO
  have HK1 : Hid (Kept (fun k => k < w.heap.size) w w1) := HKV.out.trans (hK1.mono fun k h => Nat.lt_of_lt_of_le h HKV.out.size)
  have HKW : Hid (Kept (fun k => k < w1.heap.size) w1 W) := kW
  have HVS : Hid (V.heap.size ≤ w1.heap.size) := hK1.size
  have HB1 : Hid (w1.heap[N]? = some (.cells #[.string S, .string T] 24)) := hb1
  have HWe : Hid (w1.alloc (.cells #[.string S] 9) = W) := hW
  have HBe : Hid (w1.heap.size = B) := hB
  clear rc hO hK1 hb1 hW kW hB hsW HBV
  go_wp2_with (go_at_call 29; refine rn.mono ?_; rintro e w2 ⟨rfl, hw2⟩; replace hw2 := hw2.symm; subst hw2)
  rw [HWe.out, HBe.out]
  refine ri.mono ?_
  rintro e w2 ⟨hres, hk2⟩
  have hb2 : w2.heap[N]? = some (.cells #[.string S, .string T] 24) := ((HKW.out.trans (hk2.mono fun k h => Nat.lt_of_lt_of_le h HKW.out.size)).block N (lt_block HB1.out)).trans HB1.out
  have hO2 : OwnZ (fun k => k < V.heap.size) w2 24 2 ao n c (atrCells l) := OwnZ.to HO.out (fun g hg => (OwnZ.out HO.out hg).1) (fun g hg => (HKW.out.trans (hk2.mono fun k h => Nat.lt_of_lt_of_le h HKW.out.size)).block g (OwnZ.out HO.out hg).2)
  have hK2 : Kept (fun k => k < w.heap.size) w w2 := HK1.out.trans ((HKW.out.trans (hk2.mono fun k h => Nat.lt_of_lt_of_le h HKW.out.size)).mono fun k h => Nat.lt_of_lt_of_le h HK1.out.size)
  have hO3 : OwnZ (fun k => k < w.heap.size) w2 24 2 ao n c (atrCells l) := OwnZ.to hO2 (fun g hg hh => (OwnZ.out hO2 hg).1 (Nat.lt_of_lt_of_le hh HKV.out.size)) (fun _ _ => rfl)
  have e0 : w2.cell? ⟨N, 0, none⟩ = some (.string S) := by rw [cell_block hb2]; rfl
  have e1 : w2.cell? ⟨N, 1, none⟩ = some (.string T) := by rw [cell_block hb2]; rfl
  clear rn ri c0 hk2 HO HK1 HKW HVS HB1 HWe HBe hO2 hb2
  rcases hres with ⟨k, hk, rfl, hname, hno⟩ | ⟨rfl, hno⟩
  · have HS : Hid (setA l ⟨S.toList, T.toList⟩ = l.set k ⟨S.toList, T.toList⟩) := setA_at l _ k hk hname hno
    obtain ⟨c0, c1⟩ := atr_get l k hk
    obtain ⟨g, rfl, d0⟩ := hO3.cell c0
    obtain ⟨g', eg, d1⟩ := hO3.cell c1
    have : g' = g := by injection eg with eg; injection eg with eg; exact eg.symm
    subst this
    have hV4 := hO3.setA k ⟨S.toList, T.toList⟩ hk
    have hS : (⟨S.toList.toArray⟩ : ByteArray) = S := by apply ByteArray.ext; rw [ByteArray.toList_eq]
    have hT : (⟨T.toList.toArray⟩ : ByteArray) = T := by apply ByteArray.ext; rw [ByteArray.toList_eq]
    dsimp only [sv] at hV4
    rw [hS, hT] at hV4
    have hgk : ¬ g' < w.heap.size := (OwnZ.out hO3 (g := g') rfl).1
    have hK4 : Kept (fun k => k < w.heap.size) w ((w2.setCell ⟨g', k * 2, none⟩ (.string S)).setCell ⟨g', k * 2 + 1, none⟩ (.string T)) := (hK2.setCell (p := ⟨g', k * 2, none⟩) hgk _).setCell (p := ⟨g', k * 2 + 1, none⟩) hgk _
    have HV4 : Hid (OwnZ (fun k => k < w.heap.size) ((w2.setCell ⟨g', k * 2, none⟩ (.string S)).setCell ⟨g', k * 2 + 1, none⟩ (.string T)) 24 2 (some ⟨g', 0, none⟩) n c (atrCells (l.set k ⟨S.toList, T.toList⟩))) := hV4
    have HK4 : Hid (Kept (fun k => k < w.heap.size) w ((w2.setCell ⟨g', k * 2, none⟩ (.string S)).setCell ⟨g', k * 2 + 1, none⟩ (.string T))) := hK4
    clear hV4 hS hT hgk hK4 eg c0 c1
    unfold sv at d0 d1
    have hfz : ∀ j, w2.frozen? ⟨g', j, none⟩ = false := fun j => by
      rcases hO3.2.2.2 with ⟨r1, _⟩ | ⟨g2, cur, r1, r2, r3, r4⟩
      · cases r1
      · injection r1 with r1
        injection r1 with r1
        subst r1
        exact frozen_block r3 j
    have f0 := hfz (k * 2)
    have f1 := hfz (k * 2 + 1)
    have hkn : k < n := by rw [← HL.out]; exact hk
    clear hO3 hK2 hfz hname hno
    go_wp2
    go_ret
    refine ⟨some ⟨g', 0, none⟩, c, ?_, ?_, HK4.out⟩
    · rw [HS.out, List.length_set, HL.out]; try rfl
    · rw [HS.out, List.length_set, HL.out]; exact HV4.out
  · have HS : Hid (setA l ⟨S.toList, T.toList⟩ = l ++ [⟨S.toList, T.toList⟩]) := setA_no l _ hno
    obtain ⟨ao', c', w', hr, hO4, hK4⟩ := appA hO3 (fun k h => Nat.lt_of_lt_of_le h hK2.size) hn S T
    have HO4 : Hid (OwnZ (fun k => k < w.heap.size) w' 24 2 ao' (n + 1) c' (atrCells (l ++ [⟨S.toList, T.toList⟩]))) := hO4
    have HK4 : Hid (Kept (fun k => k < w.heap.size) w w') := hK2.trans hK4
    clear hO3 hK2 hO4 hK4 hno
    go_wp2_with (at_builtin; refine wpList_appR (w' := w') rfl (.tmp 21) (.tmp 23) 22 22 rfl _ _ (.slice ao' (n + 1) c') rfl rfl hr ?_)
    go_ret
    refine ⟨ao', c', ?_, ?_, HK4.out⟩
    · rw [HS.out, List.length_append, HL.out]; rfl
    · rw [HS.out, List.length_append, HL.out]; exact HO4.out
end Go.Proofs.Ytbbknbipppaemaa
