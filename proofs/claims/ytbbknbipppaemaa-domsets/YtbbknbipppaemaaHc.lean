/-
  Doc.Set.
-/
import Derived.Test.YtbbknbipppaemaaHb
namespace Go.Proofs.Ytbbknbipppaemaa
open Go.RowKit
set_option linter.unusedVariables false

/-- A node's attributes are others from now on: a row that is new. -/
theorem DY.setAttrs {K : Nat → Prop} {w0 w : World} {p : Nat} {S : Dm} {g : Nat} {cap : Nat} (h : DY K w0 p S (some ⟨g, 0, none⟩) cap) (hk : Kept (fun k => k < w0.heap.size) w0 w) {i : Nat} (hi : i < S.n) {l : List Atr} {ao : Option Addr} {n c : Nat} (hln : l.length = n) (hO : OwnZ (fun k => k < w0.heap.size) w 24 2 ao n c (atrCells l)) :
    DY K (w.setCell ⟨g, i * 22 + 3, none⟩ (.slice ao n c)) p (S.setN i { S.nd i with attrs := l }) (some ⟨g, 0, none⟩) cap ∧ Kept K w0 (w.setCell ⟨g, i * 22 + 3, none⟩ (.slice ao n c)) := by
  subst hln
  obtain ⟨gk, gp, gl⟩ := h.gk
  have kG : Kept (fun k => k ≠ g) w (w.setCell ⟨g, i * 22 + 3, none⟩ (.slice ao l.length c)) := (Kept.refl _ w).setCell (p := ⟨g, i * 22 + 3, none⟩) (fun h => h rfl) _
  obtain ⟨h1, h2, h3, xs, aa, ac, ho, hx, ha, hs⟩ := h
  have hp := lt_block h3
  have kO : Kept (fun k => k < w0.heap.size ∧ k ≠ g) w0 (w.setCell ⟨g, i * 22 + 3, none⟩ (.slice ao l.length c)) := (hk.mono fun k h => h.1).trans (kG.mono fun k h => h.2)
  refine ⟨⟨fun k hk' => Nat.lt_of_lt_of_le (h1 k hk') kO.size, h2, by rw [kO.block p ⟨hp, fun e => gp e.symm⟩]; exact h3, xs.set (i * 22 + 3) (.slice ao l.length c), fun j => if j = i then ao else aa j, fun j => if j = i then c else ac j, ?_, ?_, ?_, ?_⟩, kO.mono fun k hk' => ⟨h1 k hk', fun e => gk (e ▸ hk')⟩⟩
  · obtain ⟨o1, o2, o3, o4⟩ := ho
    refine ⟨by rw [List.length_set]; exact o1, o2, o3, ?_⟩
    rcases o4 with ⟨r1, _⟩ | ⟨g', cur, r1, r2, r3, r4, r5⟩
    · cases r1
    · injection r1 with r1
      injection r1 with r1
      subst r1
      have r3' : w.heap[g]? = some (.cells cur 66 (0, 0)) := (hk.block g gl).trans r3
      refine .inr ⟨g, _, rfl, r2, heap_setCell_at r3' _ _, by simp [r4], ?_⟩
      rw [Array.toList_setIfInBounds, ← r5, List.take_set]
      rfl
  · intro j hj f u hu
    have hj' : j < S.n := hj
    have hf : f < 22 := by
      rcases Nat.lt_or_ge f 22 with hh | hh
      · exact hh
      · rw [List.getElem?_eq_none (by rw [Dm.cells_len]; exact hh)] at hu; cases hu
    by_cases cj : j = i
    · subst cj
      have e : (S.setN j { S.nd j with attrs := l }).cells j (if j = j then ao else aa j) (if j = j then c else ac j) = (S.cells j (aa j) (ac j)).set 3 (.slice ao l.length c) := by
        simp only [Dm.cells, Dm.setN, if_pos]
        rfl
      rw [e] at hu
      by_cases c2 : f = 3
      · subst c2
        have hl : j * 22 + 3 < xs.length := by rw [ho.1]; have := Nat.mul_le_mul_right 22 hi; omega
        rw [List.getElem?_set_self (by rw [Dm.cells_len]; exact hf)] at hu
        rw [List.getElem?_set_self hl]
        exact hu
      · rw [List.getElem?_set_ne (by omega)] at hu
        rw [List.getElem?_set_ne (by omega)]
        exact hx j hj' f u hu
    · have e : (S.setN i { S.nd i with attrs := l }).cells j (if j = i then ao else aa j) (if j = i then c else ac j) = S.cells j (aa j) (ac j) := by
        simp only [Dm.cells, Dm.setN, if_neg cj]
      rw [e] at hu
      rw [List.getElem?_set_ne (by omega)]
      exact hx j hj' f u hu
  · intro j hj
    have hj' : j < S.n := hj
    by_cases cj : j = i
    · subst cj
      have e : ((S.setN j { S.nd j with attrs := l }).nd j).attrs = l := by simp only [Dm.setN, if_pos]
      rw [e]
      dsimp only
      rw [if_pos rfl, if_pos rfl]
      refine OwnZ.to hO (fun x hx hh => (OwnZ.out hO hx).1 ?_) (fun x hx => kG.block x fun e => (OwnZ.out hO hx).1 (e ▸ gl))
      rcases hh with hh | hh | hh
      · exact h1 x hh
      · rw [hh]; exact hp
      · have : x = g := by have hh' : some (⟨g, 0, none⟩ : Addr) = some ⟨x, 0, none⟩ := hh; injection hh' with hh'; injection hh' with hh'; exact hh'.symm
        rw [this]; exact gl
    · have e : ((S.setN i { S.nd i with attrs := l }).nd j).attrs = (S.nd j).attrs := by simp only [Dm.setN, if_neg cj]
      rw [e]
      dsimp only
      rw [if_neg cj, if_neg cj]
      exact OwnZ.to (ha j hj') (fun x hx => ((ha j hj').out hx).1) (fun x hx => kO.block x ⟨((ha j hj').out hx).2, fun e => ((ha j hj').out hx).1 (.inr (.inr (e ▸ rfl)))⟩)
  · intro j k hj hk' hne x hx1 hx2
    have hj' : j < S.n := hj
    have hk2 : k < S.n := hk'
    dsimp only at hx1 hx2
    by_cases cj : j = i
    · have ck : ¬ k = i := fun e => hne (cj.trans e.symm)
      rw [if_pos cj] at hx1
      rw [if_neg ck] at hx2
      exact (OwnZ.out hO hx1).1 ((ha k hk2).out hx2).2
    · rw [if_neg cj] at hx1
      by_cases ck : k = i
      · rw [if_pos ck] at hx2
        exact (OwnZ.out hO hx2).1 ((ha j hj').out hx1).2
      · rw [if_neg ck] at hx2
        exact hs j k hj' hk2 hne x hx1 hx2

theorem setA_mem : ∀ (l : List Atr) (a x : Atr), x ∈ setA l a → x ∈ l ∨ x = a
  | [], a, x, h => by
    rw [show setA [] a = [a] from rfl, List.mem_singleton] at h
    exact .inr h
  | y :: r, a, x, h => by
    rw [show setA (y :: r) a = if y.name = a.name then a :: r else y :: setA r a from rfl] at h
    by_cases c : y.name = a.name
    · rw [if_pos c] at h
      rcases List.mem_cons.1 h with h | h
      · exact .inr h
      · exact .inl (List.mem_cons_of_mem _ h)
    · rw [if_neg c] at h
      rcases List.mem_cons.1 h with h | h
      · exact .inl (h ▸ List.mem_cons_self ..)
      · rcases setA_mem r a x h with h | h
        · exact .inl (List.mem_cons_of_mem _ h)
        · exact .inr h
theorem setA_len : ∀ (l : List Atr) (a : Atr), (setA l a).length ≤ l.length + 1
  | [], a => by rw [show setA [] a = [a] from rfl]; simp
  | y :: r, a => by
    rw [show setA (y :: r) a = if y.name = a.name then a :: r else y :: setA r a from rfl]
    have := setA_len r a
    by_cases c : y.name = a.name
    · rw [if_pos c]; simp
    · rw [if_neg c]; simp; omega

set_option maxRecDepth 20000 in
set_option maxHeartbeats 2000000 in
theorem set_in (K : Nat → Prop) (p i : Nat) (M : Dm) (S T : ByteArray) (w : World) (h : DX K w p M) (hi : i < M.n) (hMn : M.n ≤ 1000000) (hkd : (M.nd i).kind = 1) (hfew : (M.nd i).attrs.length ≤ 100000) (hsz : ∀ x ∈ (M.nd i).attrs, x.name.length ≤ 1000000000 ∧ x.value.length ≤ 1000000000) (hS : S.size ≤ 1000000000) (hT : T.size ≤ 1000000000) :
    Calls Try.prog 10 #[.pointer (some ⟨p, 0, none⟩), .int .i64 (i : Int), .string S, .string T] w fun e w' =>
      ((soundL [⟨0, 1, (M.nd i).name, setA (M.nd i).attrs ⟨S.toList, T.toList⟩, []⟩] = true ∧ e = .returned (.int .u16 0) ∧ DX K w' p (M.setN i { M.nd i with attrs := setA (M.nd i).attrs ⟨S.toList, T.toList⟩ })) ∨
        (soundL [⟨0, 1, (M.nd i).name, setA (M.nd i).attrs ⟨S.toList, T.toList⟩, []⟩] = false ∧ e = .returned (.int .u16 82) ∧ DX K w' p M)) ∧ Kept K w w' := by
  obtain ⟨ga, gc, hY⟩ := h
  obtain ⟨g, rfl, -, -, -⟩ := hY.at (by omega)
  obtain ⟨aa, ac, hc, hO⟩ := hY.cell hi
  have c0 : w.cell? ⟨g, i * 22, none⟩ = some (.int .u8 1) := by have := hc 0 _ rfl; rw [hkd] at this; exact this
  have c1 : w.cell? ⟨g, i * 22 + 1, none⟩ = some (.string ⟨(M.nd i).name.toArray⟩) := hc 1 _ rfl
  have c3 : w.cell? ⟨g, i * 22 + 3, none⟩ = some (.slice aa (M.nd i).attrs.length ac) := hc 3 _ rfl
  have re := element_yes p g M.n gc i 81 w hY.c1 hi (by omega) c0
  have gl := hY.gk.2.2
  have rw' := withA_any (M.nd i).attrs _ rfl (by omega) aa ac S T w (hO.atsAt (K' := fun k => k < w.heap.size) fun x hx => (OwnZ.out hO hx).2)
  obtain ⟨nm, hnm⟩ : ∃ nm, (M.nd i).name = nm := ⟨_, rfl⟩
  obtain ⟨l0, hl0⟩ : ∃ l0, (M.nd i).attrs = l0 := ⟨_, rfl⟩
  obtain ⟨l, hl⟩ : ∃ l, setA (M.nd i).attrs ⟨S.toList, T.toList⟩ = l := ⟨_, rfl⟩
  have hll : l.length ≤ 100001 := by rw [← hl]; have := setA_len (M.nd i).attrs ⟨S.toList, T.toList⟩; omega
  have hlz : ∀ x ∈ l, x.name.length ≤ 1000000000 ∧ x.value.length ≤ 1000000000 := fun x hx => by
    rw [← hl] at hx
    rcases setA_mem _ _ _ hx with h | h
    · exact hsz x h
    · rw [h]
      have e1 : S.toList.length = S.size := by rw [ByteArray.toList_eq]; rfl
      have e2 : T.toList.length = T.size := by rw [ByteArray.toList_eq]; rfl
      exact ⟨by show S.toList.length ≤ _; omega, by show T.toList.length ≤ _; omega⟩
  rw [hl] at rw' ⊢
  rw [hl0] at rw' c3
  rw [hnm] at c1 ⊢
  obtain ⟨n0, hn0⟩ : ∃ n0, l0.length = n0 := ⟨_, rfl⟩
  rw [hn0] at rw' c3
  obtain ⟨n, hn⟩ : ∃ n, l.length = n := ⟨_, rfl⟩
  rw [hn] at rw'
  have HY : Hid (DY K w p M (some ⟨g, 0, none⟩) gc) := hY
  have HLZ : Hid (∀ x ∈ l, x.name.length ≤ 1000000000 ∧ x.value.length ≤ 1000000000) := hlz
  have HN : Hid (l.length = n) := hn
  have HLL : Hid (l.length ≤ 100001) := hll
  have hfg := hY.fg (i * 22 + 3)
  clear hY hc hO hlz hn hll hfew hsz hS hT hkd hn0 hl hl0 hnm c0
  go_enter Try.func10, Try.ntmps10
  go_upto_region 4 with (go_at_call 21; refine re.mono ?_; rintro e w2 ⟨rfl, hw2⟩; replace hw2 := hw2.symm; subst hw2)
  clear re
  go_wp2_with fail
  refine rw'.mono ?_
  rintro e w1 ⟨ao, c, rfl, hO, hK⟩
  have hc1 : w1.cell? ⟨g, i * 22 + 1, none⟩ = some (.string ⟨nm.toArray⟩) := (hK.cell (p := ⟨g, i * 22 + 1, none⟩) gl).trans c1
  obtain ⟨N, hN⟩ : ∃ N, w1.heap.size = N := ⟨_, rfl⟩
  have ri := iz1 w1 N hN 1 1 rfl ⟨nm.toArray⟩ ⟨#[]⟩ l ao n c HN.out (hO.atsAt (K' := fun k => k < w1.heap.size) fun x hx => (OwnZ.out hO hx).2) (by have := HLL.out; have := HN.out; omega) HLZ.out
  rw [ByteArray.toList_eq, ByteArray.toList_eq] at ri
  obtain ⟨q, hq⟩ : ∃ q, soundL [⟨0, 1, nm, l, []⟩] = q := ⟨_, rfl⟩
  have HRI : Hid (Calls Try.prog 23 #[.slice (some ⟨N, 0, none⟩) 1 1] (w1.alloc (.cells #[.int .i64 0, .int .u8 1, .string ⟨nm.toArray⟩, .string ⟨#[]⟩, .slice ao n c] 69)) fun e w' => e = .returned (.bool q) ∧ Kept (fun k => k < w1.heap.size) w1 w') := by rw [← hq]; exact ri
  have HO : Hid (OwnZ (fun k => k < w.heap.size) w1 24 2 ao n c (atrCells l)) := hO
  have HK : Hid (Kept (fun k => k < w.heap.size) w w1) := hK
  have HQ : Hid (soundL [⟨0, 1, nm, l, []⟩] = q) := hq
  have HNe : Hid (w1.heap.size = N) := hN
  clear rw' hO hK hN ri hq c1
  go_wp2_with fail
  rw [HNe.out]
  refine HRI.out.mono ?_
  rintro e w2 ⟨rfl, hk2⟩
  have hK2 : Kept (fun k => k < w.heap.size) w w2 := HK.out.trans (hk2.mono fun k h => Nat.lt_of_lt_of_le h HK.out.size)
  have hO2 : OwnZ (fun k => k < w.heap.size) w2 24 2 ao n c (atrCells l) := OwnZ.to HO.out (fun x hx => (OwnZ.out HO.out hx).1) (fun x hx => hk2.block x (OwnZ.out HO.out hx).2)
  have hc3 : w2.cell? ⟨g, i * 22 + 3, none⟩ = some (.slice aa n0 ac) := (hK2.cell (p := ⟨g, i * 22 + 3, none⟩) gl).trans c3
  have hf3 : w2.frozen? ⟨g, i * 22 + 3, none⟩ = false := (hK2.frozen (p := ⟨g, i * 22 + 3, none⟩) gl).trans hfg
  cases q with
  | true =>
    obtain ⟨hY4, hK4⟩ := HY.out.setAttrs hK2 hi HN.out hO2
    have HY4 : Hid (DX K (w2.setCell ⟨g, i * 22 + 3, none⟩ (.slice ao n c)) p (M.setN i { M.nd i with attrs := l })) := ⟨_, _, hY4⟩
    have HK4 : Hid (Kept K w (w2.setCell ⟨g, i * 22 + 3, none⟩ (.slice ao n c))) := hK4
    clear HRI hk2 hK2 hO2 hY4 hK4 hc1 c3 hfg
    go_wp2
    go_ret
    exact ⟨.inl ⟨HQ.out, rfl, HY4.out⟩, HK4.out⟩
  | false =>
    have HX2 : Hid (DX K w2 p M) := ⟨_, _, HY.out.kept hK2⟩
    have HK2 : Hid (Kept K w w2) := hK2.mono HY.out.1
    clear HRI hk2 hK2 hO2 hc1 c3 hfg hc3 hf3
    go_wp2
    go_ret
    exact ⟨.inr ⟨HQ.out, rfl, HX2.out⟩, HK2.out⟩
end Go.Proofs.Ytbbknbipppaemaa
