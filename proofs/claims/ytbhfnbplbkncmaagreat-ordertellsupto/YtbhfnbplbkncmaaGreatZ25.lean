/-
  The document's own Drop.
  The document's own Set.
  The document's own Given, Slot.
  The document's own Insert: what it refuses, one node.
-/
import Derived.Test.YtbhfnbplbkncmaaGreatZ24
namespace Go.Proofs.YtbhfnbplbkncmaaGreat
open Go.RowKit Go.Sort
set_option linter.unusedVariables false
set_option maxRecDepth 20000 in
set_option maxHeartbeats 2000000 in
theorem rdrop_none (K : Nat → Prop) (p i : Nat) (M : Dm) (R G : Nat → List Nat) (S : ByteArray) (w : World) (h : RX K w p M R G) (hi : i < M.n) (hn : M.n ≤ 1000000) (hkd : (M.nd i).kind = 1) (hl : (M.nd i).attrs.length ≤ 1000000) (hf : ∀ x ∈ (M.nd i).attrs, x.name ≠ S.toList) :
    Calls Tryz.prog 96 #[.pointer (some ⟨p, 0, none⟩), .int .i64 (i : Int), .string S] w fun e w' => e = .returned (.int .i64 82) ∧ w' = w := by
  have re := relem_any K p M R G (i : Int) w h hn
  rw [if_pos ⟨by omega, by omega⟩, Int.toNat_natCast, if_pos hkd] at re
  have rf : Calls Tryz.prog 158 #[.pointer (some ⟨p, 0, none⟩), .int .i64 (i : Int), .string S] w fun e w' => e = .returned (.int .i64 (-1)) ∧ w' = w := (rfind_any K p i M R G S w h hi hn hl).mono fun e w' ⟨z, hz, he, hw⟩ => ⟨by rw [he, hz.one (.no hf)], hw⟩
  clear h hf
  go_enter Tryz.func96, Tryz.ntmps96
  go_wp2_with (first | (go_at_call 157; refine re.mono ?_; rintro e1 w3 ⟨rfl, hw3⟩; replace hw3 := hw3.symm; subst hw3) | (go_at_call 158; refine rf.mono ?_; rintro e1 w3 ⟨rfl, hw3⟩; replace hw3 := hw3.symm; subst hw3))
  go_ret
  exact ⟨rfl, rfl⟩
set_option maxRecDepth 20000 in
set_option maxHeartbeats 2000000 in
theorem rdrop_in (K : Nat → Prop) (p i k : Nat) (M : Dm) (R G : Nat → List Nat) (S : ByteArray) (w : World) (h : RX K w p M R G) (hi : i < M.n) (hn : M.n ≤ 1000000) (hkd : (M.nd i).kind = 1) (hl : (M.nd i).attrs.length ≤ 1000000) (hk : k < (M.nd i).attrs.length) (hf : FindA (M.nd i).attrs S.toList (k : Int)) :
    Calls Tryz.prog 96 #[.pointer (some ⟨p, 0, none⟩), .int .i64 (i : Int), .string S] w fun e w' => e = .returned (.int .i64 0) ∧ Kept K w w' ∧ RX K w' p (M.setN i { M.nd i with attrs := (M.nd i).attrs.eraseIdx k }) R G := by
  have re := relem_any K p M R G (i : Int) w h hn
  rw [if_pos ⟨by omega, by omega⟩, Int.toNat_natCast, if_pos hkd] at re
  have rf : Calls Tryz.prog 158 #[.pointer (some ⟨p, 0, none⟩), .int .i64 (i : Int), .string S] w fun e w' => e = .returned (.int .i64 (k : Int)) ∧ w' = w := (rfind_any K p i M R G S w h hi hn hl).mono fun e w' ⟨z, hz, he, hw⟩ => ⟨by rw [he, hz.one (hf)], hw⟩
  obtain ⟨A, h⟩ := h
  obtain ⟨g, hg, -, -, hgl⟩ := h.nat (by omega)
  have hpl := h.plt
  have c1 := h.c1
  rw [hg] at c1
  have c3 : w.cell? ⟨g, i * 14 + 3, none⟩ = some (.slice (A.aa i) (M.nd i).attrs.length (A.ac i)) := h.cell hg hi 3 _ rfl
  have hat : AtsAt (fun k => k < w.heap.size) w (A.aa i) (M.nd i).attrs := (h.ats i hi).to (fun _ h => h.1) (fun _ _ => rfl)
  have hcap := h.acl i hi
  obtain ⟨g1, o1, hae, hg1l, -⟩ := hat k hk
  rw [hae] at c3 hat
  obtain ⟨l, hle⟩ : ∃ l, (M.nd i).attrs = l := ⟨_, rfl⟩
  obtain ⟨ac, hac⟩ : ∃ ac, A.ac i = ac := ⟨_, rfl⟩
  obtain ⟨n, hne⟩ : ∃ n, l.length = n := ⟨_, rfl⟩
  rw [hle] at hk hl hat
  rw [hle, hac, hne] at c3
  rw [hle, hac, hne] at hcap
  rw [hne] at hk hl
  have ra := rattrs_any (l.take k) (some ⟨g1, o1, none⟩) k ac (by rw [List.length_take]; omega) (by omega) w (hat.take k)
  have HY : Hid (RY K w p M R G A) := h
  have HG : Hid (A.na = some ⟨g, 0, none⟩) := hg
  have HA : Hid (AtsAt (fun k => k < w.heap.size) w (some ⟨g1, o1, none⟩) l) := hat
  have HL : Hid (l.length = n) := hne
  have HE : Hid ((M.nd i).attrs = l) := hle
  have e0 : decide ((k : Int) < 0) = false := decide_eq_false (by omega)
  clear h hg hat hle hne hac hkd hf hae
  go_enter Tryz.func96, Tryz.ntmps96
  go_wp2_with (first | (go_at_call 157; refine re.mono ?_; rintro e1 w3 ⟨rfl, hw3⟩; replace hw3 := hw3.symm; subst hw3) | (go_at_call 158; refine rf.mono ?_; rintro e1 w3 ⟨rfl, hw3⟩; replace hw3 := hw3.symm; subst hw3))
  refine ra.mono ?_
  rintro e1 w3 ⟨ao, c, rfl, hO, hk3⟩
  have c1w : w3.cell? ⟨p, 1, none⟩ = some (.slice (some ⟨g, 0, none⟩) M.n A.nc) := (hk3.cell (p := ⟨p, 1, none⟩) hpl).trans c1
  have c3w : w3.cell? ⟨g, i * 14 + 3, none⟩ = some (.slice (some ⟨g1, o1, none⟩) n ac) := (hk3.cell (p := ⟨g, i * 14 + 3, none⟩) hgl).trans c3
  have HA3 : Hid (AtsAt (fun k => k < w3.heap.size) w3 (some ⟨g1, o1, none⟩) l) := HA.out.kept hk3 fun k h => Nat.lt_of_lt_of_le h hk3.size
  have HO : Hid (OwnZ (fun k => k < w.heap.size) w3 140 2 ao k c (atrCells (l.take k))) := hO
  have HK3 : Hid (Kept (fun k => k < w.heap.size) w w3) := hk3
  clear ra re rf hO hk3 c1 c3 e0
  have FIN : Hid (∀ (w4 : World) (ao' : Option Addr) (m cap' : Nat) (r : List Atr), r.length = m → r = l.eraseIdx k → OwnZ (fun k => k < w.heap.size) w4 140 2 ao' m cap' (atrCells r) → Kept (fun k => k < w.heap.size) w3 w4 →
      w4.cell? ⟨p, 1, none⟩ = some (.slice (some ⟨g, 0, none⟩) M.n A.nc) ∧ w4.cell? ⟨g, i * 14 + 3, none⟩ = some (.slice (some ⟨g1, o1, none⟩) n ac) ∧ w4.frozen? ⟨g, i * 14 + 3, none⟩ = false ∧
      Hid (Kept K w (w4.setCell ⟨g, i * 14 + 3, none⟩ (.slice ao' m cap')) ∧ RX K (w4.setCell ⟨g, i * 14 + 3, none⟩ (.slice ao' m cap')) p (M.setN i { M.nd i with attrs := (M.nd i).attrs.eraseIdx k }) R G)) := fun w4 ao' m cap' r hm hr hO hK => by
    have k4 : Kept (fun k => k < w.heap.size) w w4 := HK3.out.trans hK
    refine ⟨(hK.cell (p := ⟨p, 1, none⟩) hpl).trans c1w, (hK.cell (p := ⟨g, i * 14 + 3, none⟩) hgl).trans c3w, (k4.frozen (p := ⟨g, i * 14 + 3, none⟩) hgl).trans (HY.out.fg HG.out _), ?_⟩
    have ha : AtsAt (fun x => w.heap.size ≤ x ∧ x < w4.heap.size) w4 ao' r := hO.atsAt fun x hx => ⟨Nat.le_of_not_lt (OwnZ.out hO hx).1, (OwnZ.out hO hx).2⟩
    obtain ⟨hY5, hK5⟩ := HY.out.setAts k4 HG.out hi r ao' cap' ha (by rw [hm]; exact hO.2.1)
    rw [hm] at hY5 hK5
    have kk : Kept K w (w4.setCell ⟨g, i * 14 + 3, none⟩ (.slice ao' m cap')) := (k4.mono HY.out.lt).trans hK5
    have rx : RX K (w4.setCell ⟨g, i * 14 + 3, none⟩ (.slice ao' m cap')) p (M.setN i { M.nd i with attrs := (M.nd i).attrs.eraseIdx k }) R G := by
      rw [HE.out, ← hr]
      exact ⟨_, hY5⟩
    exact (show Hid _ from ⟨kk, rx⟩)
  by_cases hz : ac = k + 1
  · subst hz
    have hnk : n = k + 1 := by omega
    subst hnk
    obtain ⟨ao', cap', w4, hr, hO4, hK4⟩ := appAs HO.out (fun k h => Nat.lt_of_lt_of_le h HK3.out.size) (by omega) [] (some ⟨g1, o1, none⟩) 0 0 rfl (by omega) (AtsAt.nil _ _ _)
    rw [Nat.add_zero] at hr hO4
    obtain ⟨d1, d3, d4, HF⟩ := FIN.out w4 ao' k cap' _ (by rw [List.length_append, List.length_take, HL.out]; simp) (by rw [List.eraseIdx_eq_take_drop_succ, List.drop_of_length_le (by rw [HL.out]; exact Nat.le_refl _)]) hO4 hK4
    clear hO4 hK4 FIN
    go_wp2_with (at_builtin; refine wpList_appR (w' := w4) rfl (.tmp 33) (.tmp 44) 31 31 rfl _ _ (.slice ao' k cap') rfl rfl hr ?_)
    go_ret
    exact ⟨rfl, HF.out.1, HF.out.2⟩
  · have hlt : k + 1 < ac := by omega
    have ea : decide (ac = k + 1) = false := decide_eq_false hz
    obtain ⟨ao', cap', w4, hr, hO4, hK4⟩ := appAs HO.out (fun k h => Nat.lt_of_lt_of_le h HK3.out.size) (by omega) (l.drop (k + 1)) (some ⟨g1, o1 + (k + 1) * 2, none⟩) (n - (k + 1)) (ac - (k + 1)) (by rw [List.length_drop, HL.out]) (by omega) (HA3.out.drop (k + 1))
    obtain ⟨d1, d3, d4, HF⟩ := FIN.out w4 ao' (k + (n - (k + 1))) cap' _ (by rw [List.length_append, List.length_take, List.length_drop, HL.out]; omega) (by rw [List.eraseIdx_eq_take_drop_succ]) hO4 hK4
    clear hO4 hK4 FIN
    go_wp2_with (at_builtin; refine wpList_appR (w' := w4) rfl (.tmp 33) (.tmp 44) 31 31 rfl _ _ (.slice ao' (k + (n - (k + 1))) cap') rfl rfl hr ?_)
    go_ret
    exact ⟨rfl, HF.out.1, HF.out.2⟩
end Go.Proofs.YtbhfnbplbkncmaaGreat

namespace Go.Proofs.YtbhfnbplbkncmaaGreat
open Go.RowKit Go.Sort
set_option linter.unusedVariables false
set_option maxRecDepth 20000 in
set_option maxHeartbeats 2000000 in
theorem rset_bad (K : Nat → Prop) (p i : Nat) (M : Dm) (R G : Nat → List Nat) (S T : ByteArray) (w : World) (h : RX K w p M R G) (hi : i < M.n) (hn : M.n ≤ 1000000) (hkd : (M.nd i).kind = 1) (hl : (M.nd i).attrs.length ≤ 1000000) (hS : S.size < 1000000) (z : Int) (hf : FindA (M.nd i).attrs S.toList z) (q : Bool) (hq : writP ⟨S.toList, T.toList⟩ = q) (hb : q = false ∨ (z = -1 ∧ 50 ≤ (M.nd i).attrs.length)) :
    Calls Tryz.prog 94 #[.pointer (some ⟨p, 0, none⟩), .int .i64 (i : Int), .string S, .string T] w fun e w' => e = .returned (.int .i64 82) ∧ Kept K w w' ∧ RX K w' p M R G := by
  obtain ⟨W, hW⟩ : ∃ W, w.alloc (.cells #[.string S, .string T] 140) = W := ⟨_, rfl⟩
  obtain ⟨N, hN⟩ : ∃ N, w.heap.size = N := ⟨_, rfl⟩
  have kW : Kept (fun k => k < w.heap.size) w W := by rw [← hW]; exact (Kept.refl _ w).alloc (fun _ h => h) _
  have b0 : W.heap[N]? = some (.cells #[.string S, .string T] 140 (0, 0)) := by rw [← hW, ← hN]; exact heap_alloc_new w _
  have hXW : RX K W p M R G := h.kept kW
  have re := relem_any K p M R G (i : Int) w h hn
  rw [if_pos ⟨by omega, by omega⟩, Int.toNat_natCast, if_pos hkd] at re
  have rf : Calls Tryz.prog 158 #[.pointer (some ⟨p, 0, none⟩), .int .i64 (i : Int), .string S] W fun e w' => e = .returned (.int .i64 z) ∧ w' = W := (rfind_any K p i M R G S W hXW hi hn hl).mono fun e w' ⟨z', hz, he, hw⟩ => ⟨by rw [he, hz.one hf], hw⟩
  obtain ⟨A, hY⟩ := hXW
  obtain ⟨g, hg, -, -, hgl⟩ := hY.nat (by omega)
  have hpl := hY.plt
  have c1 := hY.c1
  rw [hg] at c1
  have c3 : W.cell? ⟨g, i * 14 + 3, none⟩ = some (.slice (A.aa i) (M.nd i).attrs.length (A.ac i)) := hY.cell hg hi 3 _ rfl
  have d0 : W.cell? ⟨N, 0, none⟩ = some (.string S) := by rw [cell_block b0]; rfl
  have d1 : W.cell? ⟨N, 1, none⟩ = some (.string T) := by rw [cell_block b0]; rfl
  have HW : Hid (w.alloc (.cells #[.string S, .string T] 140) = W) := hW
  have HN : Hid (w.heap.size = N) := hN
  clear hW hN
  have rq := rwritable_any S T hS (fun k => k < W.heap.size) W (fun _ h => h)
  have e1 : writP ⟨S.data.toList, T.data.toList⟩ = q := by rw [← hq, ByteArray.toList_eq, ByteArray.toList_eq]
  rw [e1] at rq
  have HF : Hid (FindA (M.nd i).attrs S.toList z) := hf
  have HY : Hid (RY K W p M R G A) := hY
  have HG : Hid (A.na = some ⟨g, 0, none⟩) := hg
  have HKW : Hid (Kept K w W) := kW.mono h.lt
  have HKWm : Hid (∀ w', Kept (fun k => k < W.heap.size) W w' → Kept K w w') := fun w' hk => (kW.mono h.lt).trans (hk.mono HY.out.lt)
  obtain ⟨aa, haa⟩ : ∃ aa, A.aa i = aa := ⟨_, rfl⟩
  obtain ⟨ac, hac⟩ : ∃ ac, A.ac i = ac := ⟨_, rfl⟩
  obtain ⟨l, hle⟩ : ∃ l, (M.nd i).attrs = l := ⟨_, rfl⟩
  obtain ⟨n, hne⟩ : ∃ n, l.length = n := ⟨_, rfl⟩
  rw [hle, haa, hac, hne] at c3
  have HAA : Hid (A.aa i = aa) := haa
  have HAC : Hid (A.ac i = ac) := hac
  have HE : Hid ((M.nd i).attrs = l) := hle
  have HL : Hid (l.length = n) := hne
  have hl' : n ≤ 1000000 := by rw [← hne, ← hle]; exact hl
  have hnN : N < W.heap.size := lt_block b0
  rw [hle, hne] at hb
  clear h hq hf hkd hl hY hg kW haa hac hle hne e1 b0
  go_enter Tryz.func94, Tryz.ntmps94
  go_wp2_with (go_at_call 157; refine re.mono ?_; rintro e1 w3 ⟨rfl, hw3⟩; replace hw3 := hw3.symm; subst hw3)
  rw [HW.out, HN.out]
  refine rf.mono ?_
  rintro e1 w3 ⟨rfl, hw3⟩
  replace hw3 := hw3.symm
  subst hw3
  go_wp2_with fail
  refine rq.mono ?_
  rintro e1 w4 ⟨rfl, hk4⟩
  have c1w : w4.cell? ⟨p, 1, none⟩ = some (.slice (some ⟨g, 0, none⟩) M.n A.nc) := (hk4.cell (p := ⟨p, 1, none⟩) hpl).trans c1
  have c3w : w4.cell? ⟨g, i * 14 + 3, none⟩ = some (.slice aa n ac) := (hk4.cell (p := ⟨g, i * 14 + 3, none⟩) hgl).trans c3
  have d0w : w4.cell? ⟨N, 0, none⟩ = some (.string S) := (hk4.cell (p := ⟨N, 0, none⟩) hnN).trans d0
  have d1w : w4.cell? ⟨N, 1, none⟩ = some (.string T) := (hk4.cell (p := ⟨N, 1, none⟩) hnN).trans d1
  have HK4 : Hid (Kept (fun k => k < W.heap.size) W w4) := hk4
  clear re rf rq c1 c3 d0 d1 hk4
  cases q with
  | false =>
    clear hb
    go_wp2
    go_ret
    exact ⟨rfl, HKWm.out _ HK4.out, _, HY.out.kept HK4.out⟩
  | true =>
    obtain ⟨rfl, hb⟩ := hb.resolve_left (by decide)
    have e5 : decide ((n : Int) ≥ 50) = true := decide_eq_true (by omega)
    go_wp2
    go_ret
    exact ⟨rfl, HKWm.out _ HK4.out, _, HY.out.kept HK4.out⟩
set_option maxRecDepth 20000 in
set_option maxHeartbeats 2000000 in
theorem rset_good (K : Nat → Prop) (p i : Nat) (M : Dm) (R G : Nat → List Nat) (S T : ByteArray) (w : World) (h : RX K w p M R G) (hi : i < M.n) (hn : M.n ≤ 1000000) (hkd : (M.nd i).kind = 1) (hl : (M.nd i).attrs.length ≤ 1000000) (hS : S.size < 1000000) (z : Int) (hf : FindA (M.nd i).attrs S.toList z) (q : Bool) (hq : writP ⟨S.toList, T.toList⟩ = q) (ht : q = true) (hb : z = -1 → (M.nd i).attrs.length < 50) :
    Calls Tryz.prog 94 #[.pointer (some ⟨p, 0, none⟩), .int .i64 (i : Int), .string S, .string T] w fun e w' => e = .returned (.int .i64 0) ∧ Kept K w w' ∧ RX K w' p (M.setN i { M.nd i with attrs := setA (M.nd i).attrs ⟨S.toList, T.toList⟩ }) R G := by
  obtain ⟨W, hW⟩ : ∃ W, w.alloc (.cells #[.string S, .string T] 140) = W := ⟨_, rfl⟩
  obtain ⟨N, hN⟩ : ∃ N, w.heap.size = N := ⟨_, rfl⟩
  have kW : Kept (fun k => k < w.heap.size) w W := by rw [← hW]; exact (Kept.refl _ w).alloc (fun _ h => h) _
  have b0 : W.heap[N]? = some (.cells #[.string S, .string T] 140 (0, 0)) := by rw [← hW, ← hN]; exact heap_alloc_new w _
  have hXW : RX K W p M R G := h.kept kW
  have re := relem_any K p M R G (i : Int) w h hn
  rw [if_pos ⟨by omega, by omega⟩, Int.toNat_natCast, if_pos hkd] at re
  have rf : Calls Tryz.prog 158 #[.pointer (some ⟨p, 0, none⟩), .int .i64 (i : Int), .string S] W fun e w' => e = .returned (.int .i64 z) ∧ w' = W := (rfind_any K p i M R G S W hXW hi hn hl).mono fun e w' ⟨z', hz, he, hw⟩ => ⟨by rw [he, hz.one hf], hw⟩
  obtain ⟨A, hY⟩ := hXW
  obtain ⟨g, hg, -, -, hgl⟩ := hY.nat (by omega)
  have hpl := hY.plt
  have c1 := hY.c1
  rw [hg] at c1
  have c3 : W.cell? ⟨g, i * 14 + 3, none⟩ = some (.slice (A.aa i) (M.nd i).attrs.length (A.ac i)) := hY.cell hg hi 3 _ rfl
  have d0 : W.cell? ⟨N, 0, none⟩ = some (.string S) := by rw [cell_block b0]; rfl
  have d1 : W.cell? ⟨N, 1, none⟩ = some (.string T) := by rw [cell_block b0]; rfl
  have HW : Hid (w.alloc (.cells #[.string S, .string T] 140) = W) := hW
  have HN : Hid (w.heap.size = N) := hN
  clear hW hN
  have rq := rwritable_any S T hS (fun k => k < W.heap.size) W (fun _ h => h)
  have e1 : writP ⟨S.data.toList, T.data.toList⟩ = q := by rw [← hq, ByteArray.toList_eq, ByteArray.toList_eq]
  rw [e1] at rq
  have HF : Hid (FindA (M.nd i).attrs S.toList z) := hf
  have HY : Hid (RY K W p M R G A) := hY
  have HG : Hid (A.na = some ⟨g, 0, none⟩) := hg
  have HKW : Hid (Kept K w W) := kW.mono h.lt
  have HKWm : Hid (∀ w', Kept (fun k => k < W.heap.size) W w' → Kept K w w') := fun w' hk => (kW.mono h.lt).trans (hk.mono HY.out.lt)
  obtain ⟨aa, haa⟩ : ∃ aa, A.aa i = aa := ⟨_, rfl⟩
  obtain ⟨ac, hac⟩ : ∃ ac, A.ac i = ac := ⟨_, rfl⟩
  obtain ⟨l, hle⟩ : ∃ l, (M.nd i).attrs = l := ⟨_, rfl⟩
  obtain ⟨n, hne⟩ : ∃ n, l.length = n := ⟨_, rfl⟩
  rw [hle, haa, hac, hne] at c3
  have HAA : Hid (A.aa i = aa) := haa
  have HAC : Hid (A.ac i = ac) := hac
  have HE : Hid ((M.nd i).attrs = l) := hle
  have HL : Hid (l.length = n) := hne
  have hl' : n ≤ 1000000 := by rw [← hne, ← hle]; exact hl
  have hnN : N < W.heap.size := lt_block b0
  rw [hle, hne] at hb
  clear h hq hf hkd hl hY hg kW haa hac hle hne e1 b0
  go_enter Tryz.func94, Tryz.ntmps94
  go_wp2_with (go_at_call 157; refine re.mono ?_; rintro e1 w3 ⟨rfl, hw3⟩; replace hw3 := hw3.symm; subst hw3)
  rw [HW.out, HN.out]
  refine rf.mono ?_
  rintro e1 w3 ⟨rfl, hw3⟩
  replace hw3 := hw3.symm
  subst hw3
  go_wp2_with fail
  refine rq.mono ?_
  rintro e1 w4 ⟨rfl, hk4⟩
  have c1w : w4.cell? ⟨p, 1, none⟩ = some (.slice (some ⟨g, 0, none⟩) M.n A.nc) := (hk4.cell (p := ⟨p, 1, none⟩) hpl).trans c1
  have c3w : w4.cell? ⟨g, i * 14 + 3, none⟩ = some (.slice aa n ac) := (hk4.cell (p := ⟨g, i * 14 + 3, none⟩) hgl).trans c3
  have d0w : w4.cell? ⟨N, 0, none⟩ = some (.string S) := (hk4.cell (p := ⟨N, 0, none⟩) hnN).trans d0
  have d1w : w4.cell? ⟨N, 1, none⟩ = some (.string T) := (hk4.cell (p := ⟨N, 1, none⟩) hnN).trans d1
  have HK4 : Hid (Kept (fun k => k < W.heap.size) W w4) := hk4
  clear re rf rq c1 c3 d0 d1 hk4
  subst ht
  have hat4 : AtsAt (fun k => k < w4.heap.size) w4 aa l := by
    have := (HY.out.ats i hi).to (F' := fun k => k < W.heap.size) (w' := W) (fun _ h => h.1) (fun _ _ => rfl)
    rw [HAA.out, HE.out] at this
    exact this.kept HK4.out fun k h => Nat.lt_of_lt_of_le h HK4.out.size
  have ra := rattrs_any l aa n ac HL.out (by omega) w4 hat4
  have hcap : n ≤ ac := by
    have := HY.out.acl i hi
    rw [HAC.out, HE.out, HL.out] at this
    exact this
  have hpl4 : p < w4.heap.size := Nat.lt_of_lt_of_le hpl HK4.out.size
  have hgl4 : g < w4.heap.size := Nat.lt_of_lt_of_le hgl HK4.out.size
  have hnN4 : N < w4.heap.size := Nat.lt_of_lt_of_le hnN HK4.out.size
  have HFIN : Hid (∀ (w6 : World) (ao' : Option Addr) (m cap' : Nat) (r : List Atr), r.length = m → r = setA l ⟨S.toList, T.toList⟩ → OwnZ (fun k => k < w4.heap.size) w6 140 2 ao' m cap' (atrCells r) → Kept (fun k => k < w4.heap.size) w4 w6 →
      w6.cell? ⟨p, 1, none⟩ = some (.slice (some ⟨g, 0, none⟩) M.n A.nc) ∧ w6.cell? ⟨g, i * 14 + 3, none⟩ = some (.slice aa n ac) ∧ w6.frozen? ⟨g, i * 14 + 3, none⟩ = false ∧
      Hid (Kept K w (w6.setCell ⟨g, i * 14 + 3, none⟩ (.slice ao' m cap')) ∧ RX K (w6.setCell ⟨g, i * 14 + 3, none⟩ (.slice ao' m cap')) p (M.setN i { M.nd i with attrs := setA (M.nd i).attrs ⟨S.toList, T.toList⟩ }) R G)) := fun w6 ao' m cap' r hm hr hO hK => by
    have hY4 := HY.out.kept HK4.out
    refine ⟨(hK.cell (p := ⟨p, 1, none⟩) hpl4).trans c1w, (hK.cell (p := ⟨g, i * 14 + 3, none⟩) hgl4).trans c3w, (hK.frozen (p := ⟨g, i * 14 + 3, none⟩) hgl4).trans (hY4.fg HG.out _), ?_⟩
    have ha : AtsAt (fun x => w4.heap.size ≤ x ∧ x < w6.heap.size) w6 ao' r := hO.atsAt fun x hx => ⟨Nat.le_of_not_lt (OwnZ.out hO hx).1, (OwnZ.out hO hx).2⟩
    obtain ⟨hY5, hK5⟩ := hY4.setAts hK HG.out hi r ao' cap' ha (by rw [hm]; exact hO.2.1)
    rw [hm] at hY5 hK5
    have kk : Kept K w (w6.setCell ⟨g, i * 14 + 3, none⟩ (.slice ao' m cap')) := ((HKWm.out _ HK4.out).trans (hK.mono hY4.lt)).trans hK5
    have rx : RX K (w6.setCell ⟨g, i * 14 + 3, none⟩ (.slice ao' m cap')) p (M.setN i { M.nd i with attrs := setA (M.nd i).attrs ⟨S.toList, T.toList⟩ }) R G := by
      rw [HE.out, ← hr]
      exact ⟨_, hY5⟩
    exact (show Hid _ from ⟨kk, rx⟩)
  have hz := HF.out
  rw [HE.out] at hz
  cases hz with
  | no hno =>
    have hlt := hb rfl
    have e5 : decide ((n : Int) ≥ 50) = false := decide_eq_false (by omega)
    have HNO : Hid (∀ x ∈ l, x.name ≠ S.toList) := hno
    clear hno hb hat4
    go_wp2_with fail
    refine ra.mono ?_
    rintro e1 w5 ⟨ao, c, rfl, hO, hk5⟩
    have d0x : w5.cell? ⟨N, 0, none⟩ = some (.string S) := (hk5.cell (p := ⟨N, 0, none⟩) hnN4).trans d0w
    have d1x : w5.cell? ⟨N, 1, none⟩ = some (.string T) := (hk5.cell (p := ⟨N, 1, none⟩) hnN4).trans d1w
    obtain ⟨ao', cap', w6, hr, hO6, hK6⟩ := appA hO (fun k h => Nat.lt_of_lt_of_le h hk5.size) hl' S T
    obtain ⟨x1, x3, x4, HFI⟩ := HFIN.out w6 ao' (n + 1) cap' _ (by rw [List.length_append, HL.out]; rfl) (setA_no l _ HNO.out).symm hO6 (hk5.trans hK6)
    clear hO6 hK6 HFIN ra hO hk5 d0w d1w c1w c3w
    go_wp2_with (at_builtin; refine wpList_appR (w' := w6) rfl (.tmp 56) (.tmp 58) 31 31 rfl _ _ (.slice ao' (n + 1) cap') rfl rfl hr ?_)
    go_ret
    exact ⟨rfl, HFI.out.1, HFI.out.2⟩
  | @yes k hk he hah =>
    have e0 : decide ((k : Int) < 0) = false := decide_eq_false (by omega)
    have HHE : Hid (l[k].name = S.toList) := he
    have HAH : Hid (∀ x ∈ l.take k, x.name ≠ S.toList) := hah
    have hkn : k < n := by rw [← HL.out]; exact hk
    clear he hah hb hat4
    go_wp2_with fail
    refine ra.mono ?_
    rintro e1 w5 ⟨ao, c, rfl, hO, hk5⟩
    have d0x : w5.cell? ⟨N, 0, none⟩ = some (.string S) := (hk5.cell (p := ⟨N, 0, none⟩) hnN4).trans d0w
    have d1x : w5.cell? ⟨N, 1, none⟩ = some (.string T) := (hk5.cell (p := ⟨N, 1, none⟩) hnN4).trans d1w
    obtain ⟨y, rfl, hyk, hyl⟩ := OwnZ.at0 hO (by omega)
    obtain ⟨y0, y1⟩ := atr_get l k hk
    obtain ⟨g2, e2, z0⟩ := hO.cell y0
    have e2' : g2 = y := by injection e2 with e2; injection e2 with e2; exact e2.symm
    subst e2'
    obtain ⟨g3, e3, z1⟩ := hO.cell y1
    have e3' : g3 = g2 := by injection e3 with e3; injection e3 with e3; exact e3.symm
    subst e3'
    have f0 := OwnZ.froz hO (k * 2)
    have f1 := OwnZ.froz hO (k * 2 + 1)
    have hO6 := hO.setA k ⟨S.toList, T.toList⟩ hk
    have eS : sv S.toList = .string S := by rw [ByteArray.toList_eq]
    have eT : sv T.toList = .string T := by rw [ByteArray.toList_eq]
    dsimp only at hO6
    rw [eS, eT] at hO6
    have hK6 : Kept (fun k => k < w4.heap.size) w4 ((w5.setCell ⟨g3, k * 2, none⟩ (.string S)).setCell ⟨g3, k * 2 + 1, none⟩ (.string T)) := (hk5.setCell (p := ⟨g3, k * 2, none⟩) hyk _).setCell (p := ⟨g3, k * 2 + 1, none⟩) hyk _
    obtain ⟨x1, x3, x4, HFI⟩ := HFIN.out _ _ n c _ (by rw [List.length_set, HL.out]) (setA_at l _ k hk HHE.out HAH.out).symm hO6 hK6
    unfold sv at z0 z1
    clear hO6 hK6 HFIN ra hO hk5 d0w d1w c1w c3w y0 y1 e2 e3 eS eT
    go_wp2
    go_ret
    exact ⟨rfl, HFI.out.1, HFI.out.2⟩
end Go.Proofs.YtbhfnbplbkncmaaGreat

namespace Go.Proofs.YtbhfnbplbkncmaaGreat
open Go.RowKit Go.Sort
set_option linter.unusedVariables false
set_option maxRecDepth 20000 in
theorem rgiven_none (K : Nat → Prop) (p : Nat) (M : Dm) (R G : Nat → List Nat) (i : Int) (w : World) (h : RX K w p M R G) (hi : i < 0 ∨ (M.n : Int) ≤ i) :
    Calls Tryz.prog 109 #[.pointer (some ⟨p, 0, none⟩), .int .i64 i] w fun e w' => e = .returned (.slice none 0 0) ∧ w' = w := by
  have rt := rthere_any K p M R G i w h
  rw [there_no hi] at rt
  clear h hi
  go_enter Tryz.func109, Tryz.ntmps109
  go_wp2_with (go_at_call 148; refine rt.mono ?_; rintro e1 w3 ⟨rfl, hw3⟩; replace hw3 := hw3.symm; subst hw3)
  go_ret
  exact ⟨rfl, rfl⟩
set_option maxRecDepth 20000 in
set_option maxHeartbeats 1000000 in
theorem rgiven_in (K : Nat → Prop) (p i : Nat) (M : Dm) (R G : Nat → List Nat) (w : World) (h : RX K w p M R G) (hi : i < M.n) (hn : M.n ≤ 1000000) (hl : (G i).length ≤ 1000000) :
    Calls Tryz.prog 109 #[.pointer (some ⟨p, 0, none⟩), .int .i64 (i : Int)] w fun e w' => ∃ ao c, e = .returned (.slice ao (G i).length c) ∧ OwnZ (fun k => k < w.heap.size) w' 3 1 ao (G i).length c (ivs (G i)) ∧ Kept (fun k => k < w.heap.size) w w' := by
  have rt := rthere_any K p M R G (i : Int) w h
  rw [there_yes hi] at rt
  obtain ⟨A, hY⟩ := h
  obtain ⟨g, hg, -, -, hgl⟩ := hY.qat (by omega)
  have c2 := hY.c2
  rw [hg] at c2
  have q0 := hY.qcell hg hi
  have ro := hY.gown i hi
  have ri := rints_any (G i) (A.ga i) (G i).length (A.gc i) rfl (by omega) w (ro.intsAt fun x hx => (OwnZ.out ro hx).2)
  obtain ⟨n, hne⟩ : ∃ n, (G i).length = n := ⟨_, rfl⟩
  obtain ⟨ga, hga⟩ : ∃ ga, A.ga i = ga := ⟨_, rfl⟩
  obtain ⟨gc, hgc⟩ : ∃ gc, A.gc i = gc := ⟨_, rfl⟩
  rw [hne, hga, hgc] at q0 ri
  rw [hne]
  clear hY hg ro hga hgc hne
  go_enter Tryz.func109, Tryz.ntmps109
  go_wp2_with (first | (go_at_call 148; refine rt.mono ?_; rintro e1 w3 ⟨rfl, hw3⟩; replace hw3 := hw3.symm; subst hw3) | (go_at_call 150; refine ri.mono ?_; rintro e1 w3 ⟨ao, c, rfl, hO, hK⟩))
  go_ret
  exact ⟨ao, c, rfl, hO, hK⟩
/-- Of which list something is the first. -/
inductive SlotA (n : Nat) (G : Nat → List Nat) (x : Int) : Int → Prop
  | yes {s : Nat} (hs : s < n) : x ∈ (G s).map (fun k : Nat => (k : Int)) → (∀ t, t < s → x ∉ (G t).map (fun k : Nat => (k : Int))) → SlotA n G x (s : Int)
  | no : (∀ t, t < n → x ∉ (G t).map (fun k : Nat => (k : Int))) → SlotA n G x (-1)
set_option maxRecDepth 20000 in
set_option maxHeartbeats 2000000 in
theorem rslot_any (K : Nat → Prop) (p : Nat) (M : Dm) (R G : Nat → List Nat) (x : Int) (w : World) (h : RX K w p M R G) (hn : M.n ≤ 1000000) (hl : ∀ i, i < M.n → (G i).length ≤ 1000000) :
    Calls Tryz.prog 111 #[.pointer (some ⟨p, 0, none⟩), .int .i64 x] w fun e w' => ∃ z, SlotA M.n G x z ∧ e = .returned (.int .i64 z) ∧ w' = w := by
  obtain ⟨A, hY⟩ := h
  have c2 := hY.c2
  have HY : Hid (RY K w p M R G A) := hY
  have HL : Hid (∀ i, i < M.n → (G i).length ≤ 1000000) := hl
  obtain ⟨n, hne⟩ : ∃ n, M.n = n := ⟨_, rfl⟩
  have HN : Hid (M.n = n) := hne
  obtain ⟨qa, hqa⟩ : ∃ qa, A.qa = qa := ⟨_, rfl⟩
  have HQ : Hid (A.qa = qa) := hqa
  rw [hne, hqa] at c2
  rw [hne] at hn ⊢
  clear hY hl hne hqa
  go_enter Tryz.func111, Tryz.ntmps111
  go_upto_region 2 with fail
  go_loopg [5] n (fun gh v wr => ∃ k : Nat, gh = n - k ∧ k ≤ n ∧ v = .int .i64 (k : Int) ∧ (∀ t, t < k → x ∉ (G t).map (fun k : Nat => (k : Int))) ∧ wr = w)
  case atStart => exact ⟨0, rfl, Nat.zero_le _, rfl, fun t ht => absurd ht (Nat.not_lt_zero _), rfl⟩
  case round =>
    obtain ⟨s, hgk, hs, rfl, hno, rfl⟩ := hrel
    have HNO : Hid (∀ t, t < s → x ∉ (G t).map (fun k : Nat => (k : Int))) := hno
    clear hno
    by_cases hlt : s < n
    · have hsM : s < M.n := by rw [HN.out]; exact hlt
      obtain ⟨q, hq, -, -, hql⟩ := HY.out.qat (by omega)
      have hq' : qa = some ⟨q, 0, none⟩ := by rw [← HQ.out]; exact hq
      subst hq'
      have q0 := HY.out.qcell hq hsM
      have ro := HY.out.gown s hsM
      have hll := HL.out s hsM
      obtain ⟨l, hle⟩ : ∃ l, G s = l := ⟨_, rfl⟩
      obtain ⟨ln, hlne⟩ : ∃ ln, l.length = ln := ⟨_, rfl⟩
      obtain ⟨ga, hga⟩ : ∃ ga, A.ga s = ga := ⟨_, rfl⟩
      obtain ⟨gc, hgc⟩ : ∃ gc, A.gc s = gc := ⟨_, rfl⟩
      have hI : IntsAt (fun k => k < wr.heap.size) wr (A.ga s) (G s) := ro.intsAt fun x hx => (OwnZ.out ro hx).2
      rw [hle, hlne, hga, hgc] at q0
      rw [hle, hlne] at hll
      rw [hle, hga] at hI
      have HI : Hid (IntsAt (fun k => k < wr.heap.size) wr ga l) := hI
      have HLE : Hid (G s = l) := hle
      have HLN : Hid (l.length = ln) := hlne
      clear ro hle hlne hga hgc hI hq
      go_upto_region 5 with fail
      go_loopg [6] ln (fun gh v wr' => ∃ k : Nat, gh = ln - k ∧ k ≤ ln ∧ v = .int .i64 (k : Int) ∧ (∀ y ∈ l.take k, (y : Int) ≠ x) ∧ wr' = wr)
      case atStart => exact ⟨0, rfl, Nat.zero_le _, rfl, fun y hy => (by cases hy), rfl⟩
      case round =>
        obtain ⟨k, hgk2, hk, rfl, hnk, rfl⟩ := hrel
        have HNK : Hid (∀ y ∈ l.take k, (y : Int) ≠ x) := hnk
        clear hnk
        by_cases hkl : k < ln
        · have hkl' : k < l.length := by rw [HLN.out]; exact hkl
          obtain ⟨g1, o1, rfl, -, d0⟩ := HI.out k hkl'
          obtain ⟨y, hy⟩ : ∃ y, l[k] = y := ⟨_, rfl⟩
          rw [hy] at d0
          have HYY : Hid (l[k] = y) := hy
          clear hy
          by_cases e : (y : Int) = x
          · have e1 : ((y : Int) == x) = true := by simpa using e
            have HEE : Hid ((y : Int) = x) := e
            clear e
            go_wp2
            go_ret
            refine ⟨_, .yes hlt ?_ HNO.out, rfl, rfl⟩
            rw [HLE.out]
            exact List.mem_map.2 ⟨y, by rw [← HYY.out]; exact List.getElem_mem _, HEE.out⟩
          · have e1 : ((y : Int) == x) = false := by simpa using e
            have HEE : Hid ((y : Int) ≠ x) := e
            clear e
            go_wp2
            go_roundg (ln - (k + 1))
            case rel =>
              refine ⟨k + 1, rfl, by omega, by go_num, fun y' hy' => ?_, rfl⟩
              rw [List.take_succ_eq_append_getElem hkl'] at hy'
              rcases List.mem_append.1 hy' with hy' | hy'
              · exact HNK.out y' hy'
              · rw [List.mem_singleton.1 hy', HYY.out]; exact HEE.out
            case measure => omega
        · have hkn : ln = k := by omega
          subst hkn
          go_wp2
          go_roundg (n - (s + 1))
          case rel =>
            refine ⟨s + 1, rfl, by omega, by go_num, fun t ht => ?_, rfl⟩
            by_cases c : t = s
            · subst c
              rw [HLE.out]
              intro hm
              obtain ⟨y, hy, e⟩ := List.mem_map.1 hm
              exact HNK.out y (by rw [List.take_of_length_le (by rw [HLN.out]; exact Nat.le_refl _)]; exact hy) e
            · exact HNO.out t (by omega)
          case measure => omega
    · have hsn : n = s := by omega
      subst hsn
      go_wp2
      go_ret
      exact ⟨_, .no HNO.out, rfl, rfl⟩
end Go.Proofs.YtbhfnbplbkncmaaGreat

namespace Go.Proofs.YtbhfnbplbkncmaaGreat
open Go.RowKit Go.Sort
set_option linter.unusedVariables false
set_option maxRecDepth 20000 in
set_option maxHeartbeats 1000000 in
theorem rins_none (K : Nat → Prop) (p : Nat) (M : Dm) (R G : Nat → List Nat) (up i bef : Int) (w : World) (h : RX K w p M R G)
    (hno : (up < 0 ∨ (M.n : Int) ≤ up) ∨ (i < 0 ∨ (M.n : Int) ≤ i) ∨ (bef ≠ -1 ∧ (bef < 0 ∨ (M.n : Int) ≤ bef))) :
    Calls Tryz.prog 89 #[.pointer (some ⟨p, 0, none⟩), .int .i64 up, .int .i64 i, .int .i64 bef] w fun e w' => e = .returned (.int .i64 80) ∧ w' = w := by
  have tu := rthere_any K p M R G up w h
  have ti := rthere_any K p M R G i w h
  have tb := rthere_any K p M R G bef w h
  obtain ⟨bu, hbu⟩ : ∃ b, (decide (0 ≤ up) && decide (up < (M.n : Int))) = b := ⟨_, rfl⟩
  obtain ⟨bi, hbi⟩ : ∃ b, (decide (0 ≤ i) && decide (i < (M.n : Int))) = b := ⟨_, rfl⟩
  obtain ⟨bb, hbb⟩ : ∃ b, (decide (0 ≤ bef) && decide (bef < (M.n : Int))) = b := ⟨_, rfl⟩
  rw [hbu] at tu
  rw [hbi] at ti
  rw [hbb] at tb
  have hno' : bu = false ∨ bi = false ∨ (bef ≠ -1 ∧ bb = false) := by
    rcases hno with c | c | ⟨c1, c⟩
    · exact .inl (hbu.symm.trans (there_no c))
    · exact .inr (.inl (hbi.symm.trans (there_no c)))
    · exact .inr (.inr ⟨c1, hbb.symm.trans (there_no c)⟩)
  clear h hbu hbi hbb hno
  cases bu with
  | false =>
    clear ti tb hno'
    go_enter Tryz.func89, Tryz.ntmps89
    go_wp2_with fail
    refine tu.mono ?_
    rintro e1 w3 ⟨rfl, hw3⟩
    replace hw3 := hw3.symm
    subst hw3
    go_wp2
    go_ret
    exact ⟨rfl, rfl⟩
  | true =>
    cases bi with
    | false =>
      clear tb hno'
      go_enter Tryz.func89, Tryz.ntmps89
      go_wp2_with fail
      refine tu.mono ?_
      rintro e1 w3 ⟨rfl, hw3⟩
      replace hw3 := hw3.symm
      subst hw3
      go_wp2_with fail
      refine ti.mono ?_
      rintro e1 w3 ⟨rfl, hw3⟩
      replace hw3 := hw3.symm
      subst hw3
      go_wp2
      go_ret
      exact ⟨rfl, rfl⟩
    | true =>
      obtain ⟨b1, rfl⟩ : bef ≠ -1 ∧ bb = false := by
        rcases hno' with c | c | c
        · cases c
        · cases c
        · exact c
      have b2 : (bef != -1) = true := by simpa using b1
      clear hno'
      go_enter Tryz.func89, Tryz.ntmps89
      go_wp2_with fail
      refine tu.mono ?_
      rintro e1 w3 ⟨rfl, hw3⟩
      replace hw3 := hw3.symm
      subst hw3
      go_wp2_with fail
      refine ti.mono ?_
      rintro e1 w3 ⟨rfl, hw3⟩
      replace hw3 := hw3.symm
      subst hw3
      go_wp2_with fail
      refine tb.mono ?_
      rintro e1 w3 ⟨rfl, hw3⟩
      replace hw3 := hw3.symm
      subst hw3
      go_wp2
      go_ret
      exact ⟨rfl, rfl⟩
end Go.Proofs.YtbhfnbplbkncmaaGreat
