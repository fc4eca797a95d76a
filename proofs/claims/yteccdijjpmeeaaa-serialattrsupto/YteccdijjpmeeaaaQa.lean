/-
  A new page: which roots are asked for.
-/
import Derived.Test.YteccdijjpmeeaaaPy
import Derived.Test.YteccdijjpmeeaaaP15
namespace Go.Proofs.Yteccdijjpmeeaaa
open Go.RowKit
set_option linter.unusedVariables false
set_option maxRecDepth 100000
set_option maxHeartbeats 4000000
/-- Bools in a row. -/
def AskR (w : World) (g n : Nat) (A : Nat → Bool) : Prop := ∃ cs, w.heap[g]? = some (.cells cs 4 (0, 0)) ∧ cs.size = n ∧ ∀ j, j < n → cs[j]? = some (.bool (A j))
theorem AskR.at {w : World} {g n : Nat} {A : Nat → Bool} (h : AskR w g n A) {j : Nat} (hj : j < n) : w.cell? ⟨g, j, none⟩ = some (.bool (A j)) := by
  obtain ⟨cs, h1, h2, h3⟩ := h
  rw [cell_block h1]; exact h3 j hj
theorem AskR.kept {K : Nat → Prop} {w w' : World} {g n : Nat} {A : Nat → Bool} (h : AskR w g n A) (hk : Kept K w w') (hg : K g) : AskR w' g n A := by
  obtain ⟨cs, h1, h2, h3⟩ := h
  exact ⟨cs, (hk.block g hg).trans h1, h2, h3⟩
theorem AskR.set {w : World} {g n : Nat} {A B : Nat → Bool} (h : AskR w g n A) {i : Nat} (hi : i < n) (hB : ∀ j, B j = (A j || decide (j = i))) : AskR (w.setCell ⟨g, i, none⟩ (.bool true)) g n B := by
  obtain ⟨cs, h1, h2, h3⟩ := h
  refine ⟨_, heap_setCell_at h1 i _, by simpa using h2, fun j hj => ?_⟩
  rw [Array.getElem?_setIfInBounds, hB]
  by_cases c : i = j
  · subst c; rw [if_pos rfl, if_pos (by omega)]; simp
  · rw [if_neg c, h3 j hj]; simp [Ne.symm c]
theorem AskR.fz {w : World} {g n : Nat} {A : Nat → Bool} (h : AskR w g n A) (i : Nat) : w.frozen? ⟨g, i, none⟩ = false := by
  obtain ⟨cs, h1, h2, h3⟩ := h
  exact frozen_block h1 i
def askA (l : List Int) (j : Nat) : Bool := l.contains (j : Int)
theorem askA_take (l : List Int) (k : Nat) (h : k < l.length) (j : Nat) : askA (l.take (k + 1)) j = (askA (l.take k) j || decide ((j : Int) = l[k])) := by
  unfold askA
  rw [List.take_succ_eq_append_getElem h, List.contains_append]
  simp
theorem infoBool : (Try.prog.info? 4).map (fun i => (i.zero, i.size, i.bytes)) = some (some (.bool false), 1, 1) := by kernel_rfl
theorem enterL (args : Array Value) (X : World) : (callFunc 43 args).run Try.prog X = .ok (.enter 43 args) X := entersE Try.func43 (by kernel_rfl) (c := _) rfl args X
theorem newPage_any (d n : Nat) (sr : Bool) (ra : Option Addr) (rn rc : Nat) (l : List Int) (hl : l.length = rn) (hrn : rn ≤ 100000) (hn1 : 1 ≤ n) (hn : n ≤ 1000000) (w : World) (hi : IntsZ (fun k => k < w.heap.size) w ra l)
    (hlen : ∀ X, Kept (fun k => k < w.heap.size) w X → Calls Try.prog 43 #[.pointer (some ⟨d, 0, none⟩)] X fun e w' => e = .returned (.int .i64 (n : Int)) ∧ Kept (fun k => k < X.heap.size) X w') :
    Calls Try.prog 28 #[.pointer (some ⟨d, 0, none⟩), .agg #[.bool sr, .slice ra rn rc]] w fun e w' => ∃ b g, e = .returned (.pointer (some ⟨b, 0, none⟩)) ∧ w.heap.size ≤ g ∧ g ≠ b ∧ AskR w' g n (askA l) ∧ Pg (fun k => k < w.heap.size ∨ k = g) w' ⟨b, d, sr, g, n⟩ [] ∧ Kept (fun k => k < w.heap.size) w w' := by
  obtain ⟨W, N, hW, hN, hb, hkW, hz⟩ := alloc_bx w #[.bool sr, .slice ra rn rc] 37
  have b0 : W.cell? ⟨N, 0, none⟩ = some (.bool sr) := by rw [cell_block hb]; rfl
  have HB0 : Hid (∀ Y, Kept (fun k => k < W.heap.size) W Y → Y.cell? ⟨N, 0, none⟩ = some (.bool sr)) := fun Y hY => (hY.cell (p := ⟨N, 0, none⟩) (lt_block hb)).trans b0
  have b1 : W.cell? ⟨N, 1, none⟩ = some (.slice ra rn rc) := by rw [cell_block hb]; rfl
  have HB1 : Hid (∀ Y, Kept (fun k => k < W.heap.size) W Y → Y.cell? ⟨N, 1, none⟩ = some (.slice ra rn rc)) := fun Y hY => (hY.cell (p := ⟨N, 1, none⟩) (lt_block hb)).trans b1
  have HLEN : Hid _ := hlen
  have HI : Hid _ := hi
  have HL : Hid (l.length = rn) := hl
  have HKW : Hid (Kept (fun k => k < w.heap.size) w W) := hkW
  have HW : Hid (w.alloc (.cells #[.bool sr, .slice ra rn rc] 37) = W) := hW
  have HN : Hid (w.heap.size = N) := hN
  clear hW hN hb hkW hz b0 b1 hlen hi hl
  go_enter Try.func28, Try.ntmps28
  go_upto_region 1 with fail
  rw [HW.out, HN.out]
  clear HW HN
  refine wp_region_held_drew (S := fun Y => Kept (fun k => k < W.heap.size) W Y) (by kernel_rfl) ((Kept.refl _ W).drew) (fun hHeld => ?_)
  refine tkH 0 8 (.pointer (some ⟨d, 0, none⟩)) rfl rfl (by kernel_rfl) (by rfl) (by intro Y hY; go_simp; try with_reducible rfl) (fun _ _ _ h => h) hHeld ?_
  try simp only [Act.put, List.setIfInBounds_toArray, List.set_cons_zero, List.set_cons_succ]
  refine tkH 1 9 (.pointer (some ⟨N, 0, none⟩)) rfl rfl (by kernel_rfl) (by rfl) (by intro Y hY; go_simp; try with_reducible rfl) (fun _ _ _ h => h) hHeld ?_
  try simp only [Act.put, List.setIfInBounds_toArray, List.set_cons_zero, List.set_cons_succ]
  refine tkH 2 10 (.bool sr) rfl rfl (by kernel_rfl) (by rfl) (by intro Y hY; have hc := HB0.out Y hY; go_simp; try with_reducible rfl) (fun _ _ _ h => h) hHeld ?_
  try simp only [Act.put, List.setIfInBounds_toArray, List.set_cons_zero, List.set_cons_succ]
  refine tkH 3 11 (.pointer (some ⟨d, 0, none⟩)) rfl rfl (by kernel_rfl) (by rfl) (by intro Y hY; go_simp; try with_reducible rfl) (fun _ _ _ h => h) hHeld ?_
  try simp only [Act.put, List.setIfInBounds_toArray, List.set_cons_zero, List.set_cons_succ]
  have rl := HLEN.out W.drew (HKW.out.drew)
  refine clH 4 12 43 #[.pointer (some ⟨d, 0, none⟩)] rfl rfl (by kernel_rfl) (by rfl) rfl (by first | rfl | (simp [Act.eval]; done) | (simp [Act.eval, Act.put]; done)) (enterL _ _) rl ?_
  rintro e Y ⟨rfl, hk9⟩
  have hkY : Kept (fun k => k < W.heap.size) W Y := ((Kept.refl _ W).drew).trans hk9
  refine ⟨_, rfl, hkY, fun hHeld2 => ?_⟩
  replace hHeld := hHeld2
  clear hHeld2
  try simp only [Act.put, List.setIfInBounds_toArray, List.set_cons_zero, List.set_cons_succ]
  obtain ⟨inf, hi, hip⟩ := Option.map_eq_some_iff.1 infoBool
  have hz0 : inf.zero = some (.bool false) := congrArg (·.1) hip
  have hsz : inf.size = 1 := congrArg (·.2.1) hip
  have hby : inf.bytes = 1 := congrArg (·.2.2) hip
  have hmake := run_make (P := Try.prog) Y 79 4 inf _ Try.underlying79 hi hz0 .i64 .i64 (n : Int) (n : Int) (by omega) (Int.le_refl _) (by rw [hby]; omega) (by omega)
  rw [Int.toNat_natCast] at hmake
  obtain ⟨mc, hmc⟩ : ∃ mc, madeCells (Value.bool false).cells (n * inf.size) = mc := ⟨_, rfl⟩
  rw [hmc] at hmake
  have hms : mc.size = n := by rw [← hmc, hsz]; simp [madeCells, Value.cells]
  have hmg : ∀ j, j < n → mc[j]? = some (.bool false) := fun j hj => by
    rw [← hmc, hsz]; simp [madeCells, Value.cells, hj, Nat.mod_one]
  obtain ⟨G, g, hG, hg, hbg, hkG, hzG⟩ := alloc_bx Y mc 4
  rw [hG, hg] at hmake
  refine opY 5 rfl (by kernel_rfl) (by rfl) (fun K' hK' => ?_)
  unfold Oper.wp
  go_simp
  have hsG : Kept (fun k => k < W.heap.size) W G := hHeld.trans (hkG.mono fun k h => Nat.lt_of_lt_of_le h hHeld.size)
  refine hK'.out _ _ hsG (fun hHeld2 => ?_)
  clear hK'
  replace hHeld := hHeld2
  clear hHeld2
  try simp only [Act.put, List.setIfInBounds_toArray, List.set_cons_zero, List.set_cons_succ]
  refine tkH 6 14 (.agg #[.pointer none, .slice none 0 0, .pointer (some ⟨d, 0, none⟩), .bool sr, .slice (some ⟨g, 0, none⟩) n n]) rfl rfl (by kernel_rfl) (by rfl) (by intro Y hY; go_simp; try with_reducible rfl) (fun _ _ _ h => h) hHeld ?_
  try simp only [Act.put, List.setIfInBounds_toArray, List.set_cons_zero, List.set_cons_succ]
  obtain ⟨Z, b, hZ, hbz, hbb, hkZ, hzZ⟩ := alloc_bx G #[.pointer none, .slice none 0 0, .pointer (some ⟨d, 0, none⟩), .bool sr, .slice (some ⟨g, 0, none⟩) n n] 81
  have HZ : Hid (G.alloc (.cells #[.pointer none, .slice none 0 0, .pointer (some ⟨d, 0, none⟩), .bool sr, .slice (some ⟨g, 0, none⟩) n n] 81) = Z) := hZ
  have HBZ : Hid (G.heap.size = b) := hbz
  have HZG : Hid (G.heap.size = Y.heap.size + 1) := hzG
  have HZZ : Hid (Z.heap.size = G.heap.size + 1) := hzZ
  clear hZ hbz hzG hzZ
  refine opY 7 rfl (by kernel_rfl) (by rfl) (fun K' hK' => ?_)
  unfold Oper.wp
  go_simp
  rw [HZ.out, HBZ.out]
  have hzG := HZG.out
  have hzZ := HZZ.out
  have hbz := HBZ.out
  have hsZ : Kept (fun k => k < W.heap.size) W Z := hHeld.trans (hkZ.mono fun k h => Nat.lt_of_lt_of_le h hHeld.size)
  refine hK'.out _ _ hsZ (fun hHeld2 => ?_)
  clear hK'
  replace hHeld := hHeld2
  clear hHeld2
  try simp only [Act.put, List.setIfInBounds_toArray, List.set_cons_zero, List.set_cons_succ]
  refine tkH 8 5 (.pointer (some ⟨b, 0, none⟩)) rfl rfl (by kernel_rfl) (by rfl) (by intro Y hY; go_simp; try with_reducible rfl) (fun _ _ _ h => h) hHeld ?_
  try simp only [Act.put, List.setIfInBounds_toArray, List.set_cons_zero, List.set_cons_succ]
  refine wpAnyH_done (by kernel_rfl) ?_ _
  have hWs := HKW.out.size
  have hYs := hkY.size
  have hA0 : AskR Z g n (askA (l.take 0)) := ⟨mc, (hkZ.block g (lt_block hbg)).trans hbg, hms, fun j hj => by rw [hmg j hj]; rfl⟩
  have hP0 : ∀ V : World, V.heap[b]? = Z.heap[b]? → Z.heap.size ≤ V.heap.size → Pg (fun k => k < w.heap.size ∨ k = g) V ⟨b, d, sr, g, n⟩ [] := fun V hV hs => by
    refine ⟨fun h => ?_, fun k h => ?_, none, none, 0, by rw [hV]; exact hbb, .inl rfl, Own.nil _ _ _⟩
    · have h' : b < w.heap.size ∨ b = g := h
      omega
    · omega
  have HP0 : Hid _ := hP0
  have HA0 : Hid (AskR Z g n (askA (l.take 0))) := hA0
  have HKZ : Hid (Kept (fun k => k < W.heap.size) W Z) := hsZ
  have hgW : W.heap.size ≤ g ∧ W.heap.size ≤ b ∧ g ≠ b := ⟨by omega, by omega, by omega⟩
  have hbZ := lt_block hbb
  have c4 : ∀ X : World, X.heap[b]? = Z.heap[b]? → X.cell? ⟨b, 4, none⟩ = some (.slice (some ⟨g, 0, none⟩) n n) := fun X hX => by rw [cell_block (hX.trans hbb)]; rfl
  have HC4 : Hid _ := c4
  have c1 := HB1.out Z hsZ
  clear HZ HBZ HZG HZZ hHeld hA0 hP0 hsZ hkZ hzZ hbz hbb hsG hkG hzG hG hg hbg hmake hms hmg hmc hip hz0 hsz hby hi hkY hk9 rl HLEN c4 HB0 HB1
  obtain ⟨hgW, hbW, hgb⟩ := hgW
  go_wp2_with fail
  go_loopg [19] rn (fun gm i wr => ∃ j : Nat, gm = rn - j ∧ j ≤ rn ∧ i = .int .i64 j ∧ AskR wr g n (askA (l.take j)) ∧ Kept (fun k => k < Z.heap.size ∧ k ≠ g) Z wr)
  case atStart => exact ⟨0, rfl, Nat.zero_le _, rfl, HA0.out, Kept.refl _ _⟩
  case round =>
    obtain ⟨j, hgm, hj, rfl, hA, hK⟩ := hrel
    clear HA0
    by_cases hlt : j < rn
    · have hjl : j < l.length := by rw [HL.out]; exact hlt
      obtain ⟨rg, ro, hra, hFg, hc⟩ := HI.out j hjl
      have hr : wr.cell? ⟨rg, ro + j, none⟩ = some (.int .i64 l[j]) := by
        have h1 : rg < W.heap.size := Nat.lt_of_lt_of_le hFg HKW.out.size
        rw [hK.cell (p := ⟨rg, ro + j, none⟩) ⟨Nat.lt_of_lt_of_le h1 HKZ.out.size, by show rg ≠ g; omega⟩, HKZ.out.cell (p := ⟨rg, ro + j, none⟩) h1, HKW.out.cell (p := ⟨rg, ro + j, none⟩) hFg]
        exact hc
      subst hra
      have hstep := askA_take l j hjl
      have d4 := HC4.out wr (hK.block b ⟨hbZ, fun e => hgb e.symm⟩)
      obtain ⟨x, hx⟩ : ∃ x, l[j] = x := ⟨_, rfl⟩
      rw [hx] at hr hstep
      have HS : Hid _ := hstep
      clear hstep hc hx
      by_cases hin : 0 ≤ x ∧ x < (n : Int)
      · obtain ⟨m, rfl⟩ : ∃ m : Nat, x = (m : Int) := ⟨x.toNat, by omega⟩
        have hm : m < n := by omega
        have e1 : decide ((0 : Int) ≤ (m : Int)) = true := decide_eq_true hin.1
        have e2 : decide ((m : Int) < (n : Int)) = true := decide_eq_true hin.2
        have cm := hA.at hm
        have fm := hA.fz m
        have HA1 : Hid (AskR (wr.setCell ⟨g, m, none⟩ (.bool true)) g n (askA (l.take (j + 1)))) := hA.set hm fun k => by rw [HS.out]; congr 1; simp; exact Int.ofNat_inj
        have HK1 : Hid (Kept (fun k => k < Z.heap.size ∧ k ≠ g) Z (wr.setCell ⟨g, m, none⟩ (.bool true))) := hK.setCell (p := ⟨g, m, none⟩) (fun h => h.2 rfl) _
        clear hA hK hin HS
        go_wp2
        go_roundg (rn - (j + 1))
        case rel => exact ⟨j + 1, rfl, by omega, by go_num, HA1.out, HK1.out⟩
        case measure => omega
      · have HA1 : Hid (AskR wr g n (askA (l.take (j + 1)))) := by
          obtain ⟨cs, h1, h2, h3⟩ := hA
          refine ⟨cs, h1, h2, fun k hk => ?_⟩
          rw [h3 k hk, HS.out k, decide_eq_false (fun e => hin (by omega)), Bool.or_false]
        have HK1 : Hid (Kept (fun k => k < Z.heap.size ∧ k ≠ g) Z wr) := hK
        clear hA hK HS
        by_cases h0 : 0 ≤ x
        · have e1 : decide ((0 : Int) ≤ x) = true := decide_eq_true h0
          have e2 : decide (x < (n : Int)) = false := decide_eq_false fun h => hin ⟨h0, h⟩
          clear hin
          go_wp2
          go_roundg (rn - (j + 1))
          case rel => exact ⟨j + 1, rfl, by omega, by go_num, HA1.out, HK1.out⟩
          case measure => omega
        · have e1 : decide ((0 : Int) ≤ x) = false := decide_eq_false h0
          clear hin
          go_wp2
          go_roundg (rn - (j + 1))
          case rel => exact ⟨j + 1, rfl, by omega, by go_num, HA1.out, HK1.out⟩
          case measure => omega
    · have hjn : j = rn := by omega
      have et : l.take j = l := by rw [hjn, ← HL.out, List.take_length]
      rw [et] at hA
      have HAF : Hid (AskR wr g n (askA l)) := hA
      have HPF : Hid (Pg (fun k => k < w.heap.size ∨ k = g) wr ⟨b, d, sr, g, n⟩ []) := HP0.out wr (hK.block b ⟨hbZ, fun e => hgb e.symm⟩) hK.size
      have HKF : Hid (Kept (fun k => k < w.heap.size) w wr) := (HKW.out.trans (HKZ.out.mono fun k h => Nat.lt_of_lt_of_le h HKW.out.size)).trans (hK.mono fun k h => ⟨by have := HKZ.out.size; omega, by omega⟩)
      clear hA hK et hjn
      go_wp2
      go_ret
      exact ⟨b, g, rfl, by omega, hgb, HAF.out, HPF.out, HKF.out⟩
end Go.Proofs.Yteccdijjpmeeaaa
