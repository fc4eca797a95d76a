/-
  The walk of ShadowTells.
-/
import Derived.Test.YtbhfnbplbkncmaaGreatVSTUlsWb
namespace Go.Proofs.YtbhfnbplbkncmaaGreat
open Go.RowKit Go.Sort
set_option linter.unusedVariables false
theorem enter46 (args : Array Value) (X : World) : (callFunc 46 args).run Tryz.prog X = .ok (.enter 46 args) X := entersE Tryz.func46 (by kernel_rfl) (c := _) rfl args X
theorem enter47 (args : Array Value) (X : World) : (callFunc 47 args).run Tryz.prog X = .ok (.enter 47 args) X := entersE Tryz.func47 (by kernel_rfl) (c := _) rfl args X
set_option maxRecDepth 20000 in
theorem of_none (K : Nat → Prop) (p : Nat) (M : Dm) (i : Int) (w : World) (h : DX K w p M) (hi : i < 0 ∨ (M.n : Int) ≤ i) (hn : M.n ≤ 1000000) :
    Calls Tryz.prog 42 #[.pointer (some ⟨p, 0, none⟩), .int .i64 i] w fun e w' => e = .returned (.int .i64 (-1)) ∧ Kept (fun k => k < w.heap.size) w w' := by
  have r1 := oroot_none K p i M w h hi hn
  have HX : Hid (DX K w p M) := h
  clear h hi
  go_enter Tryz.func42, Tryz.ntmps42
  go_wp2_with fail
  refine r1.mono ?_
  rintro e w1 ⟨rfl, hK1⟩
  have r2 := node_none K p M (-1) w1 (HX.out.kept hK1) (.inl (by decide)) hn
  have HK1 : Hid (Kept (fun k => k < w.heap.size) w w1) := hK1
  clear r1 hK1
  go_upto_region 2 with fail
  go_wp2_with fail
  refine r2.mono ?_
  rintro e v1 ⟨rfl, hK2⟩
  have HK2 : Hid (∀ o, Kept (fun k => k < w.heap.size) w (v1.alloc o)) := fun o => (HK1.out.trans (hK2.mono fun k h => Nat.lt_of_lt_of_le h HK1.out.size)).alloc (fun k h => Nat.lt_of_lt_of_le h (Nat.le_trans HK1.out.size hK2.size)) o
  clear r2 hK2
  go_wp2
  go_ret
  exact ⟨rfl, HK2.out _⟩
set_option maxRecDepth 20000 in
theorem open_none (K : Nat → Prop) (p : Nat) (M : Dm) (i : Int) (w : World) (h : DX K w p M) (hi : i < 0 ∨ (M.n : Int) ≤ i) (hn : M.n ≤ 1000000) :
    Calls Tryz.prog 48 #[.pointer (some ⟨p, 0, none⟩), .int .i64 i] w fun e w' => e = .returned (.int .i64 (-1)) ∧ Kept (fun k => k < w.heap.size) w w' := by
  have r2 := node_none K p M i w h hi hn
  clear h hi
  go_enter Tryz.func48, Tryz.ntmps48
  go_wp2_with fail
  refine r2.mono ?_
  rintro e v1 ⟨rfl, hK2⟩
  have HK2 : Hid (∀ o, Kept (fun k => k < w.heap.size) w (v1.alloc o)) := fun o => hK2.alloc (fun k h => Nat.lt_of_lt_of_le h hK2.size) o
  clear r2 hK2
  go_wp2
  go_ret
  exact ⟨rfl, HK2.out _⟩
section
variable {K E : Nat → Prop} {w : World} {p r : Nat} {M : Dm} {R G : Nat → List Nat} {rk : Nat → Nat} {lim : Nat}
/-- Both documents tell the same of any number. -/
theorem Grown.ofZ (h : Grown K E w p r M R G rk lim) (hl : lim ≤ 100000) (i : Int) : ∃ z : Int, (∀ X, Kept (fun k => k < w.heap.size) w X → Calls Tryz.prog 42 #[.pointer (some ⟨p, 0, none⟩), .int .i64 i] X fun e w' => e = .returned (.int .i64 z) ∧ Kept (fun k => k < X.heap.size) X w') ∧
    (∀ X, Kept (fun k => k < w.heap.size) w X → Calls Tryz.prog 41 #[.pointer (some ⟨r, 0, none⟩), .int .i64 i] X fun e w' => e = .returned (.int .i64 z) ∧ w' = X) := by
  have hn := h.nle hl
  by_cases hno : i < 0 ∨ (M.n : Int) ≤ i
  · exact ⟨-1, fun X hX => of_none _ p M i X (h.two.d.kept hX) hno (by omega), fun X hX => pOf_none _ r M R G i X (h.two.r.kept hX) hno⟩
  · obtain ⟨k, hk, rfl⟩ := int_nat hno
    obtain ⟨z, hO⟩ := OfOf.ex h.inv.good hk
    exact ⟨z, fun X hX => h.of hl hk hO hX, fun X hX => h.pOf hl hk hO hX⟩
theorem Grown.opnZ (h : Grown K E w p r M R G rk lim) (hl : lim ≤ 100000) (i : Int) : ∃ z : Int, (∀ X, Kept (fun k => k < w.heap.size) w X → Calls Tryz.prog 48 #[.pointer (some ⟨p, 0, none⟩), .int .i64 i] X fun e w' => e = .returned (.int .i64 z) ∧ Kept (fun k => k < X.heap.size) X w') ∧
    (∀ X, Kept (fun k => k < w.heap.size) w X → Calls Tryz.prog 49 #[.pointer (some ⟨r, 0, none⟩), .int .i64 i] X fun e w' => e = .returned (.int .i64 z) ∧ Kept (fun k => k < X.heap.size) X w') := by
  have hn := h.nle hl
  by_cases hno : i < 0 ∨ (M.n : Int) ≤ i
  · exact ⟨-1, fun X hX => open_none _ p M i X (h.two.d.kept hX) hno (by omega), fun X hX => pOpen_none _ r M R G i X (h.two.r.kept hX) hno⟩
  · obtain ⟨k, hk, rfl⟩ := int_nat hno
    exact ⟨_, fun X hX => h.opn hl hk hX, fun X hX => h.pOpn hl hk hX⟩
end
set_option maxRecDepth 20000 in
set_option maxHeartbeats 8000000 in
theorem stells_go (l : List Opx) (n : Nat) (hln : l.length = n) (hnn : n ≤ 60) (a : Option Addr) (c : Nat) (hok : ∀ o ∈ l, OpOk o) (hb : opsH l ≤ 6000) (l2 : List Int) (n2 : Nat) (hln2 : l2.length = n2) (hnn2 : n2 ≤ 40) (a2 : Option Addr) (c2 : Nat) (f : Fg) (w : World) (h : OpsAt (fun k => k < w.heap.size) w a l) (hi2 : IntsZ (fun k => k < w.heap.size) w a2 l2) :
    Calls Tryz.prog 10 #[.slice a n c, .slice a2 n2 c2, fgV f] w fun e w' => e = .returned (.bool true) ∧ Kept (fun k => k < w.heap.size) w w' := by
  obtain ⟨W0, hW0⟩ : ∃ W0, w.alloc (flB f) = W0 := ⟨_, rfl⟩
  obtain ⟨N0, hN0⟩ : ∃ N0, w.heap.size = N0 := ⟨_, rfl⟩
  have hk0 : Kept (fun k => k < w.heap.size) w W0 := by rw [← hW0]; exact (Kept.refl _ w).alloc (fun _ h => h) _
  have hb0 : W0.heap[N0]? = some (.cells #[.bool f.a, .bool f.b, .bool f.c, .bool f.d, .bool f.e] 34 (0, 0)) := by rw [← hW0, ← hN0]; exact heap_alloc_new w _
  have h0 : OpsAt (fun k => k < W0.heap.size) W0 a l := h.kept hk0 fun g hg => Nat.lt_of_lt_of_le hg hk0.size
  have HW0 : Hid (w.alloc (flB f) = W0) := hW0
  have HN0 : Hid (w.heap.size = N0) := hN0
  have HK0 : Hid (Kept (fun k => k < w.heap.size) w W0) := hk0
  have HF0 : Hid (W0.heap[N0]? = some (.cells #[.bool f.a, .bool f.b, .bool f.c, .bool f.d, .bool f.e] 34 (0, 0))) := hb0
  have HI2 : Hid (IntsZ (fun k => k < w.heap.size) w a2 l2) := hi2
  have HL2 : Hid (l2.length = n2) := hln2
  have g40 : decide ((n2 : Int) > 40) = false := decide_eq_false (by omega)
  clear hW0 hN0 hk0 hb0 hi2 hln2
  have rh := heavy10_any l n hln hnn a c (by omega) W0 h0
  rw [decide_eq_false (by omega : ¬ 6000 < opsH l)] at rh
  have RG : Hid (∀ X, Kept (fun k => k < W0.heap.size) W0 X → Calls Tryz.prog 39 #[.slice a n c] X fun e w' => ∃ p r E M R G rk, e = .returned (.tuple #[.pointer (some ⟨p, 0, none⟩), .pointer (some ⟨r, 0, none⟩)]) ∧ Grown (fun k => k < X.heap.size) E w' p r M R G rk 300 ∧ Kept (fun k => k < X.heap.size) X w') := fun X hX => grown10 l n hln (by omega) a c hok (by omega) X (h0.kept hX fun g hg => Nat.lt_of_lt_of_le hg hX.size)
  clear hln hok hb h h0
  go_enter Tryz.func10, Tryz.ntmps10
  go_upto_region 1 with fail
  rw [HW0.out, HN0.out]
  clear HW0
  go_wp2_with fail
  refine rh.mono ?_
  rintro e w1 ⟨rfl, k1⟩
  have rk0 := sknown_any w1
  clear rh
  go_wp2_with fail
  refine rk0.mono ?_
  rintro e w2 ⟨rfl, k2⟩
  have k12 : Kept (fun k => k < W0.heap.size) W0 w2 := k1.trans (k2.mono fun k h => Nat.lt_of_lt_of_le h k1.size)
  have rg := RG.out w2 k12
  have HK12 : Hid (Kept (fun k => k < W0.heap.size) W0 w2) := k12
  clear rk0 k1 k2 k12 RG
  go_wp2_with fail
  refine rg.mono ?_
  rintro e W ⟨p, r, E, M, R, G, rk, rfl, hG, hK⟩
  have HG : Hid (Grown (fun k => k < w2.heap.size) E W p r M R G rk 300) := hG
  have HKW : Hid (Kept (fun k => k < W0.heap.size) W0 W) := HK12.out.trans (hK.mono fun k h => Nat.lt_of_lt_of_le h HK12.out.size)
  obtain ⟨m, hm⟩ : ∃ m, M.n = m := ⟨_, rfl⟩
  have HM : Hid (M.n = m) := hm
  have hm300 : m ≤ 300 := by have h1 := hG.le; rw [hG.lim, hm] at h1; exact h1
  have hm1 : 1 ≤ m := by rw [← hm]; exact hG.inv.core.pos
  have rl : Calls Tryz.prog 23 #[.pointer (some ⟨p, 0, none⟩)] W fun e w' => e = .returned (.int .i64 (m : Int)) ∧ w' = W := by rw [← hm]; exact hG.len (Kept.refl _ _)
  have NODE : Hid (∀ i, i < m → ∀ X, Kept (fun k => k < W.heap.size) W X → Calls Tryz.prog 24 #[.pointer (some ⟨p, 0, none⟩), .int .i64 (i : Int)] X fun e w' => Told X (M.nd i) (M.pl i).up (R i) e w') := fun i hi X hX => hG.node (by decide) (by rw [hm]; exact hi) hX
  have CFW : Hid (∀ X, Kept (fun k => k < w2.heap.size) W X → X.cell? ⟨N0, 0, none⟩ = some (.bool f.a) ∧ X.cell? ⟨N0, 1, none⟩ = some (.bool f.b) ∧ X.cell? ⟨N0, 2, none⟩ = some (.bool f.c) ∧ X.cell? ⟨N0, 3, none⟩ = some (.bool f.d) ∧ X.cell? ⟨N0, 4, none⟩ = some (.bool f.e)) := fun X hX => by
    have hlt := lt_block HF0.out
    have hb : X.heap[N0]? = some (.cells #[.bool f.a, .bool f.b, .bool f.c, .bool f.d, .bool f.e] 34 (0, 0)) := by
      rw [hX.block N0 (Nat.lt_of_lt_of_le hlt HK12.out.size), HKW.out.block N0 hlt]
      exact HF0.out
    exact ⟨by rw [cell_block hb]; rfl, by rw [cell_block hb]; rfl, by rw [cell_block hb]; rfl, by rw [cell_block hb]; rfl, by rw [cell_block hb]; rfl⟩
  have HKw : Hid (Kept (fun k => k < w.heap.size) w W) := HK0.out.trans (HKW.out.mono fun k h => Nat.lt_of_lt_of_le h HK0.out.size)
  have KLW : Hid (∀ k, k < w.heap.size → k < w2.heap.size) := fun k hk => Nat.lt_of_lt_of_le hk (Nat.le_trans HK0.out.size HK12.out.size)
  clear rg hG hK hm rl NODE hm300 hm1
  go_upto_region 7 with fail
  go_loopg [9] n2 (fun gh v wr => ∃ (k : Nat) (E : Nat → Prop) (M' : Dm) (R' G' : Nat → List Nat) (rk' : Nat → Nat), gh = n2 - k ∧ k ≤ n2 ∧ v = .int .i64 (k : Int) ∧ Grown (fun k => k < w2.heap.size) E wr p r M' R' G' rk' 300 ∧ Kept (fun k => k < w2.heap.size) W wr)
  case atStart => exact ⟨0, E, M, R, G, rk, rfl, Nat.zero_le _, rfl, HG.out, Kept.refl _ _⟩
  case round =>
    clear HG HM
    obtain ⟨k, E, M', R', G', rk', hgk, hk, rfl, hG, hK⟩ := hrel
    have HG : Hid (Grown (fun k => k < w2.heap.size) E wr p r M' R' G' rk' 300) := hG
    have HK : Hid (Kept (fun k => k < w2.heap.size) W wr) := hK
    by_cases hlt : k < n2
    · have hll : k < l2.length := by rw [HL2.out]; exact hlt
      obtain ⟨g, o, rfl, hg, hc⟩ := HI2.out k hll
      obtain ⟨z0, hz0⟩ : ∃ z0, l2[k] = z0 := ⟨_, rfl⟩
      rw [hz0] at hc
      have CZ : Hid (∀ X, Kept (fun k => k < w2.heap.size) W X → X.cell? ⟨g, o + k, none⟩ = some (.int .i64 z0)) := fun X hX => (hX.cell (p := ⟨g, o + k, none⟩) (KLW.out g hg)).trans ((HKw.out.cell (p := ⟨g, o + k, none⟩) hg).trans hc)
      have CF := CFW
      obtain ⟨v, z, M2, R2, G2, rk2, hI2, hGr, -, hzb, hd, hr2⟩ := both_attach hG.inv (hG.nle (by decide)) (by rw [hG.lim]; decide) z0 f
      have HR2 : Hid (∀ K w p, RX K w p M' R' G' → Calls Tryz.prog 47 #[.pointer (some ⟨p, 0, none⟩), .int .i64 z0, fgV f] w fun e w' => e = .returned (.tuple #[.int .i64 v, .int .i64 z]) ∧ RX K w' p M2 R2 G2 ∧ Kept K w w') := hr2
      have HI2' : Hid (Inv M2 R2 G2 rk2 ∧ Grows M' M2) := ⟨hI2, hGr⟩
      obtain ⟨W5, rfl⟩ : ∃ W5, W5 = wr := ⟨_, rfl⟩
      have hdr := hG.kept ((Kept.refl _ W5).drew)
      clear hc hz0 hG hr2 hI2 hGr
      go_upto_region 9 with fail
      refine wp_region_held_drew (S := fun X => Kept (fun k => k < w2.heap.size) W5 X) (by kernel_rfl) ((Kept.refl _ W5).drew) (fun hHeld => ?_)
      refine wpAnyH_take (i := 0) (oi := { dst := some 41, op := Op.move (Operand.tmp 7), type := 26, pos := "law.go:56", after := #[], guard := none }) (v := .pointer (some ⟨p, 0, none⟩)) rfl (by kernel_rfl) (by kernel_rfl) (by kernel_rfl) (fun _ _ _ h => h) (Or.inl ⟨by rfl, by intro X hX; go_simp; try with_reducible rfl⟩) hHeld ?_
      try simp only [Act.put, List.setIfInBounds_toArray, List.set_cons_zero, List.set_cons_succ]
      refine wpAnyH_take (i := 1) (oi := { dst := some 42, op := Op.move (Operand.tmp 1), type := 32, pos := "law.go:56", after := #[], guard := none }) (v := .slice (some ⟨g, o, none⟩) n2 c2) rfl (by kernel_rfl) (by kernel_rfl) (by kernel_rfl) (fun _ _ _ h => h) (Or.inl ⟨by rfl, by intro X hX; go_simp; try with_reducible rfl⟩) hHeld ?_
      try simp only [Act.put, List.setIfInBounds_toArray, List.set_cons_zero, List.set_cons_succ]
      refine wpAnyH_take (i := 2) (oi := { dst := some 43, op := Op.move (Operand.tmp 9), type := 3, pos := "law.go:56", after := #[], guard := none }) (v := .int .i64 (k : Int)) rfl (by kernel_rfl) (by kernel_rfl) (by kernel_rfl) (fun _ _ _ h => h) (Or.inl ⟨by rfl, by intro X hX; go_simp; try with_reducible rfl⟩) hHeld ?_
      try simp only [Act.put, List.setIfInBounds_toArray, List.set_cons_zero, List.set_cons_succ]
      refine wpAnyH_take (i := 3) (oi := { dst := some 44, op := Op.indexAddr 32 (Operand.tmp 42) (Operand.tmp 43), type := 0, pos := "law.go:56", after := #[{ on := 1, ground := Ground.data }, { on := 2, ground := Ground.data }], guard := none }) (v := .pointer (some ⟨g, o + k, none⟩)) rfl (by kernel_rfl) (by kernel_rfl) (by kernel_rfl) (fun _ _ _ h => h) (Or.inl ⟨by rfl, by intro X hX; go_simp; try with_reducible rfl⟩) hHeld ?_
      try simp only [Act.put, List.setIfInBounds_toArray, List.set_cons_zero, List.set_cons_succ]
      refine wpAnyH_take (i := 4) (oi := { dst := some 45, op := Op.load 3 (Operand.tmp 44), type := 3, pos := "law.go:56", after := #[{ on := 3, ground := Ground.data }], guard := none }) (v := .int .i64 z0) rfl (by kernel_rfl) (by kernel_rfl) (by kernel_rfl) (fun _ _ _ h => h) (Or.inl ⟨by rfl, by intro X hX; have hc := CZ.out X (HK.out.trans hX); go_simp; try with_reducible rfl⟩) hHeld ?_
      try simp only [Act.put, List.setIfInBounds_toArray, List.set_cons_zero, List.set_cons_succ]
      refine wpAnyH_take (i := 5) (oi := { dst := some 46, op := Op.load 34 (Operand.tmp 5), type := 34, pos := "law.go:56", after := #[], guard := none }) (v := fgV f) rfl (by kernel_rfl) (by kernel_rfl) (by kernel_rfl) (fun _ _ _ h => h) (Or.inl ⟨by rfl, by intro X hX; obtain ⟨d0, d1, d2, d3, d4⟩ := CF.out X (HK.out.trans hX); go_simp; try with_reducible rfl⟩) hHeld ?_
      try simp only [Act.put, List.setIfInBounds_toArray, List.set_cons_zero, List.set_cons_succ]
      refine wpAnyH_ready (rs := [6]) (by kernel_rfl) (by simp) ?_
      refine AllReadyH.cons (o := { dst := some 47, op := Op.call { callee := Callee.value (Operand.func 46), args := #[Operand.tmp 41, Operand.tmp 45, Operand.tmp 46], argTypes := #[26, 3, 34] }, type := 64, pos := "law.go:56", after := #[{ on := 0, ground := Ground.data }, { on := 4, ground := Ground.data }, { on := 5, ground := Ground.data }], guard := none }) rfl (fun Kx hK => ?_) AllReadyH.nil
      refine step_callE rfl 46 #[.tmp 41, .tmp 45, .tmp 46] #[26, 3, 34] rfl #[.pointer (some ⟨p, 0, none⟩), .int .i64 z0, fgV f] (by first | rfl | (simp [Act.eval]; done) | (simp [Act.eval, Act.put]; done)) (enter46 _ _) _ (hd _ W5.drew p hdr.two.d) ?_
      rintro e Y ⟨rfl, hDY, hKY⟩
      obtain ⟨hDY2, hRY, hKK⟩ := hdr.two.byD hKY hDY
      have hNY : Kept (fun k => k < w2.heap.size) W5 Y := ((Kept.refl _ W5).drew).trans hKK
      refine ⟨_, rfl, hK.out _ _ hNY (fun hHeld2 => ?_)⟩
      clear hK Kx hHeld
      replace hHeld := hHeld2
      clear hHeld2
      try simp only [Act.put, List.setIfInBounds_toArray, List.set_cons_zero, List.set_cons_succ]
      refine wpAnyH_take (i := 7) (oi := { dst := some 40, op := Op.move (Operand.tmp 47), type := 64, pos := "law.go:56", after := #[{ on := 6, ground := Ground.data }], guard := none }) (v := .tuple #[.int .i64 v, .int .u16 z]) rfl (by kernel_rfl) (by kernel_rfl) (by kernel_rfl) (fun _ _ _ h => h) (Or.inl ⟨by rfl, by intro X hX; go_simp; try with_reducible rfl⟩) hHeld ?_
      try simp only [Act.put, List.setIfInBounds_toArray, List.set_cons_zero, List.set_cons_succ]
      refine wpAnyH_take (i := 8) (oi := { dst := some 48, op := Op.extract (Operand.tmp 40) 0, type := 3, pos := "law.go:56", after := #[{ on := 7, ground := Ground.data }], guard := none }) (v := .int .i64 v) rfl (by kernel_rfl) (by kernel_rfl) (by kernel_rfl) (fun _ _ _ h => h) (Or.inl ⟨by rfl, by intro X hX; go_simp; try with_reducible rfl⟩) hHeld ?_
      try simp only [Act.put, List.setIfInBounds_toArray, List.set_cons_zero, List.set_cons_succ]
      refine wpAnyH_take (i := 9) (oi := { dst := some 49, op := Op.extract (Operand.tmp 40) 1, type := 37, pos := "law.go:56", after := #[{ on := 7, ground := Ground.data }, { on := 10, ground := Ground.gcOnly Departure.lateStores }], guard := none }) (v := .int .u16 z) rfl (by kernel_rfl) (by kernel_rfl) (by kernel_rfl) (fun _ _ _ h => h) (Or.inl ⟨by rfl, by intro X hX; go_simp; try with_reducible rfl⟩) hHeld ?_
      try simp only [Act.put, List.setIfInBounds_toArray, List.set_cons_zero, List.set_cons_succ]
      refine wpAnyH_take (i := 10) (oi := { dst := some 10, op := Op.assign (Operand.tmp 48), type := 3, pos := "law.go:56", after := #[{ on := 8, ground := Ground.data }, { on := 6, ground := Ground.chain }, { on := 0, ground := Ground.phase }, { on := 1, ground := Ground.phase }, { on := 2, ground := Ground.phase }, { on := 3, ground := Ground.phase }, { on := 4, ground := Ground.phase }, { on := 5, ground := Ground.phase }, { on := 6, ground := Ground.phase }, { on := 7, ground := Ground.phase }, { on := 8, ground := Ground.phase }, { on := 9, ground := Ground.textOnly Departure.lateStores }], guard := none }) (v := .int .i64 v) rfl (by kernel_rfl) (by kernel_rfl) (by kernel_rfl) (fun _ _ _ h => h) (Or.inl ⟨by rfl, by intro X hX; go_simp; try with_reducible rfl⟩) hHeld ?_
      try simp only [Act.put, List.setIfInBounds_toArray, List.set_cons_zero, List.set_cons_succ]
      refine wpAnyH_take (i := 11) (oi := { dst := some 11, op := Op.assign (Operand.tmp 49), type := 37, pos := "law.go:56", after := #[{ on := 9, ground := Ground.data }, { on := 10, ground := Ground.chain }, { on := 0, ground := Ground.phase }, { on := 1, ground := Ground.phase }, { on := 2, ground := Ground.phase }, { on := 3, ground := Ground.phase }, { on := 4, ground := Ground.phase }, { on := 5, ground := Ground.phase }, { on := 6, ground := Ground.phase }, { on := 7, ground := Ground.phase }, { on := 8, ground := Ground.phase }, { on := 9, ground := Ground.phase }, { on := 10, ground := Ground.phase }], guard := none }) (v := .int .u16 z) rfl (by kernel_rfl) (by kernel_rfl) (by kernel_rfl) (fun _ _ _ h => h) (Or.inl ⟨by rfl, by intro X hX; go_simp; try with_reducible rfl⟩) hHeld ?_
      try simp only [Act.put, List.setIfInBounds_toArray, List.set_cons_zero, List.set_cons_succ]
      refine wpAnyH_done (by kernel_rfl) ?_ _
      try simp only [Act.put]
      have HKY : Hid (Kept (fun k => k < w2.heap.size) W Y) := HK.out.trans hNY
      have HDY : Hid (DX (TK (fun k => k < w2.heap.size) E) Y.drew p M2) := hDY2.kept ((Kept.refl _ Y).drew)
      have hRYd : RX (TL (fun k => k < w2.heap.size) E Y.drew) Y.drew r M' R' G' := hRY.kept ((Kept.refl _ Y).drew)
      clear hNY hDY hKY hDY2 hKK hHeld hRY hdr hd
      go_upto_region 10 with fail
      refine wp_region_held_drew (S := fun X => Kept (fun k => k < w2.heap.size) Y X) (by kernel_rfl) ((Kept.refl _ Y).drew) (fun hHeld => ?_)
      refine wpAnyH_take (i := 0) (oi := { dst := some 51, op := Op.move (Operand.tmp 8), type := 27, pos := "law.go:57", after := #[], guard := none }) (v := .pointer (some ⟨r, 0, none⟩)) rfl (by kernel_rfl) (by kernel_rfl) (by kernel_rfl) (fun _ _ _ h => h) (Or.inl ⟨by rfl, by intro X hX; go_simp; try with_reducible rfl⟩) hHeld ?_
      try simp only [Act.put, List.setIfInBounds_toArray, List.set_cons_zero, List.set_cons_succ]
      refine wpAnyH_take (i := 1) (oi := { dst := some 52, op := Op.move (Operand.tmp 1), type := 32, pos := "law.go:57", after := #[], guard := none }) (v := .slice (some ⟨g, o, none⟩) n2 c2) rfl (by kernel_rfl) (by kernel_rfl) (by kernel_rfl) (fun _ _ _ h => h) (Or.inl ⟨by rfl, by intro X hX; go_simp; try with_reducible rfl⟩) hHeld ?_
      try simp only [Act.put, List.setIfInBounds_toArray, List.set_cons_zero, List.set_cons_succ]
      refine wpAnyH_take (i := 2) (oi := { dst := some 53, op := Op.move (Operand.tmp 9), type := 3, pos := "law.go:57", after := #[], guard := none }) (v := .int .i64 (k : Int)) rfl (by kernel_rfl) (by kernel_rfl) (by kernel_rfl) (fun _ _ _ h => h) (Or.inl ⟨by rfl, by intro X hX; go_simp; try with_reducible rfl⟩) hHeld ?_
      try simp only [Act.put, List.setIfInBounds_toArray, List.set_cons_zero, List.set_cons_succ]
      refine wpAnyH_take (i := 3) (oi := { dst := some 54, op := Op.indexAddr 32 (Operand.tmp 52) (Operand.tmp 53), type := 0, pos := "law.go:57", after := #[{ on := 1, ground := Ground.data }, { on := 2, ground := Ground.data }], guard := none }) (v := .pointer (some ⟨g, o + k, none⟩)) rfl (by kernel_rfl) (by kernel_rfl) (by kernel_rfl) (fun _ _ _ h => h) (Or.inl ⟨by rfl, by intro X hX; go_simp; try with_reducible rfl⟩) hHeld ?_
      try simp only [Act.put, List.setIfInBounds_toArray, List.set_cons_zero, List.set_cons_succ]
      refine wpAnyH_take (i := 4) (oi := { dst := some 55, op := Op.load 3 (Operand.tmp 54), type := 3, pos := "law.go:57", after := #[{ on := 3, ground := Ground.data }], guard := none }) (v := .int .i64 z0) rfl (by kernel_rfl) (by kernel_rfl) (by kernel_rfl) (fun _ _ _ h => h) (Or.inl ⟨by rfl, by intro X hX; have hc := CZ.out X (HKY.out.trans hX); go_simp; try with_reducible rfl⟩) hHeld ?_
      try simp only [Act.put, List.setIfInBounds_toArray, List.set_cons_zero, List.set_cons_succ]
      refine wpAnyH_take (i := 5) (oi := { dst := some 56, op := Op.load 34 (Operand.tmp 5), type := 34, pos := "law.go:57", after := #[], guard := none }) (v := fgV f) rfl (by kernel_rfl) (by kernel_rfl) (by kernel_rfl) (fun _ _ _ h => h) (Or.inl ⟨by rfl, by intro X hX; obtain ⟨d0, d1, d2, d3, d4⟩ := CF.out X (HKY.out.trans hX); go_simp; try with_reducible rfl⟩) hHeld ?_
      try simp only [Act.put, List.setIfInBounds_toArray, List.set_cons_zero, List.set_cons_succ]
      refine wpAnyH_ready (rs := [6]) (by kernel_rfl) (by simp) ?_
      refine AllReadyH.cons (o := { dst := some 57, op := Op.call { callee := Callee.value (Operand.func 47), args := #[Operand.tmp 51, Operand.tmp 55, Operand.tmp 56], argTypes := #[27, 3, 34] }, type := 66, pos := "law.go:57", after := #[{ on := 0, ground := Ground.data }, { on := 4, ground := Ground.data }, { on := 5, ground := Ground.data }], guard := none }) rfl (fun Kx hK => ?_) AllReadyH.nil
      refine step_callE rfl 47 #[.tmp 51, .tmp 55, .tmp 56] #[27, 3, 34] rfl #[.pointer (some ⟨r, 0, none⟩), .int .i64 z0, fgV f] (by first | rfl | (simp [Act.eval]; done) | (simp [Act.eval, Act.put]; done)) (enter47 _ _) _ (HR2.out _ Y.drew r hRYd) ?_
      rintro e Z ⟨rfl, hRZ, hKZ⟩
      obtain ⟨hT2, hKK2⟩ := Two.byR (M := M') (R := R') (G := G') HDY.out HG.out.two.nk hKZ hRZ
      have hNZ : Kept (fun k => k < w2.heap.size) Y Z := ((Kept.refl _ Y).drew).trans hKK2
      refine ⟨_, rfl, hK.out _ _ hNZ (fun hHeld2 => ?_)⟩
      clear hK Kx hHeld
      replace hHeld := hHeld2
      clear hHeld2
      try simp only [Act.put, List.setIfInBounds_toArray, List.set_cons_zero, List.set_cons_succ]
      refine wpAnyH_take (i := 7) (oi := { dst := some 50, op := Op.move (Operand.tmp 57), type := 66, pos := "law.go:57", after := #[{ on := 6, ground := Ground.data }], guard := none }) (v := .tuple #[.int .i64 v, .int .i64 z]) rfl (by kernel_rfl) (by kernel_rfl) (by kernel_rfl) (fun _ _ _ h => h) (Or.inl ⟨by rfl, by intro X hX; go_simp; try with_reducible rfl⟩) hHeld ?_
      try simp only [Act.put, List.setIfInBounds_toArray, List.set_cons_zero, List.set_cons_succ]
      refine wpAnyH_take (i := 8) (oi := { dst := some 58, op := Op.extract (Operand.tmp 50) 0, type := 3, pos := "law.go:57", after := #[{ on := 7, ground := Ground.data }], guard := none }) (v := .int .i64 v) rfl (by kernel_rfl) (by kernel_rfl) (by kernel_rfl) (fun _ _ _ h => h) (Or.inl ⟨by rfl, by intro X hX; go_simp; try with_reducible rfl⟩) hHeld ?_
      try simp only [Act.put, List.setIfInBounds_toArray, List.set_cons_zero, List.set_cons_succ]
      refine wpAnyH_take (i := 9) (oi := { dst := some 59, op := Op.extract (Operand.tmp 50) 1, type := 3, pos := "law.go:57", after := #[{ on := 7, ground := Ground.data }, { on := 10, ground := Ground.gcOnly Departure.lateStores }], guard := none }) (v := .int .i64 z) rfl (by kernel_rfl) (by kernel_rfl) (by kernel_rfl) (fun _ _ _ h => h) (Or.inl ⟨by rfl, by intro X hX; go_simp; try with_reducible rfl⟩) hHeld ?_
      try simp only [Act.put, List.setIfInBounds_toArray, List.set_cons_zero, List.set_cons_succ]
      refine wpAnyH_take (i := 10) (oi := { dst := some 12, op := Op.assign (Operand.tmp 58), type := 3, pos := "law.go:57", after := #[{ on := 8, ground := Ground.data }, { on := 6, ground := Ground.chain }, { on := 0, ground := Ground.phase }, { on := 1, ground := Ground.phase }, { on := 2, ground := Ground.phase }, { on := 3, ground := Ground.phase }, { on := 4, ground := Ground.phase }, { on := 5, ground := Ground.phase }, { on := 6, ground := Ground.phase }, { on := 7, ground := Ground.phase }, { on := 8, ground := Ground.phase }, { on := 9, ground := Ground.textOnly Departure.lateStores }], guard := none }) (v := .int .i64 v) rfl (by kernel_rfl) (by kernel_rfl) (by kernel_rfl) (fun _ _ _ h => h) (Or.inl ⟨by rfl, by intro X hX; go_simp; try with_reducible rfl⟩) hHeld ?_
      try simp only [Act.put, List.setIfInBounds_toArray, List.set_cons_zero, List.set_cons_succ]
      refine wpAnyH_take (i := 11) (oi := { dst := some 13, op := Op.assign (Operand.tmp 59), type := 3, pos := "law.go:57", after := #[{ on := 9, ground := Ground.data }, { on := 10, ground := Ground.chain }, { on := 0, ground := Ground.phase }, { on := 1, ground := Ground.phase }, { on := 2, ground := Ground.phase }, { on := 3, ground := Ground.phase }, { on := 4, ground := Ground.phase }, { on := 5, ground := Ground.phase }, { on := 6, ground := Ground.phase }, { on := 7, ground := Ground.phase }, { on := 8, ground := Ground.phase }, { on := 9, ground := Ground.phase }, { on := 10, ground := Ground.phase }], guard := none }) (v := .int .i64 z) rfl (by kernel_rfl) (by kernel_rfl) (by kernel_rfl) (fun _ _ _ h => h) (Or.inl ⟨by rfl, by intro X hX; go_simp; try with_reducible rfl⟩) hHeld ?_
      try simp only [Act.put, List.setIfInBounds_toArray, List.set_cons_zero, List.set_cons_succ]
      refine wpAnyH_done (by kernel_rfl) ?_ _
      try simp only [Act.put]
      have HKZ : Hid (Kept (fun k => k < w2.heap.size) W Z) := HKY.out.trans hNZ
      have hlim2 : M2.limit = 300 := HI2'.out.2.limit.trans HG.out.lim
      have hG2 : Grown (fun k => k < w2.heap.size) _ Z p r M2 R2 G2 rk2 300 := ⟨hT2, HI2'.out.1, hlim2, HI2'.out.2.le HG.out.le⟩
      obtain ⟨E2, hE2⟩ : ∃ E2, E2 = (fun k => k < Z.heap.size ∧ ¬ (k < w2.heap.size) ∧ (E k ∨ Y.drew.heap.size ≤ k)) := ⟨_, rfl⟩
      rw [← hE2] at hG2
      have rs := same_any _ _ Z p r M2 R2 G2 rk2 hG2.two hG2.inv (hG2.nle (by decide))
      have HG2 : Hid (Grown (fun k => k < w2.heap.size) E2 Z p r M2 R2 G2 rk2 300) := hG2
      have hcv := fun X => run_conv47 z X hzb.1 hzb.2
      clear hT2 hKK2 hNZ hRZ hKZ hHeld hRYd hE2 hG2 hlim2 HDY
      go_upto_region 11 with fail
      go_wp2_with (go_at_call 44; refine rs.mono ?_; rintro e w7 ⟨rfl, hk7⟩)
      go_roundg (n2 - (k + 1))
      case rel => exact ⟨k + 1, E2, M2, R2, G2, rk2, rfl, by omega, by go_num, HG2.out.kept hk7, HKZ.out.trans (hk7.mono HG2.out.two.lt)⟩
      case measure => omega
    · have hkn : n2 = k := by omega
      subst hkn
      obtain ⟨W5, rfl⟩ : ∃ W5, W5 = wr := ⟨_, rfl⟩
      obtain ⟨m, hm⟩ : ∃ m, M'.n = m := ⟨_, rfl⟩
      have hm300 : m ≤ 300 := by have h1 := hG.le; rw [hG.lim, hm] at h1; exact h1
      have LEN : Hid (∀ X, Kept (fun k => k < W5.heap.size) W5 X → Calls Tryz.prog 23 #[.pointer (some ⟨p, 0, none⟩)] X fun e w' => e = .returned (.int .i64 (m : Int)) ∧ w' = X) := fun X hX => by rw [← hm]; exact hG.len hX
      have HKw5 : Hid (Kept (fun k => k < w.heap.size) w W5) := HKw.out.trans (hK.mono KLW.out)
      clear hG hK hm
      go_upto_region 14 with fail
      go_loopg [14] (m + 2) (fun gh v wr => ∃ j : Nat, gh = m + 2 - j ∧ j ≤ m + 2 ∧ v = .int .i64 ((j : Int) - 1) ∧ Kept (fun k => k < W5.heap.size) W5 wr)
      case atStart => exact ⟨0, rfl, Nat.zero_le _, rfl, Kept.refl _ _⟩
      case round =>
        obtain ⟨j, hgj, hj, rfl, hK5⟩ := hrel
        have rl := LEN.out wr hK5
        have HK5 : Hid (Kept (fun k => k < W5.heap.size) W5 wr) := hK5
        obtain ⟨jz, hjz⟩ : ∃ jz : Int, (j : Int) - 1 = jz := ⟨_, rfl⟩
        have HJZ : Hid ((j : Int) - 1 = jz) := hjz
        rw [hjz]
        by_cases hlt : j < m + 2
        · have e1 : decide (jz ≤ (m : Int)) = true := decide_eq_true (by omega)
          have hjb : -1 ≤ jz ∧ jz ≤ 300 := by omega
          obtain ⟨z1, d1, r1⟩ := HG.out.ofZ (by decide) jz
          obtain ⟨z2, d2, r2⟩ := HG.out.opnZ (by decide) jz
          have D2 : Hid (∀ X, Kept (fun k => k < W5.heap.size) W5 X → Calls Tryz.prog 48 #[.pointer (some ⟨p, 0, none⟩), .int .i64 jz] X fun e w' => e = .returned (.int .i64 z2) ∧ Kept (fun k => k < X.heap.size) X w') := d2
          have R1 : Hid (∀ X, Kept (fun k => k < W5.heap.size) W5 X → Calls Tryz.prog 41 #[.pointer (some ⟨r, 0, none⟩), .int .i64 jz] X fun e w' => e = .returned (.int .i64 z1) ∧ w' = X) := r1
          have R2 : Hid (∀ X, Kept (fun k => k < W5.heap.size) W5 X → Calls Tryz.prog 49 #[.pointer (some ⟨r, 0, none⟩), .int .i64 jz] X fun e w' => e = .returned (.int .i64 z2) ∧ Kept (fun k => k < X.heap.size) X w') := r2
          have q1 := d1 wr hK5
          clear d1 d2 r1 r2 hK5 hjz
          go_upto_region 16 with (go_at_call 23; refine rl.mono ?_; rintro e1 w3 ⟨rfl, hw3⟩; replace hw3 := hw3.symm; subst hw3)
          clear rl
          go_wp2_with fail
          refine q1.mono ?_
          rintro e u1 ⟨rfl, k1⟩
          have K1 : Kept (fun k => k < W5.heap.size) W5 u1 := HK5.out.trans (k1.mono fun k h => Nat.lt_of_lt_of_le h HK5.out.size)
          have q2 := R1.out u1 K1
          clear q1 k1
          go_wp2_with fail
          refine q2.mono ?_
          rintro e w3 ⟨rfl, hw3⟩
          replace hw3 := hw3.symm
          subst hw3
          have q3 := D2.out u1 K1
          clear q2
          go_wp2_with fail
          refine q3.mono ?_
          rintro e u2 ⟨rfl, k2⟩
          have K2 : Kept (fun k => k < W5.heap.size) W5 u2 := K1.trans (k2.mono fun k h => Nat.lt_of_lt_of_le h K1.size)
          have q4 := R2.out u2 K2
          clear q3 k2 K1
          go_wp2_with fail
          refine q4.mono ?_
          rintro e u3 ⟨rfl, k3⟩
          have HK3 : Hid (Kept (fun k => k < W5.heap.size) W5 u3) := K2.trans (k3.mono fun k h => Nat.lt_of_lt_of_le h K2.size)
          clear q4 k3 K2
          go_wp2
          go_roundg (m + 2 - (j + 1))
          case rel => exact ⟨j + 1, rfl, by omega, by rw [← HJZ.out]; go_num, HK3.out⟩
          case measure => omega
        · have e1 : decide (jz ≤ (m : Int)) = false := decide_eq_false (by omega)
          clear hK5 hjz
          go_wp2_with (go_at_call 23; refine rl.mono ?_; rintro e1 w3 ⟨rfl, hw3⟩; replace hw3 := hw3.symm; subst hw3)
          go_ret
          exact ⟨rfl, HKw5.out.trans (HK5.out.mono fun k h => Nat.lt_of_lt_of_le h HKw5.out.size)⟩
set_option maxRecDepth 20000 in
theorem stells_no (a : Option Addr) (n c : Nat) (a2 : Option Addr) (n2 c2 : Nat) (f : Fg) (w : World) (rh : ∀ X, Kept (fun k => k < w.heap.size) w X → Calls Tryz.prog 37 #[.slice a n c] X fun e w' => e = .returned (.bool true) ∧ Kept (fun k => k < X.heap.size) X w') :
    Calls Tryz.prog 10 #[.slice a n c, .slice a2 n2 c2, fgV f] w fun e w' => e = .returned (.bool true) ∧ Kept (fun k => k < w.heap.size) w w' := by
  have hk0 : Kept (fun k => k < w.heap.size) w (w.alloc (flB f)) := (Kept.refl _ w).alloc (fun _ h => h) _
  have rh0 := rh _ hk0
  have HK0 : Hid (Kept (fun k => k < w.heap.size) w (w.alloc (flB f))) := hk0
  clear rh hk0
  go_enter Tryz.func10, Tryz.ntmps10
  go_wp2_with fail
  refine rh0.mono ?_
  rintro e w1 ⟨rfl, k1⟩
  have rk0 := sknown_any w1
  have HK1 : Hid (Kept (fun k => k < w.heap.size) w w1) := HK0.out.trans (k1.mono fun k h => Nat.lt_of_lt_of_le h HK0.out.size)
  clear rh0 HK0 k1
  go_wp2_with (go_at_call 38; refine rk0.mono ?_; rintro e w2 ⟨rfl, k2⟩)
  go_ret
  exact ⟨rfl, HK1.out.trans (k2.mono fun k h => Nat.lt_of_lt_of_le h HK1.out.size)⟩
set_option maxRecDepth 20000 in
theorem stells_long (a : Option Addr) (n c : Nat) (a2 : Option Addr) (n2 c2 : Nat) (h40 : 40 < n2) (f : Fg) (w : World) (rh : ∀ X, Kept (fun k => k < w.heap.size) w X → Calls Tryz.prog 37 #[.slice a n c] X fun e w' => e = .returned (.bool false) ∧ Kept (fun k => k < X.heap.size) X w') :
    Calls Tryz.prog 10 #[.slice a n c, .slice a2 n2 c2, fgV f] w fun e w' => e = .returned (.bool true) ∧ Kept (fun k => k < w.heap.size) w w' := by
  have hk0 : Kept (fun k => k < w.heap.size) w (w.alloc (flB f)) := (Kept.refl _ w).alloc (fun _ h => h) _
  have rh0 := rh _ hk0
  have HK0 : Hid (Kept (fun k => k < w.heap.size) w (w.alloc (flB f))) := hk0
  have g40 : decide ((n2 : Int) > 40) = true := decide_eq_true (by omega)
  clear rh hk0
  go_enter Tryz.func10, Tryz.ntmps10
  go_wp2_with fail
  refine rh0.mono ?_
  rintro e w1 ⟨rfl, k1⟩
  have rk0 := sknown_any w1
  have HK1 : Hid (Kept (fun k => k < w.heap.size) w w1) := HK0.out.trans (k1.mono fun k h => Nat.lt_of_lt_of_le h HK0.out.size)
  clear rh0 HK0 k1
  go_wp2_with (go_at_call 38; refine rk0.mono ?_; rintro e w2 ⟨rfl, k2⟩)
  go_ret
  exact ⟨rfl, HK1.out.trans (k2.mono fun k h => Nat.lt_of_lt_of_le h HK1.out.size)⟩
end Go.Proofs.YtbhfnbplbkncmaaGreat
