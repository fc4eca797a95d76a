/-
  The document's own Make.
-/
import Derived.Test.YthhoicmfmfeehaaGreatZ30
import Derived.BigQuiet
namespace Go.Proofs.YthhoicmfmfeehaaGreat
open Go.RowKit Go.Sort
set_option linter.unusedVariables false
abbrev tempN : List UInt8 := [116, 101, 109, 112, 108, 97, 116, 101]
/-- What the document's own Make answers. -/
inductive RMakes (K : Nat → Prop) (p : Nat) (M : Dm) (R G : Nat → List Nat) (x : Mk) (e : Ending) (w' : World) : Prop
  | arg : soundN x = false → e = .returned (.tuple #[.int .i64 0, .int .i64 1]) → RX K w' p M R G → RMakes K p M R G x e w'
  | full : soundN x = true → M.limit < M.n + (if x.kind = 1 ∧ x.name = tempN then 2 else 1) → e = .returned (.tuple #[.int .i64 0, .int .i64 3]) → RX K w' p M R G → RMakes K p M R G x e w'
  | two : soundN x = true → (x.kind = 1 ∧ x.name = tempN) → M.n + 2 ≤ M.limit → e = .returned (.tuple #[.int .i64 (M.n : Int), .int .i64 0]) → RX K w' p (M.addT x.nd) (updR (updR R M.n []) (M.n + 1) []) (updR (updR G M.n []) (M.n + 1) []) → RMakes K p M R G x e w'
  | one : soundN x = true → ¬ (x.kind = 1 ∧ x.name = tempN) → M.n + 1 ≤ M.limit → e = .returned (.tuple #[.int .i64 (M.n : Int), .int .i64 0]) → RX K w' p (M.add x.nd) (updR R M.n []) (updR G M.n []) → RMakes K p M R G x e w'
theorem enter89 (args : Array Value) (X : World) : (callFunc 89 args).run Tryz.prog X = .ok (.enter 89 args) X := entersE Tryz.func89 (by kernel_rfl) (c := _) rfl args X
theorem enter39 (args : Array Value) (X : World) : (callFunc 39 args).run Tryz.prog X = .ok (.enter 39 args) X := entersE Tryz.func39 (by kernel_rfl) (c := _) rfl args X
theorem soundN_5 (S D : List UInt8) (l : List Atr) : soundN ⟨5, S, D, l⟩ = false := by
  rw [soundN_o 5 (by decide) (by decide)]
  simp [soundL, soundP, kindP]
theorem builtR_made (kd : Nat) (S D : ByteArray) (ao : Option Addr) (n c : Nat) : Tryz.prog.built 45 [(0, .int .u8 (kd : Int)), (1, .string S), (2, .string D), (3, .slice ao n c)] = some (rV (kd : Int) S D ao n c 0 none 0 0 0 0 0 ⟨false, false, false, false, false⟩) := by kernel_rfl
set_option maxRecDepth 20000 in
set_option maxHeartbeats 4000000 in
theorem rmake_go (K : Nat → Prop) (p : Nat) (kd : Nat) (S D : ByteArray) (l : List Atr) (aa : Option Addr) (n ac : Nat) (w : World) (M : Dm) (R G : Nat → List Nat) (hX : RX K w p M R G) (hMn : M.n ≤ 100000) (hML : M.limit ≤ 100000) (hln : l.length = n) (hn : n ≤ 1000000) (hac : n ≤ ac) (ha : AtsAt (fun k => k < w.heap.size) w aa l) (hsz : ∀ x ∈ l, x.name.length < 1000000) (hS : S.size < 1000000) (hs : soundN ⟨kd, S.toList, D.toList, l⟩ = true) (tm : Bool) (htm : (decide (kd = 1) && S.toList == tempN) = tm) :
    Calls Tryz.prog 48 #[.pointer (some ⟨p, 0, none⟩), .agg (rV (kd : Int) S D aa n ac 0 none 0 0 0 0 0 ⟨false, false, false, false, false⟩)] w fun e w' => Kept K w w' ∧ (if tm = true then ((M.n + 2 ≤ M.limit ∧ e = .returned (.tuple #[.int .i64 (M.n : Int), .int .i64 0]) ∧ RX K w' p (M.addT (Mk.nd ⟨kd, S.toList, D.toList, l⟩)) (updR (updR R M.n []) (M.n + 1) []) (updR (updR G M.n []) (M.n + 1) [])) ∨ (¬ M.n + 2 ≤ M.limit ∧ e = .returned (.tuple #[.int .i64 0, .int .i64 3]) ∧ RX K w' p M R G)) else ((M.n + 1 ≤ M.limit ∧ e = .returned (.tuple #[.int .i64 (M.n : Int), .int .i64 0]) ∧ RX K w' p (M.add (Mk.nd ⟨kd, S.toList, D.toList, l⟩)) (updR R M.n []) (updR G M.n [])) ∨ (¬ M.n + 1 ≤ M.limit ∧ e = .returned (.tuple #[.int .i64 0, .int .i64 3]) ∧ RX K w' p M R G))) := by
  obtain ⟨W, hW⟩ : ∃ W, w.alloc (.cells (rV (kd : Int) S D aa n ac 0 none 0 0 0 0 0 ⟨false, false, false, false, false⟩) 45) = W := ⟨_, rfl⟩
  obtain ⟨N, hN⟩ : ∃ N, w.heap.size = N := ⟨_, rfl⟩
  have kW : Kept (fun k => k < w.heap.size) w W := by rw [← hW]; exact (Kept.refl _ w).alloc (fun _ h => h) _
  have hb : W.heap[N]? = some (.cells (rV (kd : Int) S D aa n ac 0 none 0 0 0 0 0 ⟨false, false, false, false, false⟩) 45 (0, 0)) := by rw [← hW, ← hN]; exact heap_alloc_new w _
  have rr := rright_any kd S D l aa n ac hln hn hac hsz hS 0 none 0 0 0 0 0 ⟨false, false, false, false, false⟩ W (ha.kept kW fun k h => Nat.lt_of_lt_of_le h kW.size)
  rw [hs] at rr
  have hNW := lt_block hb
  have hXW := hX.kept kW
  have HXW : Hid (RX K W p M R G) := hXW
  have HKW : Hid (Kept K w W) := kW.mono hX.lt
  have RA : Hid (∀ X, Kept (fun k => k < W.heap.size) W X → Calls Tryz.prog 89 #[.slice aa n ac] X fun e w' => ∃ ao c, e = .returned (.slice ao n c) ∧ OwnZ (fun k => k < X.heap.size) w' 67 2 ao n c (atrCells l) ∧ Kept (fun k => k < X.heap.size) X w') := fun X hX => rattrs_any l aa n ac hln (by omega) X ((ha.kept kW fun k h => Nat.lt_of_lt_of_le h kW.size).kept hX fun k h => Nat.lt_of_lt_of_le h hX.size)
  have HB : Hid (W.heap[N]? = some (.cells (rV (kd : Int) S D aa n ac 0 none 0 0 0 0 0 ⟨false, false, false, false, false⟩) 45 (0, 0))) := hb
  have HW : Hid (w.alloc (.cells (rV (kd : Int) S D aa n ac 0 none 0 0 0 0 0 ⟨false, false, false, false, false⟩) 45) = W) := hW
  have HN : Hid (w.heap.size = N) := hN
  have HLN : Hid (l.length = n) := hln
  have HSO : Hid (soundN ⟨kd, S.toList, D.toList, l⟩ = true) := hs
  obtain ⟨K2, hK2⟩ : ∃ K2 : Nat → Prop, (fun k => K k ∨ k = N) = K2 := ⟨_, rfl⟩
  have HK2L : Hid (∀ k, K2 k → k < W.heap.size) := fun k hk => by
    rw [← hK2] at hk
    rcases hk with hk | hk
    · exact HXW.out.lt k hk
    · rw [hk]; exact hNW
  have hN2 : K2 N := by rw [← hK2]; exact .inr rfl
  have HKK : Hid (∀ k, K k → K2 k) := fun k hk => by rw [← hK2]; exact .inl hk
  have hXW2 : RX K2 W p M R G := hX.more kW (fun k hk => by
    rw [← hK2] at hk
    rcases hk with hk | hk
    · exact .inl hk
    · exact .inr (by rw [hk, hN]; exact Nat.le_refl _)) HK2L.out
  have hk5 : kd ≠ 5 := fun e => by rw [e, soundN_5] at hs; cases hs
  have RAD : Hid (∀ Y ao c, Kept (fun k => k < W.heap.size) W Y → AtsAt (fun g => W.heap.size ≤ g ∧ g < Y.heap.size) Y ao l → n ≤ c → Calls Tryz.prog 39 #[.pointer (some ⟨p, 0, none⟩), .agg (rV (kd : Int) S D ao n c 0 none 0 0 0 0 0 ⟨false, false, false, false, false⟩)] Y fun e w' => e = .returned (.int .i64 (M.n : Int)) ∧ RX K2 w' p (M.add (Mk.nd ⟨kd, S.toList, D.toList, l⟩)) (updR R M.n []) (updR G M.n []) ∧ Kept K2 W w') := fun Y ao c hY hat hc => by
    have r := radd_any K2 p M R G W Y hXW2 hY (by omega) (Mk.nd ⟨kd, S.toList, D.toList, l⟩) ao c hat (by show l.length ≤ c; rw [hln]; exact hc)
    have e : rNew (Mk.nd ⟨kd, S.toList, D.toList, l⟩) = (Mk.nd ⟨kd, S.toList, D.toList, l⟩).new := by
      show Nd.mk kd S.toList D.toList l ⟨false, false, false, false, false⟩ (-1) (if kd = 5 then (0 : Int) else -1) (-1) = Nd.mk kd S.toList D.toList l ⟨false, false, false, false, false⟩ (-1) (-1) (-1)
      rw [if_neg hk5]
    rw [e, ← addX_add] at r
    have e2 : (⟨(Mk.nd ⟨kd, S.toList, D.toList, l⟩).name.toArray⟩ : ByteArray) = S := bytes_mk S
    have e3 : (⟨(Mk.nd ⟨kd, S.toList, D.toList, l⟩).data.toArray⟩ : ByteArray) = D := bytes_mk D
    rw [e2, e3] at r
    have e4 : (Mk.nd ⟨kd, S.toList, D.toList, l⟩).attrs.length = n := hln
    rw [e4] at r
    exact r
  have c0 : ∀ X, Kept K2 W X → X.cell? ⟨N, 0, none⟩ = some (.int .u8 (kd : Int)) := fun X hX => (hX.cell (p := ⟨N, 0, none⟩) hN2).trans (by rw [cell_block hb]; rfl)
  have c1 : ∀ X, Kept K2 W X → X.cell? ⟨N, 1, none⟩ = some (.string S) := fun X hX => (hX.cell (p := ⟨N, 1, none⟩) hN2).trans (by rw [cell_block hb]; rfl)
  have c2 : ∀ X, Kept K2 W X → X.cell? ⟨N, 2, none⟩ = some (.string D) := fun X hX => (hX.cell (p := ⟨N, 2, none⟩) hN2).trans (by rw [cell_block hb]; rfl)
  have c3 : ∀ X, Kept K2 W X → X.cell? ⟨N, 3, none⟩ = some (.slice aa n ac) := fun X hX => (hX.cell (p := ⟨N, 3, none⟩) hN2).trans (by rw [cell_block hb]; rfl)
  have HTM : Hid ((decide (kd = 1) && S.toList == tempN) = tm) := htm
  obtain ⟨mn, hmn⟩ : ∃ mn, M.n = mn := ⟨_, rfl⟩
  obtain ⟨ml, hml⟩ : ∃ ml, M.limit = ml := ⟨_, rfl⟩
  have HMN : Hid (M.n = mn) := hmn
  have HML : Hid (M.limit = ml) := hml
  rw [hmn] at hMn RAD
  rw [hml] at hML
  clear hW hN kW hb ha hXW hX hln hs hsz htm hmn hml hK2 hXW2 hk5
  go_enter Tryz.func48, Tryz.ntmps48
  go_wp2_with fail
  rw [HW.out, HN.out]
  clear HW
  refine rr.mono ?_
  rintro e w2 ⟨rfl, k2⟩
  clear rr
  have a0 := c0 w2 (k2.mono HK2L.out)
  have a1 := c1 w2 (k2.mono HK2L.out)
  go_upto_region 3 with fail
  go_cut [6] (fun v6 wx => v6 = .bool tm ∧ wx = w2)
  case first =>
    have htm := HTM.out
    by_cases q1 : kd = 1
    · subst q1
      have b0 : w2.cell? ⟨N, 0, none⟩ = some (.int .u8 1) := a0
      have e1 : (S.toList == tempN) = tm := by rw [← htm]; simp
      clear a0 htm
      go_wp2
      go_meet
      case rel => exact ⟨rfl, rfl⟩
    · have p1 : ((kd : Int) == 1) = false := by simp; omega
      have e1 : tm = false := by rw [← htm, decide_eq_false q1]; rfl
      subst e1
      clear htm
      go_wp2
      go_meet
      case rel => exact ⟨rfl, rfl⟩
  case rest =>
    obtain ⟨rfl, rfl⟩ := hcut
    obtain ⟨A, hYA⟩ := HXW.out.kept k2
    have m0 := hYA.c0
    have m1 := hYA.c1
    rw [HML.out] at m0
    rw [HMN.out] at m1
    clear hYA
    cases tm with
    | false =>
      by_cases hroom : mn + 1 ≤ ml
      · have g1 : decide ((mn : Int) ≥ (ml : Int)) = false := decide_eq_false (by omega)
        have g2 : decide (ml ≤ mn) = false := decide_eq_false (by omega)
        go_upto_region 4 with fail
        go_quiet (fail)
        have hK9 : Kept (fun k => k < W.heap.size) W ((wc.drewN nq).drew) := (k2.drewN nq).drew
        go_upto_region 6 with fail
        go_cut [7] (fun v7 wx => v7 = .int .i64 (mn : Int) ∧ RX K2 wx p (M.add (Mk.nd ⟨kd, S.toList, D.toList, l⟩)) (updR R mn []) (updR G mn []) ∧ Kept K2 W wx)
        case first =>
          refine wp_region_held_drew (S := fun X => Kept K2 W X) (by kernel_rfl) (hK9.mono HK2L.out) (fun hHeld => ?_)
          refine wpAnyH_take (i := 0) (oi := { dst := some 46, op := Op.move (Operand.tmp 0), type := 27, pos := "ref.go:70", after := #[], guard := none }) (v := .pointer (some ⟨p, 0, none⟩)) rfl (by kernel_rfl) (by kernel_rfl) (by kernel_rfl) (fun _ _ _ h => h) (Or.inl ⟨by rfl, by intro X hX; go_simp; try with_reducible rfl⟩) hHeld ?_
          try simp only [Act.put, List.setIfInBounds_toArray, List.set_cons_zero, List.set_cons_succ]
          refine wpAnyH_take (i := 1) (oi := { dst := some 47, op := Op.fieldAddr 45 (Operand.tmp 3) 0, type := 0, pos := "ref.go:70", after := #[], guard := none }) (v := .pointer (some ⟨N, 0, none⟩)) rfl (by kernel_rfl) (by kernel_rfl) (by kernel_rfl) (fun _ _ _ h => h) (Or.inl ⟨by rfl, by intro X hX; go_simp; try with_reducible rfl⟩) hHeld ?_
          try simp only [Act.put, List.setIfInBounds_toArray, List.set_cons_zero, List.set_cons_succ]
          refine wpAnyH_take (i := 2) (oi := { dst := some 48, op := Op.load 5 (Operand.tmp 47), type := 5, pos := "ref.go:70", after := #[{ on := 1, ground := Ground.data }], guard := none }) (v := .int .u8 (kd : Int)) rfl (by kernel_rfl) (by kernel_rfl) (by kernel_rfl) (fun _ _ _ h => h) (Or.inl ⟨by rfl, by intro X hX; have hc := c0 X hX; go_simp; try with_reducible rfl⟩) hHeld ?_
          try simp only [Act.put, List.setIfInBounds_toArray, List.set_cons_zero, List.set_cons_succ]
          refine wpAnyH_take (i := 3) (oi := { dst := some 49, op := Op.fieldAddr 45 (Operand.tmp 3) 1, type := 0, pos := "ref.go:70", after := #[], guard := none }) (v := .pointer (some ⟨N, 1, none⟩)) rfl (by kernel_rfl) (by kernel_rfl) (by kernel_rfl) (fun _ _ _ h => h) (Or.inl ⟨by rfl, by intro X hX; go_simp; try with_reducible rfl⟩) hHeld ?_
          try simp only [Act.put, List.setIfInBounds_toArray, List.set_cons_zero, List.set_cons_succ]
          refine wpAnyH_take (i := 4) (oi := { dst := some 50, op := Op.load 9 (Operand.tmp 49), type := 9, pos := "ref.go:70", after := #[{ on := 3, ground := Ground.data }], guard := none }) (v := .string S) rfl (by kernel_rfl) (by kernel_rfl) (by kernel_rfl) (fun _ _ _ h => h) (Or.inl ⟨by rfl, by intro X hX; have hc := c1 X hX; go_simp; try with_reducible rfl⟩) hHeld ?_
          try simp only [Act.put, List.setIfInBounds_toArray, List.set_cons_zero, List.set_cons_succ]
          refine wpAnyH_take (i := 5) (oi := { dst := some 51, op := Op.fieldAddr 45 (Operand.tmp 3) 2, type := 0, pos := "ref.go:70", after := #[], guard := none }) (v := .pointer (some ⟨N, 2, none⟩)) rfl (by kernel_rfl) (by kernel_rfl) (by kernel_rfl) (fun _ _ _ h => h) (Or.inl ⟨by rfl, by intro X hX; go_simp; try with_reducible rfl⟩) hHeld ?_
          try simp only [Act.put, List.setIfInBounds_toArray, List.set_cons_zero, List.set_cons_succ]
          refine wpAnyH_take (i := 6) (oi := { dst := some 52, op := Op.load 9 (Operand.tmp 51), type := 9, pos := "ref.go:70", after := #[{ on := 5, ground := Ground.data }], guard := none }) (v := .string D) rfl (by kernel_rfl) (by kernel_rfl) (by kernel_rfl) (fun _ _ _ h => h) (Or.inl ⟨by rfl, by intro X hX; have hc := c2 X hX; go_simp; try with_reducible rfl⟩) hHeld ?_
          try simp only [Act.put, List.setIfInBounds_toArray, List.set_cons_zero, List.set_cons_succ]
          refine wpAnyH_take (i := 7) (oi := { dst := some 53, op := Op.fieldAddr 45 (Operand.tmp 3) 3, type := 0, pos := "ref.go:70", after := #[], guard := none }) (v := .pointer (some ⟨N, 3, none⟩)) rfl (by kernel_rfl) (by kernel_rfl) (by kernel_rfl) (fun _ _ _ h => h) (Or.inl ⟨by rfl, by intro X hX; go_simp; try with_reducible rfl⟩) hHeld ?_
          try simp only [Act.put, List.setIfInBounds_toArray, List.set_cons_zero, List.set_cons_succ]
          refine wpAnyH_take (i := 8) (oi := { dst := some 54, op := Op.load 30 (Operand.tmp 53), type := 30, pos := "ref.go:70", after := #[{ on := 7, ground := Ground.data }], guard := none }) (v := .slice aa n ac) rfl (by kernel_rfl) (by kernel_rfl) (by kernel_rfl) (fun _ _ _ h => h) (Or.inl ⟨by rfl, by intro X hX; have hc := c3 X hX; go_simp; try with_reducible rfl⟩) hHeld ?_
          try simp only [Act.put, List.setIfInBounds_toArray, List.set_cons_zero, List.set_cons_succ]
          refine wpAnyH_ready (rs := [9]) (by kernel_rfl) (by simp) ?_
          refine AllReadyH.cons (o := { dst := some 55, op := Op.call { callee := Callee.value (Operand.func 89), args := #[Operand.tmp 54], argTypes := #[30] }, type := 30, pos := "ref.go:70", after := #[{ on := 8, ground := Ground.data }], guard := none }) rfl (fun Kx hK => ?_) AllReadyH.nil
          refine step_callE rfl 89 #[.tmp 54] #[30] rfl #[.slice aa n ac] (by first | (simp [Act.eval]; done) | (simp [Act.eval, Act.put]; done)) (enter89 _ _) _ (RA.out _ hK9) ?_
          rintro e Y ⟨ao, c, rfl, hO, hKY⟩
          have hWY : Kept (fun k => k < W.heap.size) W Y := hK9.trans (hKY.mono fun k hk => Nat.lt_of_lt_of_le hk hK9.size)
          refine ⟨_, rfl, hK.out _ _ (hWY.mono HK2L.out) (fun hHeld2 => ?_)⟩
          clear hK Kx hHeld
          replace hHeld := hHeld2
          clear hHeld2
          try simp only [Act.put, List.setIfInBounds_toArray, List.set_cons_zero, List.set_cons_succ]
          have rad := RAD.out Y ao c hWY (hO.atsAt fun g hg => ⟨Nat.le_trans hK9.size (Nat.le_of_not_lt (OwnZ.out hO hg).1), (OwnZ.out hO hg).2⟩) hO.2.1
          refine wpAnyH_take (i := 10) (oi := { dst := some 56, op := Op.build 45 #[(0, Operand.tmp 48), (1, Operand.tmp 50), (2, Operand.tmp 52), (3, Operand.tmp 55)], type := 45, pos := "ref.go:70", after := #[{ on := 2, ground := Ground.data }, { on := 4, ground := Ground.data }, { on := 6, ground := Ground.data }, { on := 9, ground := Ground.data }], guard := none }) (v := .agg (rV (kd : Int) S D ao n c 0 none 0 0 0 0 0 ⟨false, false, false, false, false⟩)) rfl (by kernel_rfl) (by kernel_rfl) (by kernel_rfl) (fun _ _ _ h => h) (Or.inl ⟨by rfl, by intro X hX; refine yields_build 45 _ rfl (rV (kd : Int) S D ao n c 0 none 0 0 0 0 0 ⟨false, false, false, false, false⟩) ?_; simp only [List.map_toArray, List.map_cons, List.map_nil, Act.eval]; exact builtR_made kd S D ao n c⟩) hHeld ?_
          try simp only [Act.put, List.setIfInBounds_toArray, List.set_cons_zero, List.set_cons_succ]
          refine wpAnyH_ready (rs := [11]) (by kernel_rfl) (by simp) ?_
          refine AllReadyH.cons (o := { dst := some 57, op := Op.call { callee := Callee.value (Operand.func 39), args := #[Operand.tmp 46, Operand.tmp 56], argTypes := #[27, 45] }, type := 3, pos := "ref.go:70", after := #[{ on := 0, ground := Ground.data }, { on := 10, ground := Ground.data }, { on := 9, ground := Ground.chain }], guard := none }) rfl (fun Kx hK => ?_) AllReadyH.nil
          refine step_callE rfl 39 #[.tmp 46, .tmp 56] #[27, 45] rfl #[.pointer (some ⟨p, 0, none⟩), .agg (rV (kd : Int) S D ao n c 0 none 0 0 0 0 0 ⟨false, false, false, false, false⟩)] (by first | (simp [Act.eval]; done) | (simp [Act.eval, Act.put]; done)) (enter39 _ _) _ rad ?_
          rintro e Z ⟨rfl, hXZ, hKZ⟩
          refine ⟨_, rfl, hK.out _ _ hKZ (fun hHeld2 => ?_)⟩
          clear hK Kx hHeld
          replace hHeld := hHeld2
          clear hHeld2
          try simp only [Act.put, List.setIfInBounds_toArray, List.set_cons_zero, List.set_cons_succ]
          refine wpAnyH_take (i := 12) (oi := { dst := some 7, op := Op.assign (Operand.tmp 57), type := 3, pos := "ref.go:70", after := #[{ on := 11, ground := Ground.data }, { on := 11, ground := Ground.chain }, { on := 0, ground := Ground.phase }, { on := 1, ground := Ground.phase }, { on := 2, ground := Ground.phase }, { on := 3, ground := Ground.phase }, { on := 4, ground := Ground.phase }, { on := 5, ground := Ground.phase }, { on := 6, ground := Ground.phase }, { on := 7, ground := Ground.phase }, { on := 8, ground := Ground.phase }, { on := 9, ground := Ground.phase }, { on := 10, ground := Ground.phase }, { on := 11, ground := Ground.phase }], guard := none }) (v := .int .i64 (mn : Int)) rfl (by kernel_rfl) (by kernel_rfl) (by kernel_rfl) (fun _ _ _ h => h) (Or.inl ⟨by rfl, by intro X hX; go_simp; try with_reducible rfl⟩) hHeld ?_
          try simp only [Act.put, List.setIfInBounds_toArray, List.set_cons_zero, List.set_cons_succ]
          refine wpAnyH_done (by kernel_rfl) ?_ _
          try simp only [Act.put]
          go_wp2_with fail
          go_meet
          case rel => exact ⟨rfl, hXZ, hKZ⟩
        case rest =>
          obtain ⟨rfl, hX7, hK7⟩ := hcut
          have HX8 : Hid (RX K wc p (M.add (Mk.nd ⟨kd, S.toList, D.toList, l⟩)) (updR R mn []) (updR G mn [])) := hX7.more (Kept.refl _ _) (fun k hk => .inl (HKK.out k hk)) (fun k hk => hX7.lt k (HKK.out k hk))
          have HK8 : Hid (Kept K w wc) := HKW.out.trans (hK7.mono HKK.out)
          clear hX7 hK7
          go_wp2
          go_ret2
          rw [HMN.out, HML.out]
          exact ⟨HK8.out, .inl ⟨by omega, rfl, HX8.out⟩⟩
      · have g1 : decide ((mn : Int) ≥ (ml : Int)) = true := decide_eq_true (by omega)
        have g2 : decide (ml ≤ mn) = true := decide_eq_true (by omega)
        go_upto_region 4 with fail
        go_quiet (fail)
        have HX3 : Hid (RX K (wc.drewN nq) p M R G) := HXW.out.kept (k2.drewN nq)
        have HK3 : Hid (Kept K w (wc.drewN nq)) := HKW.out.trans ((k2.drewN nq).mono HXW.out.lt)
        go_wp2
        go_ret2
        rw [HMN.out, HML.out]
        exact ⟨HK3.out, .inr ⟨by omega, rfl, HX3.out⟩⟩
    | true =>
      by_cases h0 : ml ≤ mn
      · have g1 : decide ((mn : Int) ≥ (ml : Int)) = true := decide_eq_true (by omega)
        have g2 : decide (ml ≤ mn) = true := decide_eq_true (by omega)
        go_upto_region 4 with fail
        go_quiet (fail)
        have HX3 : Hid (RX K (wc.drewN nq) p M R G) := HXW.out.kept (k2.drewN nq)
        have HK3 : Hid (Kept K w (wc.drewN nq)) := HKW.out.trans ((k2.drewN nq).mono HXW.out.lt)
        go_wp2
        go_ret2
        rw [HMN.out, HML.out]
        exact ⟨HK3.out, .inr ⟨by omega, rfl, HX3.out⟩⟩
      have g1 : decide ((mn : Int) ≥ (ml : Int)) = false := decide_eq_false (by omega)
      have g2 : decide (ml ≤ mn) = false := decide_eq_false (by omega)
      by_cases h1 : mn + 2 ≤ ml
      · have g3 : decide ((mn : Int) ≥ (ml : Int) - 1) = false := decide_eq_false (by omega)
        have g4 : decide ((ml : Int) - 1 ≤ (mn : Int)) = false := decide_eq_false (by omega)
        go_upto_region 4 with fail
        go_quiet (fail)
        have hK9 : Kept (fun k => k < W.heap.size) W ((wc.drewN nq).drew) := (k2.drewN nq).drew
        go_upto_region 6 with fail
        go_cut [7] (fun v7 wx => v7 = .int .i64 (mn : Int) ∧ RX K2 wx p (M.add (Mk.nd ⟨kd, S.toList, D.toList, l⟩)) (updR R mn []) (updR G mn []) ∧ Kept K2 W wx)
        case first =>
          refine wp_region_held_drew (S := fun X => Kept K2 W X) (by kernel_rfl) (hK9.mono HK2L.out) (fun hHeld => ?_)
          refine wpAnyH_take (i := 0) (oi := { dst := some 46, op := Op.move (Operand.tmp 0), type := 27, pos := "ref.go:70", after := #[], guard := none }) (v := .pointer (some ⟨p, 0, none⟩)) rfl (by kernel_rfl) (by kernel_rfl) (by kernel_rfl) (fun _ _ _ h => h) (Or.inl ⟨by rfl, by intro X hX; go_simp; try with_reducible rfl⟩) hHeld ?_
          try simp only [Act.put, List.setIfInBounds_toArray, List.set_cons_zero, List.set_cons_succ]
          refine wpAnyH_take (i := 1) (oi := { dst := some 47, op := Op.fieldAddr 45 (Operand.tmp 3) 0, type := 0, pos := "ref.go:70", after := #[], guard := none }) (v := .pointer (some ⟨N, 0, none⟩)) rfl (by kernel_rfl) (by kernel_rfl) (by kernel_rfl) (fun _ _ _ h => h) (Or.inl ⟨by rfl, by intro X hX; go_simp; try with_reducible rfl⟩) hHeld ?_
          try simp only [Act.put, List.setIfInBounds_toArray, List.set_cons_zero, List.set_cons_succ]
          refine wpAnyH_take (i := 2) (oi := { dst := some 48, op := Op.load 5 (Operand.tmp 47), type := 5, pos := "ref.go:70", after := #[{ on := 1, ground := Ground.data }], guard := none }) (v := .int .u8 (kd : Int)) rfl (by kernel_rfl) (by kernel_rfl) (by kernel_rfl) (fun _ _ _ h => h) (Or.inl ⟨by rfl, by intro X hX; have hc := c0 X hX; go_simp; try with_reducible rfl⟩) hHeld ?_
          try simp only [Act.put, List.setIfInBounds_toArray, List.set_cons_zero, List.set_cons_succ]
          refine wpAnyH_take (i := 3) (oi := { dst := some 49, op := Op.fieldAddr 45 (Operand.tmp 3) 1, type := 0, pos := "ref.go:70", after := #[], guard := none }) (v := .pointer (some ⟨N, 1, none⟩)) rfl (by kernel_rfl) (by kernel_rfl) (by kernel_rfl) (fun _ _ _ h => h) (Or.inl ⟨by rfl, by intro X hX; go_simp; try with_reducible rfl⟩) hHeld ?_
          try simp only [Act.put, List.setIfInBounds_toArray, List.set_cons_zero, List.set_cons_succ]
          refine wpAnyH_take (i := 4) (oi := { dst := some 50, op := Op.load 9 (Operand.tmp 49), type := 9, pos := "ref.go:70", after := #[{ on := 3, ground := Ground.data }], guard := none }) (v := .string S) rfl (by kernel_rfl) (by kernel_rfl) (by kernel_rfl) (fun _ _ _ h => h) (Or.inl ⟨by rfl, by intro X hX; have hc := c1 X hX; go_simp; try with_reducible rfl⟩) hHeld ?_
          try simp only [Act.put, List.setIfInBounds_toArray, List.set_cons_zero, List.set_cons_succ]
          refine wpAnyH_take (i := 5) (oi := { dst := some 51, op := Op.fieldAddr 45 (Operand.tmp 3) 2, type := 0, pos := "ref.go:70", after := #[], guard := none }) (v := .pointer (some ⟨N, 2, none⟩)) rfl (by kernel_rfl) (by kernel_rfl) (by kernel_rfl) (fun _ _ _ h => h) (Or.inl ⟨by rfl, by intro X hX; go_simp; try with_reducible rfl⟩) hHeld ?_
          try simp only [Act.put, List.setIfInBounds_toArray, List.set_cons_zero, List.set_cons_succ]
          refine wpAnyH_take (i := 6) (oi := { dst := some 52, op := Op.load 9 (Operand.tmp 51), type := 9, pos := "ref.go:70", after := #[{ on := 5, ground := Ground.data }], guard := none }) (v := .string D) rfl (by kernel_rfl) (by kernel_rfl) (by kernel_rfl) (fun _ _ _ h => h) (Or.inl ⟨by rfl, by intro X hX; have hc := c2 X hX; go_simp; try with_reducible rfl⟩) hHeld ?_
          try simp only [Act.put, List.setIfInBounds_toArray, List.set_cons_zero, List.set_cons_succ]
          refine wpAnyH_take (i := 7) (oi := { dst := some 53, op := Op.fieldAddr 45 (Operand.tmp 3) 3, type := 0, pos := "ref.go:70", after := #[], guard := none }) (v := .pointer (some ⟨N, 3, none⟩)) rfl (by kernel_rfl) (by kernel_rfl) (by kernel_rfl) (fun _ _ _ h => h) (Or.inl ⟨by rfl, by intro X hX; go_simp; try with_reducible rfl⟩) hHeld ?_
          try simp only [Act.put, List.setIfInBounds_toArray, List.set_cons_zero, List.set_cons_succ]
          refine wpAnyH_take (i := 8) (oi := { dst := some 54, op := Op.load 30 (Operand.tmp 53), type := 30, pos := "ref.go:70", after := #[{ on := 7, ground := Ground.data }], guard := none }) (v := .slice aa n ac) rfl (by kernel_rfl) (by kernel_rfl) (by kernel_rfl) (fun _ _ _ h => h) (Or.inl ⟨by rfl, by intro X hX; have hc := c3 X hX; go_simp; try with_reducible rfl⟩) hHeld ?_
          try simp only [Act.put, List.setIfInBounds_toArray, List.set_cons_zero, List.set_cons_succ]
          refine wpAnyH_ready (rs := [9]) (by kernel_rfl) (by simp) ?_
          refine AllReadyH.cons (o := { dst := some 55, op := Op.call { callee := Callee.value (Operand.func 89), args := #[Operand.tmp 54], argTypes := #[30] }, type := 30, pos := "ref.go:70", after := #[{ on := 8, ground := Ground.data }], guard := none }) rfl (fun Kx hK => ?_) AllReadyH.nil
          refine step_callE rfl 89 #[.tmp 54] #[30] rfl #[.slice aa n ac] (by first | (simp [Act.eval]; done) | (simp [Act.eval, Act.put]; done)) (enter89 _ _) _ (RA.out _ hK9) ?_
          rintro e Y ⟨ao, c, rfl, hO, hKY⟩
          have hWY : Kept (fun k => k < W.heap.size) W Y := hK9.trans (hKY.mono fun k hk => Nat.lt_of_lt_of_le hk hK9.size)
          refine ⟨_, rfl, hK.out _ _ (hWY.mono HK2L.out) (fun hHeld2 => ?_)⟩
          clear hK Kx hHeld
          replace hHeld := hHeld2
          clear hHeld2
          try simp only [Act.put, List.setIfInBounds_toArray, List.set_cons_zero, List.set_cons_succ]
          have rad := RAD.out Y ao c hWY (hO.atsAt fun g hg => ⟨Nat.le_trans hK9.size (Nat.le_of_not_lt (OwnZ.out hO hg).1), (OwnZ.out hO hg).2⟩) hO.2.1
          refine wpAnyH_take (i := 10) (oi := { dst := some 56, op := Op.build 45 #[(0, Operand.tmp 48), (1, Operand.tmp 50), (2, Operand.tmp 52), (3, Operand.tmp 55)], type := 45, pos := "ref.go:70", after := #[{ on := 2, ground := Ground.data }, { on := 4, ground := Ground.data }, { on := 6, ground := Ground.data }, { on := 9, ground := Ground.data }], guard := none }) (v := .agg (rV (kd : Int) S D ao n c 0 none 0 0 0 0 0 ⟨false, false, false, false, false⟩)) rfl (by kernel_rfl) (by kernel_rfl) (by kernel_rfl) (fun _ _ _ h => h) (Or.inl ⟨by rfl, by intro X hX; refine yields_build 45 _ rfl (rV (kd : Int) S D ao n c 0 none 0 0 0 0 0 ⟨false, false, false, false, false⟩) ?_; simp only [List.map_toArray, List.map_cons, List.map_nil, Act.eval]; exact builtR_made kd S D ao n c⟩) hHeld ?_
          try simp only [Act.put, List.setIfInBounds_toArray, List.set_cons_zero, List.set_cons_succ]
          refine wpAnyH_ready (rs := [11]) (by kernel_rfl) (by simp) ?_
          refine AllReadyH.cons (o := { dst := some 57, op := Op.call { callee := Callee.value (Operand.func 39), args := #[Operand.tmp 46, Operand.tmp 56], argTypes := #[27, 45] }, type := 3, pos := "ref.go:70", after := #[{ on := 0, ground := Ground.data }, { on := 10, ground := Ground.data }, { on := 9, ground := Ground.chain }], guard := none }) rfl (fun Kx hK => ?_) AllReadyH.nil
          refine step_callE rfl 39 #[.tmp 46, .tmp 56] #[27, 45] rfl #[.pointer (some ⟨p, 0, none⟩), .agg (rV (kd : Int) S D ao n c 0 none 0 0 0 0 0 ⟨false, false, false, false, false⟩)] (by first | (simp [Act.eval]; done) | (simp [Act.eval, Act.put]; done)) (enter39 _ _) _ rad ?_
          rintro e Z ⟨rfl, hXZ, hKZ⟩
          refine ⟨_, rfl, hK.out _ _ hKZ (fun hHeld2 => ?_)⟩
          clear hK Kx hHeld
          replace hHeld := hHeld2
          clear hHeld2
          try simp only [Act.put, List.setIfInBounds_toArray, List.set_cons_zero, List.set_cons_succ]
          refine wpAnyH_take (i := 12) (oi := { dst := some 7, op := Op.assign (Operand.tmp 57), type := 3, pos := "ref.go:70", after := #[{ on := 11, ground := Ground.data }, { on := 11, ground := Ground.chain }, { on := 0, ground := Ground.phase }, { on := 1, ground := Ground.phase }, { on := 2, ground := Ground.phase }, { on := 3, ground := Ground.phase }, { on := 4, ground := Ground.phase }, { on := 5, ground := Ground.phase }, { on := 6, ground := Ground.phase }, { on := 7, ground := Ground.phase }, { on := 8, ground := Ground.phase }, { on := 9, ground := Ground.phase }, { on := 10, ground := Ground.phase }, { on := 11, ground := Ground.phase }], guard := none }) (v := .int .i64 (mn : Int)) rfl (by kernel_rfl) (by kernel_rfl) (by kernel_rfl) (fun _ _ _ h => h) (Or.inl ⟨by rfl, by intro X hX; go_simp; try with_reducible rfl⟩) hHeld ?_
          try simp only [Act.put, List.setIfInBounds_toArray, List.set_cons_zero, List.set_cons_succ]
          refine wpAnyH_done (by kernel_rfl) ?_ _
          try simp only [Act.put]
          go_wp2_with fail
          go_meet
          case rel => exact ⟨rfl, hXZ, hKZ⟩
        case rest =>
          obtain ⟨rfl, hX7, hK7⟩ := hcut
          have hn7 : (M.add (Mk.nd ⟨kd, S.toList, D.toList, l⟩)).n = mn + 1 := by show M.n + 1 = _; rw [HMN.out]
          have ra := radd_any K2 p (M.add (Mk.nd ⟨kd, S.toList, D.toList, l⟩)) (updR R mn []) (updR G mn []) wc wc hX7 (Kept.refl _ _) (by rw [hn7]; omega) frag0 none 0 (AtsAt.nil _ _ _) (Nat.le_refl _)
          have hbu := builtR4
          have RAF : Hid (Calls Tryz.prog 39 #[.pointer (some ⟨p, 0, none⟩), .agg (rV 4 ⟨#[]⟩ ⟨#[]⟩ none 0 0 0 none 0 0 0 0 0 ⟨false, false, false, false, false⟩)] wc fun e w' => e = .returned (.int .i64 ((mn : Int) + 1)) ∧ RX K2 w' p ((M.add (Mk.nd ⟨kd, S.toList, D.toList, l⟩)).add frag0) (updR (updR R mn []) (mn + 1) []) (updR (updR G mn []) (mn + 1) []) ∧ Kept K2 wc w') := by
            rw [hn7] at ra
            exact (show Hid _ from ra)
          have HK7 : Hid (Kept K2 W wc) := hK7
          clear ra hX7 hK7
          go_wp2_with fail
          refine RAF.out.mono ?_
          rintro e w8 ⟨rfl, ⟨A8, hY8⟩, hK8⟩
          clear RAF
          have hn8 : ((M.add (Mk.nd ⟨kd, S.toList, D.toList, l⟩)).add frag0).n = mn + 2 := by show M.n + 1 + 1 = _; rw [HMN.out]
          obtain ⟨g8, hg8, -, -, -⟩ := hY8.nat (by rw [hn8]; omega)
          have d1 := hY8.c1
          rw [hg8, hn8] at d1
          have d7 : w8.cell? ⟨g8, (mn + 1) * 14 + 7, none⟩ = _ := hY8.cell hg8 (by rw [hn8]; omega) 7 _ rfl
          have f7 := hY8.fg hg8 ((mn + 1) * 14 + 7)
          obtain ⟨hY9, hK9'⟩ := hY8.setHost hg8 (i := mn + 1) (by rw [hn8]; omega) (mn : Int)
          obtain ⟨W9, hW9⟩ : ∃ W9, w8.setCell ⟨g8, (mn + 1) * 14 + 7, none⟩ (.int .i64 (mn : Int)) = W9 := ⟨_, rfl⟩
          rw [hW9] at hY9 hK9'
          have HW9 : Hid (w8.setCell ⟨g8, (mn + 1) * 14 + 7, none⟩ (.int .i64 (mn : Int)) = W9) := hW9
          have e1 := hY9.c1
          rw [hg8] at e1
          have e1' : W9.cell? ⟨p, 1, none⟩ = some (.slice (some ⟨g8, 0, none⟩) (mn + 2) A8.nc) := by rw [← hn8]; exact e1
          have e8 : W9.cell? ⟨g8, mn * 14 + 8, none⟩ = _ := hY9.cell hg8 (i := mn) (by show mn < ((M.add (Mk.nd ⟨kd, S.toList, D.toList, l⟩)).add frag0).n; rw [hn8]; omega) 8 _ rfl
          have f8 := hY9.fg hg8 (mn * 14 + 8)
          obtain ⟨hYT, hKT⟩ := hY9.setContent hg8 (i := mn) (by show mn < ((M.add (Mk.nd ⟨kd, S.toList, D.toList, l⟩)).add frag0).n; rw [hn8]; omega) ((mn : Int) + 1)
          have HXT : Hid (RX K (W9.setCell ⟨g8, mn * 14 + 8, none⟩ (.int .i64 ((mn : Int) + 1))) p (M.addT (Mk.nd ⟨kd, S.toList, D.toList, l⟩)) (updR (updR R mn []) (mn + 1) []) (updR (updR G mn []) (mn + 1) [])) := by
            have hT : RX K2 (W9.setCell ⟨g8, mn * 14 + 8, none⟩ (.int .i64 ((mn : Int) + 1))) p (M.addT (Mk.nd ⟨kd, S.toList, D.toList, l⟩)) (updR (updR R mn []) (mn + 1) []) (updR (updR G mn []) (mn + 1) []) := by
              refine (show RX K2 _ p _ _ _ from ⟨_, hYT⟩).congr rfl rfl (fun i hi => ?_) (fun _ _ => rfl) (fun _ _ => rfl) (fun _ _ => rfl)
              unfold Dm.addT
              rw [HMN.out]
              by_cases c1 : i = mn
              · subst c1
                rw [setN_ne _ _ (by omega), setN_same, setN_same, setN_ne _ _ (by omega)]
                congr 1
              · by_cases c2 : i = mn + 1
                · subst c2
                  rw [setN_same, setN_ne _ _ (by omega), setN_ne _ _ (by omega), setN_same]
                · rw [setN_ne _ _ c2, setN_ne _ _ c1, setN_ne _ _ c1, setN_ne _ _ c2]
            exact (show Hid _ from hT.more (Kept.refl _ _) (fun k hk => .inl (HKK.out k hk)) (fun k hk => hT.lt k (HKK.out k hk)))
          have HKT : Hid (Kept K w (W9.setCell ⟨g8, mn * 14 + 8, none⟩ (.int .i64 ((mn : Int) + 1)))) := HKW.out.trans ((((HK7.out.trans hK8).trans hK9').trans hKT).mono HKK.out)
          clear hY8 hY9 hYT hK8 hK9' hKT hW9 hg8 e1 hn7 hn8
          go_upto_region 10 with fail
          rw [HW9.out]
          go_wp2
          go_ret2
          rw [HMN.out, HML.out]
          exact ⟨HKT.out, .inl ⟨by omega, rfl, HXT.out⟩⟩
      · have g3 : decide ((mn : Int) ≥ (ml : Int) - 1) = true := decide_eq_true (by omega)
        have g4 : decide ((ml : Int) - 1 ≤ (mn : Int)) = true := decide_eq_true (by omega)
        go_upto_region 4 with fail
        go_quiet (fail)
        have HX3 : Hid (RX K (wc.drewN nq) p M R G) := HXW.out.kept (k2.drewN nq)
        have HK3 : Hid (Kept K w (wc.drewN nq)) := HKW.out.trans ((k2.drewN nq).mono HXW.out.lt)
        go_wp2
        go_ret2
        rw [HMN.out, HML.out]
        exact ⟨HK3.out, .inr ⟨by omega, rfl, HX3.out⟩⟩
set_option maxRecDepth 20000 in
set_option maxHeartbeats 1000000 in
theorem rmake_any (K : Nat → Prop) (p : Nat) (kd : Nat) (S D : ByteArray) (l : List Atr) (aa : Option Addr) (n ac : Nat) (w : World) (M : Dm) (R G : Nat → List Nat) (hX : RX K w p M R G) (hMn : M.n ≤ 100000) (hML : M.limit ≤ 100000) (hln : l.length = n) (hn : n ≤ 1000000) (hac : n ≤ ac) (ha : AtsAt (fun k => k < w.heap.size) w aa l) (hsz : ∀ x ∈ l, x.name.length < 1000000) (hS : S.size < 1000000) :
    Calls Tryz.prog 48 #[.pointer (some ⟨p, 0, none⟩), .agg (rV (kd : Int) S D aa n ac 0 none 0 0 0 0 0 ⟨false, false, false, false, false⟩)] w fun e w' => Kept K w w' ∧ RMakes K p M R G ⟨kd, S.toList, D.toList, l⟩ e w' := by
  obtain ⟨q, hq⟩ : ∃ q, soundN ⟨kd, S.toList, D.toList, l⟩ = q := ⟨_, rfl⟩
  cases q with
  | true =>
    obtain ⟨tm, htm⟩ : ∃ tm, (decide (kd = 1) && S.toList == tempN) = tm := ⟨_, rfl⟩
    refine (rmake_go K p kd S D l aa n ac w M R G hX hMn hML hln hn hac ha hsz hS hq tm htm).mono ?_
    rintro e w' ⟨hK, h⟩
    refine ⟨hK, ?_⟩
    cases tm with
    | true =>
      rw [if_pos rfl] at h
      have ht : kd = 1 ∧ S.toList = tempN := by simpa using htm
      rcases h with ⟨h1, h2, h3⟩ | ⟨h1, h2, h3⟩
      · exact .two hq ht h1 h2 h3
      · exact .full hq (by rw [if_pos ht]; omega) h2 h3
    | false =>
      rw [if_neg (by decide)] at h
      have ht : ¬ (kd = 1 ∧ S.toList = tempN) := by simpa using htm
      rcases h with ⟨h1, h2, h3⟩ | ⟨h1, h2, h3⟩
      · exact .one hq ht h1 h2 h3
      · exact .full hq (by rw [if_neg ht]; omega) h2 h3
  | false =>
    obtain ⟨W, hW⟩ : ∃ W, w.alloc (.cells (rV (kd : Int) S D aa n ac 0 none 0 0 0 0 0 ⟨false, false, false, false, false⟩) 45) = W := ⟨_, rfl⟩
    have kW : Kept (fun k => k < w.heap.size) w W := by rw [← hW]; exact (Kept.refl _ w).alloc (fun _ h => h) _
    have rr := rright_any kd S D l aa n ac hln hn hac hsz hS 0 none 0 0 0 0 0 ⟨false, false, false, false, false⟩ W (ha.kept kW fun k h => Nat.lt_of_lt_of_le h kW.size)
    rw [hq] at rr
    have HX : Hid (RX K w p M R G) := hX
    have HQ : Hid (soundN ⟨kd, S.toList, D.toList, l⟩ = false) := hq
    have HW : Hid (w.alloc (.cells (rV (kd : Int) S D aa n ac 0 none 0 0 0 0 0 ⟨false, false, false, false, false⟩) 45) = W) := hW
    have HKW : Hid (Kept (fun k => k < w.heap.size) w W) := kW
    clear hX hq hW kW ha hsz hln
    go_enter Tryz.func48, Tryz.ntmps48
    go_wp2_with fail
    rw [HW.out]
    refine rr.mono ?_
    rintro e w1 ⟨rfl, k1⟩
    have HK1 : Hid (Kept (fun k => k < w.heap.size) w w1) := HKW.out.trans (k1.mono fun k h => Nat.lt_of_lt_of_le h HKW.out.size)
    clear rr k1
    go_wp2
    go_ret2
    exact ⟨HK1.out.mono HX.out.lt, .arg HQ.out rfl (HX.out.kept HK1.out)⟩
end Go.Proofs.YthhoicmfmfeehaaGreat
