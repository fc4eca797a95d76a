/-
  WHAT Doc.Node ANSWERS.
-/
import Derived.Test.YthhoicmfmfeehaaGreatZ13
namespace Go.Proofs.YthhoicmfmfeehaaGreat
open Go.RowKit
set_option linter.unusedVariables false

abbrev outC (kd : Nat) (S D : ByteArray) (ao : Option Addr) (an c : Nat) (up : Int) (ko : Option Addr) (kn kc : Nat) (sh ho co : Int) (f : Fg) : Array Value := #[.int .u8 (kd : Int), .string S, .string D, .slice ao an c, .int .i64 up, .slice ko kn kc, .int .i64 sh, .int .i64 ho, .int .i64 co, .bool f.a, .bool f.b, .bool f.c, .bool f.d, .bool f.e]
theorem outC_one (kd : Nat) (S D : ByteArray) (ao : Option Addr) (an c : Nat) (up : Int) (ko : Option Addr) (kn kc : Nat) (sh ho co : Int) (f : Fg) : (outC kd S D ao an c up ko kn kc sh ho co f).all (·.oneCell') = true := by kernel_rfl
theorem built36 (kd : Nat) (S D : ByteArray) (ao : Option Addr) (an c : Nat) (up : Int) (ko : Option Addr) (kn kc : Nat) (sh ho co : Int) (f : Fg) : Tryz.prog.built 45 [(0, .int .u8 (kd : Int)), (1, .string S), (2, .string D), (3, .slice ao an c), (4, .int .i64 up), (5, .slice ko kn kc), (6, .int .i64 sh), (7, .int .i64 ho), (8, .int .i64 co), (9, .agg #[.bool f.a, .bool f.b, .bool f.c, .bool f.d, .bool f.e])] = some (outC kd S D ao an c up ko kn kc sh ho co f) := by kernel_rfl
theorem info36 : (Tryz.prog.info? 45).map (·.size) = some 14 := by kernel_rfl
theorem enter58 (args : Array Value) (X : World) : (callFunc 58 args).run Tryz.prog X = .ok (.enter 58 args) X := entersE Tryz.func58 (by kernel_rfl) (c := _) rfl args X
theorem enter59 (args : Array Value) (X : World) : (callFunc 59 args).run Tryz.prog X = .ok (.enter 59 args) X := entersE Tryz.func59 (by kernel_rfl) (c := _) rfl args X
theorem step_store36 {ops : Array Oper} {o : Oper} {a : Act} {w : World} {Kn : Act → World → Prop} {Q : Exit → Act → World → Prop} {E : Prop} (hgd : o.guard = none) (x y : Operand) (ho : o.op = .store 45 x y)
    (g : Nat) (cells : Array Value) (hx : a.eval x = .pointer (some ⟨g, 0, none⟩)) (hy : a.eval y = .agg cells) (old : Array Value) (hg : w.heap[g]? = some (.cells old 45 (0, 0))) (hc : cells.size = 14) (hold : old.size = 14) (h1 : cells.all (·.oneCell') = true)
    (h : Kn (a.put o.dst undef) (w.setRow g cells)) : if Region.wanted o (yielded ops a.tmps) = true then Oper.wp Tryz.prog o a w Kn Q else E := by
  have hw : Region.wanted o (yielded ops a.tmps) = true := by simp [Region.wanted, hgd]
  rw [if_pos hw]
  exact wp_store_row 45 x y ho g cells hx hy 45 old hg (by rw [hc]; exact info36) (by rw [hold, hc]) h1 h
theorem res18 (tmps : Array Value) (w : World) (g : Nat) (cs : Array Value) (h4 : tmps.getD 4 undef = .pointer (some ⟨g, 0, none⟩)) {u : Value} (h5 : tmps.getD 5 undef = u) (hg : w.heap[g]? = some (.cells cs 45)) (hc : cs.size = 14) :
    (results Tryz.f18 tmps).run Tryz.prog w = .ok (.tuple #[.agg cs, u]) w := by
  rw [results_cell_tmp (p := 4) (u := 5) (ty := 45) Tryz.results18, h4, h5]
  simp only [asAddr, Sem.run_pure, Result.andThen_ok, run_loadVar_row w g 45 45 cs _ _ hg Tryz.underlying45 rfl (by rw [hc]; exact info36)]
/-- What was there is as it was; the answer's block is there. -/
structure NS (w : World) (N : Nat) (X : World) : Prop where
  kp : Kept (fun k => k < w.heap.size) w X
  bl : ∃ old, X.heap[N]? = some (.cells old 45 (0, 0)) ∧ old.size = 14
theorem NS.next {w X Y : World} {N : Nat} (h : NS w N X) (hk : Kept (fun k => k < X.heap.size) X Y) : NS w N Y := by
  obtain ⟨old, h1, h2⟩ := h.bl
  exact ⟨h.kp.trans (hk.mono fun k hk' => Nat.lt_of_lt_of_le hk' h.kp.size), old, by rw [hk.block N (lt_block h1)]; exact h1, h2⟩
theorem NS.set {w X : World} (h : NS w w.heap.size X) (cs : Array Value) (hc : cs.size = 14) : NS w w.heap.size (X.setRow w.heap.size cs) := by
  obtain ⟨old, h1, h2⟩ := h.bl
  exact ⟨kept_setRow h.kp (Nat.lt_irrefl _) cs, cs, setRow_heap _ _ _ _ _ _ h1, hc⟩
/-- What is told of a node. -/
def Told (w : World) (x : Nd) (up : Int) (Q : List Nat) (e : Ending) (w' : World) : Prop :=
  ∃ ao c ko kc, e = .returned (.tuple #[.agg (outC x.kind ⟨x.name.toArray⟩ ⟨x.data.toArray⟩ ao x.attrs.length c up ko Q.length kc x.shadow x.host x.content x.fl), .int .u16 0]) ∧
    OwnZ (fun k => k < w.heap.size) w' 67 2 ao x.attrs.length c (atrCells x.attrs) ∧ OwnZ (fun k => k < w.heap.size) w' 3 1 ko Q.length kc (ivs Q) ∧ Kept (fun k => k < w.heap.size) w w'
section
variable {w X0 Y1 Y2 : World} {l : List Atr} {an : Nat} {Q : List Nat} {cs : Array Value}
theorem own_on {e z n c : Nat} {ao : Option Addr} {xs : List Value} {X Y Y' : World} (hO : OwnZ (fun k => k < X.heap.size) Y e z ao n c xs) (hX : w.heap.size ≤ X.heap.size) (hY : ∀ g, ¬ g < X.heap.size → g < Y.heap.size → Y'.heap[g]? = Y.heap[g]?) : OwnZ (fun k => k < w.heap.size) Y' e z ao n c xs :=
  OwnZ.to hO (fun g hg hh => (OwnZ.out hO hg).1 (Nat.lt_of_lt_of_le hh hX)) (fun g hg => hY g (OwnZ.out hO hg).1 (OwnZ.out hO hg).2)
theorem nodeA (ao : Option Addr) (c : Nat) (ko : Option Addr) (kc : Nat) (h0 : NS w w.heap.size X0) (hKA : Kept (fun k => k < X0.heap.size) X0 Y1) (hO : OwnZ (fun k => k < X0.heap.size) Y1 67 2 ao an c (atrCells l)) (hKR : Kept (fun k => k < Y1.heap.size) Y1 Y2) (hQ : OwnZ (fun k => k < Y1.heap.size) Y2 3 1 ko Q.length kc (ivs Q))
    (hF : Kept (fun k => k < w.heap.size) w (Y2.setRow w.heap.size cs)) : OwnZ (fun k => k < w.heap.size) (Y2.setRow w.heap.size cs) 67 2 ao an c (atrCells l) ∧ OwnZ (fun k => k < w.heap.size) (Y2.setRow w.heap.size cs) 3 1 ko Q.length kc (ivs Q) ∧ Kept (fun k => k < w.heap.size) w (Y2.setRow w.heap.size cs) := by
  obtain ⟨old, hb, _⟩ := h0.bl
  have hN := lt_block hb
  have h1 := hKA.size
  refine ⟨own_on hO h0.kp.size fun g h1 h2 => ?_, own_on hQ (Nat.le_trans h0.kp.size hKA.size) fun g h1 h2 => ?_, hF⟩
  · rw [setRow_other _ _ _ _ (by omega)]; exact hKR.block g h2
  · rw [setRow_other _ _ _ _ (by omega)]
theorem nodeB (ao : Option Addr) (c : Nat) (ko : Option Addr) (kc : Nat) (h0 : NS w w.heap.size X0) (hKR : Kept (fun k => k < X0.heap.size) X0 Y1) (hQ : OwnZ (fun k => k < X0.heap.size) Y1 3 1 ko Q.length kc (ivs Q)) (hKA : Kept (fun k => k < Y1.heap.size) Y1 Y2) (hO : OwnZ (fun k => k < Y1.heap.size) Y2 67 2 ao an c (atrCells l))
    (hF : Kept (fun k => k < w.heap.size) w (Y2.setRow w.heap.size cs)) : OwnZ (fun k => k < w.heap.size) (Y2.setRow w.heap.size cs) 67 2 ao an c (atrCells l) ∧ OwnZ (fun k => k < w.heap.size) (Y2.setRow w.heap.size cs) 3 1 ko Q.length kc (ivs Q) ∧ Kept (fun k => k < w.heap.size) w (Y2.setRow w.heap.size cs) := by
  obtain ⟨old, hb, _⟩ := h0.bl
  have hN := lt_block hb
  have h1 := hKR.size
  refine ⟨own_on hO (Nat.le_trans h0.kp.size hKR.size) fun g h1 h2 => ?_, own_on hQ h0.kp.size fun g h1 h2 => ?_, hF⟩
  · rw [setRow_other _ _ _ _ (by omega)]
  · rw [setRow_other _ _ _ _ (by omega)]; exact hKA.block g h2
end

set_option maxRecDepth 20000 in
set_option maxHeartbeats 4000000 in
theorem node_go (p g n cap i : Nat) (w : World) (hp1 : w.cell? ⟨p, 1, none⟩ = some (.slice (some ⟨g, 0, none⟩) n cap)) (hpw : p < w.heap.size) (hgw : g < w.heap.size) (hi : i < n) (hn : n ≤ 1000000) (kd : Nat) (S D : ByteArray) (aa : Option Addr) (an ac : Nat) (up sh ho co : Int) (f : Fg) (l : List Atr) (Q : List Nat)
    (c0 : w.cell? ⟨g, i * 22, none⟩ = some (.int .u8 (kd : Int))) (c1 : w.cell? ⟨g, i * 22 + 1, none⟩ = some (.string S)) (c2 : w.cell? ⟨g, i * 22 + 2, none⟩ = some (.string D)) (c3 : w.cell? ⟨g, i * 22 + 3, none⟩ = some (.slice aa an ac))
    (c4 : w.cell? ⟨g, i * 22 + 4, none⟩ = some (.bool f.a)) (c5 : w.cell? ⟨g, i * 22 + 5, none⟩ = some (.bool f.b)) (c6 : w.cell? ⟨g, i * 22 + 6, none⟩ = some (.bool f.c)) (c7 : w.cell? ⟨g, i * 22 + 7, none⟩ = some (.bool f.d)) (c8 : w.cell? ⟨g, i * 22 + 8, none⟩ = some (.bool f.e))
    (c9 : w.cell? ⟨g, i * 22 + 9, none⟩ = some (.int .i64 sh)) (c10 : w.cell? ⟨g, i * 22 + 10, none⟩ = some (.int .i64 ho)) (c11 : w.cell? ⟨g, i * 22 + 11, none⟩ = some (.int .i64 co)) (c12 : w.cell? ⟨g, i * 22 + 12, none⟩ = some (.int .i64 up))
    (rc : ∀ X, Kept (fun k => k < w.heap.size) w X → Calls Tryz.prog 49 #[.slice aa an ac] X fun e w' => ∃ ao c, e = .returned (.slice ao an c) ∧ OwnZ (fun k => k < X.heap.size) w' 67 2 ao an c (atrCells l) ∧ Kept (fun k => k < X.heap.size) X w')
    (rr : ∀ X, Kept (fun k => k < w.heap.size) w X → Calls Tryz.prog 59 #[chP p, .int .i64 (i : Int)] X fun e w' => ∃ ao c, e = .returned (.slice ao Q.length c) ∧ OwnZ (fun k => k < X.heap.size) w' 3 1 ao Q.length c (ivs Q) ∧ Kept (fun k => k < X.heap.size) X w') :
    Calls Tryz.prog 18 #[.pointer (some ⟨p, 0, none⟩), .int .i64 (i : Int)] w fun e w' => ∃ ao c ko kc, e = .returned (.tuple #[.agg (outC kd S D ao an c up ko Q.length kc sh ho co f), .int .u16 0]) ∧
      OwnZ (fun k => k < w.heap.size) w' 67 2 ao an c (atrCells l) ∧ OwnZ (fun k => k < w.heap.size) w' 3 1 ko Q.length kc (ivs Q) ∧ Kept (fun k => k < w.heap.size) w w' := by
  obtain ⟨W, hW⟩ : ∃ W, w.alloc (.cells #[.int .u8 0, .string ⟨#[]⟩, .string ⟨#[]⟩, .slice none 0 0, .int .i64 0, .slice none 0 0, .int .i64 0, .int .i64 0, .int .i64 0, .bool false, .bool false, .bool false, .bool false, .bool false] 45) = W := ⟨_, rfl⟩
  obtain ⟨N, hN⟩ : ∃ N, w.heap.size = N := ⟨_, rfl⟩
  have kW : Kept (fun k => k < w.heap.size) w W := by rw [← hW]; exact (Kept.refl _ w).alloc (fun _ h => h) _
  have hNS : NS w w.heap.size W := ⟨kW, _, by rw [← hW]; exact heap_alloc_new w _, rfl⟩
  have r24 := at_yes p g n cap i W ((kW.cell (p := ⟨p, 1, none⟩) hpw).trans hp1) hi (by omega)
  have RC : Hid (∀ X, NS w w.heap.size X → Calls Tryz.prog 49 #[.slice aa an ac] X fun e w' => ∃ ao c, e = .returned (.slice ao an c) ∧ OwnZ (fun k => k < X.heap.size) w' 67 2 ao an c (atrCells l) ∧ Kept (fun k => k < X.heap.size) X w') := fun X hX => rc X hX.kp
  have RW : Hid (∀ X, NS w w.heap.size X → Calls Tryz.prog 59 #[chP p, .int .i64 (i : Int)] X fun e w' => ∃ ao c, e = .returned (.slice ao Q.length c) ∧ OwnZ (fun k => k < X.heap.size) w' 3 1 ao Q.length c (ivs Q) ∧ Kept (fun k => k < X.heap.size) X w') := fun X hX => rr X hX.kp
  have HW : Hid (w.alloc (.cells #[.int .u8 0, .string ⟨#[]⟩, .string ⟨#[]⟩, .slice none 0 0, .int .i64 0, .slice none 0 0, .int .i64 0, .int .i64 0, .int .i64 0, .bool false, .bool false, .bool false, .bool false, .bool false] 45) = W) := hW
  have HN : Hid (w.heap.size = N) := hN
  clear hW hN kW rc rr
  go_enter Tryz.func18, Tryz.ntmps18
  go_upto_region 1 with fail
  rw [HW.out, HN.out]
  go_upto_region 4 with (go_at_call 57; refine r24.mono ?_; rintro e w2 ⟨rfl, hw2⟩; replace hw2 := hw2.symm; subst hw2)
  clear r24 HW
  have hN := HN.out
  subst hN
  clear HN
  obtain ⟨N, hN⟩ : ∃ N, w.heap.size = N := ⟨_, rfl⟩
  refine wp_region_held_drew (S := fun X => NS w w.heap.size X) (by kernel_rfl) ⟨hNS.kp.drew, hNS.bl⟩ (fun hHeld => ?_)
  clear hNS
  refine wpAnyH_take (i := 0) (oi := { dst := some 13, op := Op.move (Operand.tmp 6), type := 98, pos := "dom.go:64", after := #[], guard := none }) (v := .pointer (some ⟨g, i * 22, none⟩)) rfl (by kernel_rfl) (by kernel_rfl) (by kernel_rfl) (fun _ _ _ h => h) (Or.inl ⟨by rfl, by intro X hX; go_simp; try with_reducible rfl⟩) hHeld ?_
  try simp only [Act.put, List.setIfInBounds_toArray, List.set_cons_zero, List.set_cons_succ]
  refine wpAnyH_take (i := 1) (oi := { dst := some 14, op := Op.nilCheck (Operand.tmp 13), type := 0, pos := "dom.go:64", after := #[{ on := 0, ground := Ground.data }], guard := none }) (v := .pointer (some ⟨g, i * 22, none⟩)) rfl (by kernel_rfl) (by kernel_rfl) (by kernel_rfl) (fun _ _ _ h => h) (Or.inl ⟨by rfl, by intro X hX; go_simp; try with_reducible rfl⟩) hHeld ?_
  try simp only [Act.put, List.setIfInBounds_toArray, List.set_cons_zero, List.set_cons_succ]
  refine wpAnyH_take (i := 2) (oi := { dst := some 15, op := Op.fieldAddr 80 (Operand.tmp 14) 0, type := 0, pos := "dom.go:64", after := #[{ on := 1, ground := Ground.data }], guard := none }) (v := .pointer (some ⟨g, i * 22, none⟩)) rfl (by kernel_rfl) (by kernel_rfl) (by kernel_rfl) (fun _ _ _ h => h) (Or.inl ⟨by rfl, by intro X hX; go_simp; try with_reducible rfl⟩) hHeld ?_
  try simp only [Act.put, List.setIfInBounds_toArray, List.set_cons_zero, List.set_cons_succ]
  refine wpAnyH_take (i := 3) (oi := { dst := some 16, op := Op.load 5 (Operand.tmp 15), type := 5, pos := "dom.go:64", after := #[{ on := 2, ground := Ground.data }], guard := none }) (v := .int .u8 (kd : Int)) rfl (by kernel_rfl) (by kernel_rfl) (by kernel_rfl) (fun _ _ _ h => h) (Or.inl ⟨by rfl, by intro X hX; have hc := (hX.kp.cell (p := ⟨g, i * 22, none⟩) hgw).trans c0; go_simp; try with_reducible rfl⟩) hHeld ?_
  try simp only [Act.put, List.setIfInBounds_toArray, List.set_cons_zero, List.set_cons_succ]
  refine wpAnyH_take (i := 4) (oi := { dst := some 17, op := Op.move (Operand.tmp 6), type := 98, pos := "dom.go:64", after := #[], guard := none }) (v := .pointer (some ⟨g, i * 22, none⟩)) rfl (by kernel_rfl) (by kernel_rfl) (by kernel_rfl) (fun _ _ _ h => h) (Or.inl ⟨by rfl, by intro X hX; go_simp; try with_reducible rfl⟩) hHeld ?_
  try simp only [Act.put, List.setIfInBounds_toArray, List.set_cons_zero, List.set_cons_succ]
  refine wpAnyH_take (i := 5) (oi := { dst := some 18, op := Op.nilCheck (Operand.tmp 17), type := 0, pos := "dom.go:64", after := #[{ on := 4, ground := Ground.data }], guard := none }) (v := .pointer (some ⟨g, i * 22, none⟩)) rfl (by kernel_rfl) (by kernel_rfl) (by kernel_rfl) (fun _ _ _ h => h) (Or.inl ⟨by rfl, by intro X hX; go_simp; try with_reducible rfl⟩) hHeld ?_
  try simp only [Act.put, List.setIfInBounds_toArray, List.set_cons_zero, List.set_cons_succ]
  refine wpAnyH_take (i := 6) (oi := { dst := some 19, op := Op.fieldAddr 80 (Operand.tmp 18) 1, type := 0, pos := "dom.go:64", after := #[{ on := 5, ground := Ground.data }], guard := none }) (v := .pointer (some ⟨g, i * 22 + 1, none⟩)) rfl (by kernel_rfl) (by kernel_rfl) (by kernel_rfl) (fun _ _ _ h => h) (Or.inl ⟨by rfl, by intro X hX; go_simp; try with_reducible rfl⟩) hHeld ?_
  try simp only [Act.put, List.setIfInBounds_toArray, List.set_cons_zero, List.set_cons_succ]
  refine wpAnyH_take (i := 7) (oi := { dst := some 20, op := Op.load 9 (Operand.tmp 19), type := 9, pos := "dom.go:64", after := #[{ on := 6, ground := Ground.data }], guard := none }) (v := .string S) rfl (by kernel_rfl) (by kernel_rfl) (by kernel_rfl) (fun _ _ _ h => h) (Or.inl ⟨by rfl, by intro X hX; have hc := (hX.kp.cell (p := ⟨g, i * 22 + 1, none⟩) hgw).trans c1; go_simp; try with_reducible rfl⟩) hHeld ?_
  try simp only [Act.put, List.setIfInBounds_toArray, List.set_cons_zero, List.set_cons_succ]
  refine wpAnyH_take (i := 8) (oi := { dst := some 21, op := Op.move (Operand.tmp 6), type := 98, pos := "dom.go:64", after := #[], guard := none }) (v := .pointer (some ⟨g, i * 22, none⟩)) rfl (by kernel_rfl) (by kernel_rfl) (by kernel_rfl) (fun _ _ _ h => h) (Or.inl ⟨by rfl, by intro X hX; go_simp; try with_reducible rfl⟩) hHeld ?_
  try simp only [Act.put, List.setIfInBounds_toArray, List.set_cons_zero, List.set_cons_succ]
  refine wpAnyH_take (i := 9) (oi := { dst := some 22, op := Op.nilCheck (Operand.tmp 21), type := 0, pos := "dom.go:64", after := #[{ on := 8, ground := Ground.data }], guard := none }) (v := .pointer (some ⟨g, i * 22, none⟩)) rfl (by kernel_rfl) (by kernel_rfl) (by kernel_rfl) (fun _ _ _ h => h) (Or.inl ⟨by rfl, by intro X hX; go_simp; try with_reducible rfl⟩) hHeld ?_
  try simp only [Act.put, List.setIfInBounds_toArray, List.set_cons_zero, List.set_cons_succ]
  refine wpAnyH_take (i := 10) (oi := { dst := some 23, op := Op.fieldAddr 80 (Operand.tmp 22) 2, type := 0, pos := "dom.go:64", after := #[{ on := 9, ground := Ground.data }], guard := none }) (v := .pointer (some ⟨g, i * 22 + 2, none⟩)) rfl (by kernel_rfl) (by kernel_rfl) (by kernel_rfl) (fun _ _ _ h => h) (Or.inl ⟨by rfl, by intro X hX; go_simp; try with_reducible rfl⟩) hHeld ?_
  try simp only [Act.put, List.setIfInBounds_toArray, List.set_cons_zero, List.set_cons_succ]
  refine wpAnyH_take (i := 11) (oi := { dst := some 24, op := Op.load 9 (Operand.tmp 23), type := 9, pos := "dom.go:64", after := #[{ on := 10, ground := Ground.data }], guard := none }) (v := .string D) rfl (by kernel_rfl) (by kernel_rfl) (by kernel_rfl) (fun _ _ _ h => h) (Or.inl ⟨by rfl, by intro X hX; have hc := (hX.kp.cell (p := ⟨g, i * 22 + 2, none⟩) hgw).trans c2; go_simp; try with_reducible rfl⟩) hHeld ?_
  try simp only [Act.put, List.setIfInBounds_toArray, List.set_cons_zero, List.set_cons_succ]
  refine wpAnyH_take (i := 12) (oi := { dst := some 25, op := Op.move (Operand.tmp 6), type := 98, pos := "dom.go:64", after := #[], guard := none }) (v := .pointer (some ⟨g, i * 22, none⟩)) rfl (by kernel_rfl) (by kernel_rfl) (by kernel_rfl) (fun _ _ _ h => h) (Or.inl ⟨by rfl, by intro X hX; go_simp; try with_reducible rfl⟩) hHeld ?_
  try simp only [Act.put, List.setIfInBounds_toArray, List.set_cons_zero, List.set_cons_succ]
  refine wpAnyH_take (i := 13) (oi := { dst := some 26, op := Op.nilCheck (Operand.tmp 25), type := 0, pos := "dom.go:64", after := #[{ on := 12, ground := Ground.data }], guard := none }) (v := .pointer (some ⟨g, i * 22, none⟩)) rfl (by kernel_rfl) (by kernel_rfl) (by kernel_rfl) (fun _ _ _ h => h) (Or.inl ⟨by rfl, by intro X hX; go_simp; try with_reducible rfl⟩) hHeld ?_
  try simp only [Act.put, List.setIfInBounds_toArray, List.set_cons_zero, List.set_cons_succ]
  refine wpAnyH_take (i := 14) (oi := { dst := some 27, op := Op.fieldAddr 80 (Operand.tmp 26) 3, type := 0, pos := "dom.go:64", after := #[{ on := 13, ground := Ground.data }], guard := none }) (v := .pointer (some ⟨g, i * 22 + 3, none⟩)) rfl (by kernel_rfl) (by kernel_rfl) (by kernel_rfl) (fun _ _ _ h => h) (Or.inl ⟨by rfl, by intro X hX; go_simp; try with_reducible rfl⟩) hHeld ?_
  try simp only [Act.put, List.setIfInBounds_toArray, List.set_cons_zero, List.set_cons_succ]
  refine wpAnyH_take (i := 15) (oi := { dst := some 28, op := Op.load 30 (Operand.tmp 27), type := 30, pos := "dom.go:64", after := #[{ on := 14, ground := Ground.data }], guard := none }) (v := .slice aa an ac) rfl (by kernel_rfl) (by kernel_rfl) (by kernel_rfl) (fun _ _ _ h => h) (Or.inl ⟨by rfl, by intro X hX; have hc := (hX.kp.cell (p := ⟨g, i * 22 + 3, none⟩) hgw).trans c3; go_simp; try with_reducible rfl⟩) hHeld ?_
  try simp only [Act.put, List.setIfInBounds_toArray, List.set_cons_zero, List.set_cons_succ]
  refine wpAnyH_take (i := 17) (oi := { dst := some 30, op := Op.move (Operand.tmp 6), type := 98, pos := "dom.go:64", after := #[], guard := none }) (v := .pointer (some ⟨g, i * 22, none⟩)) rfl (by kernel_rfl) (by kernel_rfl) (by kernel_rfl) (fun _ _ _ h => h) (Or.inl ⟨by rfl, by intro X hX; go_simp; try with_reducible rfl⟩) hHeld ?_
  try simp only [Act.put, List.setIfInBounds_toArray, List.set_cons_zero, List.set_cons_succ]
  refine wpAnyH_take (i := 18) (oi := { dst := some 31, op := Op.nilCheck (Operand.tmp 30), type := 0, pos := "dom.go:64", after := #[{ on := 17, ground := Ground.data }], guard := none }) (v := .pointer (some ⟨g, i * 22, none⟩)) rfl (by kernel_rfl) (by kernel_rfl) (by kernel_rfl) (fun _ _ _ h => h) (Or.inl ⟨by rfl, by intro X hX; go_simp; try with_reducible rfl⟩) hHeld ?_
  try simp only [Act.put, List.setIfInBounds_toArray, List.set_cons_zero, List.set_cons_succ]
  refine wpAnyH_take (i := 19) (oi := { dst := some 32, op := Op.fieldAddr 80 (Operand.tmp 31) 8, type := 0, pos := "dom.go:64", after := #[{ on := 18, ground := Ground.data }], guard := none }) (v := .pointer (some ⟨g, i * 22 + 12, none⟩)) rfl (by kernel_rfl) (by kernel_rfl) (by kernel_rfl) (fun _ _ _ h => h) (Or.inl ⟨by rfl, by intro X hX; go_simp; try with_reducible rfl⟩) hHeld ?_
  try simp only [Act.put, List.setIfInBounds_toArray, List.set_cons_zero, List.set_cons_succ]
  refine wpAnyH_take (i := 20) (oi := { dst := some 33, op := Op.fieldAddr 78 (Operand.tmp 32) 0, type := 0, pos := "dom.go:64", after := #[{ on := 19, ground := Ground.data }], guard := none }) (v := .pointer (some ⟨g, i * 22 + 12, none⟩)) rfl (by kernel_rfl) (by kernel_rfl) (by kernel_rfl) (fun _ _ _ h => h) (Or.inl ⟨by rfl, by intro X hX; go_simp; try with_reducible rfl⟩) hHeld ?_
  try simp only [Act.put, List.setIfInBounds_toArray, List.set_cons_zero, List.set_cons_succ]
  refine wpAnyH_take (i := 21) (oi := { dst := some 34, op := Op.load 75 (Operand.tmp 33), type := 75, pos := "dom.go:64", after := #[{ on := 20, ground := Ground.data }], guard := none }) (v := .int .i64 up) rfl (by kernel_rfl) (by kernel_rfl) (by kernel_rfl) (fun _ _ _ h => h) (Or.inl ⟨by rfl, by intro X hX; have hc := (hX.kp.cell (p := ⟨g, i * 22 + 12, none⟩) hgw).trans c12; go_simp; try with_reducible rfl⟩) hHeld ?_
  try simp only [Act.put, List.setIfInBounds_toArray, List.set_cons_zero, List.set_cons_succ]
  refine wpAnyH_take (i := 22) (oi := { dst := some 35, op := Op.move (Operand.tmp 0), type := 25, pos := "dom.go:64", after := #[], guard := none }) (v := .pointer (some ⟨p, 0, none⟩)) rfl (by kernel_rfl) (by kernel_rfl) (by kernel_rfl) (fun _ _ _ h => h) (Or.inl ⟨by rfl, by intro X hX; go_simp; try with_reducible rfl⟩) hHeld ?_
  try simp only [Act.put, List.setIfInBounds_toArray, List.set_cons_zero, List.set_cons_succ]
  refine wpAnyH_take (i := 24) (oi := { dst := some 37, op := Op.move (Operand.tmp 1), type := 3, pos := "dom.go:64", after := #[], guard := none }) (v := .int .i64 (i : Int)) rfl (by kernel_rfl) (by kernel_rfl) (by kernel_rfl) (fun _ _ _ h => h) (Or.inl ⟨by rfl, by intro X hX; go_simp; try with_reducible rfl⟩) hHeld ?_
  try simp only [Act.put, List.setIfInBounds_toArray, List.set_cons_zero, List.set_cons_succ]
  refine wpAnyH_take (i := 26) (oi := { dst := some 39, op := Op.move (Operand.tmp 6), type := 98, pos := "dom.go:64", after := #[], guard := none }) (v := .pointer (some ⟨g, i * 22, none⟩)) rfl (by kernel_rfl) (by kernel_rfl) (by kernel_rfl) (fun _ _ _ h => h) (Or.inl ⟨by rfl, by intro X hX; go_simp; try with_reducible rfl⟩) hHeld ?_
  try simp only [Act.put, List.setIfInBounds_toArray, List.set_cons_zero, List.set_cons_succ]
  refine wpAnyH_take (i := 27) (oi := { dst := some 40, op := Op.nilCheck (Operand.tmp 39), type := 0, pos := "dom.go:64", after := #[{ on := 26, ground := Ground.data }], guard := none }) (v := .pointer (some ⟨g, i * 22, none⟩)) rfl (by kernel_rfl) (by kernel_rfl) (by kernel_rfl) (fun _ _ _ h => h) (Or.inl ⟨by rfl, by intro X hX; go_simp; try with_reducible rfl⟩) hHeld ?_
  try simp only [Act.put, List.setIfInBounds_toArray, List.set_cons_zero, List.set_cons_succ]
  refine wpAnyH_take (i := 28) (oi := { dst := some 41, op := Op.fieldAddr 80 (Operand.tmp 40) 5, type := 0, pos := "dom.go:64", after := #[{ on := 27, ground := Ground.data }], guard := none }) (v := .pointer (some ⟨g, i * 22 + 9, none⟩)) rfl (by kernel_rfl) (by kernel_rfl) (by kernel_rfl) (fun _ _ _ h => h) (Or.inl ⟨by rfl, by intro X hX; go_simp; try with_reducible rfl⟩) hHeld ?_
  try simp only [Act.put, List.setIfInBounds_toArray, List.set_cons_zero, List.set_cons_succ]
  refine wpAnyH_take (i := 29) (oi := { dst := some 42, op := Op.load 75 (Operand.tmp 41), type := 75, pos := "dom.go:64", after := #[{ on := 28, ground := Ground.data }], guard := none }) (v := .int .i64 sh) rfl (by kernel_rfl) (by kernel_rfl) (by kernel_rfl) (fun _ _ _ h => h) (Or.inl ⟨by rfl, by intro X hX; have hc := (hX.kp.cell (p := ⟨g, i * 22 + 9, none⟩) hgw).trans c9; go_simp; try with_reducible rfl⟩) hHeld ?_
  try simp only [Act.put, List.setIfInBounds_toArray, List.set_cons_zero, List.set_cons_succ]
  refine wpAnyH_take (i := 30) (oi := { dst := some 43, op := Op.move (Operand.tmp 6), type := 98, pos := "dom.go:64", after := #[], guard := none }) (v := .pointer (some ⟨g, i * 22, none⟩)) rfl (by kernel_rfl) (by kernel_rfl) (by kernel_rfl) (fun _ _ _ h => h) (Or.inl ⟨by rfl, by intro X hX; go_simp; try with_reducible rfl⟩) hHeld ?_
  try simp only [Act.put, List.setIfInBounds_toArray, List.set_cons_zero, List.set_cons_succ]
  refine wpAnyH_take (i := 31) (oi := { dst := some 44, op := Op.nilCheck (Operand.tmp 43), type := 0, pos := "dom.go:64", after := #[{ on := 30, ground := Ground.data }], guard := none }) (v := .pointer (some ⟨g, i * 22, none⟩)) rfl (by kernel_rfl) (by kernel_rfl) (by kernel_rfl) (fun _ _ _ h => h) (Or.inl ⟨by rfl, by intro X hX; go_simp; try with_reducible rfl⟩) hHeld ?_
  try simp only [Act.put, List.setIfInBounds_toArray, List.set_cons_zero, List.set_cons_succ]
  refine wpAnyH_take (i := 32) (oi := { dst := some 45, op := Op.fieldAddr 80 (Operand.tmp 44) 6, type := 0, pos := "dom.go:64", after := #[{ on := 31, ground := Ground.data }], guard := none }) (v := .pointer (some ⟨g, i * 22 + 10, none⟩)) rfl (by kernel_rfl) (by kernel_rfl) (by kernel_rfl) (fun _ _ _ h => h) (Or.inl ⟨by rfl, by intro X hX; go_simp; try with_reducible rfl⟩) hHeld ?_
  try simp only [Act.put, List.setIfInBounds_toArray, List.set_cons_zero, List.set_cons_succ]
  refine wpAnyH_take (i := 33) (oi := { dst := some 46, op := Op.load 75 (Operand.tmp 45), type := 75, pos := "dom.go:64", after := #[{ on := 32, ground := Ground.data }], guard := none }) (v := .int .i64 ho) rfl (by kernel_rfl) (by kernel_rfl) (by kernel_rfl) (fun _ _ _ h => h) (Or.inl ⟨by rfl, by intro X hX; have hc := (hX.kp.cell (p := ⟨g, i * 22 + 10, none⟩) hgw).trans c10; go_simp; try with_reducible rfl⟩) hHeld ?_
  try simp only [Act.put, List.setIfInBounds_toArray, List.set_cons_zero, List.set_cons_succ]
  refine wpAnyH_take (i := 34) (oi := { dst := some 47, op := Op.move (Operand.tmp 6), type := 98, pos := "dom.go:64", after := #[], guard := none }) (v := .pointer (some ⟨g, i * 22, none⟩)) rfl (by kernel_rfl) (by kernel_rfl) (by kernel_rfl) (fun _ _ _ h => h) (Or.inl ⟨by rfl, by intro X hX; go_simp; try with_reducible rfl⟩) hHeld ?_
  try simp only [Act.put, List.setIfInBounds_toArray, List.set_cons_zero, List.set_cons_succ]
  refine wpAnyH_take (i := 35) (oi := { dst := some 48, op := Op.nilCheck (Operand.tmp 47), type := 0, pos := "dom.go:64", after := #[{ on := 34, ground := Ground.data }], guard := none }) (v := .pointer (some ⟨g, i * 22, none⟩)) rfl (by kernel_rfl) (by kernel_rfl) (by kernel_rfl) (fun _ _ _ h => h) (Or.inl ⟨by rfl, by intro X hX; go_simp; try with_reducible rfl⟩) hHeld ?_
  try simp only [Act.put, List.setIfInBounds_toArray, List.set_cons_zero, List.set_cons_succ]
  refine wpAnyH_take (i := 36) (oi := { dst := some 49, op := Op.fieldAddr 80 (Operand.tmp 48) 7, type := 0, pos := "dom.go:64", after := #[{ on := 35, ground := Ground.data }], guard := none }) (v := .pointer (some ⟨g, i * 22 + 11, none⟩)) rfl (by kernel_rfl) (by kernel_rfl) (by kernel_rfl) (fun _ _ _ h => h) (Or.inl ⟨by rfl, by intro X hX; go_simp; try with_reducible rfl⟩) hHeld ?_
  try simp only [Act.put, List.setIfInBounds_toArray, List.set_cons_zero, List.set_cons_succ]
  refine wpAnyH_take (i := 37) (oi := { dst := some 50, op := Op.load 75 (Operand.tmp 49), type := 75, pos := "dom.go:64", after := #[{ on := 36, ground := Ground.data }], guard := none }) (v := .int .i64 co) rfl (by kernel_rfl) (by kernel_rfl) (by kernel_rfl) (fun _ _ _ h => h) (Or.inl ⟨by rfl, by intro X hX; have hc := (hX.kp.cell (p := ⟨g, i * 22 + 11, none⟩) hgw).trans c11; go_simp; try with_reducible rfl⟩) hHeld ?_
  try simp only [Act.put, List.setIfInBounds_toArray, List.set_cons_zero, List.set_cons_succ]
  refine wpAnyH_take (i := 38) (oi := { dst := some 51, op := Op.move (Operand.tmp 6), type := 98, pos := "dom.go:64", after := #[], guard := none }) (v := .pointer (some ⟨g, i * 22, none⟩)) rfl (by kernel_rfl) (by kernel_rfl) (by kernel_rfl) (fun _ _ _ h => h) (Or.inl ⟨by rfl, by intro X hX; go_simp; try with_reducible rfl⟩) hHeld ?_
  try simp only [Act.put, List.setIfInBounds_toArray, List.set_cons_zero, List.set_cons_succ]
  refine wpAnyH_take (i := 39) (oi := { dst := some 52, op := Op.nilCheck (Operand.tmp 51), type := 0, pos := "dom.go:64", after := #[{ on := 38, ground := Ground.data }], guard := none }) (v := .pointer (some ⟨g, i * 22, none⟩)) rfl (by kernel_rfl) (by kernel_rfl) (by kernel_rfl) (fun _ _ _ h => h) (Or.inl ⟨by rfl, by intro X hX; go_simp; try with_reducible rfl⟩) hHeld ?_
  try simp only [Act.put, List.setIfInBounds_toArray, List.set_cons_zero, List.set_cons_succ]
  refine wpAnyH_take (i := 40) (oi := { dst := some 53, op := Op.fieldAddr 80 (Operand.tmp 52) 4, type := 0, pos := "dom.go:64", after := #[{ on := 39, ground := Ground.data }], guard := none }) (v := .pointer (some ⟨g, i * 22 + 4, none⟩)) rfl (by kernel_rfl) (by kernel_rfl) (by kernel_rfl) (fun _ _ _ h => h) (Or.inl ⟨by rfl, by intro X hX; go_simp; try with_reducible rfl⟩) hHeld ?_
  try simp only [Act.put, List.setIfInBounds_toArray, List.set_cons_zero, List.set_cons_succ]
  refine wpAnyH_take (i := 41) (oi := { dst := some 54, op := Op.load 35 (Operand.tmp 53), type := 35, pos := "dom.go:64", after := #[{ on := 40, ground := Ground.data }], guard := none }) (v := .agg #[.bool f.a, .bool f.b, .bool f.c, .bool f.d, .bool f.e]) rfl (by kernel_rfl) (by kernel_rfl) (by kernel_rfl) (fun _ _ _ h => h) (Or.inl ⟨by rfl, by intro X hX; have h4 := (hX.kp.cell (p := ⟨g, i * 22 + 4, none⟩) hgw).trans c4; have h5 := (hX.kp.cell (p := ⟨g, i * 22 + 5, none⟩) hgw).trans c5; have h6 := (hX.kp.cell (p := ⟨g, i * 22 + 6, none⟩) hgw).trans c6; have h7 := (hX.kp.cell (p := ⟨g, i * 22 + 7, none⟩) hgw).trans c7; have h8 := (hX.kp.cell (p := ⟨g, i * 22 + 8, none⟩) hgw).trans c8; go_simp; try with_reducible rfl⟩) hHeld ?_
  try simp only [Act.put, List.setIfInBounds_toArray, List.set_cons_zero, List.set_cons_succ]
  refine wpAnyH_ready (rs := [16]) (by kernel_rfl) (by simp) ?_
  refine AllReadyH.cons (o := { dst := some 29, op := Op.call { callee := Callee.value (Operand.func 49), args := #[Operand.tmp 28], argTypes := #[30] }, type := 30, pos := "dom.go:68", after := #[{ on := 15, ground := Ground.data }], guard := none }) rfl (fun Kx hK => ?_) AllReadyH.nil
  have hX0 := hHeld
  refine step_callE rfl 49 #[.tmp 28] #[30] rfl #[.slice aa an ac] (by first | (simp [Act.eval]; done) | (simp [Act.eval, Act.put]; done)) (enter49 _ _) _ (RC.out _ hHeld) ?_
  rintro e Y1 ⟨ao, c, rfl, hO, hKA⟩
  refine ⟨_, rfl, hK.out _ _ (hHeld.next hKA) (fun hHeld2 => ?_)⟩
  clear hK Kx hHeld
  replace hHeld := hHeld2
  clear hHeld2
  try simp only [Act.put, List.setIfInBounds_toArray, List.set_cons_zero, List.set_cons_succ]
  refine wpAnyH_ready (rs := [23]) (by kernel_rfl) (by simp) ?_
  refine AllReadyH.cons (o := { dst := some 36, op := Op.call { callee := Callee.value (Operand.func 58), args := #[Operand.tmp 35], argTypes := #[25] }, type := 101, pos := "dom.go:70", after := #[{ on := 22, ground := Ground.data }, { on := 16, ground := Ground.chain }], guard := none }) rfl (fun Kx hK => ?_) AllReadyH.nil
  refine step_callE rfl 58 #[.tmp 35] #[25] rfl #[.pointer (some ⟨p, 0, none⟩)] (by first | (simp [Act.eval]; done) | (simp [Act.eval, Act.put]; done)) (enter58 _ _) _ (kids_any _ _) ?_
  rintro e Yk ⟨rfl, rfl⟩
  refine ⟨_, rfl, hK.out _ _ hHeld (fun hHeld2 => ?_)⟩
  clear hK Kx hHeld
  replace hHeld := hHeld2
  clear hHeld2
  try simp only [Act.put, List.setIfInBounds_toArray, List.set_cons_zero, List.set_cons_succ]
  refine wpAnyH_ready (rs := [25]) (by kernel_rfl) (by simp) ?_
  refine AllReadyH.cons (o := { dst := some 38, op := Op.call { callee := Callee.value (Operand.func 59), args := #[Operand.tmp 36, Operand.tmp 37], argTypes := #[101, 75] }, type := 33, pos := "dom.go:70", after := #[{ on := 23, ground := Ground.data }, { on := 24, ground := Ground.data }, { on := 23, ground := Ground.chain }], guard := none }) rfl (fun Kx hK => ?_) AllReadyH.nil
  refine step_callE rfl 59 #[.tmp 36, .tmp 37] #[101, 75] rfl #[chP p, .int .i64 (i : Int)] (by first | (simp [Act.eval]; done) | (simp [Act.eval, Act.put]; done)) (enter59 _ _) _ (RW.out _ hHeld) ?_
  rintro e Y2 ⟨ko, kc, rfl, hQ, hKR⟩
  refine ⟨_, rfl, hK.out _ _ (hHeld.next hKR) (fun hHeld2 => ?_)⟩
  clear hK Kx hHeld
  replace hHeld := hHeld2
  clear hHeld2
  try simp only [Act.put, List.setIfInBounds_toArray, List.set_cons_zero, List.set_cons_succ]
  refine wpAnyH_take (i := 42) (oi := { dst := some 55, op := Op.build 45 #[(0, Operand.tmp 16), (1, Operand.tmp 20), (2, Operand.tmp 24), (3, Operand.tmp 29), (4, Operand.tmp 34), (5, Operand.tmp 38), (6, Operand.tmp 42), (7, Operand.tmp 46), (8, Operand.tmp 50), (9, Operand.tmp 54)], type := 45, pos := "dom.go:64", after := #[{ on := 3, ground := Ground.data }, { on := 7, ground := Ground.data }, { on := 11, ground := Ground.data }, { on := 16, ground := Ground.data }, { on := 21, ground := Ground.data }, { on := 25, ground := Ground.data }, { on := 29, ground := Ground.data }, { on := 33, ground := Ground.data }, { on := 37, ground := Ground.data }, { on := 41, ground := Ground.data }], guard := none }) (v := .agg (outC kd S D ao an c up ko Q.length kc sh ho co f)) rfl (by kernel_rfl) (by kernel_rfl) (by kernel_rfl) (fun _ _ _ h => h) (Or.inl ⟨by rfl, by intro X hX; refine yields_build 45 _ rfl (outC kd S D ao an c up ko Q.length kc sh ho co f) ?_; simp only [List.map_toArray, List.map_cons, List.map_nil, Act.eval]; exact built36 _ _ _ _ _ _ _ _ _ _ _ _ _ _⟩) hHeld ?_
  try simp only [Act.put, List.setIfInBounds_toArray, List.set_cons_zero, List.set_cons_succ]
  obtain ⟨old, hold, hos⟩ := hHeld.bl
  refine wpAnyH_ready (rs := [43]) (by kernel_rfl) (by simp) ?_
  refine AllReadyH.cons (o := { dst := none, op := Op.store 45 (Operand.tmp 4) (Operand.tmp 55), type := 0, pos := "dom.go:64", after := #[{ on := 42, ground := Ground.data }, { on := 25, ground := Ground.chain }, { on := 0, ground := Ground.phase }, { on := 1, ground := Ground.phase }, { on := 2, ground := Ground.phase }, { on := 3, ground := Ground.phase }, { on := 4, ground := Ground.phase }, { on := 5, ground := Ground.phase }, { on := 6, ground := Ground.phase }, { on := 7, ground := Ground.phase }, { on := 8, ground := Ground.phase }, { on := 9, ground := Ground.phase }, { on := 10, ground := Ground.phase }, { on := 11, ground := Ground.phase }, { on := 12, ground := Ground.phase }, { on := 13, ground := Ground.phase }, { on := 14, ground := Ground.phase }, { on := 15, ground := Ground.phase }, { on := 16, ground := Ground.phase }, { on := 17, ground := Ground.phase }, { on := 18, ground := Ground.phase }, { on := 19, ground := Ground.phase }, { on := 20, ground := Ground.phase }, { on := 21, ground := Ground.phase }, { on := 22, ground := Ground.phase }, { on := 23, ground := Ground.phase }, { on := 24, ground := Ground.phase }, { on := 25, ground := Ground.phase }, { on := 26, ground := Ground.phase }, { on := 27, ground := Ground.phase }, { on := 28, ground := Ground.phase }, { on := 29, ground := Ground.phase }, { on := 30, ground := Ground.phase }, { on := 31, ground := Ground.phase }, { on := 32, ground := Ground.phase }, { on := 33, ground := Ground.phase }, { on := 34, ground := Ground.phase }, { on := 35, ground := Ground.phase }, { on := 36, ground := Ground.phase }, { on := 37, ground := Ground.phase }, { on := 38, ground := Ground.phase }, { on := 39, ground := Ground.phase }, { on := 40, ground := Ground.phase }, { on := 41, ground := Ground.phase }, { on := 42, ground := Ground.phase }], guard := none }) rfl (fun Kx hK => ?_) AllReadyH.nil
  refine step_store36 rfl (.tmp 4) (.tmp 55) rfl w.heap.size (outC kd S D ao an c up ko Q.length kc sh ho co f) rfl rfl old hold rfl hos (outC_one _ _ _ _ _ _ _ _ _ _ _ _ _ _) ?_
  refine hK.out _ _ (hHeld.set _ rfl) (fun hHeld2 => ?_)
  have hpost := nodeA ao c ko kc hX0 hKA hO hKR hQ (hHeld2.kp)
  have hend := setRow_heap _ w.heap.size _ (outC kd S D ao an c up ko Q.length kc sh ho co f) _ _ hold
  clear hK Kx hHeld
  replace hHeld := hHeld2
  clear hHeld2
  try simp only [Act.put]
  refine wpAnyH_take (i := 44) (oi := { dst := some 5, op := Op.assign (Operand.const (Value.int IntKind.u16 0)), type := 47, pos := "dom.go:64", after := #[{ on := 43, ground := Ground.chain }, { on := 0, ground := Ground.phase }, { on := 1, ground := Ground.phase }, { on := 2, ground := Ground.phase }, { on := 3, ground := Ground.phase }, { on := 4, ground := Ground.phase }, { on := 5, ground := Ground.phase }, { on := 6, ground := Ground.phase }, { on := 7, ground := Ground.phase }, { on := 8, ground := Ground.phase }, { on := 9, ground := Ground.phase }, { on := 10, ground := Ground.phase }, { on := 11, ground := Ground.phase }, { on := 12, ground := Ground.phase }, { on := 13, ground := Ground.phase }, { on := 14, ground := Ground.phase }, { on := 15, ground := Ground.phase }, { on := 16, ground := Ground.phase }, { on := 17, ground := Ground.phase }, { on := 18, ground := Ground.phase }, { on := 19, ground := Ground.phase }, { on := 20, ground := Ground.phase }, { on := 21, ground := Ground.phase }, { on := 22, ground := Ground.phase }, { on := 23, ground := Ground.phase }, { on := 24, ground := Ground.phase }, { on := 25, ground := Ground.phase }, { on := 26, ground := Ground.phase }, { on := 27, ground := Ground.phase }, { on := 28, ground := Ground.phase }, { on := 29, ground := Ground.phase }, { on := 30, ground := Ground.phase }, { on := 31, ground := Ground.phase }, { on := 32, ground := Ground.phase }, { on := 33, ground := Ground.phase }, { on := 34, ground := Ground.phase }, { on := 35, ground := Ground.phase }, { on := 36, ground := Ground.phase }, { on := 37, ground := Ground.phase }, { on := 38, ground := Ground.phase }, { on := 39, ground := Ground.phase }, { on := 40, ground := Ground.phase }, { on := 41, ground := Ground.phase }, { on := 42, ground := Ground.phase }, { on := 43, ground := Ground.phase }], guard := none }) (v := .int .u16 0) rfl (by kernel_rfl) (by kernel_rfl) (by kernel_rfl) (fun _ _ _ h => h) (Or.inl ⟨by rfl, by intro X hX; go_simp; try with_reducible rfl⟩) hHeld ?_
  try simp only [Act.put, List.setIfInBounds_toArray, List.set_cons_zero, List.set_cons_succ]
  refine wpAnyH_done (by kernel_rfl) ?_ _
  try simp only [Act.put]
  go_wp2
  refine bodyPost_ret (v := .tuple #[.agg (outC kd S D ao an c up ko Q.length kc sh ho co f), .int .u16 0]) (res18 _ _ w.heap.size _ rfl rfl hend rfl) rfl ?_
  exact ⟨ao, c, ko, kc, rfl, hpost⟩
end Go.Proofs.YthhoicmfmfeehaaGreat
