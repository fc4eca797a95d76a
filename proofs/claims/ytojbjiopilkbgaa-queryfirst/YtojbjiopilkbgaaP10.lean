/-
 WHAT Doc.Node ANSWERS.; Doc.Node of a document, and Doc.Copy.; What stays so (Good): rows, ways upwards, few attributes; behind Make and Insert.; Attributes by name: named, slices.IndexFunc over attributes, Doc.element.; Doc.element, refused; Doc.Root: WHAT A SHADOW ROOT IS TO THE DOCUMENT.
-/
import Derived.Test.YtojbjiopilkbgaaP08
import Derived.Test.YtojbjiopilkbgaaP04
import Derived.Test.YtojbjiopilkbgaaP09
import Derived.Laws.MakeOwn
import Derived.Laws.CopyRow
namespace Go.Proofs.Ytojbjiopilkbgaa
set_option linter.unusedVariables false
set_option maxRecDepth 100000
set_option maxHeartbeats 8000000
section
open Go.RowKit
abbrev outC (kd : Nat) (S D : ByteArray) (ao : Option Addr) (an c : Nat) (up : Int) (ko : Option Addr) (kn kc : Nat) (sh ho co : Int) (f : Fg) : Array Value := #[.int .u8 (kd : Int), .string S, .string D, .slice ao an c, .int .i64 up, .slice ko kn kc, .int .i64 sh, .int .i64 ho, .int .i64 co, .bool f.a, .bool f.b, .bool f.c, .bool f.d, .bool f.e]
theorem outC_one (kd : Nat) (S D : ByteArray) (ao : Option Addr) (an c : Nat) (up : Int) (ko : Option Addr) (kn kc : Nat) (sh ho co : Int) (f : Fg) : (outC kd S D ao an c up ko kn kc sh ho co f).all (·.oneCell') = true := by kernel_rfl
theorem built36 (kd : Nat) (S D : ByteArray) (ao : Option Addr) (an c : Nat) (up : Int) (ko : Option Addr) (kn kc : Nat) (sh ho co : Int) (f : Fg) : Try.prog.built 34 [(0, .int .u8 (kd : Int)), (1, .string S), (2, .string D), (3, .slice ao an c), (4, .int .i64 up), (5, .slice ko kn kc), (6, .int .i64 sh), (7, .int .i64 ho), (8, .int .i64 co), (9, .agg #[.bool f.a, .bool f.b, .bool f.c, .bool f.d, .bool f.e])] = some (outC kd S D ao an c up ko kn kc sh ho co f) := by kernel_rfl
theorem info36 : (Try.prog.info? 34).map (·.size) = some 14 := by kernel_rfl
theorem enter38 (args : Array Value) (X : World) : (callFunc 38 args).run Try.prog X = .ok (.enter 38 args) X := entersE Try.func38 (by kernel_rfl) (c := _) rfl args X
theorem enter39 (args : Array Value) (X : World) : (callFunc 39 args).run Try.prog X = .ok (.enter 39 args) X := entersE Try.func39 (by kernel_rfl) (c := _) rfl args X
theorem step_store36 {ops : Array Oper} {o : Oper} {a : Act} {w : World} {Kn : Act -> World -> Prop} {Q : Exit -> Act -> World -> Prop} {E : Prop} (hgd : o.guard = none) (x y : Operand) (ho : o.op = .store 34 x y)
  (g : Nat) (cells : Array Value) (hx : a.eval x = .pointer (some ⟨g, 0, none⟩)) (hy : a.eval y = .agg cells) (old : Array Value) (hg : w.heap[g]? = some (.cells old 34 (0, 0))) (hc : cells.size = 14) (hold : old.size = 14) (h1 : cells.all (·.oneCell') = true)
  (h : Kn (a.put o.dst undef) (w.setRow g cells)) : if Region.wanted o (yielded ops a.tmps) = true then Oper.wp Try.prog o a w Kn Q else E := by
 have hw : Region.wanted o (yielded ops a.tmps) = true := by simp [Region.wanted, hgd]
 rw [if_pos hw]
 exact wp_store_row 34 x y ho g cells hx hy 34 old hg (by rw [hc]; exact info36) (by rw [hold, hc]) h1 h
theorem res32 (tmps : Array Value) (w : World) (g : Nat) (cs : Array Value) (h4 : tmps.getD 4 undef = .pointer (some ⟨g, 0, none⟩)) {u : Value} (h5 : tmps.getD 5 undef = u) (hg : w.heap[g]? = some (.cells cs 34)) (hc : cs.size = 14) :
  (results Try.f32 tmps).run Try.prog w = .ok (.tuple #[.agg cs, u]) w := by
 rw [results_cell_tmp (p := 4) (u := 5) (ty := 34) Try.results32, h4, h5]
 simp only [asAddr, Sem.run_pure, Result.andThen_ok, run_loadVar_row w g 34 34 cs _ _ hg Try.underlying34 rfl (by rw [hc]; exact info36)]
structure NS (w : World) (N : Nat) (X : World) : Prop where
 kp : Kept (fun k => k < w.heap.size) w X
 bl : ∃ old, X.heap[N]? = some (.cells old 34 (0, 0)) /\ old.size = 14
theorem NS.next {w X Y : World} {N : Nat} (h : NS w N X) (hk : Kept (fun k => k < X.heap.size) X Y) : NS w N Y := by
 obtain ⟨old, h1, h2⟩ := h.bl
 exact ⟨h.kp.trans (hk.mono fun k hk' => Nat.lt_of_lt_of_le hk' h.kp.size), old, by rw [hk.block N (lt_block h1)]; exact h1, h2⟩
theorem NS.set {w X : World} (h : NS w w.heap.size X) (cs : Array Value) (hc : cs.size = 14) : NS w w.heap.size (X.setRow w.heap.size cs) := by
 obtain ⟨old, h1, h2⟩ := h.bl
 exact ⟨kept_setRow h.kp (Nat.lt_irrefl _) cs, cs, setRow_heap _ _ _ _ _ _ h1, hc⟩
def Told (w : World) (x : Nd) (up : Int) (Q : List Nat) (e : Ending) (w' : World) : Prop :=
 ∃ ao c ko kc, e = .returned (.tuple #[.agg (outC x.kind ⟨x.name.toArray⟩ ⟨x.data.toArray⟩ ao x.attrs.length c up ko Q.length kc x.shadow x.host x.content x.fl), .int .u16 0]) /\
  OwnZ (fun k => k < w.heap.size) w' 39 2 ao x.attrs.length c (atrCells x.attrs) /\ OwnZ (fun k => k < w.heap.size) w' 3 1 ko Q.length kc (ivs Q) /\ Kept (fun k => k < w.heap.size) w w'
section
variable {w X0 Y1 Y2 : World} {l : List Atr} {an : Nat} {Q : List Nat} {cs : Array Value}
theorem own_on {e z n c : Nat} {ao : Option Addr} {xs : List Value} {X Y Y' : World} (hO : OwnZ (fun k => k < X.heap.size) Y e z ao n c xs) (hX : w.heap.size <= X.heap.size) (hY : ∀ g, ¬ g < X.heap.size -> g < Y.heap.size -> Y'.heap[g]? = Y.heap[g]?) : OwnZ (fun k => k < w.heap.size) Y' e z ao n c xs :=
 OwnZ.to hO (fun g hg hh => (OwnZ.out hO hg).1 (Nat.lt_of_lt_of_le hh hX)) (fun g hg => hY g (OwnZ.out hO hg).1 (OwnZ.out hO hg).2)
theorem nodeA (ao : Option Addr) (c : Nat) (ko : Option Addr) (kc : Nat) (h0 : NS w w.heap.size X0) (hKA : Kept (fun k => k < X0.heap.size) X0 Y1) (hO : OwnZ (fun k => k < X0.heap.size) Y1 39 2 ao an c (atrCells l)) (hKR : Kept (fun k => k < Y1.heap.size) Y1 Y2) (hQ : OwnZ (fun k => k < Y1.heap.size) Y2 3 1 ko Q.length kc (ivs Q))
  (hF : Kept (fun k => k < w.heap.size) w (Y2.setRow w.heap.size cs)) : OwnZ (fun k => k < w.heap.size) (Y2.setRow w.heap.size cs) 39 2 ao an c (atrCells l) /\ OwnZ (fun k => k < w.heap.size) (Y2.setRow w.heap.size cs) 3 1 ko Q.length kc (ivs Q) /\ Kept (fun k => k < w.heap.size) w (Y2.setRow w.heap.size cs) := by
 obtain ⟨old, hb, _⟩ := h0.bl
 have hN := lt_block hb
 have h1 := hKA.size
 refine ⟨own_on hO h0.kp.size fun g h1 h2 => ?_, own_on hQ (Nat.le_trans h0.kp.size hKA.size) fun g h1 h2 => ?_, hF⟩
 ·rw [setRow_other _ _ _ _ (by omega)]; exact hKR.block g h2
 ·rw [setRow_other _ _ _ _ (by omega)]
end
theorem node_go (p g n cap i : Nat) (w : World) (hp1 : w.cell? ⟨p, 1, none⟩ = some (.slice (some ⟨g, 0, none⟩) n cap)) (hpw : p < w.heap.size) (hgw : g < w.heap.size) (hi : i < n) (hn : n <= 1000000) (kd : Nat) (S D : ByteArray) (aa : Option Addr) (an ac : Nat) (up sh ho co : Int) (f : Fg) (l : List Atr) (Q : List Nat)
  (c0 : w.cell? ⟨g, i * 22, none⟩ = some (.int .u8 (kd : Int))) (c1 : w.cell? ⟨g, i * 22 + 1, none⟩ = some (.string S)) (c2 : w.cell? ⟨g, i * 22 + 2, none⟩ = some (.string D)) (c3 : w.cell? ⟨g, i * 22 + 3, none⟩ = some (.slice aa an ac))
  (c4 : w.cell? ⟨g, i * 22 + 4, none⟩ = some (.bool f.a)) (c5 : w.cell? ⟨g, i * 22 + 5, none⟩ = some (.bool f.b)) (c6 : w.cell? ⟨g, i * 22 + 6, none⟩ = some (.bool f.c)) (c7 : w.cell? ⟨g, i * 22 + 7, none⟩ = some (.bool f.d)) (c8 : w.cell? ⟨g, i * 22 + 8, none⟩ = some (.bool f.e))
  (c9 : w.cell? ⟨g, i * 22 + 9, none⟩ = some (.int .i64 sh)) (c10 : w.cell? ⟨g, i * 22 + 10, none⟩ = some (.int .i64 ho)) (c11 : w.cell? ⟨g, i * 22 + 11, none⟩ = some (.int .i64 co)) (c12 : w.cell? ⟨g, i * 22 + 12, none⟩ = some (.int .i64 up))
  (rc : ∀ X, Kept (fun k => k < w.heap.size) w X -> Calls Try.prog 18 #[.slice aa an ac] X fun e w' => ∃ ao c, e = .returned (.slice ao an c) /\ OwnZ (fun k => k < X.heap.size) w' 39 2 ao an c (atrCells l) /\ Kept (fun k => k < X.heap.size) X w')
  (rr : ∀ X, Kept (fun k => k < w.heap.size) w X -> Calls Try.prog 39 #[chP p, .int .i64 (i : Int)] X fun e w' => ∃ ao c, e = .returned (.slice ao Q.length c) /\ OwnZ (fun k => k < X.heap.size) w' 3 1 ao Q.length c (ivs Q) /\ Kept (fun k => k < X.heap.size) X w') :
  Calls Try.prog 32 #[.pointer (some ⟨p, 0, none⟩), .int .i64 (i : Int)] w fun e w' => ∃ ao c ko kc, e = .returned (.tuple #[.agg (outC kd S D ao an c up ko Q.length kc sh ho co f), .int .u16 0]) /\
   OwnZ (fun k => k < w.heap.size) w' 39 2 ao an c (atrCells l) /\ OwnZ (fun k => k < w.heap.size) w' 3 1 ko Q.length kc (ivs Q) /\ Kept (fun k => k < w.heap.size) w w' := by
 obtain ⟨W, hW⟩ : ∃ W, w.alloc (.cells #[.int .u8 0, .string ⟨#[]⟩, .string ⟨#[]⟩, .slice none 0 0, .int .i64 0, .slice none 0 0, .int .i64 0, .int .i64 0, .int .i64 0, .bool false, .bool false, .bool false, .bool false, .bool false] 34) = W := ⟨_, rfl⟩
 obtain ⟨N, hN⟩ : ∃ N, w.heap.size = N := ⟨_, rfl⟩
 have kW : Kept (fun k => k < w.heap.size) w W := by rw [<- hW]; exact (Kept.refl _ w).alloc (fun _ h => h) _
 have hNS : NS w w.heap.size W := ⟨kW, _, by rw [<- hW]; exact heap_alloc_new w _, rfl⟩
 have r24 := at_yes p g n cap i W ((kW.cell (p := ⟨p, 1, none⟩) hpw).trans hp1) hi (by omega)
 have RC : Hid (∀ X, NS w w.heap.size X -> Calls Try.prog 18 #[.slice aa an ac] X fun e w' => ∃ ao c, e = .returned (.slice ao an c) /\ OwnZ (fun k => k < X.heap.size) w' 39 2 ao an c (atrCells l) /\ Kept (fun k => k < X.heap.size) X w') := fun X hX => rc X hX.kp
 have RW : Hid (∀ X, NS w w.heap.size X -> Calls Try.prog 39 #[chP p, .int .i64 (i : Int)] X fun e w' => ∃ ao c, e = .returned (.slice ao Q.length c) /\ OwnZ (fun k => k < X.heap.size) w' 3 1 ao Q.length c (ivs Q) /\ Kept (fun k => k < X.heap.size) X w') := fun X hX => rr X hX.kp
 have HW : Hid (w.alloc (.cells #[.int .u8 0, .string ⟨#[]⟩, .string ⟨#[]⟩, .slice none 0 0, .int .i64 0, .slice none 0 0, .int .i64 0, .int .i64 0, .int .i64 0, .bool false, .bool false, .bool false, .bool false, .bool false] 34) = W) := hW
 have HN : Hid (w.heap.size = N) := hN
 clear hW hN kW rc rr
 go_enter Try.func32, Try.ntmps32
 go_upto_region 1 with fail
 rw [HW.out, HN.out]
 go_upto_region 4 with (go_at_call 22; refine r24.mono ?_; rintro e w2 ⟨rfl, hw2⟩; replace hw2 := hw2.symm; subst hw2)
 clear r24 HW
 have hN := HN.out
 subst hN
 clear HN
 obtain ⟨N, hN⟩ : ∃ N, w.heap.size = N := ⟨_, rfl⟩
 refine wp_region_held_drew (S := fun X => NS w w.heap.size X) (by kernel_rfl) ⟨hNS.kp.drew, hNS.bl⟩ (fun hHeld => ?_)
 clear hNS
 refine tkH 0 13 (.pointer (some ⟨g, i * 22, none⟩)) rfl rfl (by kernel_rfl) (by rfl) (by intro X hX; go_simp; try with_reducible rfl) (fun _ _ _ h => h) hHeld ?_
 try simp only [Act.put, sA, s0, s1]
 refine tkH 1 14 (.pointer (some ⟨g, i * 22, none⟩)) rfl rfl (by kernel_rfl) (by rfl) (by intro X hX; go_simp; try with_reducible rfl) (fun _ _ _ h => h) hHeld ?_
 try simp only [Act.put, sA, s0, s1]
 refine tkH 2 15 (.pointer (some ⟨g, i * 22, none⟩)) rfl rfl (by kernel_rfl) (by rfl) (by intro X hX; go_simp; try with_reducible rfl) (fun _ _ _ h => h) hHeld ?_
 try simp only [Act.put, sA, s0, s1]
 refine tkH 3 16 (.int .u8 (kd : Int)) rfl rfl (by kernel_rfl) (by rfl) (by intro X hX; have hc := (hX.kp.cell (p := ⟨g, i * 22, none⟩) hgw).trans c0; go_simp; try with_reducible rfl) (fun _ _ _ h => h) hHeld ?_
 try simp only [Act.put, sA, s0, s1]
 refine tkH 4 17 (.pointer (some ⟨g, i * 22, none⟩)) rfl rfl (by kernel_rfl) (by rfl) (by intro X hX; go_simp; try with_reducible rfl) (fun _ _ _ h => h) hHeld ?_
 try simp only [Act.put, sA, s0, s1]
 refine tkH 5 18 (.pointer (some ⟨g, i * 22, none⟩)) rfl rfl (by kernel_rfl) (by rfl) (by intro X hX; go_simp; try with_reducible rfl) (fun _ _ _ h => h) hHeld ?_
 try simp only [Act.put, sA, s0, s1]
 refine tkH 6 19 (.pointer (some ⟨g, i * 22 + 1, none⟩)) rfl rfl (by kernel_rfl) (by rfl) (by intro X hX; go_simp; try with_reducible rfl) (fun _ _ _ h => h) hHeld ?_
 try simp only [Act.put, sA, s0, s1]
 refine tkH 7 20 (.string S) rfl rfl (by kernel_rfl) (by rfl) (by intro X hX; have hc := (hX.kp.cell (p := ⟨g, i * 22 + 1, none⟩) hgw).trans c1; go_simp; try with_reducible rfl) (fun _ _ _ h => h) hHeld ?_
 try simp only [Act.put, sA, s0, s1]
 refine tkH 8 21 (.pointer (some ⟨g, i * 22, none⟩)) rfl rfl (by kernel_rfl) (by rfl) (by intro X hX; go_simp; try with_reducible rfl) (fun _ _ _ h => h) hHeld ?_
 try simp only [Act.put, sA, s0, s1]
 refine tkH 9 22 (.pointer (some ⟨g, i * 22, none⟩)) rfl rfl (by kernel_rfl) (by rfl) (by intro X hX; go_simp; try with_reducible rfl) (fun _ _ _ h => h) hHeld ?_
 try simp only [Act.put, sA, s0, s1]
 refine tkH 10 23 (.pointer (some ⟨g, i * 22 + 2, none⟩)) rfl rfl (by kernel_rfl) (by rfl) (by intro X hX; go_simp; try with_reducible rfl) (fun _ _ _ h => h) hHeld ?_
 try simp only [Act.put, sA, s0, s1]
 refine tkH 11 24 (.string D) rfl rfl (by kernel_rfl) (by rfl) (by intro X hX; have hc := (hX.kp.cell (p := ⟨g, i * 22 + 2, none⟩) hgw).trans c2; go_simp; try with_reducible rfl) (fun _ _ _ h => h) hHeld ?_
 try simp only [Act.put, sA, s0, s1]
 refine tkH 12 25 (.pointer (some ⟨g, i * 22, none⟩)) rfl rfl (by kernel_rfl) (by rfl) (by intro X hX; go_simp; try with_reducible rfl) (fun _ _ _ h => h) hHeld ?_
 try simp only [Act.put, sA, s0, s1]
 refine tkH 13 26 (.pointer (some ⟨g, i * 22, none⟩)) rfl rfl (by kernel_rfl) (by rfl) (by intro X hX; go_simp; try with_reducible rfl) (fun _ _ _ h => h) hHeld ?_
 try simp only [Act.put, sA, s0, s1]
 refine tkH 14 27 (.pointer (some ⟨g, i * 22 + 3, none⟩)) rfl rfl (by kernel_rfl) (by rfl) (by intro X hX; go_simp; try with_reducible rfl) (fun _ _ _ h => h) hHeld ?_
 try simp only [Act.put, sA, s0, s1]
 refine tkH 15 28 (.slice aa an ac) rfl rfl (by kernel_rfl) (by rfl) (by intro X hX; have hc := (hX.kp.cell (p := ⟨g, i * 22 + 3, none⟩) hgw).trans c3; go_simp; try with_reducible rfl) (fun _ _ _ h => h) hHeld ?_
 try simp only [Act.put, sA, s0, s1]
 refine tkH 17 30 (.pointer (some ⟨g, i * 22, none⟩)) rfl rfl (by kernel_rfl) (by rfl) (by intro X hX; go_simp; try with_reducible rfl) (fun _ _ _ h => h) hHeld ?_
 try simp only [Act.put, sA, s0, s1]
 refine tkH 18 31 (.pointer (some ⟨g, i * 22, none⟩)) rfl rfl (by kernel_rfl) (by rfl) (by intro X hX; go_simp; try with_reducible rfl) (fun _ _ _ h => h) hHeld ?_
 try simp only [Act.put, sA, s0, s1]
 refine tkH 19 32 (.pointer (some ⟨g, i * 22 + 12, none⟩)) rfl rfl (by kernel_rfl) (by rfl) (by intro X hX; go_simp; try with_reducible rfl) (fun _ _ _ h => h) hHeld ?_
 try simp only [Act.put, sA, s0, s1]
 refine tkH 20 33 (.pointer (some ⟨g, i * 22 + 12, none⟩)) rfl rfl (by kernel_rfl) (by rfl) (by intro X hX; go_simp; try with_reducible rfl) (fun _ _ _ h => h) hHeld ?_
 try simp only [Act.put, sA, s0, s1]
 refine tkH 21 34 (.int .i64 up) rfl rfl (by kernel_rfl) (by rfl) (by intro X hX; have hc := (hX.kp.cell (p := ⟨g, i * 22 + 12, none⟩) hgw).trans c12; go_simp; try with_reducible rfl) (fun _ _ _ h => h) hHeld ?_
 try simp only [Act.put, sA, s0, s1]
 refine tkH 22 35 (.pointer (some ⟨p, 0, none⟩)) rfl rfl (by kernel_rfl) (by rfl) (by intro X hX; go_simp; try with_reducible rfl) (fun _ _ _ h => h) hHeld ?_
 try simp only [Act.put, sA, s0, s1]
 refine tkH 24 37 (.int .i64 (i : Int)) rfl rfl (by kernel_rfl) (by rfl) (by intro X hX; go_simp; try with_reducible rfl) (fun _ _ _ h => h) hHeld ?_
 try simp only [Act.put, sA, s0, s1]
 refine tkH 26 39 (.pointer (some ⟨g, i * 22, none⟩)) rfl rfl (by kernel_rfl) (by rfl) (by intro X hX; go_simp; try with_reducible rfl) (fun _ _ _ h => h) hHeld ?_
 try simp only [Act.put, sA, s0, s1]
 refine tkH 27 40 (.pointer (some ⟨g, i * 22, none⟩)) rfl rfl (by kernel_rfl) (by rfl) (by intro X hX; go_simp; try with_reducible rfl) (fun _ _ _ h => h) hHeld ?_
 try simp only [Act.put, sA, s0, s1]
 refine tkH 28 41 (.pointer (some ⟨g, i * 22 + 9, none⟩)) rfl rfl (by kernel_rfl) (by rfl) (by intro X hX; go_simp; try with_reducible rfl) (fun _ _ _ h => h) hHeld ?_
 try simp only [Act.put, sA, s0, s1]
 refine tkH 29 42 (.int .i64 sh) rfl rfl (by kernel_rfl) (by rfl) (by intro X hX; have hc := (hX.kp.cell (p := ⟨g, i * 22 + 9, none⟩) hgw).trans c9; go_simp; try with_reducible rfl) (fun _ _ _ h => h) hHeld ?_
 try simp only [Act.put, sA, s0, s1]
 refine tkH 30 43 (.pointer (some ⟨g, i * 22, none⟩)) rfl rfl (by kernel_rfl) (by rfl) (by intro X hX; go_simp; try with_reducible rfl) (fun _ _ _ h => h) hHeld ?_
 try simp only [Act.put, sA, s0, s1]
 refine tkH 31 44 (.pointer (some ⟨g, i * 22, none⟩)) rfl rfl (by kernel_rfl) (by rfl) (by intro X hX; go_simp; try with_reducible rfl) (fun _ _ _ h => h) hHeld ?_
 try simp only [Act.put, sA, s0, s1]
 refine tkH 32 45 (.pointer (some ⟨g, i * 22 + 10, none⟩)) rfl rfl (by kernel_rfl) (by rfl) (by intro X hX; go_simp; try with_reducible rfl) (fun _ _ _ h => h) hHeld ?_
 try simp only [Act.put, sA, s0, s1]
 refine tkH 33 46 (.int .i64 ho) rfl rfl (by kernel_rfl) (by rfl) (by intro X hX; have hc := (hX.kp.cell (p := ⟨g, i * 22 + 10, none⟩) hgw).trans c10; go_simp; try with_reducible rfl) (fun _ _ _ h => h) hHeld ?_
 try simp only [Act.put, sA, s0, s1]
 refine tkH 34 47 (.pointer (some ⟨g, i * 22, none⟩)) rfl rfl (by kernel_rfl) (by rfl) (by intro X hX; go_simp; try with_reducible rfl) (fun _ _ _ h => h) hHeld ?_
 try simp only [Act.put, sA, s0, s1]
 refine tkH 35 48 (.pointer (some ⟨g, i * 22, none⟩)) rfl rfl (by kernel_rfl) (by rfl) (by intro X hX; go_simp; try with_reducible rfl) (fun _ _ _ h => h) hHeld ?_
 try simp only [Act.put, sA, s0, s1]
 refine tkH 36 49 (.pointer (some ⟨g, i * 22 + 11, none⟩)) rfl rfl (by kernel_rfl) (by rfl) (by intro X hX; go_simp; try with_reducible rfl) (fun _ _ _ h => h) hHeld ?_
 try simp only [Act.put, sA, s0, s1]
 refine tkH 37 50 (.int .i64 co) rfl rfl (by kernel_rfl) (by rfl) (by intro X hX; have hc := (hX.kp.cell (p := ⟨g, i * 22 + 11, none⟩) hgw).trans c11; go_simp; try with_reducible rfl) (fun _ _ _ h => h) hHeld ?_
 try simp only [Act.put, sA, s0, s1]
 refine tkH 38 51 (.pointer (some ⟨g, i * 22, none⟩)) rfl rfl (by kernel_rfl) (by rfl) (by intro X hX; go_simp; try with_reducible rfl) (fun _ _ _ h => h) hHeld ?_
 try simp only [Act.put, sA, s0, s1]
 refine tkH 39 52 (.pointer (some ⟨g, i * 22, none⟩)) rfl rfl (by kernel_rfl) (by rfl) (by intro X hX; go_simp; try with_reducible rfl) (fun _ _ _ h => h) hHeld ?_
 try simp only [Act.put, sA, s0, s1]
 refine tkH 40 53 (.pointer (some ⟨g, i * 22 + 4, none⟩)) rfl rfl (by kernel_rfl) (by rfl) (by intro X hX; go_simp; try with_reducible rfl) (fun _ _ _ h => h) hHeld ?_
 try simp only [Act.put, sA, s0, s1]
 refine tkH 41 54 (.agg #[.bool f.a, .bool f.b, .bool f.c, .bool f.d, .bool f.e]) rfl rfl (by kernel_rfl) (by rfl) (by intro X hX; have h4 := (hX.kp.cell (p := ⟨g, i * 22 + 4, none⟩) hgw).trans c4; have h5 := (hX.kp.cell (p := ⟨g, i * 22 + 5, none⟩) hgw).trans c5; have h6 := (hX.kp.cell (p := ⟨g, i * 22 + 6, none⟩) hgw).trans c6; have h7 := (hX.kp.cell (p := ⟨g, i * 22 + 7, none⟩) hgw).trans c7; have h8 := (hX.kp.cell (p := ⟨g, i * 22 + 8, none⟩) hgw).trans c8; go_simp; try with_reducible rfl) (fun _ _ _ h => h) hHeld ?_
 try simp only [Act.put, sA, s0, s1]
 refine wpAnyH_ready (rs := [16]) (by kernel_rfl) (by simp) ?_
 refine AllReadyH.cons (o := { dst := some 29, op := Op.call { callee := Callee.value (Operand.func 18), args := #[Operand.tmp 28], argTypes := #[29] }, type := 29, pos := "dom.go:68", after := #[{ on := 15, ground := Ground.data }], guard := none }) rfl (fun Kx hK => ?_) AllReadyH.nil
 have hX0 := hHeld
 refine step_callE rfl 18 #[.tmp 28] #[29] rfl #[.slice aa an ac] (by first | (simp [Act.eval]; done) | (simp [Act.eval, Act.put]; done)) (enter18 _ _) _ (RC.out _ hHeld) ?_
 rintro e Y1 ⟨ao, c, rfl, hO, hKA⟩
 refine ⟨_, rfl, hK.out _ _ (hHeld.next hKA) (fun hHeld2 => ?_)⟩
 clear hK Kx hHeld
 replace hHeld := hHeld2
 clear hHeld2
 try simp only [Act.put, sA, s0, s1]
 refine wpAnyH_ready (rs := [23]) (by kernel_rfl) (by simp) ?_
 refine AllReadyH.cons (o := { dst := some 36, op := Op.call { callee := Callee.value (Operand.func 38), args := #[Operand.tmp 35], argTypes := #[22] }, type := 86, pos := "dom.go:70", after := #[{ on := 22, ground := Ground.data }, { on := 16, ground := Ground.chain }], guard := none }) rfl (fun Kx hK => ?_) AllReadyH.nil
 refine step_callE rfl 38 #[.tmp 35] #[22] rfl #[.pointer (some ⟨p, 0, none⟩)] (by first | (simp [Act.eval]; done) | (simp [Act.eval, Act.put]; done)) (enter38 _ _) _ (kids_any _ _) ?_
 rintro e Yk ⟨rfl, rfl⟩
 refine ⟨_, rfl, hK.out _ _ hHeld (fun hHeld2 => ?_)⟩
 clear hK Kx hHeld
 replace hHeld := hHeld2
 clear hHeld2
 try simp only [Act.put, sA, s0, s1]
 refine wpAnyH_ready (rs := [25]) (by kernel_rfl) (by simp) ?_
 refine AllReadyH.cons (o := { dst := some 38, op := Op.call { callee := Callee.value (Operand.func 39), args := #[Operand.tmp 36, Operand.tmp 37], argTypes := #[86, 50] }, type := 30, pos := "dom.go:70", after := #[{ on := 23, ground := Ground.data }, { on := 24, ground := Ground.data }, { on := 23, ground := Ground.chain }], guard := none }) rfl (fun Kx hK => ?_) AllReadyH.nil
 refine step_callE rfl 39 #[.tmp 36, .tmp 37] #[86, 50] rfl #[chP p, .int .i64 (i : Int)] (by first | (simp [Act.eval]; done) | (simp [Act.eval, Act.put]; done)) (enter39 _ _) _ (RW.out _ hHeld) ?_
 rintro e Y2 ⟨ko, kc, rfl, hQ, hKR⟩
 refine ⟨_, rfl, hK.out _ _ (hHeld.next hKR) (fun hHeld2 => ?_)⟩
 clear hK Kx hHeld
 replace hHeld := hHeld2
 clear hHeld2
 try simp only [Act.put, sA, s0, s1]
 refine tkH 42 55 (.agg (outC kd S D ao an c up ko Q.length kc sh ho co f)) rfl rfl (by kernel_rfl) (by rfl) (by intro X hX; refine yields_build 34 _ rfl (outC kd S D ao an c up ko Q.length kc sh ho co f) ?_; simp only [List.map_toArray, List.map_cons, List.map_nil, Act.eval]; exact built36 _ _ _ _ _ _ _ _ _ _ _ _ _ _) (fun _ _ _ h => h) hHeld ?_
 try simp only [Act.put, sA, s0, s1]
 obtain ⟨old, hold, hos⟩ := hHeld.bl
 refine wpAnyH_ready (rs := [43]) (by kernel_rfl) (by simp) ?_
 refine AllReadyH.cons (o := { dst := none, op := Op.store 34 (Operand.tmp 4) (Operand.tmp 55), type := 0, pos := "dom.go:64", after := #[{ on := 42, ground := Ground.data }, { on := 25, ground := Ground.chain }, { on := 0, ground := Ground.phase }, { on := 1, ground := Ground.phase }, { on := 2, ground := Ground.phase }, { on := 3, ground := Ground.phase }, { on := 4, ground := Ground.phase }, { on := 5, ground := Ground.phase }, { on := 6, ground := Ground.phase }, { on := 7, ground := Ground.phase }, { on := 8, ground := Ground.phase }, { on := 9, ground := Ground.phase }, { on := 10, ground := Ground.phase }, { on := 11, ground := Ground.phase }, { on := 12, ground := Ground.phase }, { on := 13, ground := Ground.phase }, { on := 14, ground := Ground.phase }, { on := 15, ground := Ground.phase }, { on := 16, ground := Ground.phase }, { on := 17, ground := Ground.phase }, { on := 18, ground := Ground.phase }, { on := 19, ground := Ground.phase }, { on := 20, ground := Ground.phase }, { on := 21, ground := Ground.phase }, { on := 22, ground := Ground.phase }, { on := 23, ground := Ground.phase }, { on := 24, ground := Ground.phase }, { on := 25, ground := Ground.phase }, { on := 26, ground := Ground.phase }, { on := 27, ground := Ground.phase }, { on := 28, ground := Ground.phase }, { on := 29, ground := Ground.phase }, { on := 30, ground := Ground.phase }, { on := 31, ground := Ground.phase }, { on := 32, ground := Ground.phase }, { on := 33, ground := Ground.phase }, { on := 34, ground := Ground.phase }, { on := 35, ground := Ground.phase }, { on := 36, ground := Ground.phase }, { on := 37, ground := Ground.phase }, { on := 38, ground := Ground.phase }, { on := 39, ground := Ground.phase }, { on := 40, ground := Ground.phase }, { on := 41, ground := Ground.phase }, { on := 42, ground := Ground.phase }], guard := none }) rfl (fun Kx hK => ?_) AllReadyH.nil
 refine step_store36 rfl (.tmp 4) (.tmp 55) rfl w.heap.size (outC kd S D ao an c up ko Q.length kc sh ho co f) rfl rfl old hold rfl hos (outC_one _ _ _ _ _ _ _ _ _ _ _ _ _ _) ?_
 refine hK.out _ _ (hHeld.set _ rfl) (fun hHeld2 => ?_)
 have hpost := nodeA ao c ko kc hX0 hKA hO hKR hQ (hHeld2.kp)
 have hend := setRow_heap _ w.heap.size _ (outC kd S D ao an c up ko Q.length kc sh ho co f) _ _ hold
 clear hK Kx hHeld
 replace hHeld := hHeld2
 clear hHeld2
 try simp only [Act.put]
 refine tkH 44 5 (.int .u16 0) rfl rfl (by kernel_rfl) (by rfl) (by intro X hX; go_simp; try with_reducible rfl) (fun _ _ _ h => h) hHeld ?_
 try simp only [Act.put, sA, s0, s1]
 refine wpAnyH_done (by kernel_rfl) ?_ _
 try simp only [Act.put]
 go_wp2
 refine bodyPost_ret (v := .tuple #[.agg (outC kd S D ao an c up ko Q.length kc sh ho co f), .int .u16 0]) (res32 _ _ w.heap.size _ rfl rfl hend rfl) rfl ?_
 exact ⟨ao, c, ko, kc, rfl, hpost⟩
end
section
open Go.RowKit
def Few (S : Dm) : Prop := ∀ i, i < S.n -> (S.nd i).attrs.length <= 1000
theorem node_any (K : Nat -> Prop) (p i : Nat) (S : Dm) (R : Nat -> List Nat) (w : World) (h : DX K w p S) (hW : WF S.n S.pl R) (hi : i < S.n) (hn : S.n <= 1000000) (hf : Few S) :
  Calls Try.prog 32 #[.pointer (some ⟨p, 0, none⟩), .int .i64 (i : Int)] w fun e w' => Told w (S.nd i) (S.pl i).up (R i) e w' := by
 obtain ⟨ga, cap, hY⟩ := h
 obtain ⟨g, rfl, -, -, hgl⟩ := hY.at (by omega)
 obtain ⟨aa, ac, hc, hO⟩ := hY.cell hi
 exact node_go p g S.n cap i w hY.c1 hY.plt hgl hi hn (S.nd i).kind ⟨(S.nd i).name.toArray⟩ ⟨(S.nd i).data.toArray⟩ aa _ ac _ _ _ _ (S.nd i).fl (S.nd i).attrs (R i) (hc 0 _ rfl) (hc 1 _ rfl) (hc 2 _ rfl) (hc 3 _ rfl) (hc 4 _ rfl) (hc 5 _ rfl) (hc 6 _ rfl) (hc 7 _ rfl) (hc 8 _ rfl) (hc 9 _ rfl) (hc 10 _ rfl) (hc 11 _ rfl) (hc 12 _ rfl)
  (fun X hX => copyA_any (S.nd i).attrs aa _ ac rfl (by have := hf i hi; omega) X ((hO.atsAt (K' := fun k => k < w.heap.size) fun g hg => (OwnZ.out hO hg).2).kept hX fun k h => Nat.lt_of_lt_of_le h hX.size))
  (fun X hX => rowP K p g cap i S R X (hY.kept hX) hW hi (by omega))
section
variable {P : Program}
theorem run_copyZ (w : World) (t elem : TypeId) (ty : TypeId) (i : TypeInfo) (z g n dCap sCap : Nat) (a : Addr) (cur : Array Value) (cs : List Value)
  (hu : P.underlying t = some (.slice elem)) (hi : P.info? elem = some i) (hz : i.size = z)
  (hg : w.heap[g]? = some (.cells cur elem (0, 0))) (hn : cs.length = n * z) (hcur : cur.size = n * z)
  (hsrc : ∀ j v, cs[j]? = some v -> w.cell? (a.add j) = some v) (h1 : ∀ v ∈ cs, v.oneCell' = true) :
  (Builtin.copy_ #[t, t] ty #[.slice (some ⟨g, 0, none⟩) n dCap, .slice (some a) n sCap]).run P w = .ok (goInt n) (w.setRow g cs.toArray) := by
 subst hz
 have hl := run_loadCells_list (P := P) w a cs hsrc
 have hst := run_storeCells_at P g 0 elem cs 0 cur w hg (by omega) h1
 simp only [Nat.zero_add, List.take_zero, List.nil_append, List.drop_eq_nil_of_le (show cur.toList.length <= cs.length by simp; omega), List.append_nil] at hst
 rw [hn] at hl
 simp [Builtin.copy_, run_underlying hu, Builtin.lenOf, Builtin.firstCells, sizeOf, typeInfo, hi, hl, hst]
end
def Cpy (S : Dm) (w : World) (G j : Nat) (wr : World) : Prop :=
 ∃ (cur : Array Value) (aa : Nat -> Option Addr) (ac : Nat -> Nat), wr.heap[G]? = some (.cells cur 55 (0, 0)) /\ cur.size = S.n * 22 /\
  (∀ i, i < S.n -> ∀ f u, (S.cells i (aa i) (ac i))[f]? = some u -> cur.toList[i * 22 + f]? = some u) /\
  (∀ i, i < j -> OwnZ (fun k => k < w.heap.size \/ k = G) wr 39 2 (aa i) (S.nd i).attrs.length (ac i) (atrCells (S.nd i).attrs)) /\
  (∀ i k, i < j -> k < j -> i ≠ k -> ∀ g, blkOf (aa i) g -> ¬ blkOf (aa k) g) /\
  (∀ i, j <= i -> i < S.n -> AtsAt (fun k => k < w.heap.size) wr (aa i) (S.nd i).attrs) /\ Kept (fun k => k < w.heap.size) w wr
theorem Cpy.next {S : Dm} {w : World} {j : Nat} {wr : World} (h : Cpy S w w.heap.size j wr) (hj : j < S.n) :
  ∃ aa ac, wr.cell? ⟨w.heap.size, j * 22 + 3, none⟩ = some (.slice aa (S.nd j).attrs.length ac) /\ AtsAt (fun k => k < wr.heap.size) wr aa (S.nd j).attrs /\ w.heap.size < wr.heap.size /\
   ∀ ao c w2, OwnZ (fun k => k < wr.heap.size) w2 39 2 ao (S.nd j).attrs.length c (atrCells (S.nd j).attrs) -> Kept (fun k => k < wr.heap.size) wr w2 -> (∃ u, w2.cell? ⟨w.heap.size, j * 22 + 3, none⟩ = some u) /\ w2.frozen? ⟨w.heap.size, j * 22 + 3, none⟩ = false /\ Cpy S w w.heap.size (j + 1) (w2.setCell ⟨w.heap.size, j * 22 + 3, none⟩ (.slice ao (S.nd j).attrs.length c)) := by
 obtain ⟨cur, aa, ac, hb, hs, hx, hO, hD, hA, hK⟩ := h
 have hG := lt_block hb
 have h22 : j * 22 + 22 <= S.n * 22 := by have := Nat.mul_le_mul_right 22 hj; omega
 refine ⟨aa j, ac j, ?_, (hA j (Nat.le_refl _) hj).kept (Kept.refl _ wr) (fun k h => Nat.lt_of_lt_of_le h hK.size), hG, fun ao c w2 hO2 hK2 => ?_⟩
 ·rw [cell_block hb, <- Array.getElem?_toList]
  exact hx j hj 3 _ rfl
 ·have hb2 : w2.heap[w.heap.size]? = some (.cells cur 55 (0, 0)) := by rw [hK2.block _ hG]; exact hb
  have hc2 : w2.cell? ⟨w.heap.size, j * 22 + 3, none⟩ = some (.slice (aa j) (S.nd j).attrs.length (ac j)) := by
   rw [cell_block hb2, <- Array.getElem?_toList]
   exact hx j hj 3 _ rfl
  refine ⟨⟨_, hc2⟩, frozen_block hb2 _, cur.setIfInBounds (j * 22 + 3) (.slice ao (S.nd j).attrs.length c), fun k => if k = j then ao else aa k, fun k => if k = j then c else ac k, heap_setCell_at hb2 _ _, by simp [hs], ?_, ?_, ?_, ?_, ?_⟩
  ·intro i hi f u hu
   dsimp only at hu
   rw [Array.toList_setIfInBounds]
   have hf' : f < 22 := by
    rcases Nat.lt_or_ge f 22 with hh | hh
    ·exact hh
    ·rw [List.getElem?_eq_none (by rw [Dm.cells_len]; exact hh)] at hu; cases hu
   by_cases ci : i = j
   ·subst ci
    rw [if_pos rfl, if_pos rfl] at hu
    by_cases cf : f = 3
    ·subst cf
     rw [List.getElem?_set_self (by simp; omega)]
     exact hu
    ·rw [List.getElem?_set_ne (by omega)]
     refine hx i hi f u ?_
     rw [<- hu]
     unfold Dm.cells ndCells
     match f, cf, hf' with
     | 0, _, _ => rfl
     | 1, _, _ => rfl
     | 2, _, _ => rfl
     | 4, _, _ => rfl
     | 5, _, _ => rfl
     | 6, _, _ => rfl
     | 7, _, _ => rfl
     | 8, _, _ => rfl
     | 9, _, _ => rfl
     | 10, _, _ => rfl
     | 11, _, _ => rfl
     | 12, _, _ => rfl
     | 13, _, _ => rfl
     | 14, _, _ => rfl
     | 15, _, _ => rfl
     | 16, _, _ => rfl
     | 17, _, _ => rfl
     | 18, _, _ => rfl
     | 19, _, _ => rfl
     | 20, _, _ => rfl
     | 21, _, _ => rfl
   ·rw [if_neg ci, if_neg ci] at hu
    rw [List.getElem?_set_ne (by omega)]
    exact hx i hi f u hu
  ·intro i hi
   dsimp only
   have keep : ∀ g, g ≠ w.heap.size -> (w2.setCell ⟨w.heap.size, j * 22 + 3, none⟩ (.slice ao (S.nd j).attrs.length c)).heap[g]? = w2.heap[g]? := fun g hg => Below.heap_setCell _ _ _ _ hg
   by_cases ci : i = j
   ·subst ci
    rw [if_pos rfl, if_pos rfl]
    have hout := fun g (hg : blkOf ao g) => OwnZ.out hO2 hg
    refine OwnZ.to hO2 (fun g hg hh => ?_) (fun g hg => keep g (fun e => (hout g hg).1 (by rw [e]; exact hG)))
    rcases hh with hh | hh
    ·exact (hout g hg).1 (Nat.lt_of_lt_of_le hh hK.size)
    ·exact (hout g hg).1 (by rw [hh]; exact hG)
   ·rw [if_neg ci, if_neg ci]
    have hio := hO i (by omega)
    have hout := fun g (hg : blkOf (aa i) g) => OwnZ.out hio hg
    refine OwnZ.to hio (fun g hg => (hout g hg).1) (fun g hg => ?_)
    rw [keep g (fun e => (hout g hg).1 (.inr e)), hK2.block g (hout g hg).2]
  ·intro i k hi hk hik g hg hh
   dsimp only at hg hh
   by_cases ci : i = j
   ·subst ci
    rw [if_pos rfl] at hg
    rw [if_neg (by omega)] at hh
    exact (OwnZ.out hO2 hg).1 (OwnZ.out (hO k (by omega)) hh).2
   ·rw [if_neg ci] at hg
    by_cases ck : k = j
    ·subst ck
     rw [if_pos rfl] at hh
     exact (OwnZ.out hO2 hh).1 (OwnZ.out (hO i (by omega)) hg).2
    ·rw [if_neg ck] at hh
     exact hD i k (by omega) (by omega) hik g hg hh
  ·intro i hi1 hi2
   dsimp only
   rw [if_neg (by omega)]
   have k1 : Kept (fun k => k < w.heap.size) wr (w2.setCell ⟨w.heap.size, j * 22 + 3, none⟩ (.slice ao (S.nd j).attrs.length c)) := (hK2.mono fun k h => Nat.lt_of_lt_of_le h hK.size).setCell (p := ⟨w.heap.size, j * 22 + 3, none⟩) (Nat.lt_irrefl _) _
   exact (hA i (by omega) hi2).kept k1 fun _ h => h
  ·exact (hK.trans (hK2.mono fun k h => Nat.lt_of_lt_of_le h hK.size)).setCell (p := ⟨w.heap.size, j * 22 + 3, none⟩) (Nat.lt_irrefl _) _
theorem Cpy.start {K : Nat -> Prop} {S : Dm} {w : World} {p g cap : Nat} (h : DY K w p S (some ⟨g, 0, none⟩) cap) (mc : Array Value) (hmc : mc.size = S.n * 22) :
  ∃ cs : List Value, (Builtin.copy_ #[47, 47] 3 #[.slice (some ⟨w.heap.size, 0, none⟩) S.n S.n, .slice (some ⟨g, 0, none⟩) S.n cap]).run Try.prog (w.alloc (.cells mc 55)) = .ok (goInt S.n) ((w.alloc (.cells mc 55)).setRow w.heap.size cs.toArray) /\ Cpy S w w.heap.size 0 ((w.alloc (.cells mc 55)).setRow w.heap.size cs.toArray) := by
 obtain ⟨gk, gp, gl⟩ := h.gk
 obtain ⟨h1, h2, h3, xs, aa, ac, ho, hx, hat, hs⟩ := h
 obtain ⟨inf, hi, hip⟩ := Option.map_eq_some_iff.1 infoN
 have hsz : inf.size = 22 := congrArg (·.2.1) hip
 have hlx : xs.length = S.n * 22 := ho.1
 have kA : Kept (fun k => k < w.heap.size) w (w.alloc (.cells mc 55)) := (Kept.refl _ w).alloc (fun _ h => h) _
 have hone : ∀ v ∈ xs, v.oneCell' = true := by
  intro v hv
  obtain ⟨j, hj, e⟩ := List.mem_iff_getElem.1 hv
  have hjn : j / 22 < S.n := by
   rw [hlx] at hj
   omega
  have hl : j % 22 < (S.cells (j / 22) (aa (j / 22)) (ac (j / 22))).length := by rw [Dm.cells_len]; omega
  have := hx (j / 22) hjn (j % 22) _ (List.getElem?_eq_getElem hl)
  rw [show j / 22 * 22 + j % 22 = j from by omega, List.getElem?_eq_getElem hj, e] at this
  injection this with this
  rw [this]
  exact nd_one _ _ _ _ _ _ (List.getElem_mem hl)
 refine ⟨xs, ?_, ?_⟩
 ·refine run_copyZ (P := Try.prog) _ 47 55 3 inf 22 w.heap.size S.n S.n cap ⟨g, 0, none⟩ mc xs Try.underlying47 hi hsz (heap_alloc_new w _) hlx hmc (fun j v hj => ?_) hone
  obtain ⟨g', e, hc⟩ := ho.cell hj
  injection e with e
  injection e with e
  subst e
  rw [Addr.add_lit, Nat.zero_add, kA.cell (p := ⟨g, j, none⟩) gl]
  exact hc
 ·refine ⟨xs.toArray, aa, ac, setRow_heap _ _ _ _ _ _ (heap_alloc_new w _), by simp [hlx], fun i hi f u hu => by simpa using hx i hi f u hu, fun i hi => absurd hi (Nat.not_lt_zero _), fun i k hi => absurd hi (Nat.not_lt_zero _), fun i _ hi => ?_, kept_setRow kA (Nat.lt_irrefl _) _⟩
  have hio := hat i hi
  have := hio.atsAt (K' := fun k => k < w.heap.size) fun g hg => (OwnZ.out hio hg).2
  exact this.kept (kept_setRow kA (Nat.lt_irrefl _) _) fun _ h => h
end
section
open Go.RowKit
structure Good (M : Dm) (R : Nat -> List Nat) (rk : Nat -> Nat) : Prop where
 wf : WF M.n M.pl R
 acy : Acy M rk
 few : Few M
theorem Good.new (limit : Nat) : Good (Dm.new limit) (fun _ => []) (fun _ => 0) := by
 have hpl : ∀ k, ((Dm.new limit).pl k) = Lk.nil := fun k => by
  show updL (fun _ => Lk.nil) 0 Lk.nil k = Lk.nil
  unfold updL
  split <;> rfl
 refine ⟨⟨fun u hu => by rw [hpl]; rfl, fun u hu => by rw [hpl]; rfl, fun u hu => trivial, fun u hu => List.nodup_nil, fun u hu i hi => (by cases hi), fun i hi => .inl (by rw [hpl]; rfl)⟩, fun k hk => .inl ?_, fun i hi => ?_⟩
 ·have hk0 : k = 0 := by have : k < 0 + 1 := hk; omega
  subst hk0
  unfold parI
  rw [hpl]
  rfl
 ·have hk0 : i = 0 := by have : i < 0 + 1 := hi; omega
  subst hk0
  show (0 : Nat) <= 1000
  omega
theorem add_par {M : Dm} {x : Nd} {k : Nat} (hk : k < M.n) : parI (M.add x) k = parI M k := by
 have c : ¬ k = M.n := by omega
 unfold parI
 simp only [Dm.add, updL, if_neg c]
theorem add_par_new {M : Dm} {x : Nd} : parI (M.add x) M.n = -1 := by
 unfold parI
 simp [Dm.add, updL, Lk.nil, Nd.new]
theorem Good.add {M : Dm} {R : Nat -> List Nat} {rk : Nat -> Nat} (h : Good M R rk) (x : Nd) (hx : x.attrs.length <= 1000) : Good (M.add x) (updR R M.n []) rk := by
 refine ⟨h.wf.more _ (fun k hk => updL_ne _ _ (by omega)) (updL_same _ _ _), fun k hk => ?_, fun i hi => ?_⟩
 ·have : k < M.n + 1 := hk
  by_cases c : k = M.n
  ·subst c; exact .inl add_par_new
  ·have hk' : k < M.n := by omega
   rw [add_par hk']
   rcases h.acy k hk' with h0 | ⟨m, h1, h2, h3⟩
   ·exact .inl h0
   ·exact .inr ⟨m, by show m < M.n + 1; omega, h2, h3⟩
 ·have : i < M.n + 1 := hi
  by_cases c : i = M.n
  ·subst c
   show (if M.n = M.n then x.new else M.nd M.n).attrs.length <= 1000
   rw [if_pos rfl]; exact hx
  ·show (if i = M.n then x.new else M.nd i).attrs.length <= 1000
   rw [if_neg c]; exact h.few i (by omega)
open Classical in
theorem Acy.move {M M' : Dm} {rk : Nat -> Nat} {i up : Nat} (h : Acy M rk) (hn : M'.n = M.n) (hu : up < M.n) (hw : ¬ Wi M i up) (hp : ∀ k, k < M.n -> parI M' k = parI M k \/ (Wi M i k /\ parI M' k = (up : Int))) :
  Acy M' (fun k => if Wi M i k then rk k + rk up + 1 else rk k) := by
 have mono : ∀ j k, k < M.n -> Wi M j k -> rk j <= rk k := by
  intro j k hk hwi
  induction hwi with
  | here => exact Nat.le_refl _
  | @up k m e _ ih =>
   rcases h k hk with h0 | ⟨q, h1, h2, h3⟩
   ·omega
   ·have : m = q := by omega
    subst this
    have := ih h1
    omega
 intro k hk
 rw [hn] at hk
 dsimp only
 rcases hp k hk with e | ⟨hwk, e⟩
 ·rw [e]
  rcases h k hk with h0 | ⟨m, h1, h2, h3⟩
  ·exact .inl h0
  ·refine .inr ⟨m, by rw [hn]; exact h1, h2, ?_⟩
   by_cases ck : Wi M i k
   ·rw [if_pos ck]
    by_cases cm : Wi M i m
    ·rw [if_pos cm]; omega
    ·rw [if_neg cm]; omega
   ·rw [if_neg ck, if_neg (fun cm => ck (.up h2 cm))]
    exact h3
 ·refine .inr ⟨up, by rw [hn]; exact hu, e, ?_⟩
  rw [if_pos hwk, if_neg hw]
  omega
theorem parI_setP {M : Dm} {L : Nat -> Lk} {k : Nat} (h : (L k).up = (M.pl k).up) : parI (M.setP L) k = parI M k := by
 unfold parI
 simp only [Dm.setP, h]
theorem parI_set {M : Dm} {L : Nat -> Lk} {k up : Nat} (h : (L k).up = (up : Int)) : parI (M.setP L) k = (up : Int) := by
 unfold parI
 simp only [Dm.setP, h]
 rw [if_neg (by omega)]
theorem puts_up (up : Nat) (bef : Int) : ∀ (l : List Nat) (L : Nat -> Lk) (k : Nat), (k ∉ l -> (putsL L up bef l k).up = (L k).up) /\ (k ∈ l -> (putsL L up bef l k).up = (up : Int))
 | [], L, k => ⟨fun _ => rfl, fun h => by cases h⟩
 | x :: r, L, k => by
  obtain ⟨h1, h2⟩ := puts_up up bef r (putL L up x bef) k
  refine ⟨fun h => ?_, fun h => ?_⟩
  ·have hx : k ≠ x := fun e => h (e ▸ List.mem_cons_self ..)
   exact (h1 fun hm => h (List.mem_cons_of_mem _ hm)).trans (put_up hx)
  ·by_cases hm : k ∈ r
   ·exact h2 hm
   ·rcases List.mem_cons.1 h with rfl | h
    ·exact (h1 hm).trans put_up_same
    ·exact absurd h hm
theorem Good.ins {M : Dm} {R : Nat -> List Nat} {rk : Nat -> Nat} (h : Good M R rk) {up i : Nat} {bef : Int} (hu : up < M.n) (hi : i < M.n) (hF : Fits M up i bef) : ∃ rk', Good (M.setP (putD M R up i bef)) (putDR M R up i bef) rk' := by
 have hP := PutOk.of h.wf h.acy hu hi hF.2.2.1 hF.2.2.2
 refine ⟨_, hP.out, Acy.move (M := M) (i := i) h.acy rfl hu hF.2.2.1 (fun k hk => ?_), h.few⟩
 unfold putD
 by_cases c : (M.nd i).kind = 4
 ·rw [if_pos c]
  obtain ⟨h1, h2⟩ := puts_up up bef (R i) M.pl k
  by_cases hm : k ∈ R i
  ·refine .inr ⟨.up ?_ .here, parI_set (h2 hm)⟩
   have hup := h.wf.up hi hm
   unfold parI
   rw [if_neg (by omega)]
   exact hup
  ·exact .inl (parI_setP (h1 hm))
 ·rw [if_neg c]
  by_cases hk' : k = i
  ·subst hk'
   exact .inr ⟨.here, parI_set put_up_same⟩
  ·exact .inl (parI_setP (put_up hk'))
end
section
open Go.RowKit




theorem element_yes (p g n cap i : Nat) (z : Int) (w : World) (hc : w.cell? ⟨p, 1, none⟩ = some (.slice (some ⟨g, 0, none⟩) n cap)) (hi : i < n) (hn : n <= 1000000000) (h0 : w.cell? ⟨g, i * 22, none⟩ = some (.int .u8 1)) :
  Calls Try.prog 25 #[.pointer (some ⟨p, 0, none⟩), .int .i64 (i : Int), .int .u16 z] w fun e w' => e = .returned (.tuple #[.pointer (some ⟨g, i * 22, none⟩), .int .u16 0]) /\ w' = w := by
 have r := at_yes p g n cap i w hc hi hn
 clear hc
 go_enter Try.func25, Try.ntmps25
 go_wp2_with (go_at_call 22; refine r.mono ?_; rintro e w2 ⟨rfl, hw2⟩; replace hw2 := hw2.symm; subst hw2)
 go_ret2
 exact ⟨rfl, rfl⟩
end
section
open Go.RowKit
theorem element_other (p g n cap i kd : Nat) (z : Int) (w : World) (hc : w.cell? ⟨p, 1, none⟩ = some (.slice (some ⟨g, 0, none⟩) n cap)) (hi : i < n) (hn : n <= 1000000000) (hkd : kd ≠ 1) (h0 : w.cell? ⟨g, i * 22, none⟩ = some (.int .u8 (kd : Int))) :
  Calls Try.prog 25 #[.pointer (some ⟨p, 0, none⟩), .int .i64 (i : Int), .int .u16 z] w fun e w' => e = .returned (.tuple #[.pointer none, .int .u16 z]) /\ w' = w := by
 have r := at_yes p g n cap i w hc hi hn
 have e1 : ((kd : Int) == 1) = false := by simp; omega
 have e2 : ¬ (kd : Int) = 1 := by omega
 clear hc
 go_enter Try.func25, Try.ntmps25
 go_wp2_with (go_at_call 22; refine r.mono ?_; rintro e w2 ⟨rfl, hw2⟩; replace hw2 := hw2.symm; subst hw2)
 go_ret2
 exact ⟨rfl, rfl⟩
def shN (f : Fg) : Nd := ⟨5, [], [], [], f, 0, 0, 0⟩
abbrev shC (f : Fg) : Array Value := #[.int .u8 5, .string ⟨#[]⟩, .string ⟨#[]⟩, .slice none 0 0, .bool f.a, .bool f.b, .bool f.c, .bool f.d, .bool f.e, .int .i64 0, .int .i64 0, .int .i64 0, .int .i64 0, .int .i64 0, .int .i64 0, .int .i64 0, .int .i64 0, .int .i64 0, .int .i64 0, .int .i64 0, .int .i64 0, .int .i64 0]
theorem builtSh (f : Fg) : Try.prog.built 55 [(0, .int .u8 5), (4, .agg #[.bool f.a, .bool f.b, .bool f.c, .bool f.d, .bool f.e])] = some (shC f) := by kernel_rfl
theorem shC_nd (f : Fg) : ndV (shN f) lk0 lk0 none 0 = .agg (shC f) := rfl
abbrev fgV (f : Fg) : Value := .agg #[.bool f.a, .bool f.b, .bool f.c, .bool f.d, .bool f.e]
def Dm.addR (M : Dm) (host : Nat) (f : Fg) : Dm := ((M.add (shN f)).setN M.n { (M.add (shN f)).nd M.n with host := (host : Int) }).setN host { ((M.add (shN f)).setN M.n { (M.add (shN f)).nd M.n with host := (host : Int) }).nd host with shadow := (M.n : Int) }
inductive Roots (K : Nat -> Prop) (p : Nat) (M : Dm) (host : Nat) (f : Fg) (e : Ending) (w' : World) : Prop
 | host : (M.nd host).kind ≠ 1 -> e = .returned (.tuple #[.int .i64 0, .int .u16 100]) -> DX K w' p M -> Roots K p M host f e w'
 | twice : (M.nd host).kind = 1 -> (M.nd host).shadow ≠ -1 -> e = .returned (.tuple #[.int .i64 0, .int .u16 101]) -> DX K w' p M -> Roots K p M host f e w'
 | full : (M.nd host).kind = 1 -> (M.nd host).shadow = -1 -> M.limit < M.n + 1 -> e = .returned (.tuple #[.int .i64 0, .int .u16 3]) -> DX K w' p M -> Roots K p M host f e w'
 | made : (M.nd host).kind = 1 -> (M.nd host).shadow = -1 -> M.n + 1 <= M.limit -> e = .returned (.tuple #[.int .i64 (M.n : Int), .int .u16 0]) -> DX K w' p (M.addR host f) -> Roots K p M host f e w'
theorem root_in (K : Nat -> Prop) (p host : Nat) (M : Dm) (f : Fg) (w : World) (h : DX K w p M) (hi : host < M.n) (hn : M.n <= 100000) (hL : M.limit <= 100000) :
  Calls Try.prog 10 #[.pointer (some ⟨p, 0, none⟩), .int .i64 (host : Int), fgV f] w fun e w' => Kept K w w' /\ Roots K p M host f e w' := by
 obtain ⟨ga, cap, hY⟩ := h
 obtain ⟨g, rfl, gk, gp, gl⟩ := hY.at (by omega)
 obtain ⟨W, hW⟩ : ∃ W, w.alloc (.cells #[.bool f.a, .bool f.b, .bool f.c, .bool f.d, .bool f.e] 32) = W := ⟨_, rfl⟩
 obtain ⟨N, hN⟩ : ∃ N, w.heap.size = N := ⟨_, rfl⟩
 have kW : Kept (fun k => k < w.heap.size) w W := by rw [<- hW]; exact (Kept.refl _ w).alloc (fun _ h => h) _
 have hYW := hY.kept kW
 have hfb : W.heap[N]? = some (.cells #[.bool f.a, .bool f.b, .bool f.c, .bool f.d, .bool f.e] 32 (0, 0)) := by rw [<- hW, <- hN]; exact heap_alloc_new w _
 have b0 : W.cell? ⟨N, 0, none⟩ = some (.bool f.a) := by rw [cell_block hfb]; rfl
 have b1 : W.cell? ⟨N, 1, none⟩ = some (.bool f.b) := by rw [cell_block hfb]; rfl
 have b2 : W.cell? ⟨N, 2, none⟩ = some (.bool f.c) := by rw [cell_block hfb]; rfl
 have b3 : W.cell? ⟨N, 3, none⟩ = some (.bool f.d) := by rw [cell_block hfb]; rfl
 have b4 : W.cell? ⟨N, 4, none⟩ = some (.bool f.e) := by rw [cell_block hfb]; rfl
 clear hfb
 obtain ⟨aa, ac, hcell, -⟩ := hYW.cell hi
 have c0 : W.cell? ⟨g, host * 22, none⟩ = some (.int .u8 ((M.nd host).kind : Int)) := hcell 0 _ rfl
 have c9 : W.cell? ⟨g, host * 22 + 9, none⟩ = some (.int .i64 (M.nd host).shadow) := hcell 9 _ rfl
 have HW : Hid (w.alloc (.cells #[.bool f.a, .bool f.b, .bool f.c, .bool f.d, .bool f.e] 32) = W) := hW
 have HN : Hid (w.heap.size = N) := hN
 have HKW : Hid (Kept (fun k => k < w.heap.size) w W) := kW
 have HY : Hid (DY K W p M (some ⟨g, 0, none⟩) cap) := hYW
 have HKl : Hid (∀ k, K k -> k < w.heap.size) := hY.1
 have c1 := hYW.c1
 obtain ⟨kd, hkd⟩ : ∃ kd, (M.nd host).kind = kd := ⟨_, rfl⟩
 by_cases hk1 : kd = 1
 ·subst hk1
  rw [hkd] at c0
  have r := element_yes p g M.n cap host 100 W c1 hi (by omega) c0
  have HKD : Hid ((M.nd host).kind = 1) := hkd
  obtain ⟨s, hs⟩ : ∃ s, (M.nd host).shadow = s := ⟨_, rfl⟩
  have HSH : Hid ((M.nd host).shadow = s) := hs
  rw [hs] at c9
  by_cases hsn : s = -1
  ·subst hsn
   have rm := makeOne_any K p M (some ⟨g, 0, none⟩) cap W W hYW (Kept.refl _ _) (by omega) (by omega) (shN f) lk0 lk0 none 0 (OwnZ.nil _ _ _ _)
   rw [shC_nd] at rm
   have hbu := builtSh f
   clear hY hYW hW hN kW hcell c0 hkd hs c1
   go_enter Try.func10, Try.ntmps10
   go_upto_region 1 with fail
   rw [HW.out, HN.out]
   go_upto_region 6 with (go_at_call 25; refine r.mono ?_; rintro e w2 ⟨rfl, hw2⟩; replace hw2 := hw2.symm; subst hw2)
   go_wp2_with fail
   refine rm.mono ?_
   rintro e w3 ⟨hK3, hM3⟩
   rcases hM3 with ⟨hroom, rfl, hX3⟩ | ⟨hroom, rfl, hX3⟩
   ·obtain ⟨ga3, cap3, hY3⟩ := hX3
    obtain ⟨g3, rfl, -, -, -⟩ := hY3.at (Nat.succ_pos _)
    have hiA : M.n < (M.add (shN f)).n := Nat.lt_succ_self _
    obtain ⟨aa3, ac3, hc3, -⟩ := hY3.cell hiA
    obtain ⟨hY4, hK4⟩ := hY3.setNhost hiA (host : Int)
    have hiB : host < ((M.add (shN f)).setN M.n { (M.add (shN f)).nd M.n with host := (host : Int) }).n := Nat.lt_succ_of_lt hi
    obtain ⟨aa4, ac4, hc4, -⟩ := hY4.cell hiB
    obtain ⟨hY5, hK5⟩ := hY4.setNshadow hiB (M.n : Int)
    have d1 := hY3.c1
    have d2 : w3.cell? ⟨g3, M.n * 22 + 10, none⟩ = some (.int .i64 ((M.add (shN f)).nd M.n).host) := hc3 10 _ rfl
    have d3 : w3.frozen? ⟨g3, M.n * 22 + 10, none⟩ = false := hY3.fg _
    have d4 := hY4.c1
    have d5 : (w3.setCell ⟨g3, M.n * 22 + 10, none⟩ (.int .i64 (host : Int))).cell? ⟨g3, host * 22 + 9, none⟩ = some (.int .i64 (((M.add (shN f)).setN M.n { (M.add (shN f)).nd M.n with host := (host : Int) }).nd host).shadow) := hc4 9 _ rfl
    have d6 : (w3.setCell ⟨g3, M.n * 22 + 10, none⟩ (.int .i64 (host : Int))).frozen? ⟨g3, host * 22 + 9, none⟩ = false := hY4.fg _
    have HX5 : Hid (DX K ((w3.setCell ⟨g3, M.n * 22 + 10, none⟩ (.int .i64 (host : Int))).setCell ⟨g3, host * 22 + 9, none⟩ (.int .i64 (M.n : Int))) p (M.addR host f)) := ⟨_, _, hY5⟩
    have HK5 : Hid (Kept K w ((w3.setCell ⟨g3, M.n * 22 + 10, none⟩ (.int .i64 (host : Int))).setCell ⟨g3, host * 22 + 9, none⟩ (.int .i64 (M.n : Int)))) := (((HKW.out.mono HKl.out).trans hK3).trans hK4).trans hK5
    have HN5 : Hid ((M.add (shN f)).n = M.n + 1) := rfl
    rw [HN5.out] at d1
    have d4' : (w3.setCell ⟨g3, M.n * 22 + 10, none⟩ (.int .i64 (host : Int))).cell? ⟨p, 1, none⟩ = some (.slice (some ⟨g3, 0, none⟩) (M.n + 1) cap3) := d4
    obtain ⟨n, hnE⟩ : ∃ n, M.n = n := ⟨_, rfl⟩
    obtain ⟨V, hV⟩ : ∃ V, w3.setCell ⟨g3, M.n * 22 + 10, none⟩ (.int .i64 (host : Int)) = V := ⟨_, rfl⟩
    rw [hV] at HX5 HK5 d4' d5 d6
    have HV : Hid (w3.setCell ⟨g3, n * 22 + 10, none⟩ (.int .i64 (host : Int)) = V) := by rw [<- hnE]; exact hV
    have HROOM : Hid (n + 1 <= M.limit) := by rw [<- hnE]; exact hroom
    rw [hnE] at HX5 HK5 d1 d2 d3 d4' hi ⊢
    have HNE : Hid (M.n = n) := hnE
    have hn2 : n <= 100000 := by omega
    clear hY3 hc3 hY4 hK4 hc4 hY5 hK5 d4 hK3 rm hbu hV hroom hiA hiB hnE hn HN5 r b0 b1 b2 b3 b4 c9
    go_upto_region 10 with fail
    rw [HV.out]
    go_wp2
    go_ret2
    exact ⟨HK5.out, .made HKD.out HSH.out (by rw [HNE.out]; exact HROOM.out) (by rw [HNE.out]; rfl) HX5.out⟩
   ·have HX3 : Hid (DX K w3 p M) := hX3
    have HK3 : Hid (Kept K w w3) := (HKW.out.mono HKl.out).trans hK3
    have HROOM : Hid (¬ M.n + 1 <= M.limit) := hroom
    clear hX3 hK3 rm hbu hroom r
    go_wp2
    go_ret2
    exact ⟨HK3.out, .full HKD.out HSH.out (by have := HROOM.out; omega) rfl HX3.out⟩
  ·have e1 : (s == -1) = false := by simpa using hsn
   clear hY hYW hW hN kW hcell c0 hkd hs c1
   go_enter Try.func10, Try.ntmps10
   go_upto_region 1 with fail
   rw [HW.out, HN.out]
   go_wp2_with (go_at_call 25; refine r.mono ?_; rintro e w2 ⟨rfl, hw2⟩; replace hw2 := hw2.symm; subst hw2)
   go_ret2
   exact ⟨HKW.out.mono HKl.out, .twice HKD.out (by rw [HSH.out]; exact hsn) rfl ⟨_, _, HY.out⟩⟩
 ·rw [hkd] at c0
  have r := element_other p g M.n cap host kd 100 W c1 hi (by omega) hk1 c0
  have HKD : Hid ((M.nd host).kind = kd) := hkd
  clear hY hYW hW hN kW hcell c0 hkd c1 c9
  go_enter Try.func10, Try.ntmps10
  go_upto_region 1 with fail
  rw [HW.out, HN.out]
  go_wp2_with (go_at_call 25; refine r.mono ?_; rintro e w2 ⟨rfl, rfl⟩)
  go_ret2
  exact ⟨HKW.out.mono HKl.out, .host (by rw [HKD.out]; exact hk1) rfl ⟨_, _, HY.out⟩⟩
theorem addR_pl (M : Dm) (host : Nat) (f : Fg) : (M.addR host f).pl = updL M.pl M.n Lk.nil := rfl
theorem addR_old (M : Dm) (host : Nat) (f : Fg) {k : Nat} (hk : k ≠ M.n) (hh : k ≠ host) : (M.addR host f).nd k = M.nd k := by
 show (if k = host then _ else if k = M.n then _ else if k = M.n then _ else M.nd k) = M.nd k
 rw [if_neg hh, if_neg hk, if_neg hk]
theorem addR_host (M : Dm) (host : Nat) (f : Fg) (hh : host ≠ M.n) : (M.addR host f).nd host = { M.nd host with shadow := (M.n : Int) } := by
 show (if host = host then { (if host = M.n then _ else if host = M.n then _ else M.nd host : Nd) with shadow := (M.n : Int) } else _) = _
 rw [if_pos rfl, if_neg hh, if_neg hh]
theorem addR_new (M : Dm) (host : Nat) (f : Fg) (hh : host ≠ M.n) : (M.addR host f).nd M.n = { (shN f).new with host := (host : Int) } := by
 show (if M.n = host then _ else if M.n = M.n then { (if M.n = M.n then (shN f).new else M.nd M.n : Nd) with host := (host : Int) } else _) = _
 rw [if_neg (fun e => hh e.symm), if_pos rfl, if_pos rfl]
theorem Good.addR {M : Dm} {R : Nat -> List Nat} {rk : Nat -> Nat} (h : Good M R rk) (host : Nat) (f : Fg) (hh : host < M.n) : Good (M.addR host f) (updR R M.n []) (fun k => if k = M.n then rk host + 1 else rk k) := by
 refine ⟨h.wf.more _ (fun k hk => updL_ne _ _ (by omega)) (updL_same _ _ _), fun k hk => ?_, fun i hi => ?_⟩
 ·have hk' : k < M.n + 1 := hk
  by_cases c : k = M.n
  ·subst c
   refine .inr ⟨host, by show host < M.n + 1; omega, ?_, by rw [if_pos rfl, if_neg (by omega)]; omega⟩
   unfold parI
   rw [addR_pl, updL_same, addR_new _ _ _ (by omega)]
   rfl
  ·have hk2 : k < M.n := by omega
   have hp : parI (M.addR host f) k = parI M k := by
    unfold parI
    rw [addR_pl, updL_ne _ _ c]
    by_cases c2 : k = host
    ·subst c2; rw [addR_host _ _ _ c]
    ·rw [addR_old _ _ _ c c2]
   rcases h.acy k hk2 with h0 | ⟨m, h1, h2, h3⟩
   ·exact .inl (hp.trans h0)
   ·exact .inr ⟨m, by show m < M.n + 1; omega, hp.trans h2, by rw [if_neg c, if_neg (by omega)]; exact h3⟩
 ·have hi' : i < M.n + 1 := hi
  by_cases c : i = M.n
  ·subst c; rw [addR_new _ _ _ (by omega)]; exact Nat.zero_le _
  ·by_cases c2 : i = host
   ·subst c2; rw [addR_host _ _ _ c]; exact h.few i (by omega)
   ·rw [addR_old _ _ _ c c2]; exact h.few i (by omega)
end
end Go.Proofs.Ytojbjiopilkbgaa
