/-
 WHAT Doc.Node ANSWERS.; Doc.Node of a document, and Doc.Copy.; What stays so (Good): rows, ways upwards, few attributes; behind Make and Insert.
-/
import Derived.Test.YtfeinppedejlpaaGreatNB10
import Derived.Test.YtfeinppedejlpaaGreatNB06
import Derived.Test.YtfeinppedejlpaaGreatNB11
import Derived.Laws.MakeOwn
import Derived.Laws.CopyRow
namespace Go.Proofs.YtfeinppedejlpaaGreat
set_option linter.unusedVariables false
set_option maxRecDepth 100000
set_option maxHeartbeats 8000000
section
open Go.RowKit
abbrev zcf (kd : Nat) (S D : ByteArray) (ao : Option Addr) (an c : Nat) (up : Int) (ko : Option Addr) (kn kc : Nat) (sh ho co : Int) (f : Fg) : Array Value := #[.int .u8 (kd : Int), .string S, .string D, .slice ao an c, .int .i64 up, .slice ko kn kc, .int .i64 sh, .int .i64 ho, .int .i64 co, .bool f.a, .bool f.b, .bool f.c, .bool f.d, .bool f.e]
theorem zou (kd : Nat) (S D : ByteArray) (ao : Option Addr) (an c : Nat) (up : Int) (ko : Option Addr) (kn kc : Nat) (sh ho co : Int) (f : Fg) : (zcf kd S D ao an c up ko kn kc sh ho co f).all (·.oneCell') = true := by kernel_rfl
theorem zps (kd : Nat) (S D : ByteArray) (ao : Option Addr) (an c : Nat) (up : Int) (ko : Option Addr) (kn kc : Nat) (sh ho co : Int) (f : Fg) : Tryz.prog.built 58 [(0, .int .u8 (kd : Int)), (1, .string S), (2, .string D), (3, .slice ao an c), (4, .int .i64 up), (5, .slice ko kn kc), (6, .int .i64 sh), (7, .int .i64 ho), (8, .int .i64 co), (9, .agg #[.bool f.a, .bool f.b, .bool f.c, .bool f.d, .bool f.e])] = some (zcf kd S D ao an c up ko kn kc sh ho co f) := by kernel_rfl
theorem zfz : (Tryz.prog.info? 58).map (·.size) = some 14 := by kernel_rfl
theorem enter112 (args : Array Value) (X : World) : (callFunc 112 args).run Tryz.prog X = .ok (.enter 112 args) X := za0 Tryz.func112 (by kernel_rfl) (c := _) rfl args X
theorem enter113 (args : Array Value) (X : World) : (callFunc 113 args).run Tryz.prog X = .ok (.enter 113 args) X := za0 Tryz.func113 (by kernel_rfl) (c := _) rfl args X
theorem zh7 {ops : Array Oper} {o : Oper} {a : Act} {w : World} {Kn : Act -> World -> Prop} {Q : Exit -> Act -> World -> Prop} {E : Prop} (hgd : o.guard = none) (x y : Operand) (ho : o.op = .store 58 x y)
  (g : Nat) (cells : Array Value) (hx : a.eval x = .pointer (some ⟨g, 0, none⟩)) (hy : a.eval y = .agg cells) (old : Array Value) (hg : w.heap[g]? = some (.cells old 58 (0, 0))) (hc : cells.size = 14) (hold : old.size = 14) (h1 : cells.all (·.oneCell') = true)
  (h : Kn (a.put o.dst undef) (w.setRow g cells)) : if Region.wanted o (yielded ops a.tmps) = true then Oper.wp Tryz.prog o a w Kn Q else E := by
 have hw : Region.wanted o (yielded ops a.tmps) = true := by simp [Region.wanted, hgd]
 rw [if_pos hw]
 exact wp_store_row 58 x y ho g cells hx hy 58 old hg (by rw [hc]; exact zfz) (by rw [hold, hc]) h1 h
theorem res41 (tmps : Array Value) (w : World) (g : Nat) (cs : Array Value) (h4 : tmps.getD 4 undef = .pointer (some ⟨g, 0, none⟩)) {u : Value} (h5 : tmps.getD 5 undef = u) (hg : w.heap[g]? = some (.cells cs 58)) (hc : cs.size = 14) :
  (results Tryz.f41 tmps).run Tryz.prog w = .ok (.tuple #[.agg cs, u]) w := by
 rw [results_cell_tmp (p := 4) (u := 5) (ty := 58) Tryz.results41, h4, h5]
 simp only [asAddr, Sem.run_pure, Result.andThen_ok, run_loadVar_row w g 58 58 cs _ _ hg Tryz.underlying58 rfl (by rw [hc]; exact zfz)]
structure NS (w : World) (N : Nat) (X : World) : Prop where
 kp : Kept (fun k => k < w.heap.size) w X
 bl : ∃ old, X.heap[N]? = some (.cells old 58 (0, 0)) /\ old.size = 14
theorem NS.next {w X Y : World} {N : Nat} (h : NS w N X) (hk : Kept (fun k => k < X.heap.size) X Y) : NS w N Y := by
 obtain ⟨old, h1, h2⟩ := h.bl
 exact ⟨h.kp.trans (hk.mono fun k hk' => ltl hk' h.kp.size), old, by rw [hk.block N (zad h1)]; exact h1, h2⟩
theorem NS.set {w X : World} (h : NS w w.heap.size X) (cs : Array Value) (hc : cs.size = 14) : NS w w.heap.size (X.setRow w.heap.size cs) := by
 obtain ⟨old, h1, h2⟩ := h.bl
 exact ⟨zaq h.kp (Nat.lt_irrefl _) cs, cs, setRow_heap _ _ _ _ _ _ h1, hc⟩
def Told (w : World) (x : Nd) (up : Int) (Q : List Nat) (e : Ending) (w' : World) : Prop :=
 ∃ ao c ko kc, e = .returned (.tuple #[.agg (zcf x.kind ⟨x.name.toArray⟩ ⟨x.data.toArray⟩ ao x.attrs.length c up ko Q.length kc x.shadow x.host x.content x.fl), .int .u16 0]) /\
  Zac (fun k => k < w.heap.size) w' 108 2 ao x.attrs.length c (zab x.attrs) /\ Zac (fun k => k < w.heap.size) w' 3 1 ko Q.length kc (ivs Q) /\ Kept (fun k => k < w.heap.size) w w'
section
variable {w X0 Y1 Y2 : World} {l : List Atr} {an : Nat} {Q : List Nat} {cs : Array Value}
theorem zpk {e z n c : Nat} {ao : Option Addr} {xs : List Value} {X Y Y' : World} (hO : Zac (fun k => k < X.heap.size) Y e z ao n c xs) (hX : w.heap.size <= X.heap.size) (hY : ∀ g, ¬ g < X.heap.size -> g < Y.heap.size -> Y'.heap[g]? = Y.heap[g]?) : Zac (fun k => k < w.heap.size) Y' e z ao n c xs :=
 Zac.to hO (fun g hg hh => (Zac.out hO hg).1 (ltl hh hX)) (fun g hg => hY g (Zac.out hO hg).1 (Zac.out hO hg).2)
theorem zrr (ao : Option Addr) (c : Nat) (ko : Option Addr) (kc : Nat) (h0 : NS w w.heap.size X0) (hKA : Kept (fun k => k < X0.heap.size) X0 Y1) (hO : Zac (fun k => k < X0.heap.size) Y1 108 2 ao an c (zab l)) (hKR : Kept (fun k => k < Y1.heap.size) Y1 Y2) (hQ : Zac (fun k => k < Y1.heap.size) Y2 3 1 ko Q.length kc (ivs Q))
  (hF : Kept (fun k => k < w.heap.size) w (Y2.setRow w.heap.size cs)) : Zac (fun k => k < w.heap.size) (Y2.setRow w.heap.size cs) 108 2 ao an c (zab l) /\ Zac (fun k => k < w.heap.size) (Y2.setRow w.heap.size cs) 3 1 ko Q.length kc (ivs Q) /\ Kept (fun k => k < w.heap.size) w (Y2.setRow w.heap.size cs) := by
 obtain ⟨old, hb, _⟩ := h0.bl
 have hN := zad hb
 have h1 := hKA.size
 refine ⟨zpk hO h0.kp.size fun g h1 h2 => ?_, zpk hQ (Nat.le_trans h0.kp.size hKA.size) fun g h1 h2 => ?_, hF⟩
 ·rw [setRow_other _ _ _ _ (by omega)]; exact hKR.block g h2
 ·rw [setRow_other _ _ _ _ (by omega)]
end
theorem zqu (p g n cap i : Nat) (w : World) (hp1 : w.cell? ⟨p, 1, none⟩ = some (.slice (some ⟨g, 0, none⟩) n cap)) (hpw : p < w.heap.size) (hgw : g < w.heap.size) (hi : i < n) (hn : n <= 1000000) (kd : Nat) (S D : ByteArray) (aa : Option Addr) (an ac : Nat) (up sh ho co : Int) (f : Fg) (l : List Atr) (Q : List Nat)
  (c0 : w.cell? ⟨g, i * 22, none⟩ = some (.int .u8 (kd : Int))) (c1 : w.cell? ⟨g, i * 22 + 1, none⟩ = some (.string S)) (c2 : w.cell? ⟨g, i * 22 + 2, none⟩ = some (.string D)) (c3 : w.cell? ⟨g, i * 22 + 3, none⟩ = some (.slice aa an ac))
  (c4 : w.cell? ⟨g, i * 22 + 4, none⟩ = some (.bool f.a)) (c5 : w.cell? ⟨g, i * 22 + 5, none⟩ = some (.bool f.b)) (c6 : w.cell? ⟨g, i * 22 + 6, none⟩ = some (.bool f.c)) (c7 : w.cell? ⟨g, i * 22 + 7, none⟩ = some (.bool f.d)) (c8 : w.cell? ⟨g, i * 22 + 8, none⟩ = some (.bool f.e))
  (c9 : w.cell? ⟨g, i * 22 + 9, none⟩ = some (.int .i64 sh)) (c10 : w.cell? ⟨g, i * 22 + 10, none⟩ = some (.int .i64 ho)) (c11 : w.cell? ⟨g, i * 22 + 11, none⟩ = some (.int .i64 co)) (c12 : w.cell? ⟨g, i * 22 + 12, none⟩ = some (.int .i64 up))
  (rc : ∀ X, Kept (fun k => k < w.heap.size) w X -> Calls Tryz.prog 111 #[.slice aa an ac] X fun e w' => ∃ ao c, e = .returned (.slice ao an c) /\ Zac (fun k => k < X.heap.size) w' 108 2 ao an c (zab l) /\ Kept (fun k => k < X.heap.size) X w')
  (rr : ∀ X, Kept (fun k => k < w.heap.size) w X -> Calls Tryz.prog 113 #[chP p, .int .i64 (i : Int)] X fun e w' => ∃ ao c, e = .returned (.slice ao Q.length c) /\ Zac (fun k => k < X.heap.size) w' 3 1 ao Q.length c (ivs Q) /\ Kept (fun k => k < X.heap.size) X w') :
  Calls Tryz.prog 41 #[.pointer (some ⟨p, 0, none⟩), .int .i64 (i : Int)] w fun e w' => ∃ ao c ko kc, e = .returned (.tuple #[.agg (zcf kd S D ao an c up ko Q.length kc sh ho co f), .int .u16 0]) /\
   Zac (fun k => k < w.heap.size) w' 108 2 ao an c (zab l) /\ Zac (fun k => k < w.heap.size) w' 3 1 ko Q.length kc (ivs Q) /\ Kept (fun k => k < w.heap.size) w w' := by
 obtain ⟨W, hW⟩ : ∃ W, w.alloc (.cells #[.int .u8 0, .string ⟨#[]⟩, .string ⟨#[]⟩, .slice none 0 0, .int .i64 0, .slice none 0 0, .int .i64 0, .int .i64 0, .int .i64 0, .bool false, .bool false, .bool false, .bool false, .bool false] 58) = W := ⟨_, rfl⟩
 obtain ⟨N, hN⟩ : ∃ N, w.heap.size = N := ⟨_, rfl⟩
 have kW : Kept (fun k => k < w.heap.size) w W := by rw [<- hW]; exact (Kept.refl _ w).alloc (fun _ h => h) _
 have hNS : NS w w.heap.size W := ⟨kW, _, by rw [<- hW]; exact heap_alloc_new w _, rfl⟩
 have r24 := zcs p g n cap i W ((kW.cell (p := ⟨p, 1, none⟩) hpw).trans hp1) hi (by omega)
 have RC : Hid (∀ X, NS w w.heap.size X -> Calls Tryz.prog 111 #[.slice aa an ac] X fun e w' => ∃ ao c, e = .returned (.slice ao an c) /\ Zac (fun k => k < X.heap.size) w' 108 2 ao an c (zab l) /\ Kept (fun k => k < X.heap.size) X w') := fun X hX => rc X hX.kp
 have RW : Hid (∀ X, NS w w.heap.size X -> Calls Tryz.prog 113 #[chP p, .int .i64 (i : Int)] X fun e w' => ∃ ao c, e = .returned (.slice ao Q.length c) /\ Zac (fun k => k < X.heap.size) w' 3 1 ao Q.length c (ivs Q) /\ Kept (fun k => k < X.heap.size) X w') := fun X hX => rr X hX.kp
 have HW : Hid (w.alloc (.cells #[.int .u8 0, .string ⟨#[]⟩, .string ⟨#[]⟩, .slice none 0 0, .int .i64 0, .slice none 0 0, .int .i64 0, .int .i64 0, .int .i64 0, .bool false, .bool false, .bool false, .bool false, .bool false] 58) = W) := hW
 have HN : Hid (w.heap.size = N) := hN
 clear hW hN kW rc rr
 go_enter Tryz.func41, Tryz.ntmps41
 go_upto_region 1 with fail
 rw [HW.out, HN.out]
 go_upto_region 4 with (go_at_call 110; refine r24.mono ?_; rintro e w2 ⟨rfl, hw2⟩; replace hw2 := hw2.symm; subst hw2)
 clear r24 HW
 have hN := HN.out
 subst hN
 clear HN
 obtain ⟨N, hN⟩ : ∃ N, w.heap.size = N := ⟨_, rfl⟩
 refine wp_region_held_drew (S := fun X => NS w w.heap.size X) (by kernel_rfl) ⟨hNS.kp.drew, hNS.bl⟩ (fun hHeld => ?_)
 clear hNS
 refine tkH 0 13 (.pointer (some ⟨g, i * 22, none⟩)) rfl rfl (by kernel_rfl) (by rfl) (by intro X hX; go_simp; try with_reducible rfl) (fun _ _ _ h => h) hHeld ?_
 try simp only [Act.put, sA, s0, s1]
 refine tkH 1 14 (.pointer (some ⟨g, i * 22, none⟩)) rfl rfl (by kernel_rfl) (by rfl) (by intro X hX; go_simp; try with_reducible rfl) (fun _ _ _ h => h) hHeld ?_
 try simp only [Act.put, sA, s0, s1]
 refine tkH 2 15 (.pointer (some ⟨g, i * 22, none⟩)) rfl rfl (by kernel_rfl) (by rfl) (by intro X hX; go_simp; try with_reducible rfl) (fun _ _ _ h => h) hHeld ?_
 try simp only [Act.put, sA, s0, s1]
 refine tkH 3 16 (.int .u8 (kd : Int)) rfl rfl (by kernel_rfl) (by rfl) (by intro X hX; have hc := (hX.kp.cell (p := ⟨g, i * 22, none⟩) hgw).trans c0; go_simp; try with_reducible rfl) (fun _ _ _ h => h) hHeld ?_
 try simp only [Act.put, sA, s0, s1]
 refine tkH 4 17 (.pointer (some ⟨g, i * 22, none⟩)) rfl rfl (by kernel_rfl) (by rfl) (by intro X hX; go_simp; try with_reducible rfl) (fun _ _ _ h => h) hHeld ?_
 try simp only [Act.put, sA, s0, s1]
 refine tkH 5 18 (.pointer (some ⟨g, i * 22, none⟩)) rfl rfl (by kernel_rfl) (by rfl) (by intro X hX; go_simp; try with_reducible rfl) (fun _ _ _ h => h) hHeld ?_
 try simp only [Act.put, sA, s0, s1]
 refine tkH 6 19 (.pointer (some ⟨g, i * 22 + 1, none⟩)) rfl rfl (by kernel_rfl) (by rfl) (by intro X hX; go_simp; try with_reducible rfl) (fun _ _ _ h => h) hHeld ?_
 try simp only [Act.put, sA, s0, s1]
 refine tkH 7 20 (.string S) rfl rfl (by kernel_rfl) (by rfl) (by intro X hX; have hc := (hX.kp.cell (p := ⟨g, i * 22 + 1, none⟩) hgw).trans c1; go_simp; try with_reducible rfl) (fun _ _ _ h => h) hHeld ?_
 try simp only [Act.put, sA, s0, s1]
 refine tkH 8 21 (.pointer (some ⟨g, i * 22, none⟩)) rfl rfl (by kernel_rfl) (by rfl) (by intro X hX; go_simp; try with_reducible rfl) (fun _ _ _ h => h) hHeld ?_
 try simp only [Act.put, sA, s0, s1]
 refine tkH 9 22 (.pointer (some ⟨g, i * 22, none⟩)) rfl rfl (by kernel_rfl) (by rfl) (by intro X hX; go_simp; try with_reducible rfl) (fun _ _ _ h => h) hHeld ?_
 try simp only [Act.put, sA, s0, s1]
 refine tkH 10 23 (.pointer (some ⟨g, i * 22 + 2, none⟩)) rfl rfl (by kernel_rfl) (by rfl) (by intro X hX; go_simp; try with_reducible rfl) (fun _ _ _ h => h) hHeld ?_
 try simp only [Act.put, sA, s0, s1]
 refine tkH 11 24 (.string D) rfl rfl (by kernel_rfl) (by rfl) (by intro X hX; have hc := (hX.kp.cell (p := ⟨g, i * 22 + 2, none⟩) hgw).trans c2; go_simp; try with_reducible rfl) (fun _ _ _ h => h) hHeld ?_
 try simp only [Act.put, sA, s0, s1]
 refine tkH 12 25 (.pointer (some ⟨g, i * 22, none⟩)) rfl rfl (by kernel_rfl) (by rfl) (by intro X hX; go_simp; try with_reducible rfl) (fun _ _ _ h => h) hHeld ?_
 try simp only [Act.put, sA, s0, s1]
 refine tkH 13 26 (.pointer (some ⟨g, i * 22, none⟩)) rfl rfl (by kernel_rfl) (by rfl) (by intro X hX; go_simp; try with_reducible rfl) (fun _ _ _ h => h) hHeld ?_
 try simp only [Act.put, sA, s0, s1]
 refine tkH 14 27 (.pointer (some ⟨g, i * 22 + 3, none⟩)) rfl rfl (by kernel_rfl) (by rfl) (by intro X hX; go_simp; try with_reducible rfl) (fun _ _ _ h => h) hHeld ?_
 try simp only [Act.put, sA, s0, s1]
 refine tkH 15 28 (.slice aa an ac) rfl rfl (by kernel_rfl) (by rfl) (by intro X hX; have hc := (hX.kp.cell (p := ⟨g, i * 22 + 3, none⟩) hgw).trans c3; go_simp; try with_reducible rfl) (fun _ _ _ h => h) hHeld ?_
 try simp only [Act.put, sA, s0, s1]
 refine tkH 17 30 (.pointer (some ⟨g, i * 22, none⟩)) rfl rfl (by kernel_rfl) (by rfl) (by intro X hX; go_simp; try with_reducible rfl) (fun _ _ _ h => h) hHeld ?_
 try simp only [Act.put, sA, s0, s1]
 refine tkH 18 31 (.pointer (some ⟨g, i * 22, none⟩)) rfl rfl (by kernel_rfl) (by rfl) (by intro X hX; go_simp; try with_reducible rfl) (fun _ _ _ h => h) hHeld ?_
 try simp only [Act.put, sA, s0, s1]
 refine tkH 19 32 (.pointer (some ⟨g, i * 22 + 12, none⟩)) rfl rfl (by kernel_rfl) (by rfl) (by intro X hX; go_simp; try with_reducible rfl) (fun _ _ _ h => h) hHeld ?_
 try simp only [Act.put, sA, s0, s1]
 refine tkH 20 33 (.pointer (some ⟨g, i * 22 + 12, none⟩)) rfl rfl (by kernel_rfl) (by rfl) (by intro X hX; go_simp; try with_reducible rfl) (fun _ _ _ h => h) hHeld ?_
 try simp only [Act.put, sA, s0, s1]
 refine tkH 21 34 (.int .i64 up) rfl rfl (by kernel_rfl) (by rfl) (by intro X hX; have hc := (hX.kp.cell (p := ⟨g, i * 22 + 12, none⟩) hgw).trans c12; go_simp; try with_reducible rfl) (fun _ _ _ h => h) hHeld ?_
 try simp only [Act.put, sA, s0, s1]
 refine tkH 22 35 (.pointer (some ⟨p, 0, none⟩)) rfl rfl (by kernel_rfl) (by rfl) (by intro X hX; go_simp; try with_reducible rfl) (fun _ _ _ h => h) hHeld ?_
 try simp only [Act.put, sA, s0, s1]
 refine tkH 24 37 (.int .i64 (i : Int)) rfl rfl (by kernel_rfl) (by rfl) (by intro X hX; go_simp; try with_reducible rfl) (fun _ _ _ h => h) hHeld ?_
 try simp only [Act.put, sA, s0, s1]
 refine tkH 26 39 (.pointer (some ⟨g, i * 22, none⟩)) rfl rfl (by kernel_rfl) (by rfl) (by intro X hX; go_simp; try with_reducible rfl) (fun _ _ _ h => h) hHeld ?_
 try simp only [Act.put, sA, s0, s1]
 refine tkH 27 40 (.pointer (some ⟨g, i * 22, none⟩)) rfl rfl (by kernel_rfl) (by rfl) (by intro X hX; go_simp; try with_reducible rfl) (fun _ _ _ h => h) hHeld ?_
 try simp only [Act.put, sA, s0, s1]
 refine tkH 28 41 (.pointer (some ⟨g, i * 22 + 9, none⟩)) rfl rfl (by kernel_rfl) (by rfl) (by intro X hX; go_simp; try with_reducible rfl) (fun _ _ _ h => h) hHeld ?_
 try simp only [Act.put, sA, s0, s1]
 refine tkH 29 42 (.int .i64 sh) rfl rfl (by kernel_rfl) (by rfl) (by intro X hX; have hc := (hX.kp.cell (p := ⟨g, i * 22 + 9, none⟩) hgw).trans c9; go_simp; try with_reducible rfl) (fun _ _ _ h => h) hHeld ?_
 try simp only [Act.put, sA, s0, s1]
 refine tkH 30 43 (.pointer (some ⟨g, i * 22, none⟩)) rfl rfl (by kernel_rfl) (by rfl) (by intro X hX; go_simp; try with_reducible rfl) (fun _ _ _ h => h) hHeld ?_
 try simp only [Act.put, sA, s0, s1]
 refine tkH 31 44 (.pointer (some ⟨g, i * 22, none⟩)) rfl rfl (by kernel_rfl) (by rfl) (by intro X hX; go_simp; try with_reducible rfl) (fun _ _ _ h => h) hHeld ?_
 try simp only [Act.put, sA, s0, s1]
 refine tkH 32 45 (.pointer (some ⟨g, i * 22 + 10, none⟩)) rfl rfl (by kernel_rfl) (by rfl) (by intro X hX; go_simp; try with_reducible rfl) (fun _ _ _ h => h) hHeld ?_
 try simp only [Act.put, sA, s0, s1]
 refine tkH 33 46 (.int .i64 ho) rfl rfl (by kernel_rfl) (by rfl) (by intro X hX; have hc := (hX.kp.cell (p := ⟨g, i * 22 + 10, none⟩) hgw).trans c10; go_simp; try with_reducible rfl) (fun _ _ _ h => h) hHeld ?_
 try simp only [Act.put, sA, s0, s1]
 refine tkH 34 47 (.pointer (some ⟨g, i * 22, none⟩)) rfl rfl (by kernel_rfl) (by rfl) (by intro X hX; go_simp; try with_reducible rfl) (fun _ _ _ h => h) hHeld ?_
 try simp only [Act.put, sA, s0, s1]
 refine tkH 35 48 (.pointer (some ⟨g, i * 22, none⟩)) rfl rfl (by kernel_rfl) (by rfl) (by intro X hX; go_simp; try with_reducible rfl) (fun _ _ _ h => h) hHeld ?_
 try simp only [Act.put, sA, s0, s1]
 refine tkH 36 49 (.pointer (some ⟨g, i * 22 + 11, none⟩)) rfl rfl (by kernel_rfl) (by rfl) (by intro X hX; go_simp; try with_reducible rfl) (fun _ _ _ h => h) hHeld ?_
 try simp only [Act.put, sA, s0, s1]
 refine tkH 37 50 (.int .i64 co) rfl rfl (by kernel_rfl) (by rfl) (by intro X hX; have hc := (hX.kp.cell (p := ⟨g, i * 22 + 11, none⟩) hgw).trans c11; go_simp; try with_reducible rfl) (fun _ _ _ h => h) hHeld ?_
 try simp only [Act.put, sA, s0, s1]
 refine tkH 38 51 (.pointer (some ⟨g, i * 22, none⟩)) rfl rfl (by kernel_rfl) (by rfl) (by intro X hX; go_simp; try with_reducible rfl) (fun _ _ _ h => h) hHeld ?_
 try simp only [Act.put, sA, s0, s1]
 refine tkH 39 52 (.pointer (some ⟨g, i * 22, none⟩)) rfl rfl (by kernel_rfl) (by rfl) (by intro X hX; go_simp; try with_reducible rfl) (fun _ _ _ h => h) hHeld ?_
 try simp only [Act.put, sA, s0, s1]
 refine tkH 40 53 (.pointer (some ⟨g, i * 22 + 4, none⟩)) rfl rfl (by kernel_rfl) (by rfl) (by intro X hX; go_simp; try with_reducible rfl) (fun _ _ _ h => h) hHeld ?_
 try simp only [Act.put, sA, s0, s1]
 refine tkH 41 54 (.agg #[.bool f.a, .bool f.b, .bool f.c, .bool f.d, .bool f.e]) rfl rfl (by kernel_rfl) (by rfl) (by intro X hX; have h4 := (hX.kp.cell (p := ⟨g, i * 22 + 4, none⟩) hgw).trans c4; have h5 := (hX.kp.cell (p := ⟨g, i * 22 + 5, none⟩) hgw).trans c5; have h6 := (hX.kp.cell (p := ⟨g, i * 22 + 6, none⟩) hgw).trans c6; have h7 := (hX.kp.cell (p := ⟨g, i * 22 + 7, none⟩) hgw).trans c7; have h8 := (hX.kp.cell (p := ⟨g, i * 22 + 8, none⟩) hgw).trans c8; go_simp; try with_reducible rfl) (fun _ _ _ h => h) hHeld ?_
 try simp only [Act.put, sA, s0, s1]
 refine wpAnyH_ready (rs := [16]) (by kernel_rfl) (by simp) ?_
 refine AllReadyH.cons (o := { dst := some 29, op := Op.call { callee := Callee.value (Operand.func 111), args := #[Operand.tmp 28], argTypes := #[44] }, type := 44, pos := "dom.go:68", after := #[{ on := 15, ground := Ground.data }], guard := none }) rfl (fun Kx hK => ?_) AllReadyH.nil
 have hX0 := hHeld
 refine zah rfl 111 #[.tmp 28] #[44] rfl #[.slice aa an ac] (by first | (simp [Act.eval]; done) | (simp [Act.eval, Act.put]; done)) (enter111 _ _) _ (RC.out _ hHeld) ?_
 rintro e Y1 ⟨ao, c, rfl, hO, hKA⟩
 refine ⟨_, rfl, hK.out _ _ (hHeld.next hKA) (fun hHeld2 => ?_)⟩
 clear hK Kx hHeld
 replace hHeld := hHeld2
 clear hHeld2
 try simp only [Act.put, sA, s0, s1]
 refine wpAnyH_ready (rs := [23]) (by kernel_rfl) (by simp) ?_
 refine AllReadyH.cons (o := { dst := some 36, op := Op.call { callee := Callee.value (Operand.func 112), args := #[Operand.tmp 35], argTypes := #[25] }, type := 138, pos := "dom.go:70", after := #[{ on := 22, ground := Ground.data }, { on := 16, ground := Ground.chain }], guard := none }) rfl (fun Kx hK => ?_) AllReadyH.nil
 refine zah rfl 112 #[.tmp 35] #[25] rfl #[.pointer (some ⟨p, 0, none⟩)] (by first | (simp [Act.eval]; done) | (simp [Act.eval, Act.put]; done)) (enter112 _ _) _ (zei _ _) ?_
 rintro e Yk ⟨rfl, rfl⟩
 refine ⟨_, rfl, hK.out _ _ hHeld (fun hHeld2 => ?_)⟩
 clear hK Kx hHeld
 replace hHeld := hHeld2
 clear hHeld2
 try simp only [Act.put, sA, s0, s1]
 refine wpAnyH_ready (rs := [25]) (by kernel_rfl) (by simp) ?_
 refine AllReadyH.cons (o := { dst := some 38, op := Op.call { callee := Callee.value (Operand.func 113), args := #[Operand.tmp 36, Operand.tmp 37], argTypes := #[138, 109] }, type := 33, pos := "dom.go:70", after := #[{ on := 23, ground := Ground.data }, { on := 24, ground := Ground.data }, { on := 23, ground := Ground.chain }], guard := none }) rfl (fun Kx hK => ?_) AllReadyH.nil
 refine zah rfl 113 #[.tmp 36, .tmp 37] #[138, 109] rfl #[chP p, .int .i64 (i : Int)] (by first | (simp [Act.eval]; done) | (simp [Act.eval, Act.put]; done)) (enter113 _ _) _ (RW.out _ hHeld) ?_
 rintro e Y2 ⟨ko, kc, rfl, hQ, hKR⟩
 refine ⟨_, rfl, hK.out _ _ (hHeld.next hKR) (fun hHeld2 => ?_)⟩
 clear hK Kx hHeld
 replace hHeld := hHeld2
 clear hHeld2
 try simp only [Act.put, sA, s0, s1]
 refine tkH 42 55 (.agg (zcf kd S D ao an c up ko Q.length kc sh ho co f)) rfl rfl (by kernel_rfl) (by rfl) (by intro X hX; refine zbw 58 _ rfl (zcf kd S D ao an c up ko Q.length kc sh ho co f) ?_; simp only [List.map_toArray, List.map_cons, List.map_nil, Act.eval]; exact zps _ _ _ _ _ _ _ _ _ _ _ _ _ _) (fun _ _ _ h => h) hHeld ?_
 try simp only [Act.put, sA, s0, s1]
 obtain ⟨old, hold, hos⟩ := hHeld.bl
 refine wpAnyH_ready (rs := [43]) (by kernel_rfl) (by simp) ?_
 refine AllReadyH.cons (o := { dst := none, op := Op.store 58 (Operand.tmp 4) (Operand.tmp 55), type := 0, pos := "dom.go:64", after := #[{ on := 42, ground := Ground.data }, { on := 25, ground := Ground.chain }, { on := 0, ground := Ground.phase }, { on := 1, ground := Ground.phase }, { on := 2, ground := Ground.phase }, { on := 3, ground := Ground.phase }, { on := 4, ground := Ground.phase }, { on := 5, ground := Ground.phase }, { on := 6, ground := Ground.phase }, { on := 7, ground := Ground.phase }, { on := 8, ground := Ground.phase }, { on := 9, ground := Ground.phase }, { on := 10, ground := Ground.phase }, { on := 11, ground := Ground.phase }, { on := 12, ground := Ground.phase }, { on := 13, ground := Ground.phase }, { on := 14, ground := Ground.phase }, { on := 15, ground := Ground.phase }, { on := 16, ground := Ground.phase }, { on := 17, ground := Ground.phase }, { on := 18, ground := Ground.phase }, { on := 19, ground := Ground.phase }, { on := 20, ground := Ground.phase }, { on := 21, ground := Ground.phase }, { on := 22, ground := Ground.phase }, { on := 23, ground := Ground.phase }, { on := 24, ground := Ground.phase }, { on := 25, ground := Ground.phase }, { on := 26, ground := Ground.phase }, { on := 27, ground := Ground.phase }, { on := 28, ground := Ground.phase }, { on := 29, ground := Ground.phase }, { on := 30, ground := Ground.phase }, { on := 31, ground := Ground.phase }, { on := 32, ground := Ground.phase }, { on := 33, ground := Ground.phase }, { on := 34, ground := Ground.phase }, { on := 35, ground := Ground.phase }, { on := 36, ground := Ground.phase }, { on := 37, ground := Ground.phase }, { on := 38, ground := Ground.phase }, { on := 39, ground := Ground.phase }, { on := 40, ground := Ground.phase }, { on := 41, ground := Ground.phase }, { on := 42, ground := Ground.phase }], guard := none }) rfl (fun Kx hK => ?_) AllReadyH.nil
 refine zh7 rfl (.tmp 4) (.tmp 55) rfl w.heap.size (zcf kd S D ao an c up ko Q.length kc sh ho co f) rfl rfl old hold rfl hos (zou _ _ _ _ _ _ _ _ _ _ _ _ _ _) ?_
 refine hK.out _ _ (hHeld.set _ rfl) (fun hHeld2 => ?_)
 have hpost := zrr ao c ko kc hX0 hKA hO hKR hQ (hHeld2.kp)
 have hend := setRow_heap _ w.heap.size _ (zcf kd S D ao an c up ko Q.length kc sh ho co f) _ _ hold
 clear hK Kx hHeld
 replace hHeld := hHeld2
 clear hHeld2
 try simp only [Act.put]
 refine tkH 44 5 (.int .u16 0) rfl rfl (by kernel_rfl) (by rfl) (by intro X hX; go_simp; try with_reducible rfl) (fun _ _ _ h => h) hHeld ?_
 try simp only [Act.put, sA, s0, s1]
 refine wpAnyH_done (by kernel_rfl) ?_ _
 try simp only [Act.put]
 go_wp2
 refine bodyPost_ret (v := .tuple #[.agg (zcf kd S D ao an c up ko Q.length kc sh ho co f), .int .u16 0]) (res41 _ _ w.heap.size _ rfl rfl hend rfl) rfl ?_
 exact ⟨ao, c, ko, kc, rfl, hpost⟩
end
section
open Go.RowKit
def Few (S : Dm) : Prop := ∀ i, i < S.n -> (S.nd i).attrs.length <= 1000
theorem zb2 (K : Nat -> Prop) (p i : Nat) (S : Dm) (R : Nat -> List Nat) (w : World) (h : DX K w p S) (hW : WF S.n S.pl R) (hi : i < S.n) (hn : S.n <= 1000000) (hf : Few S) :
  Calls Tryz.prog 41 #[.pointer (some ⟨p, 0, none⟩), .int .i64 (i : Int)] w fun e w' => Told w (S.nd i) (S.pl i).up (R i) e w' := by
 obtain ⟨ga, cap, hY⟩ := h
 obtain ⟨g, rfl, -, -, hgl⟩ := hY.at (by omega)
 obtain ⟨aa, ac, hc, hO⟩ := hY.cell hi
 exact zqu p g S.n cap i w hY.c1 hY.plt hgl hi hn (S.nd i).kind ⟨(S.nd i).name.toArray⟩ ⟨(S.nd i).data.toArray⟩ aa _ ac _ _ _ _ (S.nd i).fl (S.nd i).attrs (R i) (hc 0 _ rfl) (hc 1 _ rfl) (hc 2 _ rfl) (hc 3 _ rfl) (hc 4 _ rfl) (hc 5 _ rfl) (hc 6 _ rfl) (hc 7 _ rfl) (hc 8 _ rfl) (hc 9 _ rfl) (hc 10 _ rfl) (hc 11 _ rfl) (hc 12 _ rfl)
  (fun X hX => zft (S.nd i).attrs aa _ ac rfl (by have := hf i hi; omega) X ((hO.atsAt (K' := fun k => k < w.heap.size) fun g hg => (Zac.out hO hg).2).kept hX fun k h => ltl h hX.size))
  (fun X hX => zso K p g cap i S R X (hY.kept hX) hW hi (by omega))
end
section
open Go.RowKit
structure Good (M : Dm) (R : Nat -> List Nat) (rk : Nat -> Nat) : Prop where
 wf : WF M.n M.pl R
 acy : Acy M rk
 few : Few M
theorem Good.new (limit : Nat) : Good (Dm.new limit) (fun _ => []) (fun _ => 0) := by
 have hpl : ∀ k, ((Dm.new limit).pl k) = Lk.nil := fun k => by
  show zaw (fun _ => Lk.nil) 0 Lk.nil k = Lk.nil
  unfold zaw
  split <;> rfl
 refine ⟨⟨fun u hu => by rw [hpl]; rfl, fun u hu => by rw [hpl]; rfl, fun u hu => trivial, fun u hu => List.nodup_nil, fun u hu i hi => (by cases hi), fun i hi => .inl (by rw [hpl]; rfl)⟩, fun k hk => .inl ?_, fun i hi => ?_⟩
 ·have hk0 : k = 0 := by have : k < 0 + 1 := hk; omega
  subst hk0
  unfold zbl
  rw [hpl]
  rfl
 ·have hk0 : i = 0 := by have : i < 0 + 1 := hi; omega
  subst hk0
  show (0 : Nat) <= 1000
  omega
theorem znk {M : Dm} {x : Nd} {k : Nat} (hk : k < M.n) : zbl (M.add x) k = zbl M k := by
 have c : ¬ k = M.n := by omega
 unfold zbl
 simp only [Dm.add, zaw, if_neg c]
theorem zin {M : Dm} {x : Nd} : zbl (M.add x) M.n = -1 := by
 unfold zbl
 simp [Dm.add, zaw, Lk.nil, Nd.new]
theorem Good.add {M : Dm} {R : Nat -> List Nat} {rk : Nat -> Nat} (h : Good M R rk) (x : Nd) (hx : x.attrs.length <= 1000) : Good (M.add x) (zax R M.n []) rk := by
 refine ⟨h.wf.more _ (fun k hk => zbj _ _ (by omega)) (zau _ _ _), fun k hk => ?_, fun i hi => ?_⟩
 ·have : k < M.n + 1 := hk
  by_cases c : k = M.n
  ·subst c; exact .inl zin
  ·have hk' : k < M.n := by omega
   rw [znk hk']
   rcases h.acy k hk' with h0 | ⟨m, h1, h2, h3⟩
   ·exact .inl h0
   ·exact .inr ⟨m, by show m < M.n + 1; omega, h2, h3⟩
 ·have : i < M.n + 1 := hi
  by_cases c : i = M.n
  ·subst c
   show (if M.n = M.n then x.new else M.nd M.n).attrs.length <= 1000
   rw [if_pos rfl]; exact hx
  ·show (if i = M.n then x.new else M.nd i).attrs.length <= 1000
   rw [if_neg c]; exact h.few i (by omega)
open Classical in
theorem Acy.move {M M' : Dm} {rk : Nat -> Nat} {i up : Nat} (h : Acy M rk) (hn : M'.n = M.n) (hu : up < M.n) (hw : ¬ Wi M i up) (hp : ∀ k, k < M.n -> zbl M' k = zbl M k \/ (Wi M i k /\ zbl M' k = (up : Int))) :
  Acy M' (fun k => if Wi M i k then rk k + rk up + 1 else rk k) := by
 have mono : ∀ j k, k < M.n -> Wi M j k -> rk j <= rk k := by
  intro j k hk hwi
  induction hwi with
  | here => exact Nat.le_refl _
  | @up k m e _ ih =>
   rcases h k hk with h0 | ⟨q, h1, h2, h3⟩
   ·omega
   ·have : m = q := by omega
    subst this
    have := ih h1
    omega
 intro k hk
 rw [hn] at hk
 dsimp only
 rcases hp k hk with e | ⟨hwk, e⟩
 ·rw [e]
  rcases h k hk with h0 | ⟨m, h1, h2, h3⟩
  ·exact .inl h0
  ·refine .inr ⟨m, by rw [hn]; exact h1, h2, ?_⟩
   by_cases ck : Wi M i k
   ·rw [if_pos ck]
    by_cases cm : Wi M i m
    ·rw [if_pos cm]; omega
    ·rw [if_neg cm]; omega
   ·rw [if_neg ck, if_neg (fun cm => ck (.up h2 cm))]
    exact h3
 ·refine .inr ⟨up, by rw [hn]; exact hu, e, ?_⟩
  rw [if_pos hwk, if_neg hw]
  omega
theorem zfm {M : Dm} {L : Nat -> Lk} {k : Nat} (h : (L k).up = (M.pl k).up) : zbl (M.setP L) k = zbl M k := by
 unfold zbl
 simp only [Dm.setP, h]
theorem zjs {M : Dm} {L : Nat -> Lk} {k up : Nat} (h : (L k).up = (up : Int)) : zbl (M.setP L) k = (up : Int) := by
 unfold zbl
 simp only [Dm.setP, h]
 rw [if_neg (by omega)]
theorem zg2 (up : Nat) (bef : Int) : ∀ (l : List Nat) (L : Nat -> Lk) (k : Nat), (k ∉ l -> (zb9 L up bef l k).up = (L k).up) /\ (k ∈ l -> (zb9 L up bef l k).up = (up : Int))
 | [], L, k => ⟨fun _ => rfl, fun h => by cases h⟩
 | x :: r, L, k => by
  obtain ⟨h1, h2⟩ := zg2 up bef r (zdn L up x bef) k
  refine ⟨fun h => ?_, fun h => ?_⟩
  ·have hx : k ≠ x := fun e => h (e ▸ List.mem_cons_self ..)
   exact (h1 fun hm => h (List.mem_cons_of_mem _ hm)).trans (zd5 hx)
  ·by_cases hm : k ∈ r
   ·exact h2 hm
   ·rcases List.mem_cons.1 h with rfl | h
    ·exact (h1 hm).trans zb6
    ·exact absurd h hm
theorem Good.ins {M : Dm} {R : Nat -> List Nat} {rk : Nat -> Nat} (h : Good M R rk) {up i : Nat} {bef : Int} (hu : up < M.n) (hi : i < M.n) (hF : Fits M up i bef) : ∃ rk', Good (M.setP (zd8 M R up i bef)) (zdl M R up i bef) rk' := by
 have hP := Zcv.of h.wf h.acy hu hi hF.2.2.1 hF.2.2.2
 refine ⟨_, hP.out, Acy.move (M := M) (i := i) h.acy rfl hu hF.2.2.1 (fun k hk => ?_), h.few⟩
 unfold zd8
 by_cases c : (M.nd i).kind = 4
 ·rw [if_pos c]
  obtain ⟨h1, h2⟩ := zg2 up bef (R i) M.pl k
  by_cases hm : k ∈ R i
  ·refine .inr ⟨.up ?_ .here, zjs (h2 hm)⟩
   have hup := h.wf.up hi hm
   unfold zbl
   rw [if_neg (by omega)]
   exact hup
  ·exact .inl (zfm (h1 hm))
 ·rw [if_neg c]
  by_cases hk' : k = i
  ·subst hk'
   exact .inr ⟨.here, zjs zb6⟩
  ·exact .inl (zfm (zd5 hk'))
end
end Go.Proofs.YtfeinppedejlpaaGreat
