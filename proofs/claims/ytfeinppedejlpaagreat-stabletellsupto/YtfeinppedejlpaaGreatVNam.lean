/-
  The document's own order: Tree, Root, Before. A node of the document's own document, as it lies in memory. What the document's own Text and Value answer. The document's own serial: its nodes as they l
-/
import Derived.Test.YtfeinppedejlpaaGreatVO1
import Derived.BigQuiet
import Derived.Test.YtfeinppedejlpaaGreatVB03m
import Derived.Deep.LoopGhost
import Derived.Test.YtfeinppedejlpaaGreatVX2m
import Derived.Deep.MidRow
import Derived.Deep.DeepCutAuto
import Derived.Lib.QuietBelow
namespace Go.Proofs.YtfeinppedejlpaaGreat
section
set_option maxHeartbeats 8000000
set_option maxRecDepth 100000
open Go.RowKit Go.Sort
set_option linter.unusedVariables false
theorem zk6 (K : Nat -> Prop) (p : Nat) (M : Dm) (R G : Nat -> List Nat) (i : Int) (w : World) (h : RX K TT w p M R G) :
  Calls Tryz.prog 115 #[.pointer (some ⟨p, 0, none⟩), .int .i64 i] w fun e w' => e = .returned (.bool (decide (0 <= i) && decide (i < (M.n : Int)))) /\ w' = w := by
 obtain ⟨A, h⟩ := h
 have c1 := h.c1
 clear h
 by_cases h0 : 0 <= i
 ·have e0 : decide (i >= 0) = true := decide_eq_true h0
  rw [decide_eq_true h0]
  go_enter Tryz.func115, Tryz.ntmps115
  go_wp2
  go_ret
  exact ⟨by simp, rfl⟩
 ·have e0 : decide (i >= 0) = false := decide_eq_false h0
  rw [decide_eq_false h0]
  go_enter Tryz.func115, Tryz.ntmps115
  go_wp2
  go_ret
  exact ⟨by simp, rfl⟩
theorem ziw {X wr w2 : World} {ao : Option Addr} {n c : Nat} {Q T : List Nat} {e : Ending} (hX : X.heap.size <= wr.heap.size) (hO : Zac (fun k => k < X.heap.size) wr 3 1 ao n c (ivs Q)) (hL : Lst wr T e w2) (hn : n <= 100000000) (hm : T.length <= 100000000) :
  ∃ ao2 c2 ao' c' w', e = .returned (.slice ao2 T.length c2) /\ (Builtin.append_ #[33, 33] 33 #[.slice ao n c, .slice ao2 T.length c2]).run Tryz.prog w2 = .ok (.slice ao' (n + T.length) c') w' /\ Zac (fun k => k < X.heap.size) w' 3 1 ao' (n + T.length) c' (ivs (Q ++ T)) /\ Kept (fun k => k < X.heap.size) wr w' := by
 obtain ⟨ao2, c2, rfl, hT, hk⟩ := hL
 have hO2 : Zac (fun k => k < X.heap.size) w2 3 1 ao n c (ivs Q) := hO.to (fun q hq => (hO.out hq).1) (fun q hq => hk.block q (hO.out hq).2)
 obtain ⟨ao', c', w', h1, h2, h3⟩ := zgw (ac := c2) hO2 rfl (hT.intsAt (F := fun _ => True) fun _ _ => trivial) (fun k h => ltl h (Nat.le_trans hX hk.size)) hn hm
 exact ⟨ao2, c2, ao', c', w', rfl, h1, h2, (hk.mono fun k h => ltl h hX).trans h3⟩
structure Zqn (M : Dm) (R : Nat -> List Nat) (p g nc i : Nat) (ka : Option Addr) (kc N : Nat) (Y : World) : Prop where
 c1 : Y.cell? ⟨p, 1, none⟩ = some (.slice (some ⟨g, 0, none⟩) M.n nc)
 c0 : Y.cell? ⟨g, i * 14, none⟩ = some (.int .u8 ((M.nd i).kind : Int))
 c5 : Y.cell? ⟨g, i * 14 + 5, none⟩ = some (.slice ka (R i).length kc)
 c6 : Y.cell? ⟨g, i * 14 + 6, none⟩ = some (.int .i64 (M.nd i).shadow)
 c7 : Y.cell? ⟨g, i * 14 + 7, none⟩ = some (.int .i64 (M.nd i).host)
 kid : Zae (fun q => q < N) Y ka (R i)
theorem RX.nodeAt {K : Nat -> Prop} {w : World} {p : Nat} {M : Dm} {R G : Nat -> List Nat} (h : RX K TT w p M R G) {i : Nat} (hi : i < M.n) : ∃ g nc ka kc, ∀ Y, Kept (fun k => k < w.heap.size) w Y -> Zqn M R p g nc i ka kc w.heap.size Y := by
 obtain ⟨A, h⟩ := h
 obtain ⟨g, hg, -, -, -⟩ := h.nat (by omega)
 refine ⟨g, A.nc, A.ka i, A.kc i, fun Y hY => ?_⟩
 have h' := h.kept hY
 refine ⟨by rw [h'.c1, hg], h'.cell hg hi 0 _ rfl, h'.cell hg hi 5 _ rfl, h'.cell hg hi 6 _ rfl, h'.cell hg hi 7 _ rfl, ?_⟩
 exact (h.kid i hi).to (fun q hq => hq.1) (fun q hq => hY.block q hq.1)
theorem zhl {i : Nat} (f : Nat -> List Nat) (B l : List Nat) {j : Nat} (hj : j < l.length) : B ++ (l.take (j + 1)).flatMap f = (B ++ (l.take j).flatMap f) ++ f l[j] := by
 rw [List.take_succ_eq_append_getElem hj, List.flatMap_append, List.flatMap_singleton, List.append_assoc]
theorem zn2 (f : Nat -> List Nat) (B l : List Nat) (j : Nat) : (B ++ (l.take j).flatMap f).length <= (B ++ l.flatMap f).length := by
 have e : l.flatMap f = (l.take j).flatMap f ++ (l.drop j).flatMap f := by rw [<- List.flatMap_append, List.take_append_drop]
 rw [e, List.length_append, List.length_append, List.length_append]
 omega
end
section
open Go.RowKit Go.Sort
set_option linter.unusedVariables false
set_option maxRecDepth 100000
set_option maxHeartbeats 8000000
structure RAt (M : Dm) (R : Nat -> List Nat) (r g nc i : Nat) (aa : Option Addr) (ac : Nat) (ka : Option Addr) (kc N : Nat) (Y : World) : Prop where
 c1 : Y.cell? ⟨r, 1, none⟩ = some (.slice (some ⟨g, 0, none⟩) M.n nc)
 c : ∀ f u, (za1 M R i aa ac ka kc)[f]? = some u -> Y.cell? ⟨g, i * 14 + f, none⟩ = some u
 ats : Zag (fun q => q < N) Y aa (M.nd i).attrs
 kid : Zae (fun q => q < N) Y ka (R i)
theorem RX.at14 {K : Nat -> Prop} {w : World} {r : Nat} {M : Dm} {R G : Nat -> List Nat} (h : RX K TT w r M R G) : ∃ g nc, ∀ i, i < M.n -> ∃ aa ac ka kc, (M.nd i).attrs.length <= ac /\ ∀ Y, Kept (fun k => k < w.heap.size) w Y -> RAt M R r g nc i aa ac ka kc w.heap.size Y := by
 obtain ⟨A, h⟩ := h
 by_cases h0 : 0 < M.n
 ·obtain ⟨g, hg, -, -, -⟩ := h.nat h0
  refine ⟨g, A.nc, fun i hi => ⟨A.aa i, A.ac i, A.ka i, A.kc i, h.acl i hi, fun Y hY => ?_⟩⟩
  have h' := h.kept hY
  exact ⟨by rw [h'.c1, hg], fun f u hf => h'.cell hg hi f u hf, (h.ats i hi).to (fun q hq => hq.1) (fun q hq => hY.block q hq.1), (h.kid i hi).to (fun q hq => hq.1) (fun q hq => hY.block q hq.1)⟩
 ·exact ⟨0, 0, fun i hi => absurd hi (by omega)⟩
def RE (w0 : World) (r : Nat) (M : Dm) (R : Nat -> List Nat) (g nc : Nat) : Prop := ∀ i, i < M.n -> ∃ aa ac ka kc, ∀ Y, Kept (fun k => k < w0.heap.size) w0 Y -> RAt M R r g nc i aa ac ka kc w0.heap.size Y
end
section
open Go.RowKit
set_option linter.unusedVariables false
set_option maxRecDepth 100000
set_option maxHeartbeats 4000000
end
section
open Go.RowKit Go.Sort
set_option linter.unusedVariables false
set_option maxRecDepth 100000
set_option maxHeartbeats 8000000
end
section
open Go.RowKit
set_option linter.unusedVariables false
set_option maxRecDepth 100000
set_option maxHeartbeats 8000000
abbrev flC (f : Fg) : Array Value := #[.bool f.a, .bool f.b, .bool f.c, .bool f.d, .bool f.e]
end
section
open Go.RowKit Go.Sort
set_option linter.unusedVariables false
set_option maxRecDepth 100000
set_option maxHeartbeats 8000000
abbrev rnC (kz : Int) (NM DT : ByteArray) (aa : Option Addr) (an ac : Nat) (up : Int) (ka : Option Addr) (kn kc : Nat) (sh ho co : Int) (fl : Fg) : List Value :=
 [.int .u8 kz, .string NM, .string DT, .slice aa an ac, .int .i64 up, .slice ka kn kc, .int .i64 sh, .int .i64 ho, .int .i64 co, .bool fl.a, .bool fl.b, .bool fl.c, .bool fl.d, .bool fl.e]
theorem ztx (M : Dm) (R : Nat -> List Nat) (i : Nat) (aa : Option Addr) (ac : Nat) (ka : Option Addr) (kc : Nat) : za1 M R i aa ac ka kc = rnC ((M.nd i).kind : Int) ⟨(M.nd i).name.toArray⟩ ⟨(M.nd i).data.toArray⟩ aa (M.nd i).attrs.length ac (M.pl i).up ka (R i).length kc (M.nd i).shadow (M.nd i).host (M.nd i).content (M.nd i).fl := rfl
theorem RAt.range {M : Dm} {R : Nat -> List Nat} {r g nc i : Nat} {aa : Option Addr} {ac : Nat} {ka : Option Addr} {kc N : Nat} {Y : World} (h : RAt M R r g nc i aa ac ka kc N Y) : Y.rangeAt g (i * 14) (rnC ((M.nd i).kind : Int) ⟨(M.nd i).name.toArray⟩ ⟨(M.nd i).data.toArray⟩ aa (M.nd i).attrs.length ac (M.pl i).up ka (R i).length kc (M.nd i).shadow (M.nd i).host (M.nd i).content (M.nd i).fl) := fun j v hv => h.c j v (by rw [ztx]; exact hv)
theorem zbq : (Tryz.prog.info? 58).map (·.size) = some 14 := by kernel_rfl
end
end Go.Proofs.YtfeinppedejlpaaGreat
