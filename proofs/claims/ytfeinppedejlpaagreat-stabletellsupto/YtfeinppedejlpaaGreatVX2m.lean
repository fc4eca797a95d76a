/-
  Nodes as a text, as plain functions on lists of bytes. Parts that are put on a page, one behind the other. Small steps on a page: the end of an element, texts, the beginning of an element; what is voi
-/
import Derived.Test.YtfeinppedejlpaaGreatVB03m
import Derived.Test.YtfeinppedejlpaaGreatVB12
import Derived.Test.YtfeinppedejlpaaGreatVB06
import Derived.Deep.LoopGhost
import Derived.Deep.RegionHeld3
import Derived.Test.YtfeinppedejlpaaGreatVB16
import Derived.Deep.DeepCutAuto
import Derived.Test.YtfeinppedejlpaaGreatVW22
import Derived.Test.YtfeinppedejlpaaGreatVB10
import Derived.Test.YtfeinppedejlpaaGreatVW32m
import Derived.Test.YtfeinppedejlpaaGreatVW29m
import Derived.Test.YtfeinppedejlpaaGreatVW26
import Derived.Test.YtfeinppedejlpaaGreatVW17
import Derived.Deep.MidRow
import Derived.Test.YtfeinppedejlpaaGreatVW25
namespace Go.Proofs.YtfeinppedejlpaaGreat
section
section
set_option linter.unusedVariables false
end
section
open Go.RowKit
set_option linter.unusedVariables false
set_option maxRecDepth 20000
set_option maxHeartbeats 2000000
end
section
open Go.RowKit
set_option linter.unusedVariables false
set_option maxRecDepth 100000
set_option maxHeartbeats 4000000
theorem zal (X : World) (cs : Array Value) (t : TypeId) : ∃ V N, X.alloc (.cells cs t) = V /\ X.heap.size = N /\ V.heap[N]? = some (.cells cs t (0, 0)) /\ Kept (fun k => k < X.heap.size) X V /\ V.heap.size = X.heap.size + 1 :=
 ⟨_, _, rfl, rfl, heap_alloc_new X _, (Kept.refl _ X).alloc (fun _ h => h) _, by simp⟩
end
section
open Go.RowKit
set_option linter.unusedVariables false
set_option maxRecDepth 100000
set_option maxHeartbeats 4000000
abbrev nW (x : Nd) (ao : Option Addr) (ac : Nat) (up : Int) (ko : Option Addr) (kn kc : Nat) : Array Value := zmf x.kind ⟨x.name.toArray⟩ ⟨x.data.toArray⟩ ao x.attrs.length ac up ko kn kc x.shadow x.host x.content x.fl
theorem lis (l : List UInt8) : (⟨l.toArray⟩ : ByteArray).toList = l := by rw [ByteArray.toList_eq]
end
section
open Go.RowKit
set_option linter.unusedVariables false
set_option maxRecDepth 100000
set_option maxHeartbeats 4000000
end
section
open Go.RowKit
set_option linter.unusedVariables false
set_option maxRecDepth 100000
set_option maxHeartbeats 4000000
end
end
section
section
open Go.RowKit
set_option linter.unusedVariables false
set_option maxRecDepth 100000
set_option maxHeartbeats 4000000
end
section
open Go.RowKit
set_option linter.unusedVariables false
set_option maxRecDepth 100000
set_option maxHeartbeats 4000000
theorem znq (cs : Array Value) (h : cs.size = 14) : (Tryz.prog.info? 58).map (·.size) = some cs.size := by rw [h]; kernel_rfl
end
section
open Go.RowKit
set_option linter.unusedVariables false
set_option maxRecDepth 100000
set_option maxHeartbeats 4000000
end
section
open Go.RowKit
set_option linter.unusedVariables false
set_option maxRecDepth 100000
set_option maxHeartbeats 4000000
end
section
open Go.RowKit
set_option linter.unusedVariables false
set_option maxRecDepth 100000
set_option maxHeartbeats 4000000
end
end
section
section
open Go.RowKit
set_option linter.unusedVariables false
def fwc (M : Dm) (R : Nat -> List Nat) (i : Nat) : List Nat := (if (M.nd i).shadow = -1 then [] else [(M.nd i).shadow.toNat]) ++ ((if (M.nd i).content = -1 then [] else [(M.nd i).content.toNat]) ++ R i)
section
variable {M : Dm} {R G : Nat -> List Nat} {rk : Nat -> Nat}
theorem Inv.content {M : Dm} {R G : Nat -> List Nat} {rk : Nat -> Nat} (h : Inv M R G rk) {i : Nat} (hi : i < M.n) (hc : (M.nd i).content ≠ -1) : ∃ k : Nat, k < M.n /\ (M.nd i).content = (k : Int) /\ (M.nd k).kind = 4 /\ (M.nd k).host = (i : Int) /\ (M.pl k).up = -1 /\ rk i < rk k /\ (M.nd k).shadow = -1 /\ (M.nd k).content = -1 := by
 rcases h.core.cont i hi with e | ⟨k, hk, e, -, h4, hh⟩
 ·exact absurd e hc
 ·have hup : (M.pl k).up = -1 := by
   rcases h.core.host k hk with ⟨h1, -⟩ | ⟨q, -, -, h2, -⟩
   ·omega
   ·exact h2
  refine ⟨k, hk, e, h4, hh, hup, ?_, ?_, ?_⟩
  ·have hp : zbi M k = (i : Int) := by unfold zbi; rw [if_pos hup]; exact hh
   rcases h.good.acy k hk with e' | ⟨m, -, e', hr⟩
   ·omega
   ·have : m = i := by omega
    exact this ▸ hr
  ·rcases h.core.shad k hk with e' | ⟨q, -, -, h1, -⟩
   ·exact e'
   ·omega
  ·rcases h.core.cont k hk with e' | ⟨q, -, -, h1, -⟩
   ·exact e'
   ·omega
theorem zr2 {i k : Nat} (h : k ∈ fwc M R i) : ((M.nd i).shadow ≠ -1 /\ k = (M.nd i).shadow.toNat) \/ ((M.nd i).content ≠ -1 /\ k = (M.nd i).content.toNat) \/ k ∈ R i := by
 unfold fwc at h
 rcases List.mem_append.1 h with h | h
 ·by_cases c : (M.nd i).shadow = -1
  ·rw [if_pos c] at h; cases h
  ·rw [if_neg c] at h; exact .inl ⟨c, List.mem_singleton.1 h⟩
 ·rcases List.mem_append.1 h with h | h
  ·by_cases c : (M.nd i).content = -1
   ·rw [if_pos c] at h; cases h
   ·rw [if_neg c] at h; exact .inr (.inl ⟨c, List.mem_singleton.1 h⟩)
  ·exact .inr (.inr h)
theorem Inv.shadowQ (h : Inv M R G rk) {i : Nat} (hi : i < M.n) (hs : (M.nd i).shadow ≠ -1) : ∃ q : Nat, (M.nd i).shadow = (q : Int) /\ q < M.n /\ (M.nd q).kind = 5 /\ (M.nd q).host = (i : Int) /\ (M.pl q).up = -1 /\ rk i < rk q := by
 rcases h.core.shad i hi with e | ⟨q, hq, e, -⟩
 ·exact absurd e hs
 ·have := h.shadow hi e
  exact ⟨q, e, hq, this.2.1, this.2.2.1, this.2.2.2.1, this.2.2.2.2.1⟩
theorem Inv.parC (h : Inv M R G rk) {i k : Nat} (hi : i < M.n) (hk : k ∈ fwc M R i) : k < M.n /\ rk i < rk k /\ zbi M k = (i : Int) := by
 rcases zr2 hk with ⟨c, rfl⟩ | ⟨c, rfl⟩ | hk
 ·obtain ⟨q, e, hq, -, hh, hu, hr⟩ := h.shadowQ hi c
  rw [e, Int.toNat_natCast]
  exact ⟨hq, hr, by unfold zbi; rw [if_pos hu]; exact hh⟩
 ·obtain ⟨q, hq, e, -, hh, hu, hr, -⟩ := h.content hi c
  rw [e, Int.toNat_natCast]
  exact ⟨hq, hr, by unfold zbi; rw [if_pos hu]; exact hh⟩
 ·obtain ⟨h1, h2, h3⟩ := h.good.kid hi hk
  exact ⟨h1, h3, by unfold zbi; rw [if_neg (by omega)]; exact h2⟩
end
end
section
open Go.RowKit
set_option linter.unusedVariables false
set_option maxRecDepth 100000
set_option maxHeartbeats 4000000
end
section
open Go.RowKit
set_option linter.unusedVariables false
set_option maxRecDepth 100000
set_option maxHeartbeats 4000000
theorem zgq {o : Oper} {a : Act} {X : World} {x : Operand} {N : Nat} {cs : Array Value} (ho : o.op = .load 58 x) (hx : a.eval x = .pointer (some ⟨N, 0, none⟩)) (hb : X.heap[N]? = some (.cells cs 58 (0, 0))) (hc : cs.size = 14) :
  (execOp a.eval o).run Tryz.prog X = .ok (.value (.agg cs)) X := by
 unfold execOp
 simp only [ho, hx, Instr.loadAt, Instr.sureAddr, Sem.run_bind, Sem.run_pure, Result.andThen_ok, run_loadVar_row X N 58 58 cs (0, 0) _ hb Tryz.underlying58 rfl (znq cs hc)]
end
section
open Go.RowKit
set_option linter.unusedVariables false
end
end
section
section
open Go.RowKit
set_option linter.unusedVariables false
set_option maxRecDepth 100000
set_option maxHeartbeats 8000000
structure Kn (K : Nat -> Prop) (w : World) (p : Nat) (M : Dm) (R G : Nat -> List Nat) : Prop where
 d : DX K w p M
 inv : ∃ rk, Inv M R G rk
 lim : M.limit <= 100000
 le : M.n <= M.limit
section
variable {K : Nat -> Prop} {w w' : World} {p : Nat} {M : Dm} {R G : Nat -> List Nat}
theorem Kn.kept (h : Kn K w p M R G) (hk : Kept (fun k => k < w.heap.size) w w') : Kn K w' p M R G := ⟨h.d.kept hk, h.inv, h.lim, h.le⟩
theorem Kn.new {w0 : World} {limit : Nat} (hX : DX K w p (Dm.new limit)) (h1 : 1 <= limit) (h2 : limit <= 100000) : Kn K w p (Dm.new limit) (fun _ => []) (fun _ => []) := ⟨hX, ⟨_, Inv.new limit⟩, h2, h1⟩
theorem Kn.ins (h : Kn K w p M R G) {up i : Nat} (bef : Int) (hu : up < M.n) (hi : i < M.n) (hb : bef = -1 \/ ∃ m : Nat, m < M.n /\ bef = (m : Int)) (hF : Fits M up i bef) :
  Calls Tryz.prog 70 #[.pointer (some ⟨p, 0, none⟩), .int .i64 (up : Int), .int .i64 (i : Int), .int .i64 bef] w fun e w' => e = .returned (.int .u16 0) /\ Kn K w' p (M.setP (zew M R up i bef)) (zea M R up i bef) G /\ Kept K w w' := by
 obtain ⟨rk, hI⟩ := h.inv
 refine (zfm K p up i bef M R rk w h.d hI.good.wf hI.good.acy hu hi hb (by have := h.le; have := h.lim; omega)).mono ?_
 rintro e w' ⟨hK, ⟨_, hn, _⟩ | ⟨e, _, hX⟩⟩
 ·exact absurd hF hn
 ·exact ⟨e, ⟨hX, hI.ins hu hi hF, h.lim, h.le⟩, hK⟩
end
end
section
open Go.RowKit
set_option linter.unusedVariables false
set_option maxRecDepth 100000
set_option maxHeartbeats 4000000
theorem zrw {M : Dm} {rk : Nat -> Nat} (ha : Acy M rk) {i k : Nat} (hp : ∀ k, k < M.n -> zbi M k ≠ (i : Int)) (hw : Wi M i k) : k < M.n -> k = i := by
 induction hw with
 | here => intro _; rfl
 | @up k m e _ ih =>
  intro hk
  rcases ha k hk with e' | ⟨m', hm', e', _⟩
  ·omega
  ·have : m' = m := by omega
   subst this
   have := ih hm'
   subst this
   exact absurd e (hp k hk)
structure Dl (L : Nat) (M : Dm) (R G : Nat -> List Nat) (xs : List Nd) (Q : Nat -> List Nat) : Prop where
 lim : M.limit = L
 n : M.n = xs.length
 nd : ∀ k (h : k < xs.length), M.nd k = xs[k]
 r : R = Q
 g : G = fun _ => []
def Dq (L : Nat) (K : Nat -> Prop) (w : World) (p : Nat) (xs : List Nd) (Q : Nat -> List Nat) : Prop := ∃ M R G, Kn K w p M R G /\ Dl L M R G xs Q
section
variable {L : Nat} {K : Nat -> Prop} {w w' : World} {p : Nat} {xs : List Nd} {Q : Nat -> List Nat} {M : Dm} {R G : Nat -> List Nat} {rk : Nat -> Nat}
theorem Dq.kept (h : Dq L K w p xs Q) (hk : Kept (fun k => k < w.heap.size) w w')  : Dq L K w' p xs Q := by
 obtain ⟨M, R, G, a, b⟩ := h
 exact ⟨M, R, G, a.kept hk, b⟩
theorem Dq.start (hL1 : 1 <= L) (hL2 : L <= 100000) (hX : DX K w p (Dm.new L))  : Dq L K w p [za4.new] (fun _ => []) :=
 ⟨_, _, _, Kn.new (w0 := w) hX hL1 hL2, rfl, rfl, fun k h => by
  have : k = 0 := by simp at h; omega
  subst this; rfl, rfl, rfl⟩
theorem Dq.makeA (h : Dq L K w p xs Q) (kd : Nat) (S D : ByteArray) (l : List Atr) (aa : Option Addr) (n ac : Nat) (r : Rest) (nm dt : List UInt8) (hS : S.toList = nm) (hD : D.toList = dt) (hln : l.length = n) (hn : n <= 1000) (ha : Zag (fun k => k < w.heap.size) w aa l) (hsz : ∀ x ∈ l, x.name.length <= 1000000000 /\ x.value.length <= 1000000000) (hs : zaw ⟨kd, nm, dt, l⟩ = true) (ht : ¬ (kd = 1 /\ nm = [116, 101, 109, 112, 108, 97, 116, 101])) (hq : Q xs.length = []) (hr : xs.length + 1 <= L) (h6 : kd = 6 -> nm.length < 1000000) (ho : Okd (Mk.nd ⟨kd, nm, dt, l⟩)) :
  Calls Tryz.prog 68 #[.pointer (some ⟨p, 0, none⟩), zle kd S D aa n ac r] w fun e w' => e = .returned (.tuple #[.int .i64 (xs.length : Int), .int .u16 0]) /\ Dq L K w' p (xs ++ [(Mk.nd ⟨kd, nm, dt, l⟩).new]) Q /\ Kept K w w' := by
 obtain ⟨M, R, G, hK, hd⟩ := h
 obtain ⟨rk, hI⟩ := hK.inv
 refine (zj6 K p kd S D l aa n ac r w M hK.d (Nat.le_trans hK.le hK.lim) hK.lim hln (by omega) ha hsz).mono ?_
 rintro e w' ⟨hk, hM⟩
 rw [hS, hD] at hM
 have hroom : M.n + 1 <= M.limit := by rw [hd.n, hd.lim]; exact hr
 cases hM with
 | arg h1 => rw [hs] at h1; cases h1
 | full h1 h2 h3 h4 => rw [if_neg ht] at h2; omega
 | two h1 h2 => exact absurd h2 ht
 | one h1 h2 h3 he hX =>
  have hm := zh7 hs
  refine ⟨by rw [he, hd.n], ⟨_, _, _, ⟨hX, ⟨rk, hI.add _ hm hm.few hs ht h6 ho⟩, hK.lim, hroom⟩, hd.lim, ?_, fun k hk => ?_, by rw [hd.r, hd.n, zfh _ _ _ hq], by rw [hd.g]; exact zfh _ _ _ rfl⟩, hk⟩
  ·rw [List.length_append]; exact congrArg (· + 1) hd.n
  ·show (if k = M.n then _ else M.nd k) = _
   rw [List.length_append, List.length_singleton] at hk
   by_cases c : k = xs.length
   ·rw [if_pos (c.trans hd.n.symm)]
    subst c
    rw [List.getElem_append_right (Nat.le_refl _)]
    simp
   ·rw [if_neg (by rw [hd.n]; exact c), List.getElem_append_left (by omega)]
    exact hd.nd k (by omega)
theorem Dl.free (hd : Dl L M R G xs Q) (hI : Inv M R G rk) {i : Nat} (hi : i < xs.length) (hf : ∀ u, u < xs.length -> i ∉ Q u) : (M.pl i).up = -1 := by
 rcases hI.good.wf.inn i (by rw [hd.n]; exact hi) with e | ⟨u, hu, e, hm⟩
 ·exact e
 ·rw [hd.r] at hm; exact absurd hm (hf u (by rw [<- hd.n]; exact hu))
theorem Dq.ins (h : Dq L K w p xs Q) (up i : Nat) (hu : up < xs.length) (hi : i < xs.length) (hui : up ≠ i) (hh : zdm xs[up] = true) (h0 : i ≠ 0) (hk5 : xs[i].kind ≠ 5) (hk4 : xs[i].kind ≠ 4) (hf : ∀ u, u < xs.length -> i ∉ Q u) (hq : Q i = []) (hho : ∀ k (h : k < xs.length), xs[k].host ≠ (i : Int)) :
  Calls Tryz.prog 70 #[.pointer (some ⟨p, 0, none⟩), .int .i64 (up : Int), .int .i64 (i : Int), .int .i64 (-1)] w fun e w' => e = .returned (.int .u16 0) /\ Dq L K w' p xs (zay Q up (Q up ++ [i])) /\ Kept K w w' := by
 obtain ⟨M, R, G, hK, hd⟩ := h
 obtain ⟨rk, hI⟩ := hK.inv
 have hfree := hd.free hI hi hf
 have hF : Fits M up i (-1) := by
  refine ⟨by rw [hd.nd up hu]; exact hh, ?_, fun hw => ?_, .inl rfl⟩
  ·unfold zfe
   rw [hd.nd i hi]
   simp [h0, hk5, hk4]
  ·refine hui (zrw hI.good.acy (fun k hk e => ?_) hw (by rw [hd.n]; exact hu))
   unfold zbi at e
   by_cases c : (M.pl k).up = -1
   ·rw [if_pos c, hd.nd k (by rw [<- hd.n]; exact hk)] at e
    exact hho k _ e
   ·rw [if_neg c] at e
    rcases hI.good.wf.inn k hk with e' | ⟨u, hu', e', hm⟩
    ·exact c e'
    ·have : u = i := by omega
     subst this
     rw [hd.r, hq] at hm
     cases hm
 refine (hK.ins (-1) (by rw [hd.n]; exact hu) (by rw [hd.n]; exact hi) (.inl rfl) hF).mono ?_
 rintro e w' ⟨rfl, hK', hkk⟩
 refine ⟨rfl, ⟨_, _, _, hK', hd.lim, hd.n, hd.nd, ?_, hd.g⟩, hkk⟩
 unfold zea
 rw [if_neg (by rw [hd.nd i hi]; exact hk4), if_neg (by omega), zn3 hfree, hd.r]
end
def y0 : Nd := ⟨0, [], [], [], ⟨false, false, false, false, false⟩, 0, 0, 0⟩
end
section
open Go.RowKit
set_option linter.unusedVariables false
set_option maxRecDepth 100000
set_option maxHeartbeats 4000000
abbrev q12 : Nat -> List Nat := zay (fun _ => []) 1 ((fun _ => [] : Nat -> List Nat) 1 ++ [2])
end
section
set_option linter.unusedVariables false
set_option maxRecDepth 100000
set_option maxHeartbeats 8000000
end
section
open Go.ChangeShapes Go.WideShapes Go.ChangeAt Go.RowKit
set_option linter.unusedVariables false
set_option maxRecDepth 100000
end
end
end Go.Proofs.YtfeinppedejlpaaGreat
