/-
  A document that is made call by call. A document told by its nodes and rows, with any limit; what is written of it. The chapter's example. portierelaw13: heavy, and both documents behind calls. Options that come in: a bool and a row of integers.
-/
import Derived.Test.YtojbjiopilkbgaaGreatVW32
import Derived.Test.YtojbjiopilkbgaaGreatVX4
import Derived.Test.YtojbjiopilkbgaaGreatVW29
import Derived.Test.YtojbjiopilkbgaaGreatVW26
import Derived.Test.YtojbjiopilkbgaaGreatVW17
import Derived.Deep.MidRow
import Derived.Test.YtojbjiopilkbgaaGreatVW25
namespace Go.Proofs.YtojbjiopilkbgaaGreat
section
open Go.RowKit
set_option linter.unusedVariables false
set_option maxRecDepth 100000
set_option maxHeartbeats 8000000
structure Kn (K : Nat -> Prop) (w : World) (p : Nat) (M : Dm) (R G : Nat -> List Nat) : Prop where
 d : DX K w p M
 inv : ∃ rk, Inv M R G rk
 lim : M.limit <= 100000
 le : M.n <= M.limit
section
variable {K : Nat -> Prop} {w w' : World} {p : Nat} {M : Dm} {R G : Nat -> List Nat}
theorem Kn.kept (h : Kn K w p M R G) (hk : Kept (fun k => k < w.heap.size) w w') : Kn K w' p M R G := ⟨h.d.kept hk, h.inv, h.lim, h.le⟩
theorem Kn.new {w0 : World} {limit : Nat} (hX : DX K w p (Dm.new limit)) (h1 : 1 <= limit) (h2 : limit <= 100000) : Kn K w p (Dm.new limit) (fun _ => []) (fun _ => []) := ⟨hX, ⟨_, Inv.new limit⟩, h2, h1⟩
theorem Kn.ins (h : Kn K w p M R G) {up i : Nat} (bef : Int) (hu : up < M.n) (hi : i < M.n) (hb : bef = -1 \/ ∃ m : Nat, m < M.n /\ bef = (m : Int)) (hF : Fits M up i bef) :
  Calls Tryz.prog 52 #[.pointer (some ⟨p, 0, none⟩), .int .i64 (up : Int), .int .i64 (i : Int), .int .i64 bef] w fun e w' => e = .returned (.int .u16 0) /\ Kn K w' p (M.setP (zev M R up i bef)) (zd8 M R up i bef) G /\ Kept K w w' := by
 obtain ⟨rk, hI⟩ := h.inv
 refine (zfh K p up i bef M R rk w h.d hI.good.wf hI.good.acy hu hi hb (by have := h.le; have := h.lim; omega)).mono ?_
 rintro e w' ⟨hK, ⟨_, hn, _⟩ | ⟨e, _, hX⟩⟩
 ·exact absurd hF hn
 ·exact ⟨e, ⟨hX, hI.ins hu hi hF, h.lim, h.le⟩, hK⟩
end
end
section
open Go.RowKit
set_option linter.unusedVariables false
set_option maxRecDepth 100000
set_option maxHeartbeats 4000000
theorem zpl {M : Dm} {rk : Nat -> Nat} (ha : Acy M rk) {i k : Nat} (hp : ∀ k, k < M.n -> zbn M k ≠ (i : Int)) (hw : Wi M i k) : k < M.n -> k = i := by
 induction hw with
 | here => intro _; rfl
 | @up k m e _ ih =>
  intro hk
  rcases ha k hk with e' | ⟨m', hm', e', _⟩
  ·omega
  ·have : m' = m := by omega
   subst this
   have := ih hm'
   subst this
   exact absurd e (hp k hk)
structure Dl (L : Nat) (M : Dm) (R G : Nat -> List Nat) (xs : List Nd) (Q : Nat -> List Nat) : Prop where
 lim : M.limit = L
 n : M.n = xs.length
 nd : ∀ k (h : k < xs.length), M.nd k = xs[k]
 r : R = Q
 g : G = fun _ => []
def Dq (L : Nat) (K : Nat -> Prop) (w : World) (p : Nat) (xs : List Nd) (Q : Nat -> List Nat) : Prop := ∃ M R G, Kn K w p M R G /\ Dl L M R G xs Q
section
variable {L : Nat} {K : Nat -> Prop} {w w' : World} {p : Nat} {xs : List Nd} {Q : Nat -> List Nat} {M : Dm} {R G : Nat -> List Nat} {rk : Nat -> Nat}
theorem Dq.kept (h : Dq L K w p xs Q) (hk : Kept (fun k => k < w.heap.size) w w')  : Dq L K w' p xs Q := by
 obtain ⟨M, R, G, a, b⟩ := h
 exact ⟨M, R, G, a.kept hk, b⟩
theorem Dq.start (hL1 : 1 <= L) (hL2 : L <= 100000) (hX : DX K w p (Dm.new L))  : Dq L K w p [za4.new] (fun _ => []) :=
 ⟨_, _, _, Kn.new (w0 := w) hX hL1 hL2, rfl, rfl, fun k h => by
  have : k = 0 := by simp at h; omega
  subst this; rfl, rfl, rfl⟩
theorem Dq.makeA (h : Dq L K w p xs Q) (kd : Nat) (S D : ByteArray) (l : List Atr) (aa : Option Addr) (n ac : Nat) (r : Rest) (nm dt : List UInt8) (hS : S.toList = nm) (hD : D.toList = dt) (hln : l.length = n) (hn : n <= 1000) (ha : Zai (fun k => k < w.heap.size) w aa l) (hsz : ∀ x ∈ l, x.name.length <= 1000000000 /\ x.value.length <= 1000000000) (hs : zav ⟨kd, nm, dt, l⟩ = true) (ht : ¬ (kd = 1 /\ nm = [116, 101, 109, 112, 108, 97, 116, 101])) (hq : Q xs.length = []) (hr : xs.length + 1 <= L) (h6 : kd = 6 -> nm.length < 1000000) (ho : Okd (Mk.nd ⟨kd, nm, dt, l⟩)) :
  Calls Tryz.prog 51 #[.pointer (some ⟨p, 0, none⟩), zkr kd S D aa n ac r] w fun e w' => e = .returned (.tuple #[.int .i64 (xs.length : Int), .int .u16 0]) /\ Dq L K w' p (xs ++ [(Mk.nd ⟨kd, nm, dt, l⟩).new]) Q /\ Kept K w w' := by
 obtain ⟨M, R, G, hK, hd⟩ := h
 obtain ⟨rk, hI⟩ := hK.inv
 refine (zi5 K p kd S D l aa n ac r w M hK.d (Nat.le_trans hK.le hK.lim) hK.lim hln (by omega) ha hsz).mono ?_
 rintro e w' ⟨hk, hM⟩
 rw [hS, hD] at hM
 have hroom : M.n + 1 <= M.limit := by rw [hd.n, hd.lim]; exact hr
 cases hM with
 | arg h1 => rw [hs] at h1; cases h1
 | full h1 h2 h3 h4 => rw [if_neg ht] at h2; omega
 | two h1 h2 => exact absurd h2 ht
 | one h1 h2 h3 he hX =>
  have hm := zhi hs
  refine ⟨by rw [he, hd.n], ⟨_, _, _, ⟨hX, ⟨rk, hI.add _ hm hm.few hs ht h6 ho⟩, hK.lim, hroom⟩, hd.lim, ?_, fun k hk => ?_, by rw [hd.r, hd.n, zfe _ _ _ hq], by rw [hd.g]; exact zfe _ _ _ rfl⟩, hk⟩
  ·rw [List.length_append]; exact congrArg (· + 1) hd.n
  ·show (if k = M.n then _ else M.nd k) = _
   rw [List.length_append, List.length_singleton] at hk
   by_cases c : k = xs.length
   ·rw [if_pos (c.trans hd.n.symm)]
    subst c
    rw [List.getElem_append_right (Nat.le_refl _)]
    simp
   ·rw [if_neg (by rw [hd.n]; exact c), List.getElem_append_left (by omega)]
    exact hd.nd k (by omega)
theorem Dl.free (hd : Dl L M R G xs Q) (hI : Inv M R G rk) {i : Nat} (hi : i < xs.length) (hf : ∀ u, u < xs.length -> i ∉ Q u) : (M.pl i).up = -1 := by
 rcases hI.good.wf.inn i (by rw [hd.n]; exact hi) with e | ⟨u, hu, e, hm⟩
 ·exact e
 ·rw [hd.r] at hm; exact absurd hm (hf u (by rw [<- hd.n]; exact hu))
theorem Dq.ins (h : Dq L K w p xs Q) (up i : Nat) (hu : up < xs.length) (hi : i < xs.length) (hui : up ≠ i) (hh : zdi xs[up] = true) (h0 : i ≠ 0) (hk5 : xs[i].kind ≠ 5) (hk4 : xs[i].kind ≠ 4) (hf : ∀ u, u < xs.length -> i ∉ Q u) (hq : Q i = []) (hho : ∀ k (h : k < xs.length), xs[k].host ≠ (i : Int)) :
  Calls Tryz.prog 52 #[.pointer (some ⟨p, 0, none⟩), .int .i64 (up : Int), .int .i64 (i : Int), .int .i64 (-1)] w fun e w' => e = .returned (.int .u16 0) /\ Dq L K w' p xs (zaw Q up (Q up ++ [i])) /\ Kept K w w' := by
 obtain ⟨M, R, G, hK, hd⟩ := h
 obtain ⟨rk, hI⟩ := hK.inv
 have hfree := hd.free hI hi hf
 have hF : Fits M up i (-1) := by
  refine ⟨by rw [hd.nd up hu]; exact hh, ?_, fun hw => ?_, .inl rfl⟩
  ·unfold ze3
   rw [hd.nd i hi]
   simp [h0, hk5, hk4]
  ·refine hui (zpl hI.good.acy (fun k hk e => ?_) hw (by rw [hd.n]; exact hu))
   unfold zbn at e
   by_cases c : (M.pl k).up = -1
   ·rw [if_pos c, hd.nd k (by rw [<- hd.n]; exact hk)] at e
    exact hho k _ e
   ·rw [if_neg c] at e
    rcases hI.good.wf.inn k hk with e' | ⟨u, hu', e', hm⟩
    ·exact c e'
    ·have : u = i := by omega
     subst this
     rw [hd.r, hq] at hm
     cases hm
 refine (hK.ins (-1) (by rw [hd.n]; exact hu) (by rw [hd.n]; exact hi) (.inl rfl) hF).mono ?_
 rintro e w' ⟨rfl, hK', hkk⟩
 refine ⟨rfl, ⟨_, _, _, hK', hd.lim, hd.n, hd.nd, ?_, hd.g⟩, hkk⟩
 unfold zd8
 rw [if_neg (by rw [hd.nd i hi]; exact hk4), if_neg (by omega), zlh hfree, hd.r]
end
def y0 : Nd := ⟨0, [], [], [], ⟨false, false, false, false, false⟩, 0, 0, 0⟩
end
section
open Go.RowKit
set_option linter.unusedVariables false
set_option maxRecDepth 100000
set_option maxHeartbeats 4000000
abbrev q12 : Nat -> List Nat := zaw (fun _ => []) 1 ((fun _ => [] : Nat -> List Nat) 1 ++ [2])
end
section
set_option linter.unusedVariables false
set_option maxRecDepth 100000
set_option maxHeartbeats 8000000
end
section
open Go.ChangeShapes Go.WideShapes Go.ChangeAt Go.RowKit
set_option linter.unusedVariables false
set_option maxRecDepth 100000
end
end Go.Proofs.YtojbjiopilkbgaaGreat
