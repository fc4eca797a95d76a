/-
  The document's own Outer, whatever the node is.
-/
import Derived.Test.YtikaheenjhdpmaaGreatVRd
import Derived.Test.YtikaheenjhdpmaaGreatVRf
namespace Go.Proofs.YtikaheenjhdpmaaGreat
open Go.RowKit Go.Sort
set_option linter.unusedVariables false
theorem zpg {M : Dm} {R G : Nat -> List Nat} {rk : Nat -> Nat} (h : Inv M R G rk) {k : Nat} (hk : k < M.n) : (M.nd k).kind = 1 \/ (M.nd k).kind = 2 \/ (M.nd k).kind = 3 \/ (M.nd k).kind = 4 \/ (M.nd k).kind = 5 \/ (M.nd k).kind = 6 := by
 by_cases h5 : (M.nd k).kind = 5
 ·simp [h5]
 ·have hs := h.ex.snd k hk h5
  unfold zat Nd.mk' Mk.it za6 at hs
  by_cases n1 : (M.nd k).kind = 1
  ·exact .inl n1
  by_cases n2 : (M.nd k).kind = 2
  ·exact .inr (.inl n2)
  by_cases n3 : (M.nd k).kind = 3
  ·exact .inr (.inr (.inl n3))
  by_cases n4 : (M.nd k).kind = 4
  ·exact .inr (.inr (.inr (.inl n4)))
  by_cases n6 : (M.nd k).kind = 6
  ·exact .inr (.inr (.inr (.inr (.inr n6))))
  simp [zba, zbe, n1, n2, n3, n4, n6] at hs
theorem zgr {w0 : World} {r : Nat} {M : Dm} {R G : Nat -> List Nat} {rk : Nat -> Nat} {g nc : Nat} {sr : Bool} {la : Option Addr} {rn rc i : Nat} {T : List UInt8} (h : Inv M R G rk) (hE : RE w0 r M R g nc) (hn : M.n <= 100000) (hi : i < M.n) (hT : T.length <= 1000000000000) (hI : Zq1 w0 r i (.agg #[.bool sr, .slice la rn rc]) T) : Zki w0 r i (.agg #[.bool sr, .slice la rn rc]) (zb1 T (M.nd i) (zg4 M i)) := by
 have ho := h.ex.okd i hi
 have hd := ho.1
 rcases zpg h hi with k1 | k2 | k3 | k4 | k5 | k6
 ·obtain ⟨hv, hs⟩ := h.core.el i hi k1
  have hnl : (M.nd i).name.length <= 60 := by
   unfold za4 at hv
   simp only [Bool.and_eq_true, decide_eq_true_eq] at hv
   exact hv.1.2
  have h50 : (M.nd i).attrs.length <= 50 := zci hs
  have e : zb1 T (M.nd i) (zg4 M i) = zdi (M.nd i).name (M.nd i).attrs ++ (if za7 (M.nd i).name = true then [] else T ++ zdm (M.nd i).name) := if_pos k1
  rw [e]
  by_cases v : za7 (M.nd i).name = true
  ·rw [if_pos v, List.append_nil]
   exact zjv hE hn hi k1 hnl h50 (h.core.atr hi) v
  ·rw [if_neg v]
   exact zoo hE hn hi k1 hnl h50 (h.core.atr hi) (by simpa using v) hI hT
 ·have e : zb1 T (M.nd i) (zg4 M i) = if zg4 M i = true then (M.nd i).data else esc false (M.nd i).data := by
   unfold zb1; rw [if_neg (by omega), if_pos k2]
  rw [e]
  rcases h.good.wf.inn i hi with e | ⟨u, hu, e, -⟩
  ·have er : zg4 M i = false := if_pos e
   rw [er]
   exact zlb hE hn hi k2 hd e
  ·have er : zg4 M i = isR (M.nd u) := by unfold zg4; rw [if_neg (by rw [e]; omega), e, Int.toNat_natCast]
   rw [er]
   unfold isR
   by_cases u1 : (M.nd u).kind = 1
   ·rw [decide_eq_true u1, Bool.true_and]
    by_cases q : zh0 (M.nd u).name = true
    ·rw [if_pos q]
     exact zl3 hE hn hi k2 hd hu e u1 q
    ·rw [if_neg q]
     exact zjp hE hn hi k2 hd hu e u1 (by simpa using q)
   ·rw [decide_eq_false u1, Bool.false_and]
    exact zon hE hn hi k2 hd hu e u1
 ·have e : zb1 T (M.nd i) (zg4 M i) = [60, 33, 45, 45] ++ ((M.nd i).data ++ [45, 45, 62]) := by
   unfold zb1; rw [if_neg (by omega), if_neg (by omega), if_pos k3]
  rw [e]
  exact zgf hE hn hi k3 hd
 ·have e : zb1 T (M.nd i) (zg4 M i) = T := by
   unfold zb1; rw [if_neg (by omega), if_neg (by omega), if_neg (by omega), if_neg (by omega), if_pos (.inl k4)]
  rw [e]
  exact zjg hE hn hi k4 hI
 ·have e : zb1 T (M.nd i) (zg4 M i) = T := by
   unfold zb1; rw [if_neg (by omega), if_neg (by omega), if_neg (by omega), if_neg (by omega), if_pos (.inr k5)]
  rw [e]
  exact zi8 hE hn hi k5 hI
 ·have e : zb1 T (M.nd i) (zg4 M i) = zld ++ ((M.nd i).name ++ [62]) := by
   unfold zb1; rw [if_neg (by omega), if_neg (by omega), if_neg (by omega), if_pos k6]
  rw [e]
  exact zgk hE hn hi k6 (h.ex.nsz i hi k6)
end Go.Proofs.YtikaheenjhdpmaaGreat
