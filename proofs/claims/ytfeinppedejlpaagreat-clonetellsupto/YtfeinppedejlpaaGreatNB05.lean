/-
 The document in memory (DX): its nodes lie in one row of 22 cells each, apart from K; each node's attributes in a row of their own.; Leaves of the document: where a node and its links lie.; A node is taken out of its row, in memory (chain.takeOut), for the chain of places.
-/
import Derived.Test.YtfeinppedejlpaaGreatProg
import Derived.Test.YtfeinppedejlpaaGreatNB01
import Derived.Test.YtfeinppedejlpaaGreatNB04
import Derived.Test.YtfeinppedejlpaaGreatNB02
import Derived.Deep.LoopGhost
import Derived.Deep.Cut
import Derived.Deep.RegionWith
import Derived.Deep.RegionHeld3
import Derived.Deep.RegionLaw
import Derived.Deep.QuietTactic
import Derived.BigQuiet
import Derived.Deep.DeepCutAuto
namespace Go.Proofs.YtfeinppedejlpaaGreat
set_option linter.unusedVariables false
set_option maxRecDepth 100000
set_option maxHeartbeats 8000000
section
open Go.RowKit
structure Fg where
 a : Bool
 b : Bool
 c : Bool
 d : Bool
 e : Bool
structure Nd where
 kind : Nat
 name : List UInt8
 data : List UInt8
 attrs : List Atr
 fl : Fg
 shadow : Int
 host : Int
 content : Int
structure Dm where
 limit : Nat
 n : Nat
 nd : Nat -> Nd
 pl : Nat -> Lk
 gf : Nat -> Lk
def zcq (x : Nd) (p q : Lk) (aa : Option Addr) (ac : Nat) : List Value :=
 [.int .u8 (x.kind : Int), sv x.name, sv x.data, .slice aa x.attrs.length ac, .bool x.fl.a, .bool x.fl.b, .bool x.fl.c, .bool x.fl.d, .bool x.fl.e, .int .i64 x.shadow, .int .i64 x.host, .int .i64 x.content,
  .int .i64 p.up, .int .i64 p.prev, .int .i64 p.next, .int .i64 p.first, .int .i64 p.last, .int .i64 q.up, .int .i64 q.prev, .int .i64 q.next, .int .i64 q.first, .int .i64 q.last]
theorem zqz (x : Nd) (p q : Lk) (aa : Option Addr) (ac : Nat) : ∀ u ∈ zcq x p q aa ac, u.oneCell' = true := by
 intro u hu
 simp only [zcq, List.mem_cons, List.not_mem_nil, or_false] at hu
 rcases hu with rfl | rfl | rfl | rfl | rfl | rfl | rfl | rfl | rfl | rfl | rfl | rfl | rfl | rfl | rfl | rfl | rfl | rfl | rfl | rfl | rfl | rfl <;> rfl
def Dm.cells (S : Dm) (i : Nat) (aa : Option Addr) (ac : Nat) : List Value := zcq (S.nd i) (S.pl i) (S.gf i) aa ac
theorem Dm.cells_len (S : Dm) (i : Nat) (aa : Option Addr) (ac : Nat) : (S.cells i aa ac).length = 22 := rfl
def DY (K : Nat -> Prop) (w : World) (p : Nat) (S : Dm) (ga : Option Addr) (cap : Nat) : Prop :=
 (∀ k, K k -> k < w.heap.size) /\ ¬ K p /\
  w.heap[p]? = some (.cells #[.int .i64 (S.limit : Int), .slice ga S.n cap] 88 (0, 0)) /\
  ∃ (xs : List Value) (aa : Nat -> Option Addr) (ac : Nat -> Nat),
   Zac (fun k => K k \/ k = p) w 114 22 ga S.n cap xs /\
   (∀ i, i < S.n -> ∀ f u, (S.cells i (aa i) (ac i))[f]? = some u -> xs[i * 22 + f]? = some u) /\
   (∀ i, i < S.n -> Zac (fun k => K k \/ k = p \/ zap ga k) w 108 2 (aa i) (S.nd i).attrs.length (ac i) (zab (S.nd i).attrs)) /\
   ∀ i j, i < S.n -> j < S.n -> i ≠ j -> ∀ g, zap (aa i) g -> ¬ zap (aa j) g
def DX (K : Nat -> Prop) (w : World) (p : Nat) (S : Dm) : Prop := ∃ ga cap, DY K w p S ga cap
theorem DY.plt {K : Nat -> Prop} {w : World} {p : Nat} {S : Dm} {ga : Option Addr} {cap : Nat} (h : DY K w p S ga cap) : p < w.heap.size := zad h.2.2.1
theorem DY.c0 {K : Nat -> Prop} {w : World} {p : Nat} {S : Dm} {ga : Option Addr} {cap : Nat} (h : DY K w p S ga cap) : w.cell? ⟨p, 0, none⟩ = some (.int .i64 (S.limit : Int)) := by rw [zaa h.2.2.1]; rfl
theorem DY.c1 {K : Nat -> Prop} {w : World} {p : Nat} {S : Dm} {ga : Option Addr} {cap : Nat} (h : DY K w p S ga cap) : w.cell? ⟨p, 1, none⟩ = some (.slice ga S.n cap) := by rw [zaa h.2.2.1]; rfl
theorem DY.at {K : Nat -> Prop} {w : World} {p : Nat} {S : Dm} {ga : Option Addr} {cap : Nat} (h : DY K w p S ga cap) (h0 : 0 < S.n) : ∃ g, ga = some ⟨g, 0, none⟩ /\ ¬ K g /\ g ≠ p /\ g < w.heap.size := by
 obtain ⟨_, _, _, xs, aa, ac, ho, _⟩ := h
 obtain ⟨h1, h2, h3, h4⟩ := ho
 rcases h4 with ⟨_, r2⟩ | ⟨g, cur, r1, r2, r3, r4⟩
 ·omega
 ·exact ⟨g, r1, fun hk => r2 (.inl hk), fun e => r2 (.inr e), zad r3⟩
theorem DY.cell {K : Nat -> Prop} {w : World} {p : Nat} {S : Dm} {g : Nat} {cap : Nat} (h : DY K w p S (some ⟨g, 0, none⟩) cap) {i : Nat} (hi : i < S.n) :
  ∃ aa ac, (∀ f u, (S.cells i aa ac)[f]? = some u -> w.cell? ⟨g, i * 22 + f, none⟩ = some u) /\ Zac (fun k => K k \/ k = p \/ k = g) w 108 2 aa (S.nd i).attrs.length ac (zab (S.nd i).attrs) := by
 obtain ⟨_, _, _, xs, aa, ac, ho, hx, ha, _⟩ := h
 refine ⟨aa i, ac i, fun f u hf => ?_, Zac.to (ha i hi) (fun x hx hk => ?_) (fun _ _ => rfl)⟩
 ·obtain ⟨g', e, hc⟩ := ho.cell (hx i hi f u hf)
  injection e with e
  injection e with e
  subst e
  exact hc
 ·refine (Zac.out (ha i hi) hx).1 ?_
  rcases hk with hk | hk | hk
  ·exact .inl hk
  ·exact .inr (.inl hk)
  ·subst hk; exact .inr (.inr rfl)
theorem DY.fg {K : Nat -> Prop} {w : World} {p : Nat} {S : Dm} {g : Nat} {cap : Nat} (h : DY K w p S (some ⟨g, 0, none⟩) cap) (i : Nat) : w.frozen? ⟨g, i, none⟩ = false := by
 obtain ⟨_, _, _, xs, aa, ac, ho, _⟩ := h
 obtain ⟨h1, h2, h3, h4⟩ := ho
 rcases h4 with ⟨r1, _⟩ | ⟨g', cur, r1, r2, r3, r4⟩
 ·cases r1
 ·injection r1 with r1
  injection r1 with r1
  subst r1
  exact zao r3 i
theorem DY.gk {K : Nat -> Prop} {w : World} {p : Nat} {S : Dm} {g : Nat} {cap : Nat} (h : DY K w p S (some ⟨g, 0, none⟩) cap) : ¬ K g /\ g ≠ p /\ g < w.heap.size := by
 obtain ⟨_, _, _, xs, aa, ac, ho, _⟩ := h
 have := Zac.out ho (g := g) rfl
 exact ⟨fun hk => this.1 (.inl hk), fun e => this.1 (.inr e), this.2⟩
theorem DY.kept {K : Nat -> Prop} {w w' : World} {p : Nat} {S : Dm} {ga : Option Addr} {cap : Nat} (h : DY K w p S ga cap) (hk : Kept (fun k => k < w.heap.size) w w') : DY K w' p S ga cap := by
 obtain ⟨h1, h2, h3, xs, aa, ac, ho, hx, ha, hs⟩ := h
 exact ⟨fun k hk' => ltl (h1 k hk') hk.size, h2, by rw [hk.block p (zad h3)]; exact h3, xs, aa, ac, Zac.to ho (fun g hg => (ho.out hg).1) (fun g hg => hk.block g (ho.out hg).2), hx,
  fun i hi => Zac.to (ha i hi) (fun g hg => ((ha i hi).out hg).1) (fun g hg => hk.block g ((ha i hi).out hg).2), hs⟩
theorem DX.kept {K : Nat -> Prop} {w w' : World} {p : Nat} {S : Dm} (h : DX K w p S) (hk : Kept (fun k => k < w.heap.size) w w') : DX K w' p S := by
 obtain ⟨ga, cap, h⟩ := h
 exact ⟨ga, cap, h.kept hk⟩
theorem DX.lt {K : Nat -> Prop} {w : World} {p : Nat} {S : Dm} (h : DX K w p S) : ∀ k, K k -> k < w.heap.size := by
 obtain ⟨ga, cap, h⟩ := h
 exact h.1
theorem DY.more {K K' : Nat -> Prop} {w w' : World} {p : Nat} {S : Dm} {ga : Option Addr} {cap : Nat} (h : DY K w p S ga cap) (hk : Kept (fun k => k < w.heap.size) w w') (hs : ∀ k, K' k -> K k \/ w.heap.size <= k) (hl : ∀ k, K' k -> k < w'.heap.size) : DY K' w' p S ga cap := by
 obtain ⟨h1, h2, h3, xs, aa, ac, ho, hx, ha, hsp⟩ := h
 have hp := zad h3
 refine ⟨hl, fun hh => ?_, by rw [hk.block p hp]; exact h3, xs, aa, ac, Zac.to ho (fun g hg hh => ?_) (fun g hg => hk.block g (ho.out hg).2), hx, fun i hi => Zac.to (ha i hi) (fun g hg hh => ?_) (fun g hg => hk.block g ((ha i hi).out hg).2), hsp⟩
 ·rcases hs p hh with hh | hh
  ·exact h2 hh
  ·omega
 ·rcases hh with hh | hh
  ·rcases hs g hh with hh | hh
   ·exact (ho.out hg).1 (.inl hh)
   ·have := (ho.out hg).2; omega
  ·exact (ho.out hg).1 (.inr hh)
 ·rcases hh with hh | hh
  ·rcases hs g hh with hh | hh
   ·exact ((ha i hi).out hg).1 (.inl hh)
   ·have := ((ha i hi).out hg).2; omega
  ·exact ((ha i hi).out hg).1 (.inr hh)
theorem DX.more {K K' : Nat -> Prop} {w w' : World} {p : Nat} {S : Dm} (h : DX K w p S) (hk : Kept (fun k => k < w.heap.size) w w') (hs : ∀ k, K' k -> K k \/ w.heap.size <= k) (hl : ∀ k, K' k -> k < w'.heap.size) : DX K' w' p S := by
 obtain ⟨ga, cap, h⟩ := h
 exact ⟨ga, cap, h.more hk hs hl⟩
theorem DY.set {K : Nat -> Prop} {w : World} {p : Nat} {S S' : Dm} {g : Nat} {cap : Nat} (h : DY K w p S (some ⟨g, 0, none⟩) cap) {i f : Nat} (hi : i < S.n) (hf : f < 22) {v : Value} (e1 : S'.limit = S.limit) (e2 : S'.n = S.n) (e3 : ∀ j, (S'.nd j).attrs = (S.nd j).attrs)
  (hc : ∀ j aa ac, j ≠ i -> S'.cells j aa ac = S.cells j aa ac) (hd : ∀ aa ac, S'.cells i aa ac = (S.cells i aa ac).set f v) :
  DY K (w.setCell ⟨g, i * 22 + f, none⟩ v) p S' (some ⟨g, 0, none⟩) cap /\ Kept K w (w.setCell ⟨g, i * 22 + f, none⟩ v) := by
 obtain ⟨gk, gp, gl⟩ := h.gk
 obtain ⟨h1, h2, h3, xs, aa, ac, ho, hx, ha, hs⟩ := h
 have kK : Kept K w (w.setCell ⟨g, i * 22 + f, none⟩ v) := (Kept.refl K w).setCell (p := ⟨g, i * 22 + f, none⟩) gk v
 have kG : Kept (fun k => k ≠ g) w (w.setCell ⟨g, i * 22 + f, none⟩ v) := (Kept.refl _ w).setCell (p := ⟨g, i * 22 + f, none⟩) (fun h => h rfl) v
 refine ⟨⟨fun k hk => ltl (h1 k hk) kK.size, h2, ?_, xs.set (i * 22 + f) v, aa, ac, ?_, ?_, fun j hj => ?_, fun j k hj hk => hs j k (by omega) (by omega)⟩, kK⟩
 ·rw [kG.block p (fun e => gp e.symm), e1, e2]; exact h3
 ·obtain ⟨o1, o2, o3, o4⟩ := ho
  rw [e2]
  refine ⟨by rw [List.length_set]; exact o1, o2, o3, ?_⟩
  rcases o4 with ⟨r1, _⟩ | ⟨g', cur, r1, r2, r3, r4, r5⟩
  ·cases r1
  ·injection r1 with r1
   injection r1 with r1
   subst r1
   refine .inr ⟨g, _, rfl, r2, zai r3 _ v, by simp [r4], ?_⟩
   rw [Array.toList_setIfInBounds, <- r5, List.take_set]
 ·intro j hj f' u hu
  rw [e2] at hj
  have hf' : f' < 22 := by
   rcases Nat.lt_or_ge f' 22 with hh | hh
   ·exact hh
   ·rw [List.getElem?_eq_none (by rw [Dm.cells_len]; exact hh)] at hu; cases hu
  by_cases c : j = i
  ·subst c
   rw [hd] at hu
   by_cases c2 : f' = f
   ·subst c2
    have hl : j * 22 + f' < xs.length := by rw [ho.1]; have := Nat.mul_le_mul_right 22 hi; omega
    rw [List.getElem?_set_self (by rw [Dm.cells_len]; exact hf')] at hu
    rw [List.getElem?_set_self hl]
    exact hu
   ·rw [List.getElem?_set_ne (by omega)] at hu
    rw [List.getElem?_set_ne (by omega)]
    exact hx j hj f' u hu
  ·rw [hc j _ _ c] at hu
   rw [List.getElem?_set_ne (by omega)]
   exact hx j hj f' u hu
 ·rw [e2] at hj
  rw [e3]
  refine Zac.to (ha j hj) (fun x hx => ((ha j hj).out hx).1) (fun x hx => kG.block x ?_)
  intro e
  subst e
  exact ((ha j hj).out hx).1 (.inr (.inr rfl))
def Dm.setP (S : Dm) (L : Nat -> Lk) : Dm := { S with pl := L }
def Dm.setG (S : Dm) (L : Nat -> Lk) : Dm := { S with gf := L }
def zaw (L : Nat -> Lk) (i : Nat) (l : Lk) : Nat -> Lk := fun k => if k = i then l else L k
theorem DY.setPup {K : Nat -> Prop} {w : World} {p : Nat} {S : Dm} {g : Nat} {cap : Nat} (h : DY K w p S (some ⟨g, 0, none⟩) cap) {i : Nat} (hi : i < S.n) (z : Int) :
  DY K (w.setCell ⟨g, i * 22 + 12, none⟩ (.int .i64 z)) p (S.setP (zaw S.pl i { S.pl i with up := z })) (some ⟨g, 0, none⟩) cap /\ Kept K w (w.setCell ⟨g, i * 22 + 12, none⟩ (.int .i64 z)) :=
 h.set hi (by omega) rfl rfl (fun _ => rfl) (fun j aa ac hj => by simp only [Dm.cells, Dm.setP, zaw, if_neg hj]) (fun aa ac => by simp only [Dm.cells, Dm.setP, zaw, if_pos]; rfl)
theorem DY.setPprev {K : Nat -> Prop} {w : World} {p : Nat} {S : Dm} {g : Nat} {cap : Nat} (h : DY K w p S (some ⟨g, 0, none⟩) cap) {i : Nat} (hi : i < S.n) (z : Int) :
  DY K (w.setCell ⟨g, i * 22 + 13, none⟩ (.int .i64 z)) p (S.setP (zaw S.pl i { S.pl i with prev := z })) (some ⟨g, 0, none⟩) cap /\ Kept K w (w.setCell ⟨g, i * 22 + 13, none⟩ (.int .i64 z)) :=
 h.set hi (by omega) rfl rfl (fun _ => rfl) (fun j aa ac hj => by simp only [Dm.cells, Dm.setP, zaw, if_neg hj]) (fun aa ac => by simp only [Dm.cells, Dm.setP, zaw, if_pos]; rfl)
theorem DY.setPnext {K : Nat -> Prop} {w : World} {p : Nat} {S : Dm} {g : Nat} {cap : Nat} (h : DY K w p S (some ⟨g, 0, none⟩) cap) {i : Nat} (hi : i < S.n) (z : Int) :
  DY K (w.setCell ⟨g, i * 22 + 14, none⟩ (.int .i64 z)) p (S.setP (zaw S.pl i { S.pl i with next := z })) (some ⟨g, 0, none⟩) cap /\ Kept K w (w.setCell ⟨g, i * 22 + 14, none⟩ (.int .i64 z)) :=
 h.set hi (by omega) rfl rfl (fun _ => rfl) (fun j aa ac hj => by simp only [Dm.cells, Dm.setP, zaw, if_neg hj]) (fun aa ac => by simp only [Dm.cells, Dm.setP, zaw, if_pos]; rfl)
theorem DY.setPfirst {K : Nat -> Prop} {w : World} {p : Nat} {S : Dm} {g : Nat} {cap : Nat} (h : DY K w p S (some ⟨g, 0, none⟩) cap) {i : Nat} (hi : i < S.n) (z : Int) :
  DY K (w.setCell ⟨g, i * 22 + 15, none⟩ (.int .i64 z)) p (S.setP (zaw S.pl i { S.pl i with first := z })) (some ⟨g, 0, none⟩) cap /\ Kept K w (w.setCell ⟨g, i * 22 + 15, none⟩ (.int .i64 z)) :=
 h.set hi (by omega) rfl rfl (fun _ => rfl) (fun j aa ac hj => by simp only [Dm.cells, Dm.setP, zaw, if_neg hj]) (fun aa ac => by simp only [Dm.cells, Dm.setP, zaw, if_pos]; rfl)
theorem DY.setPlast {K : Nat -> Prop} {w : World} {p : Nat} {S : Dm} {g : Nat} {cap : Nat} (h : DY K w p S (some ⟨g, 0, none⟩) cap) {i : Nat} (hi : i < S.n) (z : Int) :
  DY K (w.setCell ⟨g, i * 22 + 16, none⟩ (.int .i64 z)) p (S.setP (zaw S.pl i { S.pl i with last := z })) (some ⟨g, 0, none⟩) cap /\ Kept K w (w.setCell ⟨g, i * 22 + 16, none⟩ (.int .i64 z)) :=
 h.set hi (by omega) rfl rfl (fun _ => rfl) (fun j aa ac hj => by simp only [Dm.cells, Dm.setP, zaw, if_neg hj]) (fun aa ac => by simp only [Dm.cells, Dm.setP, zaw, if_pos]; rfl)
theorem DY.setGup {K : Nat -> Prop} {w : World} {p : Nat} {S : Dm} {g : Nat} {cap : Nat} (h : DY K w p S (some ⟨g, 0, none⟩) cap) {i : Nat} (hi : i < S.n) (z : Int) :
  DY K (w.setCell ⟨g, i * 22 + 17, none⟩ (.int .i64 z)) p (S.setG (zaw S.gf i { S.gf i with up := z })) (some ⟨g, 0, none⟩) cap /\ Kept K w (w.setCell ⟨g, i * 22 + 17, none⟩ (.int .i64 z)) :=
 h.set hi (by omega) rfl rfl (fun _ => rfl) (fun j aa ac hj => by simp only [Dm.cells, Dm.setG, zaw, if_neg hj]) (fun aa ac => by simp only [Dm.cells, Dm.setG, zaw, if_pos]; rfl)
theorem DY.setGprev {K : Nat -> Prop} {w : World} {p : Nat} {S : Dm} {g : Nat} {cap : Nat} (h : DY K w p S (some ⟨g, 0, none⟩) cap) {i : Nat} (hi : i < S.n) (z : Int) :
  DY K (w.setCell ⟨g, i * 22 + 18, none⟩ (.int .i64 z)) p (S.setG (zaw S.gf i { S.gf i with prev := z })) (some ⟨g, 0, none⟩) cap /\ Kept K w (w.setCell ⟨g, i * 22 + 18, none⟩ (.int .i64 z)) :=
 h.set hi (by omega) rfl rfl (fun _ => rfl) (fun j aa ac hj => by simp only [Dm.cells, Dm.setG, zaw, if_neg hj]) (fun aa ac => by simp only [Dm.cells, Dm.setG, zaw, if_pos]; rfl)
theorem DY.setGnext {K : Nat -> Prop} {w : World} {p : Nat} {S : Dm} {g : Nat} {cap : Nat} (h : DY K w p S (some ⟨g, 0, none⟩) cap) {i : Nat} (hi : i < S.n) (z : Int) :
  DY K (w.setCell ⟨g, i * 22 + 19, none⟩ (.int .i64 z)) p (S.setG (zaw S.gf i { S.gf i with next := z })) (some ⟨g, 0, none⟩) cap /\ Kept K w (w.setCell ⟨g, i * 22 + 19, none⟩ (.int .i64 z)) :=
 h.set hi (by omega) rfl rfl (fun _ => rfl) (fun j aa ac hj => by simp only [Dm.cells, Dm.setG, zaw, if_neg hj]) (fun aa ac => by simp only [Dm.cells, Dm.setG, zaw, if_pos]; rfl)
theorem DY.setGfirst {K : Nat -> Prop} {w : World} {p : Nat} {S : Dm} {g : Nat} {cap : Nat} (h : DY K w p S (some ⟨g, 0, none⟩) cap) {i : Nat} (hi : i < S.n) (z : Int) :
  DY K (w.setCell ⟨g, i * 22 + 20, none⟩ (.int .i64 z)) p (S.setG (zaw S.gf i { S.gf i with first := z })) (some ⟨g, 0, none⟩) cap /\ Kept K w (w.setCell ⟨g, i * 22 + 20, none⟩ (.int .i64 z)) :=
 h.set hi (by omega) rfl rfl (fun _ => rfl) (fun j aa ac hj => by simp only [Dm.cells, Dm.setG, zaw, if_neg hj]) (fun aa ac => by simp only [Dm.cells, Dm.setG, zaw, if_pos]; rfl)
theorem DY.setGlast {K : Nat -> Prop} {w : World} {p : Nat} {S : Dm} {g : Nat} {cap : Nat} (h : DY K w p S (some ⟨g, 0, none⟩) cap) {i : Nat} (hi : i < S.n) (z : Int) :
  DY K (w.setCell ⟨g, i * 22 + 21, none⟩ (.int .i64 z)) p (S.setG (zaw S.gf i { S.gf i with last := z })) (some ⟨g, 0, none⟩) cap /\ Kept K w (w.setCell ⟨g, i * 22 + 21, none⟩ (.int .i64 z)) :=
 h.set hi (by omega) rfl rfl (fun _ => rfl) (fun j aa ac hj => by simp only [Dm.cells, Dm.setG, zaw, if_neg hj]) (fun aa ac => by simp only [Dm.cells, Dm.setG, zaw, if_pos]; rfl)
def Dm.setN (S : Dm) (i : Nat) (x : Nd) : Dm := { S with nd := fun k => if k = i then x else S.nd k }
theorem DY.setNshadow {K : Nat -> Prop} {w : World} {p : Nat} {S : Dm} {g : Nat} {cap : Nat} (h : DY K w p S (some ⟨g, 0, none⟩) cap) {i : Nat} (hi : i < S.n) (z : Int) :
  DY K (w.setCell ⟨g, i * 22 + 9, none⟩ (.int .i64 z)) p (S.setN i { S.nd i with shadow := z }) (some ⟨g, 0, none⟩) cap /\ Kept K w (w.setCell ⟨g, i * 22 + 9, none⟩ (.int .i64 z)) :=
 h.set hi (by omega) rfl rfl (fun j => by simp only [Dm.setN]; split <;> simp_all) (fun j aa ac hj => by simp only [Dm.cells, Dm.setN, if_neg hj]) (fun aa ac => by simp only [Dm.cells, Dm.setN, if_pos]; rfl)
theorem DY.setNhost {K : Nat -> Prop} {w : World} {p : Nat} {S : Dm} {g : Nat} {cap : Nat} (h : DY K w p S (some ⟨g, 0, none⟩) cap) {i : Nat} (hi : i < S.n) (z : Int) :
  DY K (w.setCell ⟨g, i * 22 + 10, none⟩ (.int .i64 z)) p (S.setN i { S.nd i with host := z }) (some ⟨g, 0, none⟩) cap /\ Kept K w (w.setCell ⟨g, i * 22 + 10, none⟩ (.int .i64 z)) :=
 h.set hi (by omega) rfl rfl (fun j => by simp only [Dm.setN]; split <;> simp_all) (fun j aa ac hj => by simp only [Dm.cells, Dm.setN, if_neg hj]) (fun aa ac => by simp only [Dm.cells, Dm.setN, if_pos]; rfl)
theorem DY.setNcontent {K : Nat -> Prop} {w : World} {p : Nat} {S : Dm} {g : Nat} {cap : Nat} (h : DY K w p S (some ⟨g, 0, none⟩) cap) {i : Nat} (hi : i < S.n) (z : Int) :
  DY K (w.setCell ⟨g, i * 22 + 11, none⟩ (.int .i64 z)) p (S.setN i { S.nd i with content := z }) (some ⟨g, 0, none⟩) cap /\ Kept K w (w.setCell ⟨g, i * 22 + 11, none⟩ (.int .i64 z)) :=
 h.set hi (by omega) rfl rfl (fun j => by simp only [Dm.setN]; split <;> simp_all) (fun j aa ac hj => by simp only [Dm.cells, Dm.setN, if_neg hj]) (fun aa ac => by simp only [Dm.cells, Dm.setN, if_pos]; rfl)
theorem DY.setNdata {K : Nat -> Prop} {w : World} {p : Nat} {S : Dm} {g : Nat} {cap : Nat} (h : DY K w p S (some ⟨g, 0, none⟩) cap) {i : Nat} (hi : i < S.n) (z : List UInt8) :
  DY K (w.setCell ⟨g, i * 22 + 2, none⟩ (sv z)) p (S.setN i { S.nd i with data := z }) (some ⟨g, 0, none⟩) cap /\ Kept K w (w.setCell ⟨g, i * 22 + 2, none⟩ (sv z)) :=
 h.set hi (by omega) rfl rfl (fun j => by simp only [Dm.setN]; split <;> simp_all) (fun j aa ac hj => by simp only [Dm.cells, Dm.setN, if_neg hj]) (fun aa ac => by simp only [Dm.cells, Dm.setN, if_pos]; rfl)
end
section
open Go.RowKit
theorem zdv (p g n cap i : Nat) (w : World) (hc : w.cell? ⟨p, 1, none⟩ = some (.slice (some ⟨g, 0, none⟩) n cap)) (hi : i < n) (hn : n <= 1000000000) :
  Calls Tryz.prog 187 #[.pointer (some ⟨p, 0, none⟩), .int .i64 (i : Int)] w fun e w' => e = .returned (.pointer (some ⟨g, i * 22 + 12, none⟩)) /\ w' = w := by
 go_enter Tryz.func187, Tryz.ntmps187
 go_wp2
 go_ret
 exact ⟨rfl, rfl⟩
theorem zdh (p g n cap i : Nat) (w : World) (hc : w.cell? ⟨p, 1, none⟩ = some (.slice (some ⟨g, 0, none⟩) n cap)) (hi : i < n) (hn : n <= 1000000000) :
  Calls Tryz.prog 238 #[.pointer (some ⟨p, 0, none⟩), .int .i64 (i : Int)] w fun e w' => e = .returned (.pointer (some ⟨g, i * 22 + 17, none⟩)) /\ w' = w := by
 go_enter Tryz.func238, Tryz.ntmps238
 go_wp2
 go_ret
 exact ⟨rfl, rfl⟩
abbrev chP (p : Nat) : Value := .func (.func 187) #[.pointer (some ⟨p, 0, none⟩)] #[]
abbrev chG (p : Nat) : Value := .func (.func 238) #[.pointer (some ⟨p, 0, none⟩)] #[]
theorem zei (p : Nat) (w : World) : Calls Tryz.prog 112 #[.pointer (some ⟨p, 0, none⟩)] w fun e w' => e = .returned (chP p) /\ w' = w := by
 go_enter Tryz.func112, Tryz.ntmps112
 go_wp2
 go_ret
 exact ⟨rfl, rfl⟩
theorem zhh (p : Nat) (w : World) : Calls Tryz.prog 180 #[.pointer (some ⟨p, 0, none⟩)] w fun e w' => e = .returned (chG p) /\ w' = w := by
 go_enter Tryz.func180, Tryz.ntmps180
 go_wp2
 go_ret
 exact ⟨rfl, rfl⟩
theorem zcs (p g n cap i : Nat) (w : World) (hc : w.cell? ⟨p, 1, none⟩ = some (.slice (some ⟨g, 0, none⟩) n cap)) (hi : i < n) (hn : n <= 1000000000) :
  Calls Tryz.prog 110 #[.pointer (some ⟨p, 0, none⟩), .int .i64 (i : Int)] w fun e w' => e = .returned (.pointer (some ⟨g, i * 22, none⟩)) /\ w' = w := by
 go_enter Tryz.func110, Tryz.ntmps110
 go_wp2
 go_ret
 exact ⟨rfl, rfl⟩
theorem zfk (p n cap : Nat) (ga : Option Addr) (i : Int) (w : World) (hc : w.cell? ⟨p, 1, none⟩ = some (.slice ga n cap)) (hi : i < 0 \/ (n : Int) <= i) (hn : n <= 1000000000) :
  Calls Tryz.prog 110 #[.pointer (some ⟨p, 0, none⟩), .int .i64 i] w fun e w' => e = .returned (.pointer none) /\ w' = w := by
 rcases hi with hi | hi
 ·have h1 : decide (i < 0) = true := decide_eq_true hi
  go_enter Tryz.func110, Tryz.ntmps110
  go_wp2
  go_ret
  exact ⟨rfl, rfl⟩
 ·have h1 : decide (i < 0) = false := decide_eq_false (by omega)
  have h2 : decide (i >= (n : Int)) = true := decide_eq_true (by omega)
  go_enter Tryz.func110, Tryz.ntmps110
  go_wp2
  go_ret
  exact ⟨rfl, rfl⟩
end
section
open Go.RowKit
theorem WF.prev_or {n : Nat} {L : Nat -> Lk} {R : Nat -> List Nat} (h : WF n L R) {i u : Nat} (hi : i < n) (hu : (L i).up = (u : Int)) :
  u < n /\ ((L i).prev = -1 \/ ∃ m : Nat, m < n /\ m ≠ i /\ (L i).prev = (m : Int)) /\ ((L i).next = -1 \/ ∃ m : Nat, m < n /\ m ≠ i /\ (L i).next = (m : Int)) := by
 rcases h.inn i hi with h0 | ⟨v, hv, h1, h2⟩
 ·omega
 have : v = u := by omega
 subst this
 obtain ⟨a, b, e⟩ := zc5 h2
 obtain ⟨hp, hq⟩ := h.split hv e
 have hnd := h.nodup v hv
 have hlt := h.lt v hv
 rw [e] at hnd hlt
 have hia : i ∉ a := fun hh => (List.nodup_append.1 hnd).2.2 i hh i (List.mem_cons_self ..) rfl
 have hib : i ∉ b := (List.nodup_cons.1 (List.nodup_append.1 hnd).2.1).1
 refine ⟨hv, ?_, ?_⟩
 ·rw [hp]
  rcases ze2 a with ⟨-, e1⟩ | ⟨m, m1, e1⟩
  ·exact .inl e1
  ·exact .inr ⟨m, hlt m (List.mem_append_left _ m1), fun e => hia (e ▸ m1), e1⟩
 ·rw [hq]
  rcases zd0 b with ⟨-, e1⟩ | ⟨m, m1, e1⟩
  ·exact .inl e1
  ·exact .inr ⟨m, hlt m (List.mem_append_right _ (List.mem_cons_of_mem _ m1)), fun e => hib (e ▸ m1), e1⟩
def st1 (L : Nat -> Lk) (i : Nat) : Nat -> Lk := if (L i).prev = -1 then zaw L (L i).up.toNat { L (L i).up.toNat with first := (L i).next } else zaw L (L i).prev.toNat { L (L i).prev.toNat with next := (L i).next }
def st2 (L : Nat -> Lk) (i : Nat) : Nat -> Lk := if (L i).next = -1 then zaw L (L i).up.toNat { L (L i).up.toNat with last := (L i).prev } else zaw L (L i).next.toNat { L (L i).next.toNat with prev := (L i).prev }
theorem zau (L : Nat -> Lk) (i : Nat) (l : Lk) : zaw L i l i = l := if_pos rfl
theorem zbz (L : Nat -> Lk) (i : Nat) (a b : Lk) : zaw (zaw L i a) i b = zaw L i b := by
 funext k
 unfold zaw
 by_cases c : k = i
 ·rw [if_pos c, if_pos c]
 ·rw [if_neg c, if_neg c, if_neg c]
theorem zbj (L : Nat -> Lk) {i k : Nat} (l : Lk) (h : k ≠ i) : zaw L i l k = L k := if_neg h
theorem zll {L : Nat -> Lk} {i : Nat} (h : (L i).prev = -1 \/ ∃ m : Nat, m ≠ i /\ (L i).prev = (m : Int)) : (st1 L i i).up = (L i).up /\ (st1 L i i).prev = (L i).prev /\ (st1 L i i).next = (L i).next := by
 unfold st1
 rcases h with h | ⟨m, h1, h2⟩
 ·rw [if_pos h]
  unfold zaw
  by_cases c : i = (L i).up.toNat
  ·rw [if_pos c, <- c]; exact ⟨rfl, rfl, rfl⟩
  ·rw [if_neg c]; exact ⟨rfl, rfl, rfl⟩
 ·rw [if_neg (by omega)]
  unfold zaw
  rw [if_neg (by rw [h2, Int.toNat_natCast]; exact fun e => h1 e.symm)]
  exact ⟨rfl, rfl, rfl⟩
theorem zq4 {L : Nat -> Lk} {i : Nat} (h : (L i).next = -1 \/ ∃ m : Nat, m ≠ i /\ (L i).next = (m : Int)) : (st2 L i i).up = (L i).up /\ (st2 L i i).prev = (L i).prev /\ (st2 L i i).next = (L i).next := by
 unfold st2
 rcases h with h | ⟨m, h1, h2⟩
 ·rw [if_pos h]
  unfold zaw
  by_cases c : i = (L i).up.toNat
  ·rw [if_pos c, <- c]; exact ⟨rfl, rfl, rfl⟩
  ·rw [if_neg c]; exact ⟨rfl, rfl, rfl⟩
 ·rw [if_neg (by omega)]
  unfold zaw
  rw [if_neg (by rw [h2, Int.toNat_natCast]; exact fun e => h1 e.symm)]
  exact ⟨rfl, rfl, rfl⟩
theorem zpl {L : Nat -> Lk} {i u : Nat} (hu : (L i).up = (u : Int)) (h1 : (L i).prev = -1 \/ ∃ m : Nat, m ≠ i /\ (L i).prev = (m : Int)) (h2 : (L i).next = -1 \/ ∃ m : Nat, m ≠ i /\ (L i).next = (m : Int)) (l : Lk) (hl : l = { st2 (st1 L i) i i with up := -1, prev := -1, next := -1 }) :
  zaw (st2 (st1 L i) i) i l = zct L i := by
 subst hl
 obtain ⟨a1, a2, a3⟩ := zll h1
 have h2' : (st1 L i i).next = -1 \/ ∃ m : Nat, m ≠ i /\ (st1 L i i).next = (m : Int) := by rw [a3]; exact h2
 obtain ⟨b1, b2, b3⟩ := zq4 h2'
 unfold zct
 rw [if_neg (by omega)]
 funext k
 have key : ∀ k, st2 (st1 L i) i k = ⟨(L k).up, if (k : Int) = (L i).next then (L i).prev else (L k).prev, if (k : Int) = (L i).prev then (L i).next else (L k).next, if (k : Int) = (L i).up /\ (L i).prev = -1 then (L i).next else (L k).first, if (k : Int) = (L i).up /\ (L i).next = -1 then (L i).prev else (L k).last⟩ := by
  intro k
  unfold st2
  rw [a1, a2, a3]
  unfold st1
  rw [hu, Int.toNat_natCast]
  rcases h1 with h1 | ⟨m1, c1, h1⟩
  ·rw [if_pos h1, h1]
   rcases h2 with h2 | ⟨m2, c2, h2⟩
   ·rw [if_pos h2, h2]
    unfold zaw
    by_cases c : k = u
    ·subst c; simp
    ·have : ¬ ((k : Int) = (u : Int)) := by omega
     have e1 : ¬ ((k : Int) = -1) := by omega
     simp [*]
   ·have n2 : ¬ (L i).next = -1 := by omega
    simp only [if_neg n2]
    rw [h2, Int.toNat_natCast]
    unfold zaw
    have e1 : ¬ ((k : Int) = -1) := by omega
    have e2 : ¬ ((m2 : Int) = -1) := by omega
    by_cases c : k = u
    ·subst c
     by_cases c' : k = m2
     ·subst c'; simp [*]
     ·have : ¬ ((k : Int) = (m2 : Int)) := by omega
      simp [*]
    ·have hku : ¬ ((k : Int) = (u : Int)) := by omega
     by_cases c' : k = m2
     ·subst c'; simp [*]
     ·have : ¬ ((k : Int) = (m2 : Int)) := by omega
      simp [*]
  ·have n1 : ¬ (L i).prev = -1 := by omega
   simp only [if_neg n1]
   rw [h1, Int.toNat_natCast]
   have e1 : ¬ ((k : Int) = -1) := by omega
   have e3 : ¬ ((m1 : Int) = -1) := by omega
   rcases h2 with h2 | ⟨m2, c2, h2⟩
   ·rw [if_pos h2, h2]
    unfold zaw
    by_cases c : k = u
    ·subst c
     by_cases c' : k = m1
     ·subst c'; simp [*]
     ·have : ¬ ((k : Int) = (m1 : Int)) := by omega
      simp [*]
    ·have hku : ¬ ((k : Int) = (u : Int)) := by omega
     by_cases c' : k = m1
     ·subst c'; simp [*]
     ·have : ¬ ((k : Int) = (m1 : Int)) := by omega
      simp [*]
   ·have n2 : ¬ (L i).next = -1 := by omega
    simp only [if_neg n2]
    rw [h2, Int.toNat_natCast]
    unfold zaw
    have e2 : ¬ ((m2 : Int) = -1) := by omega
    by_cases c : k = m2
    ·subst c
     by_cases c' : k = m1
     ·subst c'; simp [*]
     ·have : ¬ ((k : Int) = (m1 : Int)) := by omega
      simp [*]
    ·have hkm : ¬ ((k : Int) = (m2 : Int)) := by omega
     by_cases c' : k = m1
     ·subst c'; simp [*]
     ·have : ¬ ((k : Int) = (m1 : Int)) := by omega
      simp [*]
 unfold zaw
 by_cases c : k = i
 ·subst c
  rw [if_pos rfl, key k]
  simp
 ·rw [if_neg c, key k]
  simp [c]
theorem DY.pcell {K : Nat -> Prop} {w : World} {p : Nat} {S : Dm} {g : Nat} {cap : Nat} (h : DY K w p S (some ⟨g, 0, none⟩) cap) {i : Nat} (hi : i < S.n) :
  w.cell? ⟨g, i * 22 + 12, none⟩ = some (.int .i64 (S.pl i).up) /\ w.cell? ⟨g, i * 22 + 13, none⟩ = some (.int .i64 (S.pl i).prev) /\ w.cell? ⟨g, i * 22 + 14, none⟩ = some (.int .i64 (S.pl i).next) /\ w.cell? ⟨g, i * 22 + 15, none⟩ = some (.int .i64 (S.pl i).first) /\ w.cell? ⟨g, i * 22 + 16, none⟩ = some (.int .i64 (S.pl i).last) := by
 obtain ⟨aa, ac, hc, -⟩ := h.cell hi
 exact ⟨hc 12 _ rfl, hc 13 _ rfl, hc 14 _ rfl, hc 15 _ rfl, hc 16 _ rfl⟩
theorem DY.drew {K : Nat -> Prop} {w : World} {p : Nat} {S : Dm} {ga : Option Addr} {cap : Nat} (h : DY K w p S ga cap) : DY K w.drew p S ga cap := h.kept (Kept.refl _ w).drew
theorem zjt (K : Nat -> Prop) (p g cap i : Nat) (S : Dm) (R : Nat -> List Nat) (w : World) (h : DY K w p S (some ⟨g, 0, none⟩) cap) (hW : WF S.n S.pl R) (hi : i < S.n) (hn : S.n <= 1000000000) :
  Calls Tryz.prog 171 #[chP p, .int .i64 (i : Int)] w fun e w' => e = .returned (.tuple #[]) /\ DY K w' p (S.setP (zct S.pl i)) (some ⟨g, 0, none⟩) cap /\ Kept K w w' := by
 obtain ⟨n, hne⟩ : ∃ n, S.n = n := ⟨_, rfl⟩
 have r1 := fun (j : Nat) (hj : j < n) (X : World) (hX : X.cell? ⟨p, 1, none⟩ = some (.slice (some ⟨g, 0, none⟩) n cap)) => zdv p g n cap j X hX hj (by omega)
 have hc := h.c1
 obtain ⟨c0, c1, c2, -, -⟩ := h.pcell hi
 have HY : Hid (DY K w p S (some ⟨g, 0, none⟩) cap) := h
 have HW : Hid (WF S.n S.pl R) := hW
 have HNE : Hid (S.n = n) := hne
 rw [hne] at hc hi
 rcases hW.inn i (by omega) with hup | ⟨u, hu, hup, -⟩
 ·rw [hup] at c0
  have e : zct S.pl i = S.pl := if_pos hup
  rw [e]
  clear h hW hne hn hup e c1 c2
  have r := r1 i hi w hc
  clear r1
  go_enter Tryz.func171, Tryz.ntmps171
  go_wp2_with (go_at_call 187; refine r.mono ?_; rintro e w' ⟨rfl, rfl⟩)
  refine bodyPost_ret (results_none rfl _ _ _) rfl ?_
  exact ⟨rfl, HY.out, Kept.refl _ _⟩
 obtain ⟨hu', hpv, hnx⟩ := hW.prev_or (by omega) hup
 have HP : Hid ((S.pl i).prev = -1 \/ ∃ m : Nat, m < S.n /\ m ≠ i /\ (S.pl i).prev = (m : Int)) := hpv
 have HN : Hid ((S.pl i).next = -1 \/ ∃ m : Nat, m < S.n /\ m ≠ i /\ (S.pl i).next = (m : Int)) := hnx
 have HU : Hid ((S.pl i).up = (u : Int)) := hup
 have h1' : (S.pl i).prev = -1 \/ ∃ m : Nat, m ≠ i /\ (S.pl i).prev = (m : Int) := by
  rcases hpv with h | ⟨m, _, h1, h2⟩
  ·exact .inl h
  ·exact .inr ⟨m, h1, h2⟩
 have h2' : (S.pl i).next = -1 \/ ∃ m : Nat, m ≠ i /\ (S.pl i).next = (m : Int) := by
  rcases hnx with h | ⟨m, _, h1, h2⟩
  ·exact .inl h
  ·exact .inr ⟨m, h1, h2⟩
 have H1 : Hid ((S.pl i).prev = -1 \/ ∃ m : Nat, m ≠ i /\ (S.pl i).prev = (m : Int)) := h1'
 have H2 : Hid ((S.pl i).next = -1 \/ ∃ m : Nat, m ≠ i /\ (S.pl i).next = (m : Int)) := h2'
 rw [hup] at c0
 rw [hne] at hu'
 have hgp := h.gk.2.1
 have hu0 : ((u : Int) == -1) = false := by simp
 have ri := r1 i hi
 have ru := r1 u hu'
 obtain ⟨pv, hpe⟩ : ∃ z, (S.pl i).prev = z := ⟨_, rfl⟩
 obtain ⟨nx, hxe⟩ : ∃ z, (S.pl i).next = z := ⟨_, rfl⟩
 rw [hpe] at c1
 rw [hxe] at c2
 have HPE : Hid ((S.pl i).prev = pv) := hpe
 have HXE : Hid ((S.pl i).next = nx) := hxe
 clear h hW hne hn hup hu hpv hnx hpe hxe h1' h2'
 go_enter Tryz.func171, Tryz.ntmps171
 go_upto_if 17 with (go_at_call 187; refine (ri _ hc).mono ?_; rintro e w' ⟨rfl, rfl⟩)
 go_cut [] (fun wx => DY K wx p (S.setP (st1 S.pl i)) (some ⟨g, 0, none⟩) cap /\ Kept K w' wx)
 case first =>
  by_cases hp1 : pv = -1
  ·subst hp1
   have e : st1 S.pl i = zaw S.pl u { S.pl u with first := nx } := by
    unfold st1
    rw [if_pos HPE.out, HU.out, Int.toNat_natCast, HXE.out]
   obtain ⟨-, -, -, t3, -⟩ := HY.out.pcell (i := u) (by rw [HNE.out]; exact hu')
   have f3 := HY.out.fg (u * 22 + 15)
   have D := HY.out.setPfirst (i := u) (by rw [HNE.out]; exact hu') nx
   rw [<- e] at D
   have HD : Hid (DY K (w'.setCell ⟨g, u * 22 + 15, none⟩ (.int .i64 nx)) p (S.setP (st1 S.pl i)) (some ⟨g, 0, none⟩) cap) := D.1
   have HK : Hid (Kept K w' (w'.setCell ⟨g, u * 22 + 15, none⟩ (.int .i64 nx))) := D.2
   clear D e HW HP HN HU H1 H2 HPE HXE HNE
   go_wp2_with fail
   go_region_with (go_at_call 187; refine (ru _ ?_).mono ?_; exact hc; rintro e w2 ⟨rfl, rfl⟩)
   all_goals
    go_wp2_with fail
    go_meet
    case rel => exact ⟨HD.out.drew, HK.out.drew⟩
  ·rcases HP.out with e0 | ⟨m, hm, hmi, e0⟩
   ·exact absurd (HPE.out.symm.trans e0) hp1
   have e1 : pv = (m : Int) := HPE.out.symm.trans e0
   subst e1
   rw [HNE.out] at hm
   have e : st1 S.pl i = zaw S.pl m { S.pl m with next := nx } := by
    unfold st1
    rw [if_neg (by rw [e0]; exact hp1), e0, Int.toNat_natCast, HXE.out]
   obtain ⟨-, -, t2, -, -⟩ := HY.out.pcell (i := m) (by rw [HNE.out]; exact hm)
   have f2 := HY.out.fg (m * 22 + 14)
   have D := HY.out.setPnext (i := m) (by rw [HNE.out]; exact hm) nx
   rw [<- e] at D
   have HD : Hid (DY K (w'.setCell ⟨g, m * 22 + 14, none⟩ (.int .i64 nx)) p (S.setP (st1 S.pl i)) (some ⟨g, 0, none⟩) cap) := D.1
   have HK : Hid (Kept K w' (w'.setCell ⟨g, m * 22 + 14, none⟩ (.int .i64 nx))) := D.2
   have rm := r1 m hm
   have hm0 : ((m : Int) == -1) = false := by simp
   clear D e e0 HW HP HN HU H1 H2 HPE HXE HNE hp1
   go_wp2_with fail
   go_region_with (go_at_call 187; refine (rm _ ?_).mono ?_; exact hc; rintro e w2 ⟨rfl, rfl⟩)
   all_goals
    go_wp2_with fail
    go_meet
    case rel => exact ⟨HD.out.drew, HK.out.drew⟩
 case rest =>
  obtain ⟨hY1, hK1⟩ := hcut
  obtain ⟨a1, a2, a3⟩ := zll H1.out
  have hiS : i < S.n := by rw [HNE.out]; exact hi
  obtain ⟨d0, d1, d2, -, -⟩ := hY1.pcell (i := i) hiS
  have hc' := hY1.c1
  replace d0 : wc.cell? ⟨g, i * 22 + 12, none⟩ = some (.int .i64 (u : Int)) := by rw [<- HU.out, <- a1]; exact d0
  replace d1 : wc.cell? ⟨g, i * 22 + 13, none⟩ = some (.int .i64 pv) := by rw [<- HPE.out, <- a2]; exact d1
  replace d2 : wc.cell? ⟨g, i * 22 + 14, none⟩ = some (.int .i64 nx) := by rw [<- HXE.out, <- a3]; exact d2
  replace hc' : wc.cell? ⟨p, 1, none⟩ = some (.slice (some ⟨g, 0, none⟩) n cap) := by rw [<- HNE.out]; exact hc'
  have HY1 : Hid (DY K wc p (S.setP (st1 S.pl i)) (some ⟨g, 0, none⟩) cap) := hY1
  have HK1 : Hid (Kept K w' wc) := hK1
  have HA : Hid ((st1 S.pl i i).up = (u : Int) /\ (st1 S.pl i i).prev = pv /\ (st1 S.pl i i).next = nx) := ⟨a1.trans HU.out, a2.trans HPE.out, a3.trans HXE.out⟩
  clear hY1 hK1 a1 a2 a3 c0 c1 c2 hc HY
  go_upto_if 46 with fail
  go_cut [] (fun wx => DY K wx p (S.setP (st2 (st1 S.pl i) i)) (some ⟨g, 0, none⟩) cap /\ Kept K w' wx)
  case first =>
   by_cases hp1 : nx = -1
   ·subst hp1
    have e : st2 (st1 S.pl i) i = zaw (st1 S.pl i) u { st1 S.pl i u with last := pv } := by
     unfold st2
     rw [if_pos HA.out.2.2, HA.out.1, Int.toNat_natCast, HA.out.2.1]
    obtain ⟨-, -, -, -, t3⟩ := HY1.out.pcell (i := u) (by show u < S.n; rw [HNE.out]; exact hu')
    have f3 := HY1.out.fg (u * 22 + 16)
    have D := HY1.out.setPlast (i := u) (by show u < S.n; rw [HNE.out]; exact hu') pv
    have D1 : DY K (wc.setCell ⟨g, u * 22 + 16, none⟩ (.int .i64 pv)) p (S.setP (zaw (st1 S.pl i) u { st1 S.pl i u with last := pv })) (some ⟨g, 0, none⟩) cap := D.1
    rw [<- e] at D1
    have HD : Hid (DY K (wc.setCell ⟨g, u * 22 + 16, none⟩ (.int .i64 pv)) p (S.setP (st2 (st1 S.pl i) i)) (some ⟨g, 0, none⟩) cap) := D1
    have HK : Hid (Kept K w' (wc.setCell ⟨g, u * 22 + 16, none⟩ (.int .i64 pv))) := HK1.out.trans D.2
    clear D D1 e HW HP HN HU H1 H2 HPE HXE HNE HA
    go_wp2_with fail
    go_region_with (go_at_call 187; refine (ru _ ?_).mono ?_; exact hc'; rintro e w2 ⟨rfl, rfl⟩)
    all_goals
     go_wp2_with fail
     go_meet
     case rel => exact ⟨HD.out.drew, HK.out.drew⟩
   ·rcases HN.out with e0 | ⟨m, hm, hmi, e0⟩
    ·exact absurd (HXE.out.symm.trans e0) hp1
    have e1 : nx = (m : Int) := HXE.out.symm.trans e0
    subst e1
    rw [HNE.out] at hm
    have e : st2 (st1 S.pl i) i = zaw (st1 S.pl i) m { st1 S.pl i m with prev := pv } := by
     unfold st2
     rw [if_neg (by rw [HA.out.2.2]; exact hp1), HA.out.2.2, Int.toNat_natCast, HA.out.2.1]
    obtain ⟨-, t3, -, -, -⟩ := HY1.out.pcell (i := m) (by show m < S.n; rw [HNE.out]; exact hm)
    have f3 := HY1.out.fg (m * 22 + 13)
    have D := HY1.out.setPprev (i := m) (by show m < S.n; rw [HNE.out]; exact hm) pv
    have D1 : DY K (wc.setCell ⟨g, m * 22 + 13, none⟩ (.int .i64 pv)) p (S.setP (zaw (st1 S.pl i) m { st1 S.pl i m with prev := pv })) (some ⟨g, 0, none⟩) cap := D.1
    rw [<- e] at D1
    have HD : Hid (DY K (wc.setCell ⟨g, m * 22 + 13, none⟩ (.int .i64 pv)) p (S.setP (st2 (st1 S.pl i) i)) (some ⟨g, 0, none⟩) cap) := D1
    have HK : Hid (Kept K w' (wc.setCell ⟨g, m * 22 + 13, none⟩ (.int .i64 pv))) := HK1.out.trans D.2
    have rm := r1 m hm
    have hm0 : ((m : Int) == -1) = false := by simp
    clear D D1 e e0 HW HP HN HU H1 H2 HPE HXE HNE HA hp1
    go_wp2_with fail
    go_region_with (go_at_call 187; refine (rm _ ?_).mono ?_; exact hc'; rintro e w2 ⟨rfl, rfl⟩)
    all_goals
     go_wp2_with fail
     go_meet
     case rel => exact ⟨HD.out.drew, HK.out.drew⟩
  case rest =>
   obtain ⟨hY2, hK2⟩ := hcut
   obtain ⟨e0, e1, e2, -, -⟩ := hY2.pcell (i := i) hiS
   have f0 := hY2.fg (i * 22 + 12)
   have f1 := hY2.fg (i * 22 + 13)
   have f2 := hY2.fg (i * 22 + 14)
   have D1 := hY2.setPup (i := i) hiS (-1)
   have D2 := D1.1.setPprev (i := i) hiS (-1)
   have D3 := D2.1.setPnext (i := i) hiS (-1)
   have HK3 : Hid (Kept K w' (((wc.setCell ⟨g, i * 22 + 12, none⟩ (.int .i64 (-1))).setCell ⟨g, i * 22 + 13, none⟩ (.int .i64 (-1))).setCell ⟨g, i * 22 + 14, none⟩ (.int .i64 (-1)))) := hK2.trans (D1.2.trans (D2.2.trans D3.2))
   have HD3 := D3.1
   have eo : zaw (zaw (zaw (st2 (st1 S.pl i) i) i { st2 (st1 S.pl i) i i with up := -1 }) i { zaw (st2 (st1 S.pl i) i) i { st2 (st1 S.pl i) i i with up := -1 } i with prev := -1 }) i { zaw (zaw (st2 (st1 S.pl i) i) i { st2 (st1 S.pl i) i i with up := -1 }) i { zaw (st2 (st1 S.pl i) i) i { st2 (st1 S.pl i) i i with up := -1 } i with prev := -1 } i with next := -1 } = zct S.pl i := by
    rw [zbz, zbz, zau, zau]
    exact zpl HU.out H1.out H2.out _ rfl
   replace HD3 : Hid (DY K (((wc.setCell ⟨g, i * 22 + 12, none⟩ (.int .i64 (-1))).setCell ⟨g, i * 22 + 13, none⟩ (.int .i64 (-1))).setCell ⟨g, i * 22 + 14, none⟩ (.int .i64 (-1))) p (S.setP (zct S.pl i)) (some ⟨g, 0, none⟩) cap) := by
    rw [<- eo]
    exact HD3
   clear D1 D2 D3 hY2 hK2 eo HW HP HN HU H1 H2 HPE HXE HNE HA HY1 HK1 hc' d0 d1 d2
   go_wp2
   go_end0
   exact ⟨rfl, HD3.out, HK3.out⟩
end
end Go.Proofs.YtfeinppedejlpaaGreat
