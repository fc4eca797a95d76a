/-
 The document's own document in memory (RX): nodes in one row of 14 cells each, what is given in a row of rows; attributes and kids in rows that are never written again.; The document's own document: what is given changes; other names for the same document.; The document's own small calls: ints, attr
-/
import Derived.Test.YtfeinppedejlpaaGreatNB12
import Derived.Test.YtfeinppedejlpaaGreatNB09
import Derived.Test.YtfeinppedejlpaaGreatNB08
namespace Go.Proofs.YtfeinppedejlpaaGreat
variable {J : Nat -> Prop}
set_option linter.unusedVariables false
set_option maxRecDepth 100000
set_option maxHeartbeats 8000000
section
open Go.RowKit
def zce (x : Nd) (up : Int) (aa : Option Addr) (ac : Nat) (ka : Option Addr) (kn kc : Nat) : List Value :=
 [.int .u8 (x.kind : Int), sv x.name, sv x.data, .slice aa x.attrs.length ac, .int .i64 up, .slice ka kn kc, .int .i64 x.shadow, .int .i64 x.host, .int .i64 x.content, .bool x.fl.a, .bool x.fl.b, .bool x.fl.c, .bool x.fl.d, .bool x.fl.e]
theorem zln (x : Nd) (up : Int) (aa : Option Addr) (ac : Nat) (ka : Option Addr) (kn kc : Nat) : ∀ u ∈ zce x up aa ac ka kn kc, u.oneCell' = true := by
 intro u hu
 simp only [zce, List.mem_cons, List.not_mem_nil, or_false] at hu
 rcases hu with rfl | rfl | rfl | rfl | rfl | rfl | rfl | rfl | rfl | rfl | rfl | rfl | rfl | rfl <;> rfl
def za1 (M : Dm) (R : Nat -> List Nat) (i : Nat) (aa : Option Addr) (ac : Nat) (ka : Option Addr) (kc : Nat) : List Value := zce (M.nd i) (M.pl i).up aa ac ka (R i).length kc
theorem zgj (M : Dm) (R : Nat -> List Nat) (i : Nat) (aa : Option Addr) (ac : Nat) (ka : Option Addr) (kc : Nat) : (za1 M R i aa ac ka kc).length = 14 := rfl
def Zan (F : Nat -> Prop) (w : World) (ka : Option Addr) (l : List Nat) : Prop :=
 ∀ j (h : j < l.length), ∃ g o, ka = some ⟨g, o, none⟩ /\ F g /\ w.cell? ⟨g, o + j, none⟩ = some (iv l[j])
theorem Zan.nil (F : Nat -> Prop) (w : World) (ka : Option Addr) : Zan F w ka [] := fun _ h => absurd h (Nat.not_lt_zero _)
theorem Zan.to {F F' : Nat -> Prop} {w w' : World} {ka : Option Addr} {l : List Nat} (h : Zan F w ka l) (hF : ∀ g, F g -> F' g) (hb : ∀ g, F g -> w'.heap[g]? = w.heap[g]?) : Zan F' w' ka l := fun j hj => by
 obtain ⟨g, o, h1, h2, h3⟩ := h j hj
 exact ⟨g, o, h1, hF g h2, by rw [World.cell?_of_block (w := w) (a := ⟨g, o + j, none⟩) (hb g h2)]; exact h3⟩
theorem Zag.to {F F' : Nat -> Prop} {w w' : World} {aa : Option Addr} {l : List Atr} (h : Zag F w aa l) (hF : ∀ g, F g -> F' g) (hb : ∀ g, F g -> w'.heap[g]? = w.heap[g]?) : Zag F' w' aa l := fun j hj => by
 obtain ⟨g, o, h1, h2, h3, h4⟩ := h j hj
 exact ⟨g, o, h1, hF g h2, by rw [World.cell?_of_block (w := w) (a := ⟨g, o + j * 2, none⟩) (hb g h2)]; exact h3, by rw [World.cell?_of_block (w := w) (a := ⟨g, o + j * 2 + 1, none⟩) (hb g h2)]; exact h4⟩
theorem Zac.intsAt {K F : Nat -> Prop} {w : World} {ao : Option Addr} {n cap : Nat} {l : List Nat} (h : Zac K w 3 1 ao n cap (ivs l)) (hF : ∀ g, zap ao g -> F g) : Zan F w ao l := fun j hj => by
 obtain ⟨g, e, hc⟩ := h.cell (j := j) (u := iv l[j]) (by rw [ivs, List.getElem?_map, List.getElem?_eq_getElem hj]; rfl)
 exact ⟨g, 0, e, hF g (by rw [e]; rfl), by rw [Nat.zero_add]; exact hc⟩
structure RA where
 na : Option Addr
 nc : Nat
 qa : Option Addr
 qc : Nat
 aa : Nat -> Option Addr
 ac : Nat -> Nat
 ka : Nat -> Option Addr
 kc : Nat -> Nat
 ga : Nat -> Option Addr
 gc : Nat -> Nat
abbrev TT : Nat -> Prop := fun _ => True
def RA.bad (K J : Nat -> Prop) (p n : Nat) (A : RA) (g : Nat) : Prop := (K g /\ J g) \/ g = p \/ zap A.na g \/ zap A.qa g \/ ∃ i, i < n /\ zap (A.ga i) g
structure RYg (K J : Nat -> Prop) (w : World) (p : Nat) (M : Dm) (R G : Nat -> List Nat) (A : RA) (m : Nat) : Prop where
 lt : ∀ k, K k -> k < w.heap.size
 pk : ¬ K p
 blk : w.heap[p]? = some (.cells #[.int .i64 (M.limit : Int), .slice A.na M.n A.nc, .slice A.qa m A.qc] 97 (0, 0))
 nown : ∃ xs, Zac (fun k => K k \/ k = p) w 58 14 A.na M.n A.nc xs /\ ∀ i, i < M.n -> ∀ f u, (za1 M R i (A.aa i) (A.ac i) (A.ka i) (A.kc i))[f]? = some u -> xs[i * 14 + f]? = some u
 qown : ∃ ys, Zac (fun k => K k \/ k = p \/ zap A.na k) w 33 1 A.qa m A.qc ys /\ ∀ i, i < m -> ys[i]? = some (.slice (A.ga i) (G i).length (A.gc i))
 gown : ∀ i, i < m -> Zac (fun k => K k \/ k = p \/ zap A.na k \/ zap A.qa k) w 3 1 (A.ga i) (G i).length (A.gc i) (ivs (G i))
 gsep : ∀ i j, i < m -> j < m -> i ≠ j -> ∀ g, zap (A.ga i) g -> ¬ zap (A.ga j) g
 ats : ∀ i, i < M.n -> Zag (fun g => g < w.heap.size /\ ¬ A.bad K J p m g) w (A.aa i) (M.nd i).attrs
 acl : ∀ i, i < M.n -> (M.nd i).attrs.length <= A.ac i
 kid : ∀ i, i < M.n -> Zan (fun g => g < w.heap.size /\ ¬ A.bad K J p m g) w (A.ka i) (R i)
 kcl : ∀ i, i < M.n -> (R i).length <= A.kc i
abbrev RY (K J : Nat -> Prop) (w : World) (p : Nat) (M : Dm) (R G : Nat -> List Nat) (A : RA) : Prop := RYg K J w p M R G A M.n
def RX (K J : Nat -> Prop) (w : World) (p : Nat) (M : Dm) (R G : Nat -> List Nat) : Prop := ∃ A, RY K J w p M R G A
section
variable {K K' : Nat -> Prop} {w w' : World} {p : Nat} {M : Dm} {R G : Nat -> List Nat} {A : RA}
theorem RY.plt (h : RY K J w p M R G A) : p < w.heap.size := zad h.blk
theorem RY.c0 (h : RY K J w p M R G A) : w.cell? ⟨p, 0, none⟩ = some (.int .i64 (M.limit : Int)) := by rw [zaa h.blk]; rfl
theorem RY.c1 (h : RY K J w p M R G A) : w.cell? ⟨p, 1, none⟩ = some (.slice A.na M.n A.nc) := by rw [zaa h.blk]; rfl
theorem RY.c2 (h : RY K J w p M R G A) : w.cell? ⟨p, 2, none⟩ = some (.slice A.qa M.n A.qc) := by rw [zaa h.blk]; rfl
theorem Zac.at0 {e : TypeId} {z : Nat} {ao : Option Addr} {n cap : Nat} {xs : List Value} (h : Zac K w e z ao n cap xs) (h0 : 0 < n) : ∃ g, ao = some ⟨g, 0, none⟩ /\ ¬ K g /\ g < w.heap.size := by
 obtain ⟨h1, h2, h3, h4⟩ := h
 rcases h4 with ⟨_, r2⟩ | ⟨g, cur, r1, r2, r3, r4⟩
 ·omega
 ·exact ⟨g, r1, r2, zad r3⟩
theorem Zac.froz {e : TypeId} {z : Nat} {g n cap : Nat} {xs : List Value} (h : Zac K w e z (some ⟨g, 0, none⟩) n cap xs) (i : Nat) : w.frozen? ⟨g, i, none⟩ = false := by
 obtain ⟨h1, h2, h3, h4⟩ := h
 rcases h4 with ⟨r1, _⟩ | ⟨g', cur, r1, r2, r3, r4⟩
 ·cases r1
 ·injection r1 with r1
  injection r1 with r1
  subst r1
  exact zao r3 i
theorem RY.nat (h : RY K J w p M R G A) (h0 : 0 < M.n) : ∃ g, A.na = some ⟨g, 0, none⟩ /\ ¬ K g /\ g ≠ p /\ g < w.heap.size := by
 obtain ⟨xs, ho, _⟩ := h.nown
 obtain ⟨g, e, hk, hl⟩ := ho.at0 h0
 exact ⟨g, e, fun hh => hk (.inl hh), fun hh => hk (.inr hh), hl⟩
theorem RY.qat (h : RY K J w p M R G A) (h0 : 0 < M.n) : ∃ g, A.qa = some ⟨g, 0, none⟩ /\ ¬ K g /\ g ≠ p /\ g < w.heap.size := by
 obtain ⟨ys, ho, _⟩ := h.qown
 obtain ⟨g, e, hk, hl⟩ := ho.at0 h0
 exact ⟨g, e, fun hh => hk (.inl hh), fun hh => hk (.inr (.inl hh)), hl⟩
theorem RY.cell {g : Nat} (h : RY K J w p M R G A) (hg : A.na = some ⟨g, 0, none⟩) {i : Nat} (hi : i < M.n) (f : Nat) (u : Value) (hf : (za1 M R i (A.aa i) (A.ac i) (A.ka i) (A.kc i))[f]? = some u) : w.cell? ⟨g, i * 14 + f, none⟩ = some u := by
 obtain ⟨xs, ho, hx⟩ := h.nown
 obtain ⟨g', e, hc⟩ := ho.cell (hx i hi f u hf)
 rw [hg] at e
 injection e with e
 injection e with e
 subst e
 exact hc
theorem RY.fg {g : Nat} (h : RY K J w p M R G A) (hg : A.na = some ⟨g, 0, none⟩) (i : Nat) : w.frozen? ⟨g, i, none⟩ = false := by
 obtain ⟨xs, ho, _⟩ := h.nown
 rw [hg] at ho
 exact ho.froz i
theorem RY.qcell {g : Nat} (h : RY K J w p M R G A) (hg : A.qa = some ⟨g, 0, none⟩) {i : Nat} (hi : i < M.n) : w.cell? ⟨g, i, none⟩ = some (.slice (A.ga i) (G i).length (A.gc i)) := by
 obtain ⟨ys, ho, hy⟩ := h.qown
 obtain ⟨g', e, hc⟩ := ho.cell (hy i hi)
 rw [hg] at e
 injection e with e
 injection e with e
 subst e
 exact hc
theorem RY.qfg {g : Nat} (h : RY K J w p M R G A) (hg : A.qa = some ⟨g, 0, none⟩) (i : Nat) : w.frozen? ⟨g, i, none⟩ = false := by
 obtain ⟨ys, ho, _⟩ := h.qown
 rw [hg] at ho
 exact ho.froz i
theorem RY.more (h : RY K J w p M R G A) (hk : Kept (fun k => k < w.heap.size) w w') (hs : ∀ k, K' k -> K k \/ w.heap.size <= k) (hl : ∀ k, K' k -> k < w'.heap.size) : RY K' J w' p M R G A := by
 have hp := h.plt
 have bad : ∀ g, g < w.heap.size -> ¬ A.bad K J p M.n g -> ¬ A.bad K' J p M.n g := fun g hg hb hb' => by
  rcases hb' with h1 | h1
  ·rcases hs g h1.1 with h2 | h2
   ·exact hb (.inl ⟨h2, h1.2⟩)
   ·omega
  ·exact hb (.inr h1)
 obtain ⟨xs, ho, hx⟩ := h.nown
 obtain ⟨ys, hq, hy⟩ := h.qown
 refine ⟨hl, fun hh => ?_, by rw [hk.block p hp]; exact h.blk, ⟨xs, Zac.to ho (fun g hg hh => ?_) (fun g hg => hk.block g (ho.out hg).2), hx⟩, ⟨ys, Zac.to hq (fun g hg hh => ?_) (fun g hg => hk.block g (hq.out hg).2), hy⟩,
  fun i hi => Zac.to (h.gown i hi) (fun g hg hh => ?_) (fun g hg => hk.block g ((h.gown i hi).out hg).2), h.gsep, fun i hi => (h.ats i hi).to (fun g hg => ⟨ltl hg.1 hk.size, bad g hg.1 hg.2⟩) (fun g hg => hk.block g hg.1), h.acl,
  fun i hi => (h.kid i hi).to (fun g hg => ⟨ltl hg.1 hk.size, bad g hg.1 hg.2⟩) (fun g hg => hk.block g hg.1), h.kcl⟩
 ·rcases hs p hh with h1 | h1
  ·exact h.pk h1
  ·omega
 ·have := (ho.out hg).2
  rcases hh with hh | hh
  ·rcases hs g hh with h1 | h1
   ·exact (ho.out hg).1 (.inl h1)
   ·omega
  ·exact (ho.out hg).1 (.inr hh)
 ·have := (hq.out hg).2
  rcases hh with hh | hh
  ·rcases hs g hh with h1 | h1
   ·exact (hq.out hg).1 (.inl h1)
   ·omega
  ·exact (hq.out hg).1 (.inr hh)
 ·have := ((h.gown i hi).out hg).2
  rcases hh with hh | hh
  ·rcases hs g hh with h1 | h1
   ·exact ((h.gown i hi).out hg).1 (.inl h1)
   ·omega
  ·exact ((h.gown i hi).out hg).1 (.inr hh)
theorem RY.kept (h : RY K J w p M R G A) (hk : Kept (fun k => k < w.heap.size) w w') : RY K J w' p M R G A := h.more hk (fun k hk => .inl hk) (fun k hk' => ltl (h.lt k hk') hk.size)
theorem RX.more (h : RX K J w p M R G) (hk : Kept (fun k => k < w.heap.size) w w') (hs : ∀ k, K' k -> K k \/ w.heap.size <= k) (hl : ∀ k, K' k -> k < w'.heap.size) : RX K' J w' p M R G := by
 obtain ⟨A, h⟩ := h
 exact ⟨A, h.more hk hs hl⟩
theorem RX.kept (h : RX K J w p M R G) (hk : Kept (fun k => k < w.heap.size) w w') : RX K J w' p M R G := by
 obtain ⟨A, h⟩ := h
 exact ⟨A, h.kept hk⟩
theorem RX.lt (h : RX K J w p M R G) : ∀ k, K k -> k < w.heap.size := by
 obtain ⟨A, h⟩ := h
 exact h.lt
theorem RA.bad_fresh {n g : Nat} {w0 : World} {M0 : Dm} {R0 G0 : Nat -> List Nat} (h : RY K J w0 p M0 R0 G0 A) (hn : n = M0.n) (hg : w0.heap.size <= g) : ¬ A.bad K J p n g := by
 subst hn
 intro hb
 rcases hb with h1 | h1 | h1 | h1 | ⟨i, hi, h1⟩
 ·have := h.lt g h1.1; omega
 ·have := h.plt; omega
 ·obtain ⟨xs, ho, _⟩ := h.nown
  have := (ho.out h1).2; omega
 ·obtain ⟨ys, hq, _⟩ := h.qown
  have := (hq.out h1).2; omega
 ·have := ((h.gown i hi).out h1).2; omega
theorem RY.store {w0 : World} {M' : Dm} {R' : Nat -> List Nat} {A' : RA} {g : Nat} (h0 : RY K J w0 p M R G A) (hk0 : Kept (fun k => k < w0.heap.size) w0 w) (hg : A.na = some ⟨g, 0, none⟩) {i f : Nat} (hi : i < M.n) (hf : f < 14) {v : Value}
  (e1 : M'.limit = M.limit) (e2 : M'.n = M.n) (a1 : A'.na = A.na) (a2 : A'.nc = A.nc) (a3 : A'.qa = A.qa) (a4 : A'.qc = A.qc) (a5 : A'.ga = A.ga) (a6 : A'.gc = A.gc)
  (hc : ∀ j, j ≠ i -> za1 M' R' j (A'.aa j) (A'.ac j) (A'.ka j) (A'.kc j) = za1 M R j (A.aa j) (A.ac j) (A.ka j) (A.kc j)) (hd : za1 M' R' i (A'.aa i) (A'.ac i) (A'.ka i) (A'.kc i) = (za1 M R i (A.aa i) (A.ac i) (A.ka i) (A.kc i)).set f v)
  (hat : ∀ j, j < M.n -> (A'.aa j = A.aa j /\ A'.ac j = A.ac j /\ (M'.nd j).attrs = (M.nd j).attrs) \/ (Zag (fun g => w0.heap.size <= g /\ g < w.heap.size) w (A'.aa j) (M'.nd j).attrs /\ (M'.nd j).attrs.length <= A'.ac j))
  (hki : ∀ j, j < M.n -> (A'.ka j = A.ka j /\ A'.kc j = A.kc j /\ R' j = R j) \/ (Zan (fun g => w0.heap.size <= g /\ g < w.heap.size) w (A'.ka j) (R' j) /\ (R' j).length <= A'.kc j)) :
  RY K J (w.setCell ⟨g, i * 14 + f, none⟩ v) p M' R' G A' /\ Kept K w (w.setCell ⟨g, i * 14 + f, none⟩ v) := by
 have h := h0.kept hk0
 obtain ⟨xs, ho, hx⟩ := h.nown
 obtain ⟨ys, hq, hy⟩ := h.qown
 have hgo : zap A.na g := by rw [hg]; rfl
 have gK : ¬ K g := fun hh => (ho.out hgo).1 (.inl hh)
 have gp : g ≠ p := fun hh => (ho.out hgo).1 (.inr hh)
 have gl := (ho.out hgo).2
 have gold : g < w0.heap.size := by
  obtain ⟨xs0, ho0, _⟩ := h0.nown
  exact (ho0.out hgo).2
 have kK : Kept K w (w.setCell ⟨g, i * 14 + f, none⟩ v) := (Kept.refl K w).setCell (p := ⟨g, i * 14 + f, none⟩) gK v
 have kG : Kept (fun k => k ≠ g) w (w.setCell ⟨g, i * 14 + f, none⟩ v) := (Kept.refl _ w).setCell (p := ⟨g, i * 14 + f, none⟩) (fun h => h rfl) v
 have badE : ∀ x, A'.bad K J p M'.n x ↔ A.bad K J p M.n x := fun x => by unfold RA.bad; rw [a1, a3, a5, e2]
 have gbad : A.bad K J p M.n g := .inr (.inr (.inl hgo))
 refine ⟨⟨fun k hk => ltl (h.lt k hk) kK.size, h.pk, ?_, ⟨xs.set (i * 14 + f) v, ?_, ?_⟩, ⟨ys, ?_, ?_⟩, fun j hj => ?_, fun a b ha hb => by rw [e2] at ha hb; rw [a5]; exact h.gsep a b ha hb, fun j hj => ?_, fun j hj => ?_, fun j hj => ?_, fun j hj => ?_⟩, kK⟩
 ·rw [kG.block p (fun e => gp e.symm), e1, e2, a1, a2, a3, a4]; exact h.blk
 ·obtain ⟨o1, o2, o3, o4⟩ := ho
  rw [e2, a1, a2]
  refine ⟨by rw [List.length_set]; exact o1, o2, o3, ?_⟩
  rcases o4 with ⟨r1, _⟩ | ⟨g', cur, r1, r2, r3, r4, r5⟩
  ·rw [hg] at r1; cases r1
  ·rw [hg] at r1
   injection r1 with r1
   injection r1 with r1
   subst r1
   refine .inr ⟨g, _, hg, r2, zai r3 _ v, by simp [r4], ?_⟩
   rw [Array.toList_setIfInBounds, <- r5, List.take_set]
 ·intro j hj f' u hu
  rw [e2] at hj
  have hf' : f' < 14 := by
   rcases Nat.lt_or_ge f' 14 with hh | hh
   ·exact hh
   ·rw [List.getElem?_eq_none (by rw [zgj]; exact hh)] at hu; cases hu
  by_cases c : j = i
  ·subst c
   rw [hd] at hu
   by_cases c2 : f' = f
   ·subst c2
    have hl : j * 14 + f' < xs.length := by rw [ho.1]; have := Nat.mul_le_mul_right 14 hi; omega
    rw [List.getElem?_set_self (by rw [zgj]; exact hf')] at hu
    rw [List.getElem?_set_self hl]
    exact hu
   ·rw [List.getElem?_set_ne (by omega)] at hu
    rw [List.getElem?_set_ne (by omega)]
    exact hx j hj f' u hu
  ·rw [hc j c] at hu
   rw [List.getElem?_set_ne (by omega)]
   exact hx j hj f' u hu
 ·rw [e2, a1, a3, a4]
  refine Zac.to hq (fun x hx' => (hq.out hx').1) (fun x hx' => kG.block x fun e => ?_)
  subst e
  exact (hq.out hx').1 (.inr (.inr hgo))
 ·intro j hj
  rw [e2] at hj
  rw [a5, a6]
  exact hy j hj
 ·rw [e2] at hj
  rw [a1, a3, a5, a6]
  refine Zac.to (h.gown j hj) (fun x hx' => ((h.gown j hj).out hx').1) (fun x hx' => kG.block x fun e => ?_)
  subst e
  exact ((h.gown j hj).out hx').1 (.inr (.inr (.inl hgo)))
 ·rw [e2] at hj
  rcases hat j hj with ⟨q1, q2, q3⟩ | ⟨q1, q2⟩
  ·rw [q1, q3]
   exact (h.ats j hj).to (fun x hx' => ⟨ltl hx'.1 kK.size, fun hb => hx'.2 ((badE x).1 hb)⟩) (fun x hx' => kG.block x fun e => hx'.2 (e ▸ gbad))
  ·exact q1.to (fun x hx' => ⟨ltl hx'.2 kK.size, fun hb => RA.bad_fresh h0 rfl hx'.1 ((badE x).1 hb)⟩) (fun x hx' => kG.block x fun e => by omega)
 ·rw [e2] at hj
  rcases hat j hj with ⟨q1, q2, q3⟩ | ⟨q1, q2⟩
  ·rw [q2, q3]; exact h.acl j hj
  ·exact q2
 ·rw [e2] at hj
  rcases hki j hj with ⟨q1, q2, q3⟩ | ⟨q1, q2⟩
  ·rw [q1, q3]
   exact (h.kid j hj).to (fun x hx' => ⟨ltl hx'.1 kK.size, fun hb => hx'.2 ((badE x).1 hb)⟩) (fun x hx' => kG.block x fun e => hx'.2 (e ▸ gbad))
  ·exact q1.to (fun x hx' => ⟨ltl hx'.2 kK.size, fun hb => RA.bad_fresh h0 rfl hx'.1 ((badE x).1 hb)⟩) (fun x hx' => kG.block x fun e => by omega)
 ·rw [e2] at hj
  rcases hki j hj with ⟨q1, q2, q3⟩ | ⟨q1, q2⟩
  ·rw [q2, q3]; exact h.kcl j hj
  ·exact q2
theorem RY.setN {M' : Dm} {g : Nat} (h : RY K J w p M R G A) (hg : A.na = some ⟨g, 0, none⟩) {i f : Nat} (hi : i < M.n) (hf : f < 14) {v : Value} (e1 : M'.limit = M.limit) (e2 : M'.n = M.n) (e3 : ∀ j, (M'.nd j).attrs = (M.nd j).attrs)
  (hc : ∀ j aa ac ka kc, j ≠ i -> za1 M' R j aa ac ka kc = za1 M R j aa ac ka kc) (hd : ∀ aa ac ka kc, za1 M' R i aa ac ka kc = (za1 M R i aa ac ka kc).set f v) :
  RY K J (w.setCell ⟨g, i * 14 + f, none⟩ v) p M' R G A /\ Kept K w (w.setCell ⟨g, i * 14 + f, none⟩ v) :=
 h.store (Kept.refl _ w) hg hi hf e1 e2 rfl rfl rfl rfl rfl rfl (fun j hj => hc j _ _ _ _ hj) (hd _ _ _ _) (fun j _ => .inl ⟨rfl, rfl, e3 j⟩) (fun j _ => .inl ⟨rfl, rfl, rfl⟩)
def RA.setK (A : RA) (i : Nat) (ka : Option Addr) (kc : Nat) : RA := { A with ka := fun k => if k = i then ka else A.ka k, kc := fun k => if k = i then kc else A.kc k }
def RA.setA (A : RA) (i : Nat) (aa : Option Addr) (ac : Nat) : RA := { A with aa := fun k => if k = i then aa else A.aa k, ac := fun k => if k = i then ac else A.ac k }
theorem RY.setKids {w0 : World} {g : Nat} (h0 : RY K J w0 p M R G A) (hk0 : Kept (fun k => k < w0.heap.size) w0 w) (hg : A.na = some ⟨g, 0, none⟩) {i : Nat} (hi : i < M.n) (l : List Nat) (ka : Option Addr) (kc : Nat) (hl : Zan (fun g => w0.heap.size <= g /\ g < w.heap.size) w ka l) (hlc : l.length <= kc) :
  RY K J (w.setCell ⟨g, i * 14 + 5, none⟩ (.slice ka l.length kc)) p M (zax R i l) G (A.setK i ka kc) /\ Kept K w (w.setCell ⟨g, i * 14 + 5, none⟩ (.slice ka l.length kc)) := by
 refine h0.store hk0 hg hi (by omega) rfl rfl rfl rfl rfl rfl rfl rfl (fun j hj => ?_) ?_ (fun j _ => .inl ⟨rfl, rfl, rfl⟩) (fun j hj => ?_)
 ·simp only [za1, RA.setK, if_neg hj, zaj _ _ hj]
 ·simp only [za1, RA.setK, if_pos, zaf]; rfl
 ·by_cases c : j = i
  ·subst c
   refine .inr ?_
   simp only [RA.setK, if_pos, zaf]
   exact ⟨hl, hlc⟩
  ·refine .inl ?_
   simp only [RA.setK, if_neg c, zaj _ _ c]
   exact ⟨trivial, trivial, trivial⟩
theorem RY.setAts {w0 : World} {g : Nat} (h0 : RY K J w0 p M R G A) (hk0 : Kept (fun k => k < w0.heap.size) w0 w) (hg : A.na = some ⟨g, 0, none⟩) {i : Nat} (hi : i < M.n) (l : List Atr) (aa : Option Addr) (ac : Nat) (hl : Zag (fun g => w0.heap.size <= g /\ g < w.heap.size) w aa l) (hlc : l.length <= ac) :
  RY K J (w.setCell ⟨g, i * 14 + 3, none⟩ (.slice aa l.length ac)) p (M.setN i { M.nd i with attrs := l }) R G (A.setA i aa ac) /\ Kept K w (w.setCell ⟨g, i * 14 + 3, none⟩ (.slice aa l.length ac)) := by
 refine h0.store hk0 hg hi (by omega) rfl rfl rfl rfl rfl rfl rfl rfl (fun j hj => ?_) ?_ (fun j hj => ?_) (fun j _ => .inl ⟨rfl, rfl, rfl⟩)
 ·simp only [za1, RA.setA, if_neg hj, Dm.setN]
 ·simp only [za1, RA.setA, if_pos, Dm.setN]; rfl
 ·by_cases c : j = i
  ·subst c
   refine .inr ?_
   simp only [RA.setA, if_pos, Dm.setN]
   exact ⟨hl, hlc⟩
  ·refine .inl ?_
   simp only [RA.setA, if_neg c, Dm.setN]
   exact ⟨trivial, trivial, trivial⟩
def Dm.addX (M : Dm) (x : Nd) : Dm := { M with n := M.n + 1, nd := fun k => if k = M.n then x else M.nd k, pl := zaw M.pl M.n Lk.nil, gf := zaw M.gf M.n Lk.nil }
theorem zox (M : Dm) (x : Nd) : M.add x = M.addX x.new := rfl
def RA.addX (A : RA) (n : Nat) (na : Option Addr) (nc : Nat) (aa : Option Addr) (ac : Nat) : RA := { A with na := na, nc := nc, aa := fun k => if k = n then aa else A.aa k, ac := fun k => if k = n then ac else A.ac k, ka := fun k => if k = n then none else A.ka k, kc := fun k => if k = n then 0 else A.kc k, ga := fun k => if k = n then none else A.ga k, gc := fun k => if k = n then 0 else A.gc k }
theorem zqs : (Tryz.prog.info? 58).map (fun i => (i.zero, i.size, i.bytes)) = some (some (.agg #[.int .u8 0, .string ⟨#[]⟩, .string ⟨#[]⟩, .slice none 0 0, .int .i64 0, .slice none 0 0, .int .i64 0, .int .i64 0, .int .i64 0, .bool false, .bool false, .bool false, .bool false, .bool false]), 14, 128) := by kernel_rfl
theorem zr4 : (Tryz.prog.info? 33).map (fun i => (i.zero, i.size, i.bytes)) = some (some (.slice none 0 0), 1, 24) := by kernel_rfl
theorem RY.appN {w0 : World} (h : RY K J w0 p M R G A) (hk : Kept (fun k => k < w0.heap.size) w0 w) (hn : M.n <= 1000000) (x : Nd) (aa : Option Addr) (ac : Nat) (hxa : Zag (fun g => w0.heap.size <= g /\ g < w.heap.size) w aa x.attrs) (hac : x.attrs.length <= ac) :
  ∃ na' nc' w', (Builtin.append_ #[94, 94] 94 #[.slice A.na M.n A.nc, .slice (some ⟨w.heap.size, 0, none⟩) 1 1]).run Tryz.prog (w.alloc (.cells (zce x (-1) aa ac none 0 0).toArray 58)) = .ok (.slice na' (M.n + 1) nc') w' /\
   w'.cell? ⟨p, 1, none⟩ = some (.slice A.na M.n A.nc) /\ w'.frozen? ⟨p, 1, none⟩ = false /\ RYg K J (w'.setCell ⟨p, 1, none⟩ (.slice na' (M.n + 1) nc')) p (M.addX x) (zax R M.n []) (zax G M.n []) (A.addX M.n na' nc' aa ac) M.n /\ Kept K w0 (w'.setCell ⟨p, 1, none⟩ (.slice na' (M.n + 1) nc')) := by
 obtain ⟨xs, ho, hx⟩ := h.nown
 obtain ⟨ys, hq, hy⟩ := h.qown
 have hp0 := h.plt
 obtain ⟨inf, hi, hip⟩ := Option.map_eq_some_iff.1 zqs
 have hz0 : inf.zero = _ := congrArg (·.1) hip
 have hsz : inf.size = 14 := congrArg (·.2.1) hip
 have hby : inf.bytes = 128 := congrArg (·.2.2) hip
 obtain ⟨W, hW⟩ : ∃ W, w.alloc (.cells (zce x (-1) aa ac none 0 0).toArray 58) = W := ⟨_, rfl⟩
 rw [hW]
 have hsrc : Src Tryz.prog 14 94 (.slice (some ⟨w.heap.size, 0, none⟩) 1 1) 1 (zce x (-1) aa ac none 0 0) W := by
  rw [<- hW]
  exact zec w w.heap.size (zce x (-1) aa ac none 0 0) _ Tryz.underlying94 (zln _ _ _ _ _ _ _) rfl rfl
 have kW : Kept (fun k => k < w.heap.size) w W := by rw [<- hW]; exact (Kept.refl _ w).alloc (fun _ h => h) _
 have k0W : Kept (fun k => k < w0.heap.size) w0 W := kt hk kW
 have hoW : Zac (fun k => k < W.heap.size /\ ¬ zap A.na k) W 58 14 A.na M.n A.nc xs := Zac.to ho (fun g hg hh => hh.2 hg) (fun g hg => k0W.block g (ho.out hg).2)
 obtain ⟨na', nc', w', hrun, ho', hk'⟩ := zjw (P := Tryz.prog) W 94 94 94 58 inf _ Tryz.underlying94 hi hz0 14 hsz rfl (by omega) hoW _ _ hsrc (fun k hk => hk.1) (by omega)
 have hpg : ¬ zap A.na p := fun hb => (ho.out hb).1 (.inr rfl)
 have hpW : p < W.heap.size := ltl hp0 k0W.size
 have hb' : w'.heap[p]? = some (.cells #[.int .i64 (M.limit : Int), .slice A.na M.n A.nc, .slice A.qa M.n A.qc] 97 (0, 0)) := by rw [hk'.block p ⟨hpW, hpg⟩, k0W.block p hp0]; exact h.blk
 have hnew : ∀ g, zap na' g -> zap A.na g \/ W.heap.size <= g := fun g hg => by
  have := (Zac.out ho' hg).1
  by_cases hb : zap A.na g
  ·exact .inl hb
  ·exact .inr (Nat.le_of_not_lt fun hl => this ⟨hl, hb⟩)
 have hpg' : ¬ zap na' p := fun hb => by
  rcases hnew p hb with hh | hh
  ·exact hpg hh
  ·omega
 have kS : ∀ k, k < W.heap.size -> ¬ zap A.na k -> k ≠ p -> (w'.setCell ⟨p, 1, none⟩ (.slice na' (M.n + 1) nc')).heap[k]? = W.heap[k]? := fun k hl hg hp => by
  rw [Below.heap_setCell _ _ _ _ (fun e => hp e)]
  exact hk'.block k ⟨hl, hg⟩
 have kS0 : ∀ k, k < w0.heap.size -> ¬ zap A.na k -> k ≠ p -> (w'.setCell ⟨p, 1, none⟩ (.slice na' (M.n + 1) nc')).heap[k]? = w0.heap[k]? := fun k hl hg hp => by
  rw [kS k (ltl hl k0W.size) hg hp, k0W.block k hl]
 have ksz : W.heap.size <= (w'.setCell ⟨p, 1, none⟩ (.slice na' (M.n + 1) nc')).heap.size := by
  have : (w'.setCell ⟨p, 1, none⟩ (.slice na' (M.n + 1) nc')).heap.size = w'.heap.size := by simp
  rw [this]
  exact hk'.size
 have kK : Kept K w0 (w'.setCell ⟨p, 1, none⟩ (.slice na' (M.n + 1) nc')) := by
  refine ((k0W.mono h.lt).trans (hk'.mono fun k hK => ⟨ltl (h.lt k hK) k0W.size, fun hb => (ho.out hb).1 (.inl hK)⟩)).setCell (p := ⟨p, 1, none⟩) h.pk _
 have gaE : ∀ i, i < M.n -> (A.addX M.n na' nc' aa ac).ga i = A.ga i := fun i hi => if_neg (by omega)
 have bad0 : ∀ g, g < w0.heap.size -> ¬ A.bad K J p M.n g -> ¬ (A.addX M.n na' nc' aa ac).bad K J p M.n g := fun g hl hb hb' => by
  rcases hb' with h1 | h1 | h1 | h1 | ⟨i, hi, h1⟩
  ·exact hb (.inl h1)
  ·exact hb (.inr (.inl h1))
  ·rcases hnew g h1 with h2 | h2
   ·exact hb (.inr (.inr (.inl h2)))
   ·have := k0W.size; omega
  ·exact hb (.inr (.inr (.inr (.inl h1))))
  ·rw [gaE i hi] at h1
   exact hb (.inr (.inr (.inr (.inr ⟨i, hi, h1⟩))))
 have badN : ∀ g, w0.heap.size <= g -> g < w.heap.size -> ¬ (A.addX M.n na' nc' aa ac).bad K J p M.n g := fun g hg hl hb' => by
  rcases hb' with h1 | h1 | h1 | h1 | ⟨i, hi, h1⟩
  ·have := h.lt g h1.1; omega
  ·omega
  ·rcases hnew g h1 with h2 | h2
   ·have := (ho.out h2).2; omega
   ·have := kW.size; omega
  ·have := (hq.out h1).2; omega
  ·rw [gaE i hi] at h1
   have := ((h.gown i hi).out h1).2; omega
 refine ⟨na', nc', w', hrun, by rw [zaa hb']; rfl, zao hb' _, ⟨fun k hK => ltl (h.lt k hK) kK.size, h.pk, ?_, ⟨xs ++ zce x (-1) aa ac none 0 0, ?_, ?_⟩, ⟨ys, ?_, ?_⟩, ?_, ?_, ?_, ?_, ?_, ?_⟩, kK⟩
 ·rw [zai hb']; rfl
 ·refine Zac.to ho' (fun g hg hh => ?_) (fun g hg => ?_)
  ·rcases hh with hh | hh
   ·rcases hnew g hg with hq' | hq'
    ·exact (ho.out hq').1 (.inl hh)
    ·have := h.lt g hh
     have := k0W.size
     omega
   ·subst hh; exact hpg' hg
  ·exact Below.heap_setCell _ _ _ _ (fun e => hpg' (by have e : g = p := e; rw [<- e]; exact hg))
 ·intro i hi f u hu
  have hlx : xs.length = M.n * 14 := ho.1
  by_cases c : i = M.n
  ·subst c
   have e : za1 (M.addX x) (zax R M.n []) M.n ((A.addX M.n na' nc' aa ac).aa M.n) ((A.addX M.n na' nc' aa ac).ac M.n) ((A.addX M.n na' nc' aa ac).ka M.n) ((A.addX M.n na' nc' aa ac).kc M.n) = zce x (-1) aa ac none 0 0 := by
    simp only [za1, RA.addX, Dm.addX, if_pos, zaf, zau]
    rfl
   rw [e] at hu
   rw [List.getElem?_append_right (by omega), hlx, show M.n * 14 + f - M.n * 14 = f from by omega]
   exact hu
  ·have hiS : i < M.n := by have : i < M.n + 1 := hi; omega
   have e : za1 (M.addX x) (zax R M.n []) i ((A.addX M.n na' nc' aa ac).aa i) ((A.addX M.n na' nc' aa ac).ac i) ((A.addX M.n na' nc' aa ac).ka i) ((A.addX M.n na' nc' aa ac).kc i) = za1 M R i (A.aa i) (A.ac i) (A.ka i) (A.kc i) := by
    simp only [za1, RA.addX, Dm.addX, if_neg c, zaj _ _ c, zbj _ _ c]
   rw [e] at hu
   have := hx i hiS f u hu
   rw [List.getElem?_append_left]
   ·exact this
   ·rcases Nat.lt_or_ge (i * 14 + f) xs.length with hl | hg
    ·exact hl
    ·rw [List.getElem?_eq_none hg] at this; cases this
 ·refine Zac.to hq (fun g hg hh => ?_) (fun g hg => kS0 g (hq.out hg).2 (fun hb => (hq.out hg).1 (.inr (.inr hb))) (fun e => (hq.out hg).1 (.inr (.inl e))))
  rcases hh with hh | hh | hh
  ·exact (hq.out hg).1 (.inl hh)
  ·exact (hq.out hg).1 (.inr (.inl hh))
  ·rcases hnew g hh with hh | hh
   ·exact (hq.out hg).1 (.inr (.inr hh))
   ·have := (hq.out hg).2; have := k0W.size; omega
 ·intro i hi
  have c : i ≠ M.n := by omega
  rw [zaj _ _ c]
  simp only [RA.addX, if_neg c]
  exact hy i hi
 ·intro i hi
  have c : i ≠ M.n := by omega
  rw [zaj _ _ c]
  simp only [RA.addX, if_neg c]
  have hgo := h.gown i hi
  refine Zac.to hgo (fun g hg hh => ?_) (fun g hg => kS0 g (hgo.out hg).2 (fun hb => (hgo.out hg).1 (.inr (.inr (.inl hb)))) (fun e => (hgo.out hg).1 (.inr (.inl e))))
  rcases hh with hh | hh | hh | hh
  ·exact (hgo.out hg).1 (.inl hh)
  ·exact (hgo.out hg).1 (.inr (.inl hh))
  ·rcases hnew g hh with hh | hh
   ·exact (hgo.out hg).1 (.inr (.inr (.inl hh)))
   ·have := (hgo.out hg).2; have := k0W.size; omega
  ·exact (hgo.out hg).1 (.inr (.inr (.inr hh)))
 ·intro i j hi hj hij g hg hh
  rw [gaE i hi] at hg
  rw [gaE j hj] at hh
  exact h.gsep i j hi hj hij g hg hh
 ·intro i hi
  by_cases c : i = M.n
  ·subst c
   have e : ((M.addX x).nd M.n) = x := if_pos rfl
   have e2 : (A.addX M.n na' nc' aa ac).aa M.n = aa := if_pos rfl
   rw [e, e2]
   refine hxa.to (fun g hg => ⟨?_, badN g hg.1 hg.2⟩) (fun g hg => ?_)
   ·exact ltl hg.2 (Nat.le_trans kW.size ksz)
   ·rw [kS g (ltl hg.2 kW.size) (fun hb => by have := (ho.out hb).2; omega) (fun e => by omega), kW.block g hg.2]
  ·have hiS : i < M.n := by have : i < M.n + 1 := hi; omega
   have e : ((M.addX x).nd i) = M.nd i := if_neg c
   have e2 : (A.addX M.n na' nc' aa ac).aa i = A.aa i := if_neg c
   rw [e, e2]
   exact (h.ats i hiS).to (fun g hg => ⟨ltl hg.1 kK.size, bad0 g hg.1 hg.2⟩) (fun g hg => kS0 g hg.1 (fun hb => hg.2 (.inr (.inr (.inl hb)))) (fun e => hg.2 (.inr (.inl e))))
 ·intro i hi
  by_cases c : i = M.n
  ·subst c
   have e : ((M.addX x).nd M.n) = x := if_pos rfl
   have e2 : (A.addX M.n na' nc' aa ac).ac M.n = ac := if_pos rfl
   rw [e, e2]; exact hac
  ·have hiS : i < M.n := by have : i < M.n + 1 := hi; omega
   have e : ((M.addX x).nd i) = M.nd i := if_neg c
   have e2 : (A.addX M.n na' nc' aa ac).ac i = A.ac i := if_neg c
   rw [e, e2]; exact h.acl i hiS
 ·intro i hi
  by_cases c : i = M.n
  ·subst c
   rw [zaf]; exact Zan.nil _ _ _
  ·have hiS : i < M.n := by have : i < M.n + 1 := hi; omega
   have e2 : (A.addX M.n na' nc' aa ac).ka i = A.ka i := if_neg c
   rw [zaj _ _ c, e2]
   exact (h.kid i hiS).to (fun g hg => ⟨ltl hg.1 kK.size, bad0 g hg.1 hg.2⟩) (fun g hg => kS0 g hg.1 (fun hb => hg.2 (.inr (.inr (.inl hb)))) (fun e => hg.2 (.inr (.inl e))))
 ·intro i hi
  by_cases c : i = M.n
  ·subst c
   rw [zaf]; exact Nat.zero_le _
  ·have hiS : i < M.n := by have : i < M.n + 1 := hi; omega
   have e2 : (A.addX M.n na' nc' aa ac).kc i = A.kc i := if_neg c
   rw [zaj _ _ c, e2]; exact h.kcl i hiS
theorem RYg.appQ {m : Nat} (h : RYg K J w p M R G A m) (hm : M.n = m + 1) (hn : m <= 1000000) (g0 : A.ga m = none) (g1 : A.gc m = 0) (g2 : G m = []) :
  ∃ qa' qc' w', (Builtin.append_ #[95, 95] 95 #[.slice A.qa m A.qc, .slice (some ⟨w.heap.size, 0, none⟩) 1 1]).run Tryz.prog (w.alloc (.cells #[.slice none 0 0] 33)) = .ok (.slice qa' (m + 1) qc') w' /\
   w'.cell? ⟨p, 2, none⟩ = some (.slice A.qa m A.qc) /\ w'.frozen? ⟨p, 2, none⟩ = false /\ RY K J (w'.setCell ⟨p, 2, none⟩ (.slice qa' (m + 1) qc')) p M R G { A with qa := qa', qc := qc' } /\ Kept K w (w'.setCell ⟨p, 2, none⟩ (.slice qa' (m + 1) qc')) := by
 obtain ⟨xs, ho, hx⟩ := h.nown
 obtain ⟨ys, hq, hy⟩ := h.qown
 have hp0 := zad h.blk
 obtain ⟨inf, hi, hip⟩ := Option.map_eq_some_iff.1 zr4
 have hz0 : inf.zero = _ := congrArg (·.1) hip
 have hsz : inf.size = 1 := congrArg (·.2.1) hip
 have hby : inf.bytes = 24 := congrArg (·.2.2) hip
 obtain ⟨W, hW⟩ : ∃ W, w.alloc (.cells #[.slice none 0 0] 33) = W := ⟨_, rfl⟩
 rw [hW]
 have hsrc : Src Tryz.prog 1 95 (.slice (some ⟨w.heap.size, 0, none⟩) 1 1) 1 [.slice none 0 0] W := by
  rw [<- hW]
  exact zec w w.heap.size [.slice none 0 0] _ Tryz.underlying95 (fun u hu => by rw [List.mem_singleton.1 hu]; rfl) rfl rfl
 have kW : Kept (fun k => k < w.heap.size) w W := by rw [<- hW]; exact (Kept.refl _ w).alloc (fun _ h => h) _
 have hqW : Zac (fun k => k < W.heap.size /\ ¬ zap A.qa k) W 33 1 A.qa m A.qc ys := Zac.to hq (fun g hg hh => hh.2 hg) (fun g hg => kW.block g (hq.out hg).2)
 obtain ⟨qa', qc', w', hrun, hq', hk'⟩ := zjx (P := Tryz.prog) W 95 95 95 33 inf _ Tryz.underlying95 hi hz0 1 hsz rfl (by omega) hqW _ _ hsrc (fun k hk => hk.1) (by omega)
 have hpg : ¬ zap A.qa p := fun hb => (hq.out hb).1 (.inr (.inl rfl))
 have hpW : p < W.heap.size := ltl hp0 kW.size
 have hb' : w'.heap[p]? = some (.cells #[.int .i64 (M.limit : Int), .slice A.na M.n A.nc, .slice A.qa m A.qc] 97 (0, 0)) := by rw [hk'.block p ⟨hpW, hpg⟩, kW.block p hp0]; exact h.blk
 have hnew : ∀ g, zap qa' g -> zap A.qa g \/ W.heap.size <= g := fun g hg => by
  have := (Zac.out hq' hg).1
  by_cases hb : zap A.qa g
  ·exact .inl hb
  ·exact .inr (Nat.le_of_not_lt fun hl => this ⟨hl, hb⟩)
 have hpg' : ¬ zap qa' p := fun hb => by
  rcases hnew p hb with hh | hh
  ·exact hpg hh
  ·omega
 have kS0 : ∀ k, k < w.heap.size -> ¬ zap A.qa k -> k ≠ p -> (w'.setCell ⟨p, 2, none⟩ (.slice qa' (m + 1) qc')).heap[k]? = w.heap[k]? := fun k hl hg hp => by
  rw [Below.heap_setCell _ _ _ _ (fun e => hp e), hk'.block k ⟨ltl hl kW.size, hg⟩, kW.block k hl]
 have kK : Kept K w (w'.setCell ⟨p, 2, none⟩ (.slice qa' (m + 1) qc')) := by
  refine ((kW.mono h.lt).trans (hk'.mono fun k hK => ⟨ltl (h.lt k hK) kW.size, fun hb => (hq.out hb).1 (.inl hK)⟩)).setCell (p := ⟨p, 2, none⟩) h.pk _
 have bad0 : ∀ g, g < w.heap.size -> ¬ A.bad K J p m g -> ¬ ({ A with qa := qa', qc := qc' } : RA).bad K J p M.n g := fun g hl hb hb' => by
  rcases hb' with h1 | h1 | h1 | h1 | ⟨i, hi, h1⟩
  ·exact hb (.inl h1)
  ·exact hb (.inr (.inl h1))
  ·exact hb (.inr (.inr (.inl h1)))
  ·rcases hnew g h1 with h2 | h2
   ·exact hb (.inr (.inr (.inr (.inl h2))))
   ·have := kW.size; omega
  ·by_cases c : i = m
   ·subst c
    have h1 : zap (A.ga i) g := h1
    rw [g0] at h1; cases h1
   ·exact hb (.inr (.inr (.inr (.inr ⟨i, by omega, h1⟩))))
 have low : ∀ i, i < M.n -> i = m \/ i < m := fun i hi => by omega
 refine ⟨qa', qc', w', hrun, by rw [zaa hb']; rfl, zao hb' _, ⟨fun k hK => ltl (h.lt k hK) kK.size, h.pk, ?_, ⟨xs, ?_, hx⟩, ⟨ys ++ [.slice none 0 0], ?_, ?_⟩, ?_, ?_, ?_, h.acl, ?_, h.kcl⟩, kK⟩
 ·rw [zai hb', hm]; rfl
 ·refine Zac.to ho (fun g hg => (ho.out hg).1) (fun g hg => kS0 g (ho.out hg).2 (fun hb => (hq.out hb).1 (.inr (.inr hg))) (fun e => (ho.out hg).1 (.inr e)))
 ·rw [hm]
  refine Zac.to hq' (fun g hg hh => ?_) (fun g hg => ?_)
  ·rcases hnew g hg with h1 | h1
   ·exact (hq.out h1).1 hh
   ·have := kW.size
    rcases hh with hh | hh | hh
    ·have := h.lt g hh; omega
    ·omega
    ·have := (ho.out hh).2; omega
  ·exact Below.heap_setCell _ _ _ _ (fun e => hpg' (by have e : g = p := e; rw [<- e]; exact hg))
 ·intro i hi
  rw [hm] at hi
  have hly : ys.length = m := by have := hq.1; omega
  by_cases c : i = m
  ·subst c
   rw [List.getElem?_append_right (by omega), hly, Nat.sub_self]
   show some _ = some (Value.slice (A.ga i) (G i).length (A.gc i))
   rw [g0, g1, g2]
   rfl
  ·rw [List.getElem?_append_left (by omega)]
   exact hy i (by omega)
 ·intro i hi
  rcases low i hi with c | c
  ·subst c
   show Zac _ _ 3 1 (A.ga i) (G i).length (A.gc i) (ivs (G i))
   rw [g0, g1, g2]
   exact Zac.nil _ _ _ _
  ·have hgo := h.gown i c
   refine Zac.to hgo (fun g hg hh => ?_) (fun g hg => kS0 g (hgo.out hg).2 (fun hb => (hgo.out hg).1 (.inr (.inr (.inr hb)))) (fun e => (hgo.out hg).1 (.inr (.inl e))))
   rcases hh with hh | hh | hh | hh
   ·exact (hgo.out hg).1 (.inl hh)
   ·exact (hgo.out hg).1 (.inr (.inl hh))
   ·exact (hgo.out hg).1 (.inr (.inr (.inl hh)))
   ·rcases hnew g hh with hh | hh
    ·exact (hgo.out hg).1 (.inr (.inr (.inr hh)))
    ·have := (hgo.out hg).2; have := kW.size; omega
 ·intro i j hi hj hij g hg hh
  have hg : zap (A.ga i) g := hg
  have hh : zap (A.ga j) g := hh
  rcases low i hi with c | c
  ·subst c; rw [g0] at hg; cases hg
  ·rcases low j hj with c' | c'
   ·subst c'; rw [g0] at hh; cases hh
   ·exact h.gsep i j c c' hij g hg hh
 ·intro i hi
  exact (h.ats i hi).to (fun g hg => ⟨ltl hg.1 kK.size, bad0 g hg.1 hg.2⟩) (fun g hg => kS0 g hg.1 (fun hb => hg.2 (.inr (.inr (.inr (.inl hb))))) (fun e => hg.2 (.inr (.inl e))))
 ·intro i hi
  exact (h.kid i hi).to (fun g hg => ⟨ltl hg.1 kK.size, bad0 g hg.1 hg.2⟩) (fun g hg => kS0 g hg.1 (fun hb => hg.2 (.inr (.inr (.inr (.inl hb))))) (fun e => hg.2 (.inr (.inl e))))
end
end
section
open Go.RowKit
section
variable {K K' : Nat -> Prop} {w w' : World} {p : Nat} {M : Dm} {R G : Nat -> List Nat} {A : RA}
def RA.setG (A : RA) (i : Nat) (ga : Option Addr) (gc : Nat) : RA := { A with ga := fun k => if k = i then ga else A.ga k, gc := fun k => if k = i then gc else A.gc k }
theorem RY.setG {w0 : World} {q : Nat} (h : RY K J w0 p M R G A) {i : Nat} (hk : Kept (fun k => k < w0.heap.size /\ ¬ zap (A.ga i) k) w0 w) (hqa : A.qa = some ⟨q, 0, none⟩) (hi : i < M.n) (l : List Nat) (ga : Option Addr) (gc : Nat) {K2 : Nat -> Prop}
  (ho2 : Zac K2 w 3 1 ga l.length gc (ivs l)) (hnew : ∀ g, zap ga g -> zap (A.ga i) g \/ w0.heap.size <= g) :
  RY K J (w.setCell ⟨q, i, none⟩ (.slice ga l.length gc)) p M R (zax G i l) (A.setG i ga gc) /\ Kept K w0 (w.setCell ⟨q, i, none⟩ (.slice ga l.length gc)) := by
 obtain ⟨xs, ho, hx⟩ := h.nown
 obtain ⟨ys, hq, hy⟩ := h.qown
 have hgi := h.gown i hi
 have hqo : zap A.qa q := by rw [hqa]; rfl
 have qK : ¬ K q := fun hh => (hq.out hqo).1 (.inl hh)
 have qp : q ≠ p := fun hh => (hq.out hqo).1 (.inr (.inl hh))
 have qn : ¬ zap A.na q := fun hh => (hq.out hqo).1 (.inr (.inr hh))
 have ql := (hq.out hqo).2
 have qg : ∀ j, j < M.n -> ¬ zap (A.ga j) q := fun j hj hh => ((h.gown j hj).out hh).1 (.inr (.inr (.inr hqo)))
 have kS : ∀ k, k < w0.heap.size -> ¬ zap (A.ga i) k -> k ≠ q -> (w.setCell ⟨q, i, none⟩ (.slice ga l.length gc)).heap[k]? = w0.heap[k]? := fun k hl hg hq' => by
  rw [Below.heap_setCell _ _ _ _ (fun e => hq' e)]
  exact hk.block k ⟨hl, hg⟩
 have gK : ∀ k, K k -> ¬ zap (A.ga i) k := fun k hk hg => (hgi.out hg).1 (.inl hk)
 have kK : Kept K w0 (w.setCell ⟨q, i, none⟩ (.slice ga l.length gc)) := (hk.mono fun k hK => ⟨h.lt k hK, gK k hK⟩).setCell (p := ⟨q, i, none⟩) qK _
 have gaE : ∀ j, j ≠ i -> (A.setG i ga gc).ga j = A.ga j := fun j hj => if_neg hj
 have gaI : (A.setG i ga gc).ga i = ga := if_pos rfl
 have gcI : (A.setG i ga gc).gc i = gc := if_pos rfl
 have gcE : ∀ j, j ≠ i -> (A.setG i ga gc).gc j = A.gc j := fun j hj => if_neg hj
 have bad0 : ∀ g, g < w0.heap.size -> ¬ A.bad K J p M.n g -> ¬ (A.setG i ga gc).bad K J p M.n g := fun g hl hb hb' => by
  rcases hb' with h1 | h1 | h1 | h1 | ⟨j, hj, h1⟩
  ·exact hb (.inl h1)
  ·exact hb (.inr (.inl h1))
  ·exact hb (.inr (.inr (.inl h1)))
  ·exact hb (.inr (.inr (.inr (.inl h1))))
  ·by_cases c : j = i
   ·subst c
    rw [gaI] at h1
    rcases hnew g h1 with h2 | h2
    ·exact hb (.inr (.inr (.inr (.inr ⟨j, hj, h2⟩))))
    ·omega
   ·rw [gaE j c] at h1
    exact hb (.inr (.inr (.inr (.inr ⟨j, hj, h1⟩))))
 have pi : ¬ zap (A.ga i) p := fun hh => (hgi.out hh).1 (.inr (.inl rfl))
 refine ⟨⟨fun k hK => ltl (h.lt k hK) kK.size, h.pk, ?_, ⟨xs, ?_, hx⟩, ⟨ys.set i (.slice ga l.length gc), ?_, ?_⟩, ?_, ?_, ?_, h.acl, ?_, h.kcl⟩, kK⟩
 ·rw [kS p h.plt pi (fun e => qp e.symm)]; exact h.blk
 ·refine Zac.to ho (fun g hg => (ho.out hg).1) (fun g hg => kS g (ho.out hg).2 (fun hb => (hgi.out hb).1 (.inr (.inr (.inl hg)))) (fun e => qn (e ▸ hg)))
 ·have hqw : Zac (fun k => K k \/ k = p \/ zap A.na k) w 33 1 A.qa M.n A.qc ys := Zac.to hq (fun g hg => (hq.out hg).1) (fun g hg => hk.block g ⟨(hq.out hg).2, fun hb => (hgi.out hb).1 (.inr (.inr (.inr hg)))⟩)
  obtain ⟨o1, o2, o3, o4⟩ := hqw
  refine ⟨by rw [List.length_set]; exact o1, o2, o3, ?_⟩
  rcases o4 with ⟨r1, _⟩ | ⟨g', cur, r1, r2, r3, r4, r5⟩
  ·rw [hqa] at r1; cases r1
  ·rw [hqa] at r1
   injection r1 with r1
   injection r1 with r1
   subst r1
   refine .inr ⟨q, _, hqa, r2, zai r3 _ _, by simp [r4, RA.setG], ?_⟩
   rw [Array.toList_setIfInBounds, <- r5, List.take_set]
 ·intro j hj
  have hly : ys.length = M.n := by have := hq.1; omega
  by_cases c : j = i
  ·subst c
   rw [List.getElem?_set_self (by omega), gaI, gcI, zaf]
  ·rw [List.getElem?_set_ne (by omega), gaE j c, gcE j c, zaj _ _ c]
   exact hy j hj
 ·intro j hj
  by_cases c : j = i
  ·subst c
   rw [gaI, gcI, zaf]
   refine Zac.to ho2 (fun g hg hh => ?_) (fun g hg => Below.heap_setCell _ _ _ _ (fun e => ?_))
   ·rcases hnew g hg with h1 | h1
    ·exact (hgi.out h1).1 hh
    ·rcases hh with hh | hh | hh | hh
     ·have := h.lt g hh; omega
     ·have := h.plt; omega
     ·have := (ho.out hh).2; omega
     ·have := (hq.out hh).2; omega
   ·have e : g = q := e
    subst e
    rcases hnew g hg with h1 | h1
    ·exact qg j hj h1
    ·omega
  ·rw [gaE j c, gcE j c, zaj _ _ c]
   have hgo := h.gown j hj
   exact Zac.to hgo (fun g hg => (hgo.out hg).1) (fun g hg => kS g (hgo.out hg).2 (fun hb => h.gsep j i hj hi c g hg hb) (fun e => qg j hj (e ▸ hg)))
 ·intro a b ha hb hab g hg hh
  by_cases ca : a = i
  ·subst ca
   rw [gaI] at hg
   rw [gaE b (fun e => hab e.symm)] at hh
   rcases hnew g hg with h1 | h1
   ·exact h.gsep a b ha hb hab g h1 hh
   ·have := ((h.gown b hb).out hh).2; omega
  ·rw [gaE a ca] at hg
   by_cases cb : b = i
   ·subst cb
    rw [gaI] at hh
    rcases hnew g hh with h1 | h1
    ·exact h.gsep a b ha hb hab g hg h1
    ·have := ((h.gown a ha).out hg).2; omega
   ·rw [gaE b cb] at hh
    exact h.gsep a b ha hb hab g hg hh
 ·intro j hj
  exact (h.ats j hj).to (fun g hg => ⟨ltl hg.1 kK.size, bad0 g hg.1 hg.2⟩) (fun g hg => kS g hg.1 (fun hb => hg.2 (.inr (.inr (.inr (.inr ⟨i, hi, hb⟩))))) (fun e => hg.2 (e ▸ .inr (.inr (.inr (.inl hqo))))))
 ·intro j hj
  exact (h.kid j hj).to (fun g hg => ⟨ltl hg.1 kK.size, bad0 g hg.1 hg.2⟩) (fun g hg => kS g hg.1 (fun hb => hg.2 (.inr (.inr (.inr (.inr ⟨i, hi, hb⟩))))) (fun e => hg.2 (e ▸ .inr (.inr (.inr (.inl hqo))))))
theorem RY.congr {M' : Dm} {R' G' : Nat -> List Nat} (h : RY K J w p M R G A) (e1 : M'.limit = M.limit) (e2 : M'.n = M.n) (e3 : ∀ i, i < M.n -> M'.nd i = M.nd i) (e4 : ∀ i, i < M.n -> (M'.pl i).up = (M.pl i).up) (e5 : ∀ i, i < M.n -> R' i = R i) (e6 : ∀ i, i < M.n -> G' i = G i) : RY K J w p M' R' G' A := by
 obtain ⟨xs, ho, hx⟩ := h.nown
 obtain ⟨ys, hq, hy⟩ := h.qown
 have eb : ∀ g, A.bad K J p M'.n g = A.bad K J p M.n g := fun g => by rw [e2]
 refine ⟨h.lt, h.pk, by rw [e1, e2]; exact h.blk, ⟨xs, by rw [e2]; exact ho, fun i hi f u hu => ?_⟩, ⟨ys, by rw [e2]; exact hq, fun i hi => ?_⟩, fun i hi => ?_, fun i j hi hj => ?_, fun i hi => ?_, fun i hi => ?_, fun i hi => ?_, fun i hi => ?_⟩
 ·rw [e2] at hi
  refine hx i hi f u ?_
  rw [<- hu]
  unfold za1
  rw [e3 i hi, e4 i hi, e5 i hi]
 ·rw [e2] at hi; rw [e6 i hi]; exact hy i hi
 ·rw [e2] at hi; rw [e6 i hi]; exact h.gown i hi
 ·rw [e2] at hi hj; exact h.gsep i j hi hj
 ·rw [e2] at hi; rw [e3 i hi]; exact (h.ats i hi).to (fun g hg => ⟨hg.1, by rw [eb]; exact hg.2⟩) (fun _ _ => rfl)
 ·rw [e2] at hi; rw [e3 i hi]; exact h.acl i hi
 ·rw [e2] at hi; rw [e5 i hi]; exact (h.kid i hi).to (fun g hg => ⟨hg.1, by rw [eb]; exact hg.2⟩) (fun _ _ => rfl)
 ·rw [e2] at hi; rw [e5 i hi]; exact h.kcl i hi
theorem RX.congr {M' : Dm} {R' G' : Nat -> List Nat} (h : RX K J w p M R G) (e1 : M'.limit = M.limit) (e2 : M'.n = M.n) (e3 : ∀ i, i < M.n -> M'.nd i = M.nd i) (e4 : ∀ i, i < M.n -> (M'.pl i).up = (M.pl i).up) (e5 : ∀ i, i < M.n -> R' i = R i) (e6 : ∀ i, i < M.n -> G' i = G i) : RX K J w p M' R' G' := by
 obtain ⟨A, h⟩ := h
 exact ⟨A, h.congr e1 e2 e3 e4 e5 e6⟩
theorem RY.setUp {g : Nat} (h : RY K J w p M R G A) (hg : A.na = some ⟨g, 0, none⟩) {i : Nat} (hi : i < M.n) (z : Int) :
  RY K J (w.setCell ⟨g, i * 14 + 4, none⟩ (.int .i64 z)) p (M.setP (zaw M.pl i { M.pl i with up := z })) R G A /\ Kept K w (w.setCell ⟨g, i * 14 + 4, none⟩ (.int .i64 z)) :=
 h.setN hg hi (by omega) rfl rfl (fun _ => rfl) (fun j aa ac ka kc hj => by simp only [za1, Dm.setP, zaw, if_neg hj]) (fun aa ac ka kc => by simp only [za1, Dm.setP, zaw, if_pos]; rfl)
theorem RY.setShadow {g : Nat} (h : RY K J w p M R G A) (hg : A.na = some ⟨g, 0, none⟩) {i : Nat} (hi : i < M.n) (z : Int) :
  RY K J (w.setCell ⟨g, i * 14 + 6, none⟩ (.int .i64 z)) p (M.setN i { M.nd i with shadow := z }) R G A /\ Kept K w (w.setCell ⟨g, i * 14 + 6, none⟩ (.int .i64 z)) :=
 h.setN hg hi (by omega) rfl rfl (fun j => by simp only [Dm.setN]; split <;> simp_all) (fun j aa ac ka kc hj => by simp only [za1, Dm.setN, if_neg hj]) (fun aa ac ka kc => by simp only [za1, Dm.setN, if_pos]; rfl)
theorem RY.setHost {g : Nat} (h : RY K J w p M R G A) (hg : A.na = some ⟨g, 0, none⟩) {i : Nat} (hi : i < M.n) (z : Int) :
  RY K J (w.setCell ⟨g, i * 14 + 7, none⟩ (.int .i64 z)) p (M.setN i { M.nd i with host := z }) R G A /\ Kept K w (w.setCell ⟨g, i * 14 + 7, none⟩ (.int .i64 z)) :=
 h.setN hg hi (by omega) rfl rfl (fun j => by simp only [Dm.setN]; split <;> simp_all) (fun j aa ac ka kc hj => by simp only [za1, Dm.setN, if_neg hj]) (fun aa ac ka kc => by simp only [za1, Dm.setN, if_pos]; rfl)
theorem RY.setContent {g : Nat} (h : RY K J w p M R G A) (hg : A.na = some ⟨g, 0, none⟩) {i : Nat} (hi : i < M.n) (z : Int) :
  RY K J (w.setCell ⟨g, i * 14 + 8, none⟩ (.int .i64 z)) p (M.setN i { M.nd i with content := z }) R G A /\ Kept K w (w.setCell ⟨g, i * 14 + 8, none⟩ (.int .i64 z)) :=
 h.setN hg hi (by omega) rfl rfl (fun j => by simp only [Dm.setN]; split <;> simp_all) (fun j aa ac ka kc hj => by simp only [za1, Dm.setN, if_neg hj]) (fun aa ac ka kc => by simp only [za1, Dm.setN, if_pos]; rfl)
theorem RY.setData {g : Nat} (h : RY K J w p M R G A) (hg : A.na = some ⟨g, 0, none⟩) {i : Nat} (hi : i < M.n) (z : List UInt8) :
  RY K J (w.setCell ⟨g, i * 14 + 2, none⟩ (sv z)) p (M.setN i { M.nd i with data := z }) R G A /\ Kept K w (w.setCell ⟨g, i * 14 + 2, none⟩ (sv z)) :=
 h.setN hg hi (by omega) rfl rfl (fun j => by simp only [Dm.setN]; split <;> simp_all) (fun j aa ac ka kc hj => by simp only [za1, Dm.setN, if_neg hj]) (fun aa ac ka kc => by simp only [za1, Dm.setN, if_pos]; rfl)
end
end
section
open Go.RowKit Go.Sort
theorem Zan.cells {F : Nat -> Prop} {w : World} {ka : Option Addr} {l : List Nat} (h : Zan F w ka l) (h0 : 0 < l.length) : ∃ g o, ka = some ⟨g, o, none⟩ /\ F g /\ ∀ j u, (ivs l)[j]? = some u -> w.cell? ⟨g, o + j, none⟩ = some u := by
 obtain ⟨g, o, e, hg, -⟩ := h 0 h0
 refine ⟨g, o, e, hg, fun j u hj => ?_⟩
 have hjl : j < l.length := by
  rcases Nat.lt_or_ge j l.length with hl | hg
  ·exact hl
  ·rw [List.getElem?_eq_none (by rw [ivs, List.length_map]; exact hg)] at hj; cases hj
 obtain ⟨g', o', e', -, c0⟩ := h j hjl
 rw [e] at e'
 injection e' with e'
 injection e' with e1 e2
 subst e1 e2
 rw [ivs, List.getElem?_map, List.getElem?_eq_getElem hjl] at hj
 injection hj with hj
 rw [<- hj]; exact c0
theorem zqq (l : List Nat) : ∀ u ∈ ivs l, u.oneCell' = true := by
 intro u hu
 obtain ⟨i, -, rfl⟩ := List.mem_map.1 hu
 rfl
theorem zef (l : List Nat) (aa : Option Addr) (n ac : Nat) (hln : l.length = n) (hn : n <= 100000000) (w : World) (ha : Zan (fun k => k < w.heap.size) w aa l) :
  Calls Tryz.prog 161 #[.slice aa n ac] w fun e w' => ∃ ao c, e = .returned (.slice ao n c) /\ Zac (fun k => k < w.heap.size) w' 3 1 ao n c (ivs l) /\ Kept (fun k => k < w.heap.size) w w' := by
 obtain ⟨i, hi, hip⟩ := Option.map_eq_some_iff.1 zlb
 have hz : i.zero = _ := congrArg (·.1) hip
 have hsz : i.size = 1 := congrArg (·.2.1) hip
 have hby : i.bytes = 8 := congrArg (·.2.2) hip
 have hl2 : (ivs l).length = n * 1 := by rw [ivs, List.length_map, hln, Nat.mul_one]
 have key : ∃ ao c w', (Builtin.append_ #[33, 33] 33 #[.slice none 0 0, .slice aa n ac]).run Tryz.prog w = .ok (.slice ao n c) w' /\ Zac (fun k => k < w.heap.size) w' 3 1 ao n c (ivs l) /\ Kept (fun k => k < w.heap.size) w w' := by
  by_cases h0 : n = 0
  ·subst h0
   have hl0 : l = [] := List.eq_nil_of_length_eq_zero hln
   subst hl0
   have hs : Src Tryz.prog i.size 33 (.slice aa 0 ac) 0 [] w := by
    cases aa with
    | none => exact Src.ofNil w Tryz.underlying33 _
    | some a => exact Src.ofSlice w Tryz.underlying33 a 0 ac [] (by simp) (fun j u hj => by simp at hj) (fun u hu => by cases hu)
   exact ⟨none, 0, w, run_append_nothing w 33 33 33 3 i Tryz.underlying33 hi none 0 0 (Nat.le_refl _) _ hs, Zac.nil _ _ _ _, Kept.refl _ _⟩
  ·obtain ⟨g, o, rfl, hg, hc⟩ := ha.cells (by omega)
   have hs : Src Tryz.prog 1 33 (.slice (some ⟨g, o, none⟩) n ac) n (ivs l) w := by
    refine Src.ofSlice w Tryz.underlying33 _ n ac (ivs l) (by rw [hl2]) (fun j u hj => ?_) (zqq l)
    rw [Addr.add_lit]
    exact hc j u hj
   obtain ⟨ao, c, w', hr, ho, hk⟩ := zee (P := Tryz.prog) (K := fun k => k < w.heap.size) w 33 33 33 3 i _ Tryz.underlying33 hi hz 1 hsz rfl (by omega) (Zac.nil _ _ _ _) _ n (by omega) hn _ hs (fun _ h => h) (by omega)
   rw [Nat.zero_add] at hr ho
   exact ⟨ao, c, w', hr, ho, hk⟩
 obtain ⟨ao, c, w', hr, ho, hk⟩ := key
 have HO : Hid (Zac (fun k => k < w.heap.size) w' 3 1 ao n c (ivs l)) := ho
 have HK : Hid (Kept (fun k => k < w.heap.size) w w') := hk
 clear hip hz hsz hby hl2 ho hk ha hi hln
 go_enter Tryz.func161, Tryz.ntmps161
 go_wp2_with (at_builtin; refine zak (w' := w') rfl (.tmp 4) (.tmp 5) 33 33 rfl _ _ (.slice ao n c) rfl rfl hr ?_)
 go_ret
 exact ⟨ao, c, rfl, HO.out, HK.out⟩
theorem zde (l : List Atr) (aa : Option Addr) (n ac : Nat) (hln : l.length = n) (hn : n <= 100000000) (w : World) (ha : Zag (fun k => k < w.heap.size) w aa l) :
  Calls Tryz.prog 176 #[.slice aa n ac] w fun e w' => ∃ ao c, e = .returned (.slice ao n c) /\ Zac (fun k => k < w.heap.size) w' 108 2 ao n c (zab l) /\ Kept (fun k => k < w.heap.size) w w' := by
 obtain ⟨i, hi, hip⟩ := Option.map_eq_some_iff.1 znq
 have hz : i.zero = _ := congrArg (·.1) hip
 have hsz : i.size = 2 := congrArg (·.2.1) hip
 have hby : i.bytes = 32 := congrArg (·.2.2) hip
 have hl2 : (zab l).length = n * 2 := by rw [zb7, hln]
 have key : ∃ ao c w', (Builtin.append_ #[44, 44] 44 #[.slice none 0 0, .slice aa n ac]).run Tryz.prog w = .ok (.slice ao n c) w' /\ Zac (fun k => k < w.heap.size) w' 108 2 ao n c (zab l) /\ Kept (fun k => k < w.heap.size) w w' := by
  by_cases h0 : n = 0
  ·subst h0
   have hl0 : l = [] := List.eq_nil_of_length_eq_zero hln
   subst hl0
   have hs : Src Tryz.prog i.size 44 (.slice aa 0 ac) 0 [] w := by
    cases aa with
    | none => exact Src.ofNil w Tryz.underlying44 _
    | some a => exact Src.ofSlice w Tryz.underlying44 a 0 ac [] (by simp) (fun j u hj => by simp at hj) (fun u hu => by cases hu)
   exact ⟨none, 0, w, run_append_nothing w 44 44 44 108 i Tryz.underlying44 hi none 0 0 (Nat.le_refl _) _ hs, Zac.nil _ _ _ _, Kept.refl _ _⟩
  ·obtain ⟨g, o, rfl, hg, hc⟩ := ha.cells (by omega)
   have hs : Src Tryz.prog 2 44 (.slice (some ⟨g, o, none⟩) n ac) n (zab l) w := by
    refine Src.ofSlice w Tryz.underlying44 _ n ac (zab l) (by rw [hl2]) (fun j u hj => ?_) (zgp l)
    rw [Addr.add_lit]
    exact hc j u hj
   obtain ⟨ao, c, w', hr, ho, hk⟩ := zee (P := Tryz.prog) (K := fun k => k < w.heap.size) w 44 44 44 108 i _ Tryz.underlying44 hi hz 2 hsz rfl (by omega) (Zac.nil _ _ _ _) _ n (by omega) hn _ hs (fun _ h => h) (by omega)
   rw [Nat.zero_add] at hr ho
   exact ⟨ao, c, w', hr, ho, hk⟩
 obtain ⟨ao, c, w', hr, ho, hk⟩ := key
 have HO : Hid (Zac (fun k => k < w.heap.size) w' 108 2 ao n c (zab l)) := ho
 have HK : Hid (Kept (fun k => k < w.heap.size) w w') := hk
 clear hip hz hsz hby hl2 ho hk ha hi hln
 go_enter Tryz.func176, Tryz.ntmps176
 go_wp2_with (at_builtin; refine zak (w' := w') rfl (.tmp 4) (.tmp 5) 44 44 rfl _ _ (.slice ao n c) rfl rfl hr ?_)
 go_ret
 exact ⟨ao, c, rfl, HO.out, HK.out⟩
def wo (l : List Nat) (x : Int) : List Nat := l.filter fun (k : Nat) => decide ((k : Int) ≠ x)
theorem zkg {k : Nat} {r : List Nat} {x : Int} (h : (k : Int) ≠ x) : wo (r ++ [k]) x = wo r x ++ [k] := by unfold wo; rw [List.filter_append]; simp [h]
theorem zk1 {k : Nat} {r : List Nat} {x : Int} (h : (k : Int) = x) : wo (r ++ [k]) x = wo r x := by unfold wo; rw [List.filter_append]; simp [h]
theorem zpq (l : List Nat) (x : Int) : (wo l x).length <= l.length := List.length_filter_le _ _
theorem zey (l : List Nat) (aa : Option Addr) (n ac : Nat) (hln : l.length = n) (hn : n <= 100000000) (x : Int) (w : World) (ha : Zan (fun k => k < w.heap.size) w aa l) :
  Calls Tryz.prog 183 #[.slice aa n ac, .int .i64 x] w fun e w' => ∃ ao c, e = .returned (.slice ao (wo l x).length c) /\ Zac (fun k => k < w.heap.size) w' 3 1 ao (wo l x).length c (ivs (wo l x)) /\ Kept (fun k => k < w.heap.size) w w' := by
 have HA : Hid (Zan (fun k => k < w.heap.size) w aa l) := ha
 have HL : Hid (l.length = n) := hln
 clear ha hln
 go_enter Tryz.func183, Tryz.ntmps183
 go_upto_region 3 with fail
 go_loopg [5, 6] n (fun gh v5 v6 wr => ∃ (k : Nat) (ao : Option Addr) (c : Nat) (m : List Nat), gh = n - k /\ k <= n /\ v6 = .int .i64 (k : Int) /\ m = wo (l.take k) x /\ v5 = .slice ao m.length c /\ Zac (fun k => k < w.heap.size) wr 3 1 ao m.length c (ivs m) /\ Kept (fun k => k < w.heap.size) w wr)
 case atStart => exact ⟨0, none, 0, [], rfl, Nat.zero_le _, rfl, rfl, rfl, Zac.nil _ _ _ _, Kept.refl _ _⟩
 case round =>
  obtain ⟨k, ao, c, m, hgk, hk, rfl, hm, rfl, hO, hK⟩ := hrel
  have HO : Hid (Zac (fun k => k < w.heap.size) wr 3 1 ao m.length c (ivs m)) := hO
  have HK : Hid (Kept (fun k => k < w.heap.size) w wr) := hK
  have hml : m.length <= k := by
   rw [hm]
   have h1 := zpq (l.take k) x
   rw [List.length_take] at h1
   omega
  by_cases hlt : k < n
  ·have hl : k < l.length := by rw [HL.out]; exact hlt
   obtain ⟨g, o, rfl, hg, hc⟩ := HA.out k hl
   have d : wr.cell? ⟨g, o + k, none⟩ = some (.int .i64 (l[k] : Int)) := (hK.cell (p := ⟨g, o + k, none⟩) hg).trans hc
   have htk : l.take (k + 1) = l.take k ++ [l[k]] := List.take_succ_eq_append_getElem hl
   obtain ⟨y, hy⟩ : ∃ y, l[k] = y := ⟨_, rfl⟩
   rw [hy] at d htk
   have HM : Hid (m = wo (l.take k) x) := hm
   have HT : Hid (l.take (k + 1) = l.take k ++ [y]) := htk
   by_cases hxy : (y : Int) = x
   ·subst hxy
    have HM2 : Hid (m = wo (l.take (k + 1)) (y : Int)) := by
     have : m = wo (l.take (k + 1)) (y : Int) := by rw [HT.out, zk1 rfl]; exact HM.out
     exact (show Hid _ from this)
    clear hO hK hc hm htk hy
    go_wp2
    go_roundg (n - (k + 1))
    case rel => exact ⟨k + 1, ao, c, m, rfl, by omega, by go_num, HM2.out, rfl, HO.out, HK.out⟩
    case measure => omega
   ·have e1 : ((y : Int) == x) = false := by simpa using hxy
    obtain ⟨ao', c', w', hr', hO', hK'⟩ := zow hO (fun k hk => ltl hk hK.size) (by omega) (y : Int)
    have HM2 : Hid (m ++ [y] = wo (l.take (k + 1)) x) := by
     have : m ++ [y] = wo (l.take (k + 1)) x := by rw [HT.out, zkg hxy, <- HM.out]
     exact (show Hid _ from this)
    have HO2 : Hid (Zac (fun k => k < w.heap.size) w' 3 1 ao' (m ++ [y]).length c' (ivs (m ++ [y]))) := by
     have : Zac (fun k => k < w.heap.size) w' 3 1 ao' (m ++ [y]).length c' (ivs (m ++ [y])) := by
      rw [ivs, List.map_append, List.length_append]; exact hO'
     exact (show Hid _ from this)
    have HK2 : Hid (Kept (fun k => k < w.heap.size) w w') := HK.out.trans hK'
    obtain ⟨ml, hml2⟩ : ∃ ml, m.length = ml := ⟨_, rfl⟩
    have HML : Hid (m.length = ml) := hml2
    rw [hml2] at hr' ⊢
    clear hO hK hc hm htk hy hO' hK' hml2
    go_wp2_with (at_builtin; refine zak (w' := w') rfl (.tmp 19) (.tmp 24) 33 33 rfl _ _ (.slice ao' (ml + 1) c') rfl rfl hr' ?_)
    go_roundg (n - (k + 1))
    case rel => exact ⟨k + 1, ao', c', m ++ [y], rfl, by omega, by go_num, HM2.out, by rw [List.length_append, HML.out]; rfl, HO2.out, HK2.out⟩
    case measure => omega
  ·have hkn : n = k := by omega
   subst hkn
   have HM : Hid (m = wo l x) := by
    have : m = wo l x := by rw [hm, List.take_of_length_le (by rw [HL.out]; exact Nat.le_refl _)]
    exact (show Hid _ from this)
   clear hO hK hm
   go_wp2
   go_ret
   rw [<- HM.out]
   exact ⟨ao, c, rfl, HO.out, HK.out⟩
end
end Go.Proofs.YtfeinppedejlpaaGreat
