/-
 The document's own order.Root, shadow.Of, Open.; What is told of a document that only is read.; Trees have no node twice; who stands in one (pure).
-/
import Derived.Test.YtfeinppedejlpaaGreatNW17
import Derived.Test.YtfeinppedejlpaaGreatNW26
import Derived.Test.YtfeinppedejlpaaGreatNW28
import Derived.Test.YtfeinppedejlpaaGreatNB19
import Derived.BigQuiet
namespace Go.Proofs.YtfeinppedejlpaaGreat
set_option linter.unusedVariables false
set_option maxRecDepth 100000
set_option maxHeartbeats 8000000
section
open Go.RowKit Go.Sort



end
section
open Go.RowKit
inductive Up (n : Nat) (F : Nat -> List Nat) (a : Nat) : Nat -> Prop
 | here : Up n F a a
 | up {x y : Nat} : y < n -> x ∈ F y -> Up n F a y -> Up n F a x
structure Only (n : Nat) (F : Nat -> List Nat) (rk : Nat -> Nat) : Prop where
 falls : Falls n F rk
 one : ∀ i j k, i < n -> j < n -> k ∈ F i -> k ∈ F j -> i = j
 nd : ∀ i, i < n -> (F i).Nodup
section
variable {n : Nat} {F : Nat -> List Nat} {rk : Nat -> Nat}
theorem Up.low (h : Falls n F rk) {a x : Nat} (hu : Up n F a x) : a = x \/ rk a < rk x := by
 induction hu with
 | here => exact .inl rfl
 | up hy hm _ ih =>
  have := (h _ hy _ hm).2
  rcases ih with rfl | ih
  ·exact .inr this
  ·exact .inr (Nat.lt_trans ih this)
theorem Up.trans {a b x : Nat} (h : Up n F a b) (k : Up n F b x) : Up n F a x := by
 induction k with
 | here => exact h
 | up hy hm _ ih => exact .up hy hm ih
theorem Up.lin (h : Only n F rk) {a b x : Nat} (ha : Up n F a x) : Up n F b x -> Up n F a b \/ Up n F b a := by
 induction ha with
 | here => exact fun hb => .inr hb
 | @up x y hy hm h1 ih =>
  intro hb
  cases hb with
  | here => exact .inl (.up hy hm h1)
  | @up _ z hz hm' h2 =>
   have := h.one y z x hy hz hm hm'
   subst this
   exact ih h2
theorem zms (h : Falls n F rk) : ∀ (f i : Nat), i < n -> ∀ x ∈ trF F f i, Up n F i x
 | 0, i, hi, x, hx => by
  rcases List.mem_singleton.1 hx with rfl
  exact .here
 | f + 1, i, hi, x, hx => by
  rcases List.mem_cons.1 hx with rfl | hx
  ·exact .here
  ·obtain ⟨m, hm, hx⟩ := List.mem_flatMap.1 hx
   exact Up.trans (.up hi hm .here) (zms h f m (h i hi m hm).1 x hx)
theorem znu (h : Falls n F rk) {i x : Nat} (hi : i < n) : x ∈ tr n F i ↔ Up n F i x := by
 refine ⟨zms h n i hi x, fun hu => ?_⟩
 induction hu with
 | here => rw [zh2 h hi]; exact List.mem_cons_self ..
 | @up x y hy hm _ ih =>
  have key : ∀ (f i : Nat), i < n -> dn n rk i < f -> y ∈ tr n F i -> x ∈ tr n F i := by
   intro f
   induction f with
   | zero => exact fun i _ h => absurd h (Nat.not_lt_zero _)
   | succ f ihf =>
    intro i hi hf hyi
    rw [zh2 h hi] at hyi ⊢
    rcases List.mem_cons.1 hyi with rfl | hyi
    ·refine List.mem_cons_of_mem _ (List.mem_flatMap.2 ⟨x, hm, ?_⟩)
     rw [zh2 h (h y hy x hm).1]
     exact List.mem_cons_self ..
    ·obtain ⟨m, hmi, hy'⟩ := List.mem_flatMap.1 hyi
     have hmn := h i hi m hmi
     exact List.mem_cons_of_mem _ (List.mem_flatMap.2 ⟨m, hmi, ihf m hmn.1 (by have := zfy hmn.1 hmn.2; omega) hy'⟩)
  exact key _ i hi (Nat.lt_succ_self _) ih
theorem zd1 {f : Nat -> List Nat} : ∀ {l : List Nat}, l.Nodup -> (∀ x ∈ l, (f x).Nodup) -> (∀ x ∈ l, ∀ y ∈ l, x ≠ y -> ∀ z, z ∈ f x -> z ∉ f y) -> (l.flatMap f).Nodup
 | [], _, _, _ => List.nodup_nil
 | x :: r, hn, hf, hd => by
  have hn' := List.nodup_cons.1 hn
  rw [List.flatMap_cons, List.nodup_append]
  refine ⟨hf x (List.mem_cons_self ..), zd1 hn'.2 (fun y hy => hf y (List.mem_cons_of_mem _ hy)) (fun a ha b hb => hd a (List.mem_cons_of_mem _ ha) b (List.mem_cons_of_mem _ hb)), fun a ha b hb e => ?_⟩
  subst e
  obtain ⟨y, hy, hz⟩ := List.mem_flatMap.1 hb
  exact hd x (List.mem_cons_self ..) y (List.mem_cons_of_mem _ hy) (fun e => hn'.1 (e ▸ hy)) a ha hz
theorem zjr (h : Only n F rk) : ∀ (f i : Nat), i < n -> dn n rk i < f -> (tr n F i).Nodup
 | 0, i, _, hf => absurd hf (Nat.not_lt_zero _)
 | f + 1, i, hi, hf => by
  rw [zh2 h.falls hi]
  refine List.nodup_cons.2 ⟨fun hm => ?_, zd1 (h.nd i hi) (fun x hx => ?_) (fun x hx y hy hxy z hz1 hz2 => ?_)⟩
  ·obtain ⟨k, hk, hm⟩ := List.mem_flatMap.1 hm
   have hkn := h.falls i hi k hk
   rcases ((znu h.falls hkn.1).1 hm).low h.falls with e | e
   ·rw [e] at hkn; omega
   ·omega
  ·have hkn := h.falls i hi x hx
   exact zjr h f x hkn.1 (by have := zfy hkn.1 hkn.2; omega)
  ·have hxn := h.falls i hi x hx
   have hyn := h.falls i hi y hy
   have u1 := (znu h.falls hxn.1).1 hz1
   have u2 := (znu h.falls hyn.1).1 hz2
   have no : ∀ a b, a ∈ F i -> b ∈ F i -> a ≠ b -> ¬ Up n F a b := fun a b ha hb hab hu => by
    cases hu with
    | here => exact hab rfl
    | @up _ c hc hm hu =>
     have := h.one i c b hi hc hb hm
     subst this
     have := (h.falls i hi a ha).2
     rcases hu.low h.falls with e | e
     ·rw [e] at this; omega
     ·omega
   rcases Up.lin h u1 u2 with q | q
   ·exact no x y hx hy hxy q
   ·exact no y x hy hx (fun e => hxy e.symm) q
theorem zmd (h : Only n F rk) {i : Nat} (hi : i < n) : (tr n F i).length <= n :=
 zo8 n _ (zjr h _ i hi (Nat.lt_succ_self _)) (fun x hx => zrg h.falls n i hi x hx)
end
end
end Go.Proofs.YtfeinppedejlpaaGreat
