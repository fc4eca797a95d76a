/-
  The document's own order.Root, shadow.Of, Open.; What is told of a document that only is read.; Trees have no node twice; who stands in one (pure). The document's own SameAttrs.
-/
import Derived.Test.YtfeinppedejlpaaGreatVW17
import Derived.Test.YtfeinppedejlpaaGreatVW26
import Derived.Test.YtfeinppedejlpaaGreatVW28
import Derived.Test.YtfeinppedejlpaaGreatVB19
import Derived.BigQuiet
import Derived.Laws.StructEq
namespace Go.Proofs.YtfeinppedejlpaaGreat
section
set_option linter.unusedVariables false
set_option maxRecDepth 100000
set_option maxHeartbeats 8000000
section
open Go.RowKit Go.Sort



end
section
open Go.RowKit
inductive Up (n : Nat) (F : Nat -> List Nat) (a : Nat) : Nat -> Prop
 | here : Up n F a a
 | up {x y : Nat} : y < n -> x ∈ F y -> Up n F a y -> Up n F a x
structure Only (n : Nat) (F : Nat -> List Nat) (rk : Nat -> Nat) : Prop where
 falls : Falls n F rk
 one : ∀ i j k, i < n -> j < n -> k ∈ F i -> k ∈ F j -> i = j
 nd : ∀ i, i < n -> (F i).Nodup
section
variable {n : Nat} {F : Nat -> List Nat} {rk : Nat -> Nat}
theorem Up.low (h : Falls n F rk) {a x : Nat} (hu : Up n F a x) : a = x \/ rk a < rk x := by
 induction hu with
 | here => exact .inl rfl
 | up hy hm _ ih =>
  have := (h _ hy _ hm).2
  rcases ih with rfl | ih
  ·exact .inr this
  ·exact .inr (Nat.lt_trans ih this)
theorem Up.trans {a b x : Nat} (h : Up n F a b) (k : Up n F b x) : Up n F a x := by
 induction k with
 | here => exact h
 | up hy hm _ ih => exact .up hy hm ih
theorem Up.lin (h : Only n F rk) {a b x : Nat} (ha : Up n F a x) : Up n F b x -> Up n F a b \/ Up n F b a := by
 induction ha with
 | here => exact fun hb => .inr hb
 | @up x y hy hm h1 ih =>
  intro hb
  cases hb with
  | here => exact .inl (.up hy hm h1)
  | @up _ z hz hm' h2 =>
   have := h.one y z x hy hz hm hm'
   subst this
   exact ih h2
theorem zmy (h : Falls n F rk) : ∀ (f i : Nat), i < n -> ∀ x ∈ trF F f i, Up n F i x
 | 0, i, hi, x, hx => by
  rcases List.mem_singleton.1 hx with rfl
  exact .here
 | f + 1, i, hi, x, hx => by
  rcases List.mem_cons.1 hx with rfl | hx
  ·exact .here
  ·obtain ⟨m, hm, hx⟩ := List.mem_flatMap.1 hx
   exact Up.trans (.up hi hm .here) (zmy h f m (h i hi m hm).1 x hx)
theorem zor (h : Falls n F rk) {i x : Nat} (hi : i < n) : x ∈ tr n F i ↔ Up n F i x := by
 refine ⟨zmy h n i hi x, fun hu => ?_⟩
 induction hu with
 | here => rw [zcr h hi]; exact List.mem_cons_self ..
 | @up x y hy hm _ ih =>
  have key : ∀ (f i : Nat), i < n -> dn n rk i < f -> y ∈ tr n F i -> x ∈ tr n F i := by
   intro f
   induction f with
   | zero => exact fun i _ h => absurd h (Nat.not_lt_zero _)
   | succ f ihf =>
    intro i hi hf hyi
    rw [zcr h hi] at hyi ⊢
    rcases List.mem_cons.1 hyi with rfl | hyi
    ·refine List.mem_cons_of_mem _ (List.mem_flatMap.2 ⟨x, hm, ?_⟩)
     rw [zcr h (h y hy x hm).1]
     exact List.mem_cons_self ..
    ·obtain ⟨m, hmi, hy'⟩ := List.mem_flatMap.1 hyi
     have hmn := h i hi m hmi
     exact List.mem_cons_of_mem _ (List.mem_flatMap.2 ⟨m, hmi, ihf m hmn.1 (by have := zdq hmn.1 hmn.2; omega) hy'⟩)
  exact key _ i hi (Nat.lt_succ_self _) ih
theorem zd1 {f : Nat -> List Nat} : ∀ {l : List Nat}, l.Nodup -> (∀ x ∈ l, (f x).Nodup) -> (∀ x ∈ l, ∀ y ∈ l, x ≠ y -> ∀ z, z ∈ f x -> z ∉ f y) -> (l.flatMap f).Nodup
 | [], _, _, _ => List.nodup_nil
 | x :: r, hn, hf, hd => by
  have hn' := List.nodup_cons.1 hn
  rw [List.flatMap_cons, List.nodup_append]
  refine ⟨hf x (List.mem_cons_self ..), zd1 hn'.2 (fun y hy => hf y (List.mem_cons_of_mem _ hy)) (fun a ha b hb => hd a (List.mem_cons_of_mem _ ha) b (List.mem_cons_of_mem _ hb)), fun a ha b hb e => ?_⟩
  subst e
  obtain ⟨y, hy, hz⟩ := List.mem_flatMap.1 hb
  exact hd x (List.mem_cons_self ..) y (List.mem_cons_of_mem _ hy) (fun e => hn'.1 (e ▸ hy)) a ha hz
theorem zgn (h : Only n F rk) : ∀ (f i : Nat), i < n -> dn n rk i < f -> (tr n F i).Nodup
 | 0, i, _, hf => absurd hf (Nat.not_lt_zero _)
 | f + 1, i, hi, hf => by
  rw [zcr h.falls hi]
  refine List.nodup_cons.2 ⟨fun hm => ?_, zd1 (h.nd i hi) (fun x hx => ?_) (fun x hx y hy hxy z hz1 hz2 => ?_)⟩
  ·obtain ⟨k, hk, hm⟩ := List.mem_flatMap.1 hm
   have hkn := h.falls i hi k hk
   rcases ((zor h.falls hkn.1).1 hm).low h.falls with e | e
   ·rw [e] at hkn; omega
   ·omega
  ·have hkn := h.falls i hi x hx
   exact zgn h f x hkn.1 (by have := zdq hkn.1 hkn.2; omega)
  ·have hxn := h.falls i hi x hx
   have hyn := h.falls i hi y hy
   have u1 := (zor h.falls hxn.1).1 hz1
   have u2 := (zor h.falls hyn.1).1 hz2
   have no : ∀ a b, a ∈ F i -> b ∈ F i -> a ≠ b -> ¬ Up n F a b := fun a b ha hb hab hu => by
    cases hu with
    | here => exact hab rfl
    | @up _ c hc hm hu =>
     have := h.one i c b hi hc hb hm
     subst this
     have := (h.falls i hi a ha).2
     rcases hu.low h.falls with e | e
     ·rw [e] at this; omega
     ·omega
   rcases Up.lin h u1 u2 with q | q
   ·exact no x y hx hy hxy q
   ·exact no y x hy hx (fun e => hxy e.symm) q
theorem zhn (h : Only n F rk) {i : Nat} (hi : i < n) : (tr n F i).length <= n :=
 zg8 n _ (zgn h _ i hi (Nat.lt_succ_self _)) (fun x hx => ztb h.falls n i hi x hx)
end
section
variable {M : Dm} {R G : Nat -> List Nat} {rk : Nat -> Nat}
theorem zd8 {i k : Nat} : k ∈ fwd M R i ↔ k ∈ R i \/ ((M.nd i).shadow ≠ -1 /\ k = (M.nd i).shadow.toNat) := by
 unfold fwd
 by_cases c : (M.nd i).shadow = -1
 ·rw [if_pos c]
  exact ⟨.inl, fun h => h.elim id (fun h => absurd c h.1)⟩
 ·rw [if_neg c, List.mem_cons]
  exact ⟨fun h => h.elim (fun h => .inr ⟨c, h⟩) .inl, fun h => h.elim .inr (fun h => .inl h.2)⟩
theorem Inv.shd (h : Inv M R G rk) {i : Nat} (hi : i < M.n) (hs : (M.nd i).shadow ≠ -1) : ∃ s : Nat, (M.nd i).shadow = (s : Int) /\ s < M.n /\ (M.nd s).host = (i : Int) /\ (M.pl s).up = -1 := by
 rcases h.core.shad i hi with e | ⟨s, hsn, e, _⟩
 ·exact absurd e hs
 ·have := h.shadow hi e
  exact ⟨s, e, hsn, this.2.2.1, this.2.2.2.1⟩
theorem Inv.only (h : Inv M R G rk) : Only M.n (fwd M R) rk := by
 refine ⟨h.falls, fun i j k hi hj h1 h2 => ?_, fun i hi => ?_⟩
 ·rcases zd8.1 h1 with a1 | ⟨a1, a2⟩ <;> rcases zd8.1 h2 with b1 | ⟨b1, b2⟩
  ·exact h.good.wf.one hi hj a1 b1
  ·obtain ⟨s, e, _, _, hu⟩ := h.shd hj b1
   rw [e, Int.toNat_natCast] at b2
   subst b2
   have := (h.good.kid hi a1).2.1
   omega
  ·obtain ⟨s, e, _, _, hu⟩ := h.shd hi a1
   rw [e, Int.toNat_natCast] at a2
   subst a2
   have := (h.good.kid hj b1).2.1
   omega
  ·obtain ⟨s, e, _, hh, _⟩ := h.shd hi a1
   obtain ⟨s', e', _, hh', _⟩ := h.shd hj b1
   rw [e, Int.toNat_natCast] at a2
   rw [e', Int.toNat_natCast] at b2
   subst a2
   subst b2
   omega
 ·unfold fwd
  by_cases c : (M.nd i).shadow = -1
  ·rw [if_pos c]; exact h.good.wf.nodup i hi
  ·rw [if_neg c]
   refine List.nodup_cons.2 ⟨fun hm => ?_, h.good.wf.nodup i hi⟩
   obtain ⟨s, e, _, _, hu⟩ := h.shd hi c
   rw [e, Int.toNat_natCast] at hm
   have := (h.good.kid hi hm).2.1
   omega
end
end
end
section
set_option maxHeartbeats 8000000
set_option maxRecDepth 100000
open Go.RowKit Go.Sort
set_option linter.unusedVariables false
theorem zty (S1 T1 S2 T2 : ByteArray) (X : World) : (binOp .neq 108 (.agg #[.string S1, .string T1]) (.agg #[.string S2, .string T2])).run Tryz.prog X = .ok (.bool (!((S1.toList == S2.toList) && (T1.toList == T2.toList)))) X := by
 have hS : Tryz.prog.underlying 108 = some (.struct (Tryz.prog.fieldsOf 108)) := by kernel_rfl
 have hp : Tryz.prog.stoodInHeld 108 = false := by kernel_rfl
 rw [run_neq_struct, show (10000 : Nat) = 9999 + 1 from rfl, run_equalIn_agg X 9999 108 _ _ hS hp]
 have u3 := Tryz.underlying9
 have z3 : Tryz.prog.cellsOf 9 = 1 := by kernel_rfl
 simp only [Program.fieldsOf, Tryz.underlying108]
 go_simp
 cases h1 : (S1.toList == S2.toList) <;> cases h2 : (T1.toList == T2.toList) <;> simp_all
theorem zuh : Tryz.prog.eqGuardType Tryz.prog.depth 108 = false := by kernel_rfl
theorem zb7 (a b : List Atr) (aa ba : Option Addr) (an bn ac bc : Nat) (han : a.length = an) (hbn : b.length = bn) (q : Bool) (hq : q = true ↔ a = b) (ha1 : an <= 1000000) (hb1 : bn <= 1000000) (w : World) (ha : Zag (fun k => k < w.heap.size) w aa a) (hb : Zag (fun k => k < w.heap.size) w ba b) :
  Calls Tryz.prog 122 #[.slice aa an ac, .slice ba bn bc] w fun e w' => e = .returned (.bool q) /\ Kept (fun k => k < w.heap.size) w w' := by
 have HA : Hid (Zag (fun k => k < w.heap.size) w aa a) := ha
 have HB : Hid (Zag (fun k => k < w.heap.size) w ba b) := hb
 have HAN : Hid (a.length = an) := han
 have HBN : Hid (b.length = bn) := hbn
 have HQ : Hid (q = true ↔ a = b) := hq
 clear ha hb han hbn hq
 by_cases hl : an = bn
 ·subst hl
  go_enter Tryz.func122, Tryz.ntmps122
  go_upto_region 4 with fail
  go_loopg [5] an (fun gh v wr => ∃ k : Nat, gh = an - k /\ k <= an /\ v = .int .i64 (k : Int) /\ a.take k = b.take k /\ Kept (fun k => k < w.heap.size) w wr)
  case atStart => exact ⟨0, rfl, Nat.zero_le _, rfl, rfl, Kept.refl _ _⟩
  case round =>
   obtain ⟨k, hgk, hk, rfl, heq, hKk⟩ := hrel
   have HKk : Hid (Kept (fun k => k < w.heap.size) w wr) := hKk
   have HEQ : Hid (a.take k = b.take k) := heq
   clear heq
   by_cases hlt : k < an
   ·have hka : k < a.length := by rw [HAN.out]; exact hlt
    have hkb : k < b.length := by rw [HBN.out]; exact hlt
    obtain ⟨g1, o1, rfl, hg1, d1, e1⟩ := HA.out k hka
    obtain ⟨g2, o2, rfl, hg2, d2, e2⟩ := HB.out k hkb
    have d1' := (hKk.cell (p := ⟨g1, o1 + k * 2, none⟩) hg1).trans d1
    have e1' := (hKk.cell (p := ⟨g1, o1 + k * 2 + 1, none⟩) hg1).trans e1
    have d2' := (hKk.cell (p := ⟨g2, o2 + k * 2, none⟩) hg2).trans d2
    have e2' := (hKk.cell (p := ⟨g2, o2 + k * 2 + 1, none⟩) hg2).trans e2
    have heq := fun X => zty ⟨a[k].name.toArray⟩ ⟨a[k].value.toArray⟩ ⟨b[k].name.toArray⟩ ⟨b[k].value.toArray⟩ X
    simp only [ByteArray.toList_eq] at heq
    have hg67 := zuh
    unfold sv at d1' e1' d2' e2'
    obtain ⟨x1, hx1⟩ : ∃ x : ByteArray, (⟨a[k].name.toArray⟩ : ByteArray) = x := ⟨_, rfl⟩
    obtain ⟨x2, hx2⟩ : ∃ x : ByteArray, (⟨a[k].value.toArray⟩ : ByteArray) = x := ⟨_, rfl⟩
    obtain ⟨y1, hy1⟩ : ∃ x : ByteArray, (⟨b[k].name.toArray⟩ : ByteArray) = x := ⟨_, rfl⟩
    obtain ⟨y2, hy2⟩ : ∃ x : ByteArray, (⟨b[k].value.toArray⟩ : ByteArray) = x := ⟨_, rfl⟩
    obtain ⟨r, hr⟩ : ∃ r, (!((a[k].name == b[k].name) && (a[k].value == b[k].value))) = r := ⟨_, rfl⟩
    have HR : Hid ((!((a[k].name == b[k].name) && (a[k].value == b[k].value))) = r) := hr
    have heq' : ∀ X, (binOp .neq 108 (.agg #[.string x1, .string x2]) (.agg #[.string y1, .string y2])).run Tryz.prog X = .ok (.bool r) X := by rw [<- hr, <- hx1, <- hx2, <- hy1, <- hy2]; exact heq
    rw [hx1] at d1'
    rw [hx2] at e1'
    rw [hy1] at d2'
    rw [hy2] at e2'
    clear hx1 hx2 hy1 hy2 d1 e1 d2 e2 hKk heq hr
    cases r with
    | false =>
     have HAB : Hid (a[k] = b[k]) := by
      have := HR.out
      simp at this
      exact (show Hid _ from (by cases h1 : a[k]; cases h2 : b[k]; simp_all))
     go_upto_region 6 with fail
     go_quiet (fail)
     go_wp2
     go_roundg (an - (k + 1))
     case rel =>
      refine ⟨k + 1, rfl, by omega, by go_num, ?_, HKk.out.drewN _⟩
      rw [List.take_succ_eq_append_getElem hka, List.take_succ_eq_append_getElem hkb, HEQ.out, HAB.out]
     case measure => omega
    | true =>
     have hq : q = false := by
      refine Bool.eq_false_iff.2 fun hc => ?_
      have c := HQ.out.1 hc
      subst c
      have := HR.out
      simp at this
     subst hq
     go_upto_region 6 with fail
     go_quiet (fail)
     go_wp2
     go_ret
     exact ⟨rfl, HKk.out.drewN _⟩
   ·have hkn : an = k := by omega
    subst hkn
    have hq : q = true := by
     refine HQ.out.2 ?_
     have := HEQ.out
     rw [List.take_of_length_le (by rw [HAN.out]; exact Nat.le_refl _), List.take_of_length_le (by rw [HBN.out]; exact Nat.le_refl _)] at this
     exact this
    subst hq
    clear hKk
    go_wp2
    go_ret
    exact ⟨rfl, HKk.out⟩
 ·have e1 : ((an : Int) != (bn : Int)) = true := by simp; omega
  have HNE : Hid (an ≠ bn) := hl
  clear hl
  have hq : q = false := by
   refine Bool.eq_false_iff.2 fun hc => ?_
   have c := HQ.out.1 hc
   subst c
   exact HNE.out (HAN.out.symm.trans HBN.out)
  subst hq
  go_enter Tryz.func122, Tryz.ntmps122
  go_wp2
  go_ret
  exact ⟨rfl, Kept.refl _ _⟩
end
end Go.Proofs.YtfeinppedejlpaaGreat
