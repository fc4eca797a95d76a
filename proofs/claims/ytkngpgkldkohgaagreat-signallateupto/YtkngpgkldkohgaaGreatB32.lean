/-
 The document's own order.Root, shadow.Of, Open.; What is told of a document that only is read.; Trees have no node twice; who stands in one (pure).
-/
import Derived.Test.YtkngpgkldkohgaaGreatB17
import Derived.Test.YtkngpgkldkohgaaGreatB26
import Derived.Test.YtkngpgkldkohgaaGreatB28
import Derived.Test.YtkngpgkldkohgaaGreatB19
import Derived.BigQuiet
namespace Go.Proofs.YtkngpgkldkohgaaGreat
set_option linter.unusedVariables false
set_option maxRecDepth 100000
set_option maxHeartbeats 8000000
section
open Go.RowKit Go.Sort
theorem othere_any (K : Nat -> Prop) (p : Nat) (M : Dm) (R G : Nat -> List Nat) (i : Int) (w : World) (h : RX K w p M R G) :
  Calls Tryz.prog 106 #[.pointer (some ⟨p, 0, none⟩), .int .i64 i] w fun e w' => e = .returned (.bool (decide (0 <= i) && decide (i < (M.n : Int)))) /\ w' = w := by
 obtain ⟨A, h⟩ := h
 have c1 := h.c1
 clear h
 by_cases h0 : 0 <= i
 ·have e0 : decide (i >= 0) = true := decide_eq_true h0
  rw [decide_eq_true h0]
  go_enter Tryz.func106, Tryz.ntmps106
  go_wp2
  go_ret
  exact ⟨by simp, rfl⟩
 ·have e0 : decide (i >= 0) = false := decide_eq_false h0
  rw [decide_eq_false h0]
  go_enter Tryz.func106, Tryz.ntmps106
  go_wp2
  go_ret
  exact ⟨by simp, rfl⟩
theorem pRoot_none (K : Nat -> Prop) (p : Nat) (M : Dm) (R G : Nat -> List Nat) (i : Int) (w : World) (h : RX K w p M R G) (hi : i < 0 \/ (M.n : Int) <= i) :
  Calls Tryz.prog 84 #[.pointer (some ⟨p, 0, none⟩), .int .i64 i] w fun e w' => e = .returned (.int .i64 (-1)) /\ w' = w := by
 have rt := othere_any K p M R G i w h
 rw [there_no hi] at rt
 clear h hi
 go_enter Tryz.func84, Tryz.ntmps84
 go_wp2_with (go_at_call 106; refine rt.mono ?_; rintro e1 w3 ⟨rfl, hw3⟩; replace hw3 := hw3.symm; subst hw3)
 go_ret
 exact ⟨rfl, rfl⟩
theorem pRoot_any (K : Nat -> Prop) (p i : Nat) (M : Dm) (R G : Nat -> List Nat) (rk : Nat -> Nat) (w : World) (h : RX K w p M R G) (hG : Good M R rk) (hi : i < M.n) (hn : M.n <= 1000000) :
  Calls Tryz.prog 84 #[.pointer (some ⟨p, 0, none⟩), .int .i64 (i : Int)] w fun e w' => ∃ t, t < M.n /\ TopOf M i t /\ e = .returned (.int .i64 (t : Int)) /\ w' = w := by
 have rt := othere_any K p M R G (i : Int) w h
 rw [there_yes hi] at rt
 obtain ⟨A, h⟩ := h
 obtain ⟨g, hg, -, -, -⟩ := h.nat (by omega)
 have c1 := h.c1
 rw [hg] at c1
 have HC : Hid (∀ k, k < M.n -> w.cell? ⟨g, k * 14 + 4, none⟩ = some (.int .i64 (M.pl k).up)) := fun k hk => h.cell hg hk 4 _ rfl
 have HG : Hid (Good M R rk) := hG
 clear h hg hG
 go_enter Tryz.func84, Tryz.ntmps84
 go_upto_region 3 with (go_at_call 106; refine rt.mono ?_; rintro e1 w3 ⟨rfl, hw3⟩; replace hw3 := hw3.symm; subst hw3)
 go_loopg [1] (rk i) (fun gh v wr => wr = w /\ ∃ k : Nat, gh = rk k /\ v = .int .i64 (k : Int) /\ k < M.n /\ (∀ t, TopOf M k t -> TopOf M i t))
 case atStart => exact ⟨rfl, i, rfl, rfl, hi, fun _ h => h⟩
 case round =>
  obtain ⟨rfl, k, hgk, rfl, hk, hT⟩ := hrel
  have HT : Hid (∀ t, TopOf M k t -> TopOf M i t) := hT
  have d4 := HC.out k hk
  clear hT
  rcases HG.out.wf.inn k hk with h0 | ⟨u, hu, hup, -⟩
  ·rw [h0] at d4
   have H0 : Hid ((M.pl k).up = -1) := h0
   have e0 : decide ((-1 : Int) >= 0) = false := by decide
   clear h0
   go_wp2
   go_ret
   exact ⟨k, hk, HT.out k (.here H0.out), rfl, rfl⟩
  ·have HUP : Hid ((M.pl k).up = (u : Int)) := hup
   have hrk := (HG.out.rk_up hk hup).2
   have e0 : decide ((u : Int) >= 0) = true := decide_eq_true (by omega)
   rw [hup] at d4
   clear hup
   go_wp2
   go_roundg (rk u)
   case rel => exact ⟨rfl, u, rfl, rfl, hu, fun t ht => HT.out t (.up HUP.out ht)⟩
   case measure => omega
theorem OfOf.ex {M : Dm} {R : Nat -> List Nat} {rk : Nat -> Nat} (h : Good M R rk) {i : Nat} (hi : i < M.n) : ∃ z, OfOf M i z := by
 obtain ⟨t, ht, hT, _⟩ := h.top (rk i + 1) i (Nat.lt_succ_self _) hi
 by_cases c : (M.nd t).kind = 5
 ·exact ⟨_, .yes hT c⟩
 ·exact ⟨_, .no hT c⟩
theorem pOf_any (K : Nat -> Prop) (p i : Nat) (M : Dm) (R G : Nat -> List Nat) (rk : Nat -> Nat) (w : World) (h : RX K w p M R G) (hG : Good M R rk) (hi : i < M.n) (hn : M.n <= 1000000) :
  Calls Tryz.prog 27 #[.pointer (some ⟨p, 0, none⟩), .int .i64 (i : Int)] w fun e w' => ∃ z : Int, OfOf M i z /\ e = .returned (.int .i64 z) /\ w' = w := by
 have r1 := pRoot_any K p i M R G rk w h hG hi hn
 obtain ⟨A, h⟩ := h
 obtain ⟨g, hg, -, -, -⟩ := h.nat (by omega)
 have c1 := h.c1
 rw [hg] at c1
 have HC : Hid (∀ k, k < M.n -> w.cell? ⟨g, k * 14, none⟩ = some (.int .u8 ((M.nd k).kind : Int))) := fun k hk => h.cell hg hk 0 _ rfl
 clear h hg hG
 go_enter Tryz.func27, Tryz.ntmps27
 go_wp2_with fail
 refine r1.mono ?_
 rintro e w1 ⟨t, ht, hT, rfl, hw⟩
 replace hw := hw.symm
 subst hw
 have d0 := HC.out t ht
 have HT : Hid (TopOf M i t) := hT
 have e0 : decide ((t : Int) >= 0) = true := decide_eq_true (by omega)
 obtain ⟨kd, hkd⟩ : ∃ kd, (M.nd t).kind = kd := ⟨_, rfl⟩
 have HKD : Hid ((M.nd t).kind = kd) := hkd
 rw [hkd] at d0
 clear r1 hT hkd
 by_cases c : kd = 5
 ·subst c
  go_wp2
  go_ret
  exact ⟨_, .yes HT.out HKD.out, rfl, rfl⟩
 ·have e1 : ((kd : Int) == 5) = false := by simp; omega
  have e2 : ¬ (kd : Int) = 5 := by omega
  go_wp2
  go_ret
  exact ⟨_, .no HT.out (by rw [HKD.out]; exact c), rfl, rfl⟩
theorem pOf_none (K : Nat -> Prop) (p : Nat) (M : Dm) (R G : Nat -> List Nat) (i : Int) (w : World) (h : RX K w p M R G) (hi : i < 0 \/ (M.n : Int) <= i) :
  Calls Tryz.prog 27 #[.pointer (some ⟨p, 0, none⟩), .int .i64 i] w fun e w' => e = .returned (.int .i64 (-1)) /\ w' = w := by
 have rt := pRoot_none K p M R G i w h hi
 clear h hi
 have e0 : decide ((-1 : Int) >= 0) = false := by decide
 go_enter Tryz.func27, Tryz.ntmps27
 go_wp2_with (go_at_call 84; refine rt.mono ?_; rintro e1 w3 ⟨rfl, hw3⟩; replace hw3 := hw3.symm; subst hw3)
 go_ret
 exact ⟨rfl, rfl⟩
end
section
open Go.RowKit
theorem u16_of {i : Int} (h : (Lit.int .u16 i).wf = true) : 0 <= i /\ i <= 65535 := by
 have h1 : IntKind.min .u16 <= i /\ i <= IntKind.max .u16 := by simpa [Lit.wf] using h
 exact h1
section
variable {K E : Nat -> Prop} {w : World} {p r : Nat} {M : Dm} {R G : Nat -> List Nat} {rk : Nat -> Nat} {lim : Nat}
theorem Grown.nle (h : Grown K E w p r M R G rk lim) (hl : lim <= 100000) : M.n <= 100000 := by have := h.le; rw [h.lim] at this; omega
theorem Grown.root (h : Grown K E w p r M R G rk lim) (hl : lim <= 100000) {i t : Nat} (hi : i < M.n) (hT : TopOf M i t) {X : World} (hk : Kept (fun k => k < w.heap.size) w X) :
  Calls Tryz.prog 167 #[.pointer (some ⟨p, 0, none⟩), .int .i64 (i : Int)] X fun e w' => e = .returned (.int .i64 (t : Int)) /\ Kept (fun k => k < X.heap.size) X w' :=
 (oroot_any _ p i M R rk X (h.two.d.kept hk) h.inv.good hi (by have := h.nle hl; omega)).mono fun e w' ⟨t', _, h2, h3, h4⟩ => by rw [h2.one hT] at h3; exact ⟨h3, h4⟩
theorem Grown.pRoot (h : Grown K E w p r M R G rk lim) (hl : lim <= 100000) {i t : Nat} (hi : i < M.n) (hT : TopOf M i t) {X : World} (hk : Kept (fun k => k < w.heap.size) w X) :
  Calls Tryz.prog 84 #[.pointer (some ⟨r, 0, none⟩), .int .i64 (i : Int)] X fun e w' => e = .returned (.int .i64 (t : Int)) /\ w' = X :=
 (pRoot_any _ r i M R G rk X (h.two.r.kept hk) h.inv.good hi (by have := h.nle hl; omega)).mono fun e w' ⟨t', _, h2, h3, h4⟩ => by rw [h2.one hT] at h3; exact ⟨h3, h4⟩
theorem Grown.of (h : Grown K E w p r M R G rk lim) (hl : lim <= 100000) {i : Nat} {z : Int} (hi : i < M.n) (hT : OfOf M i z) {X : World} (hk : Kept (fun k => k < w.heap.size) w X) :
  Calls Tryz.prog 122 #[.pointer (some ⟨p, 0, none⟩), .int .i64 (i : Int)] X fun e w' => e = .returned (.int .i64 z) /\ Kept (fun k => k < X.heap.size) X w' :=
 (of_any _ p i M R rk X (h.two.d.kept hk) h.inv.good hi (by have := h.nle hl; omega)).mono fun e w' ⟨t', h2, h3, h4⟩ => by rw [h2.one hT] at h3; exact ⟨h3, h4⟩
theorem Grown.pOf (h : Grown K E w p r M R G rk lim) (hl : lim <= 100000) {i : Nat} {z : Int} (hi : i < M.n) (hT : OfOf M i z) {X : World} (hk : Kept (fun k => k < w.heap.size) w X) :
  Calls Tryz.prog 27 #[.pointer (some ⟨r, 0, none⟩), .int .i64 (i : Int)] X fun e w' => e = .returned (.int .i64 z) /\ w' = X :=
 (pOf_any _ r i M R G rk X (h.two.r.kept hk) h.inv.good hi (by have := h.nle hl; omega)).mono fun e w' ⟨t', h2, h3, h4⟩ => by rw [h2.one hT] at h3; exact ⟨h3, h4⟩
theorem Inv.sh (h : Inv M R G rk) {i : Nat} (hi : i < M.n) : (M.nd i).shadow = -1 \/ ∃ s : Nat, s < M.n /\ (M.nd i).shadow = (s : Int) := by
 rcases h.core.shad i hi with e | ⟨k, hk, e, _⟩
 ·exact .inl e
 ·exact .inr ⟨k, hk, e⟩
theorem Inv.of (h : Inv M R G rk) {i : Nat} (hi : i < M.n) : ∃ z t, OfOf M i z /\ t < M.n /\ TopOf M i t /\ ((z = (t : Int) /\ (M.nd t).kind = 5) \/ (z = -1 /\ (M.nd t).kind ≠ 5)) := by
 obtain ⟨t, ht, hT, _⟩ := h.good.top (rk i + 1) i (Nat.lt_succ_self _) hi
 by_cases c : (M.nd t).kind = 5
 ·exact ⟨_, t, .yes hT c, ht, hT, .inl ⟨rfl, c⟩⟩
 ·exact ⟨_, t, .no hT c, ht, hT, .inr ⟨rfl, c⟩⟩
theorem top_ins {u k j t : Nat} (h4 : (M.nd k).kind ≠ 4) (hw : ¬ Wi M k j) (hT : TopOf M j t) : TopOf (M.setP (putD M R u k (-1))) j t := by
 have hbk : ¬ (-1 : Int) = (k : Int) := by omega
 have hup : ∀ x, x ≠ k -> ((M.setP (putD M R u k (-1))).pl x).up = (M.pl x).up := fun x hx => by
  show (putD M R u k (-1) x).up = _
  unfold putD
  rw [if_neg h4, if_neg hbk]
  exact put_up hx
 induction hT with
 | @here x h0 =>
  have hx : x ≠ k := fun e => hw (by rw [e]; exact .here)
  exact .here ((hup x hx).trans h0)
 | @up x m t e _ ih =>
  have hx : x ≠ k := fun e => hw (by rw [e]; exact .here)
  have hp : parI M x = (m : Int) := by unfold parI; rw [if_neg (by omega)]; exact e
  exact .up ((hup x hx).trans e) (ih fun hh => hw (.up hp hh))
theorem of_ins {u k : Nat} {z : Int} (h4 : (M.nd k).kind ≠ 4) (hw : ¬ Wi M k u) (hO : OfOf M u z) : OfOf (M.setP (putD M R u k (-1))) k z := by
 have hup : ((M.setP (putD M R u k (-1))).pl k).up = (u : Int) := by
  show (putD M R u k (-1) k).up = _
  unfold putD
  rw [if_neg h4, if_neg (by omega)]
  exact put_up_same
 cases hO with
 | yes hT h5 => exact .yes (.up hup (top_ins h4 hw hT)) h5
 | no hT h5 => exact .no (.up hup (top_ins h4 hw hT)) h5
end
end
section
open Go.RowKit
inductive Up (n : Nat) (F : Nat -> List Nat) (a : Nat) : Nat -> Prop
 | here : Up n F a a
 | up {x y : Nat} : y < n -> x ∈ F y -> Up n F a y -> Up n F a x
structure Only (n : Nat) (F : Nat -> List Nat) (rk : Nat -> Nat) : Prop where
 falls : Falls n F rk
 one : ∀ i j k, i < n -> j < n -> k ∈ F i -> k ∈ F j -> i = j
 nd : ∀ i, i < n -> (F i).Nodup
section
variable {n : Nat} {F : Nat -> List Nat} {rk : Nat -> Nat}
theorem Up.low (h : Falls n F rk) {a x : Nat} (hu : Up n F a x) : a = x \/ rk a < rk x := by
 induction hu with
 | here => exact .inl rfl
 | up hy hm _ ih =>
  have := (h _ hy _ hm).2
  rcases ih with rfl | ih
  ·exact .inr this
  ·exact .inr (Nat.lt_trans ih this)
theorem Up.trans {a b x : Nat} (h : Up n F a b) (k : Up n F b x) : Up n F a x := by
 induction k with
 | here => exact h
 | up hy hm _ ih => exact .up hy hm ih
theorem Up.lin (h : Only n F rk) {a b x : Nat} (ha : Up n F a x) : Up n F b x -> Up n F a b \/ Up n F b a := by
 induction ha with
 | here => exact fun hb => .inr hb
 | @up x y hy hm h1 ih =>
  intro hb
  cases hb with
  | here => exact .inl (.up hy hm h1)
  | @up _ z hz hm' h2 =>
   have := h.one y z x hy hz hm hm'
   subst this
   exact ih h2
theorem mem_trF (h : Falls n F rk) : ∀ (f i : Nat), i < n -> ∀ x ∈ trF F f i, Up n F i x
 | 0, i, hi, x, hx => by
  rcases List.mem_singleton.1 hx with rfl
  exact .here
 | f + 1, i, hi, x, hx => by
  rcases List.mem_cons.1 hx with rfl | hx
  ·exact .here
  ·obtain ⟨m, hm, hx⟩ := List.mem_flatMap.1 hx
   exact Up.trans (.up hi hm .here) (mem_trF h f m (h i hi m hm).1 x hx)
theorem mem_tr (h : Falls n F rk) {i x : Nat} (hi : i < n) : x ∈ tr n F i ↔ Up n F i x := by
 refine ⟨mem_trF h n i hi x, fun hu => ?_⟩
 induction hu with
 | here => rw [tr_eq h hi]; exact List.mem_cons_self ..
 | @up x y hy hm _ ih =>
  have key : ∀ (f i : Nat), i < n -> dn n rk i < f -> y ∈ tr n F i -> x ∈ tr n F i := by
   intro f
   induction f with
   | zero => exact fun i _ h => absurd h (Nat.not_lt_zero _)
   | succ f ihf =>
    intro i hi hf hyi
    rw [tr_eq h hi] at hyi ⊢
    rcases List.mem_cons.1 hyi with rfl | hyi
    ·refine List.mem_cons_of_mem _ (List.mem_flatMap.2 ⟨x, hm, ?_⟩)
     rw [tr_eq h (h y hy x hm).1]
     exact List.mem_cons_self ..
    ·obtain ⟨m, hmi, hy'⟩ := List.mem_flatMap.1 hyi
     have hmn := h i hi m hmi
     exact List.mem_cons_of_mem _ (List.mem_flatMap.2 ⟨m, hmi, ihf m hmn.1 (by have := dn_lt hmn.1 hmn.2; omega) hy'⟩)
  exact key _ i hi (Nat.lt_succ_self _) ih
theorem nodup_flatMap {f : Nat -> List Nat} : ∀ {l : List Nat}, l.Nodup -> (∀ x ∈ l, (f x).Nodup) -> (∀ x ∈ l, ∀ y ∈ l, x ≠ y -> ∀ z, z ∈ f x -> z ∉ f y) -> (l.flatMap f).Nodup
 | [], _, _, _ => List.nodup_nil
 | x :: r, hn, hf, hd => by
  have hn' := List.nodup_cons.1 hn
  rw [List.flatMap_cons, List.nodup_append]
  refine ⟨hf x (List.mem_cons_self ..), nodup_flatMap hn'.2 (fun y hy => hf y (List.mem_cons_of_mem _ hy)) (fun a ha b hb => hd a (List.mem_cons_of_mem _ ha) b (List.mem_cons_of_mem _ hb)), fun a ha b hb e => ?_⟩
  subst e
  obtain ⟨y, hy, hz⟩ := List.mem_flatMap.1 hb
  exact hd x (List.mem_cons_self ..) y (List.mem_cons_of_mem _ hy) (fun e => hn'.1 (e ▸ hy)) a ha hz
theorem tr_nodup (h : Only n F rk) : ∀ (f i : Nat), i < n -> dn n rk i < f -> (tr n F i).Nodup
 | 0, i, _, hf => absurd hf (Nat.not_lt_zero _)
 | f + 1, i, hi, hf => by
  rw [tr_eq h.falls hi]
  refine List.nodup_cons.2 ⟨fun hm => ?_, nodup_flatMap (h.nd i hi) (fun x hx => ?_) (fun x hx y hy hxy z hz1 hz2 => ?_)⟩
  ·obtain ⟨k, hk, hm⟩ := List.mem_flatMap.1 hm
   have hkn := h.falls i hi k hk
   rcases ((mem_tr h.falls hkn.1).1 hm).low h.falls with e | e
   ·rw [e] at hkn; omega
   ·omega
  ·have hkn := h.falls i hi x hx
   exact tr_nodup h f x hkn.1 (by have := dn_lt hkn.1 hkn.2; omega)
  ·have hxn := h.falls i hi x hx
   have hyn := h.falls i hi y hy
   have u1 := (mem_tr h.falls hxn.1).1 hz1
   have u2 := (mem_tr h.falls hyn.1).1 hz2
   have no : ∀ a b, a ∈ F i -> b ∈ F i -> a ≠ b -> ¬ Up n F a b := fun a b ha hb hab hu => by
    cases hu with
    | here => exact hab rfl
    | @up _ c hc hm hu =>
     have := h.one i c b hi hc hb hm
     subst this
     have := (h.falls i hi a ha).2
     rcases hu.low h.falls with e | e
     ·rw [e] at this; omega
     ·omega
   rcases Up.lin h u1 u2 with q | q
   ·exact no x y hx hy hxy q
   ·exact no y x hy hx (fun e => hxy e.symm) q
theorem tr_len (h : Only n F rk) {i : Nat} (hi : i < n) : (tr n F i).length <= n :=
 nodup_le n _ (tr_nodup h _ i hi (Nat.lt_succ_self _)) (fun x hx => tr_lt h.falls n i hi x hx)
end
section
variable {M : Dm} {R G : Nat -> List Nat} {rk : Nat -> Nat}
theorem Good.only (h : Good M R rk) : Only M.n R rk := ⟨h.falls, fun i j k hi hj h1 h2 => h.wf.one hi hj h1 h2, fun i hi => h.wf.nodup i hi⟩
theorem fwd_mem {i k : Nat} : k ∈ fwd M R i ↔ k ∈ R i \/ ((M.nd i).shadow ≠ -1 /\ k = (M.nd i).shadow.toNat) := by
 unfold fwd
 by_cases c : (M.nd i).shadow = -1
 ·rw [if_pos c]
  exact ⟨.inl, fun h => h.elim id (fun h => absurd c h.1)⟩
 ·rw [if_neg c, List.mem_cons]
  exact ⟨fun h => h.elim (fun h => .inr ⟨c, h⟩) .inl, fun h => h.elim .inr (fun h => .inl h.2)⟩
theorem Inv.shd (h : Inv M R G rk) {i : Nat} (hi : i < M.n) (hs : (M.nd i).shadow ≠ -1) : ∃ s : Nat, (M.nd i).shadow = (s : Int) /\ s < M.n /\ (M.nd s).host = (i : Int) /\ (M.pl s).up = -1 := by
 rcases h.core.shad i hi with e | ⟨s, hsn, e, _⟩
 ·exact absurd e hs
 ·have := h.shadow hi e
  exact ⟨s, e, hsn, this.2.2.1, this.2.2.2.1⟩
theorem Inv.only (h : Inv M R G rk) : Only M.n (fwd M R) rk := by
 refine ⟨h.falls, fun i j k hi hj h1 h2 => ?_, fun i hi => ?_⟩
 ·rcases fwd_mem.1 h1 with a1 | ⟨a1, a2⟩ <;> rcases fwd_mem.1 h2 with b1 | ⟨b1, b2⟩
  ·exact h.good.wf.one hi hj a1 b1
  ·obtain ⟨s, e, _, _, hu⟩ := h.shd hj b1
   rw [e, Int.toNat_natCast] at b2
   subst b2
   have := (h.good.kid hi a1).2.1
   omega
  ·obtain ⟨s, e, _, _, hu⟩ := h.shd hi a1
   rw [e, Int.toNat_natCast] at a2
   subst a2
   have := (h.good.kid hj b1).2.1
   omega
  ·obtain ⟨s, e, _, hh, _⟩ := h.shd hi a1
   obtain ⟨s', e', _, hh', _⟩ := h.shd hj b1
   rw [e, Int.toNat_natCast] at a2
   rw [e', Int.toNat_natCast] at b2
   subst a2
   subst b2
   omega
 ·unfold fwd
  by_cases c : (M.nd i).shadow = -1
  ·rw [if_pos c]; exact h.good.wf.nodup i hi
  ·rw [if_neg c]
   refine List.nodup_cons.2 ⟨fun hm => ?_, h.good.wf.nodup i hi⟩
   obtain ⟨s, e, _, _, hu⟩ := h.shd hi c
   rw [e, Int.toNat_natCast] at hm
   have := (h.good.kid hi hm).2.1
   omega
end
end
end Go.Proofs.YtkngpgkldkohgaaGreat
