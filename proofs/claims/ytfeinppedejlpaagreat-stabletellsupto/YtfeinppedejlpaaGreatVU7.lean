/-
  PURE: what the places' table tells is what is told of each node.
-/
import Derived.Test.YtfeinppedejlpaaGreatVU6
namespace Go.Proofs.YtfeinppedejlpaaGreat
open Go.RowKit Go.Sort
set_option linter.unusedVariables false
def zfx (M : Dm) (l : List Nat) : Nat := match l.getLast? with
 | none => 0
 | some x => (M.nd x).kind
theorem zda (M : Dm) (l : List Nat) (k : Nat) : zfx M (l ++ [k]) = (M.nd k).kind := by
 unfold zfx
 rw [List.getLast?_concat]
theorem zj9 (f : Nat -> Nat) (i v : Nat) : upF f i v i = v := by unfold upF; simp
theorem zf4 (f : Nat -> Nat) {i x : Nat} (v : Nat) (h : x ≠ i) : upF f i v x = f x := by unfold upF; simp [h]
section
variable {M : Dm} {R G : Nat -> List Nat} {rk : Nat -> Nat}
theorem zrq (h : Inv M R G rk) (P : Nat -> Prop) (F : Nat -> Bool) (D : Nat -> Nat) (hD : ∀ u k, P u -> u < M.n -> k ∈ fwd M R u -> P k /\ D k = D u + 1)
  (hF : ∀ u pre k post, P u -> u < M.n -> fwd M R u = pre ++ k :: post -> F k = (zbc (M.nd k) && zcy (D u) (M.nd k).kind (zfx M pre))) :
  ∀ (f u : Nat), P u -> u < M.n -> dn M.n rk u < f -> ∀ (l pre : List Nat), fwd M R u = pre ++ l -> ∀ (S : List Nat) (d la : Nat -> Nat), d u = D u -> la u = zfx M pre -> (∀ x ∈ l.flatMap (tr M.n (fwd M R)), la x = 0) ->
   ∃ d' la', stG M (l.flatMap (tr M.n (fwd M R)) ++ S) d la = ((l.flatMap (tr M.n (fwd M R))).all F && stG M S d' la') /\ (∀ x, x ∉ l.flatMap (tr M.n (fwd M R)) -> d' x = d x /\ (x ≠ u -> la' x = la x)) /\ la' u = zfx M (fwd M R u) := by
 intro f
 induction f with
 | zero => intro u _ _ h0; exact absurd h0 (Nat.not_lt_zero _)
 | succ f ih =>
  intro u hpu hu hf l
  induction l with
  | nil =>
   intro pre e S d la h1 h2 h3
   refine ⟨d, la, by simp, fun x _ => ⟨rfl, fun _ => rfl⟩, ?_⟩
   rw [h2, e, List.append_nil]
  | cons k l ihl =>
   intro pre e S d la h1 h2 h3
   have hk : k ∈ fwd M R u := by rw [e]; simp
   obtain ⟨hkn, hab⟩ := zgc h hu hk
   have hfk := h.only.falls u hu k hk
   have htk := zcr h.only.falls hkn
   have hnd := zgn h.only (dn M.n rk u + 1) u hu (Nat.lt_succ_self _)
   rw [zcr h.only.falls hu, e, List.flatMap_append, List.flatMap_cons, htk] at hnd
   rw [List.flatMap_cons, htk] at h3 ⊢
   obtain ⟨hu1, hnd1⟩ := List.nodup_cons.1 hnd
   obtain ⟨-, hnd2, -⟩ := List.nodup_append.1 hnd1
   obtain ⟨hndk, hndl, hdis⟩ := List.nodup_append.1 hnd2
   obtain ⟨hkk, hndk2⟩ := List.nodup_cons.1 hndk
   have huk : u ≠ k := fun c => hu1 (by rw [c]; simp)
   have hus : u ∉ (fwd M R k).flatMap (tr M.n (fwd M R)) := fun c => hu1 (by
    refine List.mem_append_right _ (List.mem_append_left _ (List.mem_cons_of_mem _ c)))
   obtain ⟨d2, la2, r1, r2, r3⟩ := ih k (hD u k hpu hu hk).1 hkn (by have := zdq hfk.1 hfk.2; omega) (fwd M R k) [] rfl (l.flatMap (tr M.n (fwd M R)) ++ S) (upF d k (d u + 1)) (upF la u (M.nd k).kind)
    (by rw [zj9, (hD u k hpu hu hk).2, h1]) (by rw [zf4 _ _ (Ne.symm huk), h3 k (by simp)]; rfl)
    (fun x hx => by
     have hxu : x ≠ u := fun c => hus (by rw [<- c]; exact hx)
     rw [zf4 _ _ hxu]
     exact h3 x (List.mem_append_left _ (List.mem_cons_of_mem _ hx)))
   have q1 := r2 u hus
   obtain ⟨d3, la3, t1, t2, t3⟩ := ihl (pre ++ [k]) (by rw [e]; simp) S d2 la2 (by rw [q1.1, zf4 _ _ huk, h1]) (by rw [q1.2 huk, zj9, zda]) (fun x hx => by
     have hxk : x ∉ k :: (fwd M R k).flatMap (tr M.n (fwd M R)) := fun c => hdis x c x hx rfl
     rw [List.mem_cons, not_or] at hxk
     have hxu : x ≠ u := fun c => hu1 (by rw [<- c]; exact List.mem_append_right _ (List.mem_append_right _ hx))
     rw [(r2 x hxk.2).2 hxk.1, zf4 _ _ hxu]
     exact h3 x (List.mem_append_right _ hx))
   refine ⟨d3, la3, ?_, fun x hx => ?_, t3⟩
   ·have e1 : stG M (k :: (fwd M R k).flatMap (tr M.n (fwd M R)) ++ l.flatMap (tr M.n (fwd M R)) ++ S) d la = (zbc (M.nd k) && (zcy (d u) (M.nd k).kind (la u) && stG M ((fwd M R k).flatMap (tr M.n (fwd M R)) ++ (l.flatMap (tr M.n (fwd M R)) ++ S)) (upF d k (d u + 1)) (upF la u (M.nd k).kind))) := by
     rw [List.append_assoc, List.cons_append]
     show (zbc (M.nd k) && (zcy (d (abv M k).toNat) (M.nd k).kind (la (abv M k).toNat) && stG M _ (upF d k (d (abv M k).toNat + 1)) (upF la (abv M k).toNat (M.nd k).kind))) = _
     rw [hab, Int.toNat_natCast]
    rw [e1, r1, t1, List.all_append, List.all_cons, hF u pre k l hpu hu e, h1, h2]
    simp only [Bool.and_assoc]
   ·rw [List.mem_append, List.mem_cons, not_or, not_or] at hx
    have a1 := t2 x hx.2
    have a2 := r2 x hx.1.2
    exact ⟨by rw [a1.1, a2.1, zf4 _ _ hx.1.1], fun hxu => by rw [a1.2 hxu, a2.2 hx.1.1, zf4 _ _ hxu]⟩
theorem zte (h : Inv M R G rk) (P : Nat -> Prop) (F : Nat -> Bool) (D : Nat -> Nat) (hD : ∀ u k, P u -> u < M.n -> k ∈ fwd M R u -> P k /\ D k = D u + 1)
  (hF : ∀ u pre k post, P u -> u < M.n -> fwd M R u = pre ++ k :: post -> F k = (zbc (M.nd k) && zcy (D u) (M.nd k).kind (zfx M pre))) {i : Nat} (hi : i < M.n) (hp : P i) (h0 : D i = 0) :
  stG M ((tr M.n (fwd M R) i).drop 1) (fun _ => 0) (fun _ => 0) = ((tr M.n (fwd M R) i).drop 1).all F := by
 rw [zcr h.only.falls hi, List.drop_one, List.tail_cons]
 obtain ⟨d', la', e, -, -⟩ := zrq h P F D hD hF (dn M.n rk i + 1) i hp hi (Nat.lt_succ_self _) (fwd M R i) [] rfl [] (fun _ => 0) (fun _ => 0) h0.symm rfl (fun _ _ => rfl)
 rw [List.append_nil] at e
 rw [e]
 exact Bool.and_true _
def Zin (M : Dm) (rk : Nat -> Nat) (i k m : Nat) : Prop := (∃ c, Zsr M k i m c) /\ m + dn M.n rk k <= dn M.n rk i
theorem Zin.start (i : Nat) : Zin M rk i i 0 := ⟨⟨fun _ => i, rfl, rfl, fun t ht => absurd ht (Nat.not_lt_zero _)⟩, by omega⟩
theorem Zin.down (h : Inv M R G rk) {i u k m : Nat} (hw : Zin M rk i u m) (hu : u < M.n) (hk : k ∈ fwd M R u) : Zin M rk i k (m + 1) := by
 obtain ⟨⟨c, hc⟩, hm⟩ := hw
 obtain ⟨hkn, hab⟩ := zgc h hu hk
 have hf := h.only.falls u hu k hk
 have hlt := zdq hf.1 hf.2
 refine ⟨⟨fun t => if t = 0 then k else c (t - 1), ?_, ?_, fun t ht => ?_⟩, by omega⟩
 ·simp
 ·show (if m + 1 = 0 then k else c (m + 1 - 1)) = i
  rw [if_neg (Nat.succ_ne_zero _), Nat.add_sub_cancel]
  exact hc.atm
 ·by_cases h0 : t = 0
  ·subst h0
   refine ⟨?_, ?_, ?_⟩
   ·show k ≠ i
    intro e
    subst e
    omega
   ·exact hkn
   ·show abv M k = _
    rw [hab]
    show (u : Int) = ((c 0 : Nat) : Int)
    rw [hc.at0]
  ·obtain ⟨t, rfl⟩ : ∃ s, t = s + 1 := ⟨t - 1, by omega⟩
   have := hc.off t (by omega)
   show c (t + 1 - 1) ≠ i /\ c (t + 1 - 1) < M.n /\ abv M (c (t + 1 - 1)) = ((c (t + 1 + 1 - 1) : Nat) : Int)
   rw [Nat.add_sub_cancel, Nat.add_sub_cancel]
   exact this
theorem Zsr.one {i k m m' : Nat} {c c' : Nat -> Nat} (h : Zsr M k i m c) (h' : Zsr M k i m' c') : m = m' := by
 have e : ∀ t, t <= m -> t <= m' -> c t = c' t := by
  intro t
  induction t with
  | zero => intro _ _; rw [h.at0, h'.at0]
  | succ t ih =>
   intro h1 h2
   have a := (h.off t (by omega)).2.2
   have b := (h'.off t (by omega)).2.2
   rw [ih (by omega) (by omega)] at a
   rw [a] at b
   exact Int.ofNat.inj b
 rcases Nat.lt_trichotomy m m' with l | l | l
 ·exact absurd (((e m (Nat.le_refl _) (by omega)).symm.trans h.atm)) (h'.off m l).1
 ·exact l
 ·exact absurd (((e m' (by omega) (Nat.le_refl _)).trans h'.atm)) (h.off m' l).1
noncomputable def dpt (M : Dm) (rk : Nat -> Nat) (i k : Nat) : Nat := open Classical in if h : ∃ m, Zin M rk i k m then h.choose else 0
theorem Zin.dpt {i k m : Nat} (h : Zin M rk i k m) : dpt M rk i k = m := by
 have hx : ∃ m, Zin M rk i k m := ⟨m, h⟩
 unfold Go.Proofs.YtfeinppedejlpaaGreat.dpt
 rw [dif_pos hx]
 obtain ⟨c, hc⟩ := hx.choose_spec.1
 obtain ⟨c', hc'⟩ := h.1
 exact hc.one hc'
theorem ztn {A B : List Nat} {k : Nat} (h : k ∉ A) : (A ++ k :: B).idxOf k = A.length := by
 induction A with
 | nil => rw [List.nil_append, List.idxOf_cons_self]; rfl
 | cons a A ih =>
  have h1 : a ≠ k := fun e => h (by rw [e]; simp)
  have h2 : (a == k) = false := by rw [beq_eq_false_iff_ne]; exact h1
  rw [List.cons_append, List.idxOf_cons, h2, ih (fun c => h (List.mem_cons_of_mem _ c))]
  rfl
theorem zqu (M : Dm) (A B : List Nat) (k : Nat) (h : k ∉ A) : lnB M (A ++ k :: B) ((A ++ k :: B).idxOf k) = !decide (zfx M A = 2) := by
 rw [ztn h]
 rcases List.eq_nil_or_concat A with e | ⟨A', x, e⟩
 ·subst e; rfl
 ·subst e
  rw [List.concat_eq_append] at *
  rw [List.length_append, List.length_singleton, zda]
  show (!decide ((M.nd (((A' ++ [x]) ++ k :: B).getD A'.length 0)).kind = 2)) = _
  rw [List.append_assoc, List.getD_eq_getElem?_getD, List.getElem?_append_right (Nat.le_refl _), Nat.sub_self]
  rfl
theorem zp6 (h : Inv M R G rk) {u k : Nat} {pre post : List Nat} (hu : u < M.n) (e : fwd M R u = pre ++ k :: post) (k2 : (M.nd k).kind = 2) : lnB M (R u) ((R u).idxOf k) = !decide (zfx M pre = 2) := by
 have hnd := h.only.nd u hu
 rw [e] at hnd
 have hkp : k ∉ pre := by
  intro c
  obtain ⟨-, -, hd⟩ := List.nodup_append.1 hnd
  exact hd k c k (by simp) rfl
 by_cases hs : (M.nd u).shadow = -1
 ·have e1 : fwd M R u = R u := by unfold fwd; rw [if_pos hs]
  rw [<- e1, e]
  exact zqu M pre post k hkp
 ·rcases h.core.shad u hu with c | ⟨s, hsn, e1, -, h5, -⟩
  ·exact absurd c hs
  ·have e2 : fwd M R u = s :: R u := by unfold fwd; rw [if_neg hs, e1, Int.toNat_natCast]
   rw [e2] at e
   cases pre with
   | nil =>
    rw [List.nil_append] at e
    injection e with a b
    subst a
    omega
   | cons a pre =>
    rw [List.cons_append] at e
    injection e with a1 b
    subst a1
    rw [b, zqu M pre post k (fun c => hkp (List.mem_cons_of_mem _ c))]
    rcases List.eq_nil_or_concat pre with q | ⟨A', x, q⟩
    ·subst q
     show (!decide (0 = 2)) = !decide ((M.nd s).kind = 2)
     rw [h5]; rfl
    ·subst q
     rw [List.concat_eq_append, zda, show s :: (A' ++ [x]) = (s :: A') ++ [x] from rfl, zda]
noncomputable def zs8 (M : Dm) (R : Nat -> List Nat) (rk : Nat -> Nat) (i k : Nat) : Bool :=
 zbc (M.nd k) && (!decide ((M.nd k).kind = 2) || lnB M (R (abv M k).toNat) ((R (abv M k).toNat).idxOf k)) && decide (dpt M rk i k <= 40)
theorem zn8 (h : Inv M R G rk) {i : Nat} (hi : i < M.n) : stG M ((tr M.n (fwd M R) i).drop 1) (fun _ => 0) (fun _ => 0) = ((tr M.n (fwd M R) i).drop 1).all (zs8 M R rk i) := by
 refine zte h (fun u => ∃ m, Zin M rk i u m) _ (dpt M rk i) (fun u k ⟨m, hm⟩ hu hk => ?_) (fun u pre k post ⟨m, hm⟩ hu e => ?_) hi ⟨0, Zin.start i⟩ (Zin.start i).dpt
 ·have hw := hm.down h hu hk
  exact ⟨⟨_, hw⟩, by rw [hw.dpt, hm.dpt]⟩
 ·have hk : k ∈ fwd M R u := by rw [e]; simp
  have hw := hm.down h hu hk
  obtain ⟨hkn, hab⟩ := zgc h hu hk
  unfold zs8 zcy
  rw [hw.dpt, hm.dpt, hab, Int.toNat_natCast]
  by_cases k2 : (M.nd k).kind = 2
  ·have hl : lnB M (R u) ((R u).idxOf k) = !decide (zfx M pre = 2) := zp6 h hu e k2
   rw [hl, k2]
   cases zbc (M.nd k) <;> cases decide (zfx M pre = 2) <;> cases decide (m + 1 <= 40) <;> rfl
  ·rw [decide_eq_false k2]
   cases zbc (M.nd k) <;> cases decide (m + 1 <= 40) <;> rfl
end
end Go.Proofs.YtfeinppedejlpaaGreat
