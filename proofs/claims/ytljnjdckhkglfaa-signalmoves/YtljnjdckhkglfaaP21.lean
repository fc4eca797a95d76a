/-
 The order in which shadow roots come ahead of kids; what is shown is a forest (pure).; What is shown, at last, and as a tree (pure).
-/
import Derived.Test.YtljnjdckhkglfaaP19
namespace Go.Proofs.Ytljnjdckhkglfaa
set_option linter.unusedVariables false
set_option maxRecDepth 100000
set_option maxHeartbeats 8000000
section
theorem idx_lt {l P S : List Nat} {x k : Nat} (e : l = P ++ S) (hx : x ∈ P) (hk : k ∉ P) : l.idxOf x < l.idxOf k := by
 rw [e, List.idxOf_append, List.idxOf_append, if_pos hx, if_neg hk]
 have := List.idxOf_lt_length_of_mem hx
 omega
theorem Up.mono {n : Nat} {F F' : Nat -> List Nat} (hs : ∀ i, i < n -> ∀ k ∈ F i, k ∈ F' i) {a x : Nat} (h : Up n F a x) : Up n F' a x := by
 induction h with
 | here => exact .here
 | up hy hm _ ih => exact .up hy (hs _ hy _ hm) ih
theorem tr_block' {n : Nat} {F : Nat -> List Nat} {rk : Nat -> Nat} (h : Only n F rk) {s i : Nat} (hs : s < n) (hu : Up n F s i) : i < n /\ ∃ q r, tr n F s = q ++ (tr n F i ++ r) := by
 induction hu with
 | here => exact ⟨hs, [], [], by rw [List.nil_append, List.append_nil]⟩
 | @up x y hy hm _ ih =>
  obtain ⟨_, q, r, e⟩ := ih
  obtain ⟨A, B, hAB⟩ := List.append_of_mem hm
  refine ⟨(h.falls y hy x hm).1, q ++ (y :: A.flatMap (tr n F)), B.flatMap (tr n F) ++ r, ?_⟩
  rw [e, tr_eq h.falls hy, hAB, List.flatMap_append, List.flatMap_cons]
  simp only [List.append_assoc, List.cons_append]
section
variable {M : Dm} {R G : Nat -> List Nat} {rk : Nat -> Nat}
theorem Inv.topT_up (h : Inv M R G rk) {x t : Nat} (hT : TopT M x t) : x < M.n -> Up M.n (fwd M R) t x := by
 have mono : ∀ i, i < M.n -> ∀ k ∈ R i, k ∈ fwd M R i := fun i _ k hk => fwd_mem.2 (.inl hk)
 induction hT with
 | here h0 _ => exact fun hx => (top_upR h.good h0 hx).mono mono
 | @up i r o t h0 h5 e _ ih =>
  intro hx
  have hr : r < M.n := by
   obtain ⟨t', h1, h2, _⟩ := h.good.top (rk i + 1) i (Nat.lt_succ_self _) hx
   exact h0.one h2 ▸ h1
  obtain ⟨u, hu, e', es, _⟩ := h.host hr h5
  have : u = o := by omega
  subst this
  exact Up.trans (.up hu (fwd_mem.2 (.inr ⟨by rw [es]; omega, by rw [es, Int.toNat_natCast]⟩)) (ih hu)) ((top_upR h.good h0 hx).mono mono)
theorem TopT.kid {x k t : Nat} (hT : TopT M x t) (e : (M.pl k).up = (x : Int)) : TopT M k t := by
 cases hT with
 | here h0 h5 => exact .here (.up e h0) h5
 | up h0 h5 eh h1 => exact .up (.up e h0) h5 eh h1
open Classical in
noncomputable def rkA (M : Dm) (R : Nat -> List Nat) (x : Nat) : Nat := if h : ∃ t, t < M.n /\ TopT M x t then (tr M.n (fwd M R) h.choose).idxOf x else 0
theorem rkA_eq {x t : Nat} (ht : t < M.n) (hT : TopT M x t) : rkA M R x = (tr M.n (fwd M R) t).idxOf x := by
 have hx : ∃ t, t < M.n /\ TopT M x t := ⟨t, ht, hT⟩
 unfold rkA
 rw [dif_pos hx, hx.choose_spec.2.one hT]
theorem Inv.topS (h : Inv M R G rk) {x s t : Nat} (hx : x < M.n) (hs : (M.nd x).shadow = (s : Int)) (hT : TopT M x t) : TopT M s t := by
 have := h.shadow hx hs
 exact .up (.here this.2.2.2.1) this.2.1 this.2.2.1 hT
theorem Inv.rkA_fwd (h : Inv M R G rk) {x y : Nat} (hx : x < M.n) (hy : y ∈ fwd M R x) : rkA M R x < rkA M R y := by
 obtain ⟨t, ht, hT, _⟩ := h.topT (rk x + 1) x (Nat.lt_succ_self _) hx
 have hTy : TopT M y t := by
  rcases fwd_mem.1 hy with a | ⟨a, b⟩
  ·exact hT.kid (h.good.kid hx a).2.1
  ·obtain ⟨s, e, _⟩ := h.shd hx a
   rw [e, Int.toNat_natCast] at b
   subst b
   exact h.topS hx e hT
 rw [rkA_eq ht hT, rkA_eq ht hTy]
 obtain ⟨_, q, r, e⟩ := tr_block' h.only ht (h.topT_up hT hx)
 have hnd := tr_nodup h.only _ t ht (Nat.lt_succ_self _)
 rw [tr_eq h.only.falls hx] at e
 rw [e] at hnd
 have e2 : tr M.n (fwd M R) t = (q ++ [x]) ++ ((fwd M R x).flatMap (tr M.n (fwd M R)) ++ r) := by rw [e]; simp
 refine idx_lt e2 (by simp) (fun hm => ?_)
 have hyn := (h.only.falls x hx y hy).1
 have hyi : y ∈ (fwd M R x).flatMap (tr M.n (fwd M R)) := List.mem_flatMap.2 ⟨y, hy, (mem_tr h.only.falls hyn).2 .here⟩
 have e3 : q ++ (x :: (fwd M R x).flatMap (tr M.n (fwd M R)) ++ r) = (q ++ [x]) ++ ((fwd M R x).flatMap (tr M.n (fwd M R)) ++ r) := by simp
 rw [e3] at hnd
 exact (List.nodup_append.1 hnd).2.2 y hm y (List.mem_append_left _ hyi) rfl
theorem Inv.rkA_host (h : Inv M R G rk) {u s x k : Nat} (hu : u < M.n) (hs : (M.nd u).shadow = (s : Int)) (hx : x ∈ tr M.n (fwd M R) s) (hk : k ∈ R u) : rkA M R x < rkA M R k := by
 obtain ⟨t, ht, hT, _⟩ := h.topT (rk u + 1) u (Nat.lt_succ_self _) hu
 have hsn := (h.shadow hu hs).1
 have hTs := h.topS hu hs hT
 have hF := h.only.falls
 have hxn := tr_lt hF _ s hsn x hx
 have hTx : TopT M x t := by
  have hup := (mem_tr hF hsn).1 hx
  clear hx hxn
  induction hup with
  | here => exact hTs
  | @up a b hb hm _ ih =>
   rcases fwd_mem.1 hm with c | ⟨c, d⟩
   ·exact ih.kid (h.good.kid hb c).2.1
   ·obtain ⟨s', e, _⟩ := h.shd hb c
    rw [e, Int.toNat_natCast] at d
    subst d
    exact h.topS hb e ih
 have hkn := h.good.kid hu hk
 rw [rkA_eq ht hTx, rkA_eq ht (hT.kid hkn.2.1)]
 obtain ⟨_, q, r, e⟩ := tr_block' h.only ht (h.topT_up hT hu)
 have hnd := tr_nodup h.only _ t ht (Nat.lt_succ_self _)
 have ef : fwd M R u = s :: R u := by unfold fwd; rw [hs, if_neg (by omega), Int.toNat_natCast]
 have e2 : tr M.n (fwd M R) t = (q ++ (u :: tr M.n (fwd M R) s)) ++ ((R u).flatMap (tr M.n (fwd M R)) ++ r) := by
  rw [e, tr_eq hF hu, ef, List.flatMap_cons]
  simp
 rw [e2] at hnd
 refine idx_lt e2 (by simp [hx]) (fun hm => ?_)
 exact (List.nodup_append.1 hnd).2.2 k hm k (List.mem_append_left _ (List.mem_flatMap.2 ⟨k, hk, (mem_tr hF hkn.1).2 .here⟩)) rfl
theorem Inv.tr_fwd (h : Inv M R G rk) {s x : Nat} (hs : s < M.n) (hx : x ∈ tr M.n R s) : x ∈ tr M.n (fwd M R) s :=
 (mem_tr h.only.falls hs).2 (((mem_tr h.good.falls hs).1 hx).mono fun i _ k hk => fwd_mem.2 (.inl hk))
theorem Inv.rkA_find (h : Inv M R G rk) {i k : Nat} (hk : k < M.n) (e : findZ M R k = (i : Int)) : rkA M R i < rkA M R k := by
 obtain ⟨hi, hsl, hsh, u, s, hu, hs, e1, e2, ho⟩ := h.find_slot hk e
 have h5 := (h.shadow hu e2).2.1
 have hm : k ∈ R u := by
  rcases h.good.wf.inn k hk with h0 | ⟨v, hv, e', hm⟩
  ·omega
  ·have : v = u := by omega
   exact this ▸ hm
 exact h.rkA_host hu e2 (h.tr_fwd hs ((h.of_tree hs h5 hi).2 ho)) hm
theorem Inv.rkA_kid (h : Inv M R G rk) {i k : Nat} (hi : i < M.n) (hk : k ∈ R i) : rkA M R i < rkA M R k := h.rkA_fwd hi (fwd_mem.2 (.inl hk))
noncomputable def isS (M : Dm) (i : Nat) : Bool := isSl (M.nd i) && decide (ofZ M (i : Int) ≠ -1)
noncomputable def nxt (M : Dm) (R G : Nat -> List Nat) (i : Nat) : List Nat :=
 if isS M i = false then [] else if asgL M R G i = [] then (R i).filter fun k => showB (M.nd k) else asgL M R G i
theorem asg_not {i : Nat} (h : isS M i = false) : asgL M R G i = [] := by
 unfold asgL
 rw [if_pos]
 unfold isS at h
 cases c : isSl (M.nd i) with
 | false => exact .inl rfl
 | true =>
  rw [c] at h
  right
  simpa using h
theorem Inv.nxt_mem (h : Inv M R G rk) {i k : Nat} (hi : i < M.n) (hk : k ∈ nxt M R G i) : k < M.n /\ rkA M R i < rkA M R k /\ showB (M.nd k) = true /\ (findZ M R k = (i : Int) \/ (k ∈ R i /\ asgL M R G i = [])) := by
 unfold nxt at hk
 by_cases c : isS M i = false
 ·rw [if_pos c] at hk; cases hk
 rw [if_neg c] at hk
 by_cases d : asgL M R G i = []
 ·rw [if_pos d] at hk
  obtain ⟨m1, m2⟩ := List.mem_filter.1 hk
  exact ⟨(h.good.kid hi m1).1, h.rkA_kid hi m1, m2, .inr ⟨m1, d⟩⟩
 ·rw [if_neg d] at hk
  have hkn := h.asg_lt hi hk
  have e := (h.asg hi hkn).1 hk
  exact ⟨hkn, h.rkA_find hkn e, (h.find_slot hkn e).2.2.1, .inl e⟩
theorem Inv.nxt_falls (h : Inv M R G rk) : Falls M.n (nxt M R G) (rkA M R) := fun i hi k hk => ⟨(h.nxt_mem hi hk).1, (h.nxt_mem hi hk).2.1⟩
theorem Inv.nxt_nd (h : Inv M R G rk) {i : Nat} (hi : i < M.n) : (nxt M R G i).Nodup := by
 unfold nxt
 split
 ·exact List.nodup_nil
 ·split
  ·exact (h.good.wf.nodup i hi).filter _
  ·exact h.asg_nd hi
theorem Inv.nxt_in (h : Inv M R G rk) {T x y : Nat} (hT : T < M.n) (h5 : (M.nd T).kind = 5) (hx : x < M.n) (hy : y ∈ nxt M R G x) (hi : Up M.n (fwd M R) T y) : Up M.n (fwd M R) T x := by
 obtain ⟨hyn, _, _, hc⟩ := h.nxt_mem hx hy
 have hTu : (M.pl T).up = -1 := by
  obtain ⟨o, _, _, _, _, hu⟩ := h.host hT h5
  exact hu
 have back : ∀ u, u < M.n -> (M.pl y).up = (u : Int) -> y ∈ R u -> Up M.n (fwd M R) T u := fun u hu e hm => by
  cases hi with
  | here => omega
  | @up _ z hz hm' hup =>
   have := h.only.one u z y hu hz (fwd_mem.2 (.inl hm)) hm'
   exact this ▸ hup
 rcases hc with e | ⟨hm, _⟩
 ·obtain ⟨_, _, _, u, s, hu, hs, e1, e2, ho⟩ := h.find_slot hyn e
  have hm : y ∈ R u := by
   rcases h.good.wf.inn y hyn with h0 | ⟨v, hv, e', hm⟩
   ·omega
   ·have : v = u := by omega
    exact this ▸ hm
  have h1 := back u hu e1 hm
  have h2 : Up M.n (fwd M R) s x := (mem_tr h.only.falls hs).1 (h.tr_fwd hs ((h.of_tree hs (h.shadow hu e2).2.1 hx).2 ho))
  exact Up.trans (.up hu (fwd_mem.2 (.inr ⟨by rw [e2]; omega, by rw [e2, Int.toNat_natCast]⟩)) h1) h2
 ·exact back x hx (h.good.kid hx hm).2.1 hm
theorem Up.lt {n : Nat} {F : Nat -> List Nat} {rk : Nat -> Nat} (h : Falls n F rk) {a x : Nat} (ha : a < n) (hu : Up n F a x) : x < n := by
 cases hu with
 | here => exact ha
 | up hy hm _ => exact (h _ hy _ hm).1
theorem Inv.nxt_inn (h : Inv M R G rk) {T s x : Nat} (hT : T < M.n) (h5 : (M.nd T).kind = 5) (hs : s < M.n) (hu : Up M.n (nxt M R G) s x) : Up M.n (fwd M R) T x -> Up M.n (fwd M R) T s := by
 induction hu with
 | here => exact id
 | @up x y hy hm _ ih => exact fun hi => ih (h.nxt_in hT h5 hy hm hi)
theorem Inv.nxt_one (h : Inv M R G rk) {s a b z : Nat} (hs : s < M.n) (ha : Up M.n (nxt M R G) s a) (hb : Up M.n (nxt M R G) s b) (hza : z ∈ nxt M R G a) (hzb : z ∈ nxt M R G b) : a = b := by
 have han := ha.lt h.nxt_falls hs
 have hbn := hb.lt h.nxt_falls hs
 have key : ∀ a b, a < M.n -> b < M.n -> Up M.n (nxt M R G) s a -> Up M.n (nxt M R G) s b -> z < M.n -> findZ M R z = (a : Int) -> z ∈ R b -> False := fun a b han hbn ha hb hz e hm => by
  obtain ⟨_, _, _, u, T, hu, hT, e1, e2, ho⟩ := h.find_slot hz e
  have hub : u = b := by
   have := (h.good.kid hbn hm).2.1
   omega
  subst hub
  have h5 := (h.shadow hu e2).2.1
  have haT : Up M.n (fwd M R) T a := (mem_tr h.only.falls hT).1 (h.tr_fwd hT ((h.of_tree hT h5 han).2 ho))
  have hsT := h.nxt_inn hT h5 hs ha haT
  have hlow : ∀ x, Up M.n (fwd M R) T x -> rkA M R u < rkA M R x := fun x hx => by
   have hr : Falls M.n (fwd M R) (rkA M R) := fun i hi k hk => ⟨(h.only.falls i hi k hk).1, h.rkA_fwd hi hk⟩
   have h1 : rkA M R u < rkA M R T := h.rkA_fwd hu (fwd_mem.2 (.inr ⟨by rw [e2]; omega, by rw [e2, Int.toNat_natCast]⟩))
   rcases hx.low hr with e | e
   ·rw [<- e]; exact h1
   ·omega
  have h1 := hlow s hsT
  rcases hb.low h.nxt_falls with e | e
  ·rw [e] at h1; omega
  ·omega
 obtain ⟨hz, _, _, ca⟩ := h.nxt_mem han hza
 obtain ⟨_, _, _, cb⟩ := h.nxt_mem hbn hzb
 rcases ca with ea | ⟨ma, _⟩
 ·rcases cb with eb | ⟨mb, _⟩
  ·omega
  ·exact (key a b han hbn ha hb hz ea mb).elim
 ·rcases cb with eb | ⟨mb, _⟩
  ·exact (key b a hbn han hb ha hz eb ma).elim
  ·exact h.good.wf.one han hbn ma mb
end
section
variable {n : Nat} {F : Nat -> List Nat} {rk : Nat -> Nat}
structure OnlyAt (n : Nat) (F : Nat -> List Nat) (rk : Nat -> Nat) (r : Nat) : Prop where
 falls : Falls n F rk
 one : ∀ a b z, Up n F r a -> Up n F r b -> z ∈ F a -> z ∈ F b -> a = b
 nd : ∀ i, i < n -> (F i).Nodup
theorem OnlyAt.kid {r x : Nat} (h : OnlyAt n F rk r) (hr : r < n) (hx : x ∈ F r) : OnlyAt n F rk x :=
 ⟨h.falls, fun a b z ha hb => h.one a b z (Up.trans (.up hr hx .here) ha) (Up.trans (.up hr hx .here) hb), h.nd⟩
theorem OnlyAt.lin {r : Nat} (h : OnlyAt n F rk r) {a b x : Nat} (hra : Up n F r a) (hrb : Up n F r b) (ha : Up n F a x) : Up n F b x -> Up n F a b \/ Up n F b a := by
 induction ha with
 | here => exact fun hb => .inr hb
 | @up x y hy hm h1 ih =>
  intro hb
  cases hb with
  | here => exact .inl (.up hy hm h1)
  | @up _ z hz hm' h2 =>
   have := h.one y z x (Up.trans hra h1) (Up.trans hrb h2) hm hm'
   subst this
   exact ih h2
theorem tr_nodup' : ∀ (f i : Nat), OnlyAt n F rk i -> i < n -> dn n rk i < f -> (tr n F i).Nodup
 | 0, i, _, _, hf => absurd hf (Nat.not_lt_zero _)
 | f + 1, i, h, hi, hf => by
  rw [tr_eq h.falls hi]
  refine List.nodup_cons.2 ⟨fun hm => ?_, nodup_flatMap (h.nd i hi) (fun x hx => ?_) (fun x hx y hy hxy z hz1 hz2 => ?_)⟩
  ·obtain ⟨k, hk, hm⟩ := List.mem_flatMap.1 hm
   have hkn := h.falls i hi k hk
   rcases ((mem_tr h.falls hkn.1).1 hm).low h.falls with e | e
   ·rw [e] at hkn; omega
   ·omega
  ·have hkn := h.falls i hi x hx
   exact tr_nodup' f x (h.kid hi hx) hkn.1 (by have := dn_lt hkn.1 hkn.2; omega)
  ·have hxn := h.falls i hi x hx
   have hyn := h.falls i hi y hy
   have u1 := (mem_tr h.falls hxn.1).1 hz1
   have u2 := (mem_tr h.falls hyn.1).1 hz2
   have no : ∀ a b, a ∈ F i -> b ∈ F i -> a ≠ b -> ¬ Up n F a b := fun a b ha hb hab hu => by
    cases hu with
    | here => exact hab rfl
    | @up _ c hc hm hu =>
     have := h.one i c b .here (Up.trans (.up hi ha .here) hu) hb hm
     subst this
     have := (h.falls i hi a ha).2
     rcases hu.low h.falls with e | e
     ·rw [e] at this; omega
     ·omega
   rcases h.lin (.up hi hx .here) (.up hi hy .here) u1 u2 with q | q
   ·exact no x y hx hy hxy q
   ·exact no y x hy hx (fun e => hxy e.symm) q
theorem tr_len' {i : Nat} (h : OnlyAt n F rk i) (hi : i < n) : (tr n F i).length <= n :=
 nodup_le n _ (tr_nodup' _ i h hi (Nat.lt_succ_self _)) (fun x hx => tr_lt h.falls n i hi x hx)
end
end
section
section
variable {M : Dm} {R G : Nat -> List Nat} {rk : Nat -> Nat}
theorem Inv.nxt_at (h : Inv M R G rk) {i : Nat} (hi : i < M.n) : OnlyAt M.n (nxt M R G) (rkA M R) i :=
 ⟨h.nxt_falls, fun a b z ha hb => h.nxt_one hi ha hb, fun i hi => h.nxt_nd hi⟩
noncomputable def flatL (M : Dm) (R G : Nat -> List Nat) (i : Nat) : List Nat := if isS M i = true then (tr M.n (nxt M R G) i).filter fun k => !isS M k else []
theorem Inv.flat_len (h : Inv M R G rk) {i : Nat} (hi : i < M.n) : (flatL M R G i).length <= M.n := by
 unfold flatL
 split
 ·exact Nat.le_trans (List.length_filter_le ..) (tr_len' (h.nxt_at hi) hi)
 ·exact Nat.zero_le _
theorem filter_flatMap' {p : Nat -> Bool} {f : Nat -> List Nat} : ∀ l : List Nat, (l.flatMap f).filter p = l.flatMap fun x => (f x).filter p
 | [] => rfl
 | x :: r => by rw [List.flatMap_cons, List.filter_append, filter_flatMap' r, List.flatMap_cons]
theorem Inv.flat_eq (h : Inv M R G rk) {i : Nat} (hi : i < M.n) (hs : isS M i = true) : flatL M R G i = (nxt M R G i).flatMap fun k => if isS M k = true then flatL M R G k else [k] := by
 have e : flatL M R G i = (tr M.n (nxt M R G) i).filter fun k => !isS M k := by unfold flatL; rw [if_pos hs]
 rw [e, tr_eq h.nxt_falls hi, List.filter_cons_of_neg (by simp [hs]), filter_flatMap']
 refine flatMap_congr' fun k hk => ?_
 by_cases c : isS M k = true
 ·rw [if_pos c]; unfold flatL; rw [if_pos c]
 ·rw [if_neg c]
  have c' : isS M k = false := by simpa using c
  have hn : nxt M R G k = [] := by unfold nxt; rw [if_pos c']
  rw [tr_eq h.nxt_falls (h.nxt_mem hi hk).1, hn, List.flatMap_nil, List.filter_cons_of_pos (by simp [c']), List.filter_nil]
noncomputable def fK (M : Dm) (R G : Nat -> List Nat) (i : Nat) : List Nat :=
 if (M.nd i).shadow ≠ -1 then R (M.nd i).shadow.toNat else if asgL M R G i = [] then R i else asgL M R G i
noncomputable def upZ (M : Dm) (R G : Nat -> List Nat) (k : Nat) : Int :=
 if (M.pl k).up = -1 then -1 else if (M.nd (M.pl k).up.toNat).kind = 5 then (M.nd (M.pl k).up.toNat).host
 else if (M.nd (M.pl k).up.toNat).shadow ≠ -1 then findZ M R k else if asgL M R G (M.pl k).up.toNat = [] then (M.pl k).up else -1
theorem Inv.shd5 (h : Inv M R G rk) {u : Nat} (hu : u < M.n) (h5 : (M.nd u).kind = 5) : (M.nd u).shadow = -1 := by
 rcases h.core.shad u hu with e | ⟨s, _, _, e, _⟩
 ·exact e
 ·omega
theorem Inv.fK_mem (h : Inv M R G rk) {i k : Nat} (hi : i < M.n) (hk : k ∈ fK M R G i) : k < M.n /\ rkA M R i < rkA M R k /\ (M.nd k).kind ≠ 5 /\ ((M.nd i).kind ≠ 5 -> upZ M R G k = (i : Int)) /\ ((M.nd i).kind = 5 -> upZ M R G k = (M.nd i).host /\ k ∈ R i) := by
 have no5 : ∀ u, u < M.n -> k ∈ R u -> (M.nd k).kind ≠ 5 := fun u hu hm h5 => by
  have h1 := h.good.kid hu hm
  obtain ⟨_, _, _, _, _, e⟩ := h.host h1.1 h5
  omega
 unfold fK at hk
 by_cases c : (M.nd i).shadow ≠ -1
 ·rw [if_pos c] at hk
  obtain ⟨s, e, hs, hh, _⟩ := h.shd hi c
  have h5 := (h.shadow hi e).2.1
  rw [e, Int.toNat_natCast] at hk
  have hkd := h.good.kid hs hk
  have hi5 : (M.nd i).kind ≠ 5 := fun h5 => c (h.shd5 hi h5)
  refine ⟨hkd.1, Nat.lt_trans (h.rkA_fwd hi (fwd_mem.2 (.inr ⟨c, by rw [e, Int.toNat_natCast]⟩))) (h.rkA_kid hs hk), no5 s hs hk, fun _ => ?_, fun h5 => absurd h5 hi5⟩
  unfold upZ
  rw [hkd.2.1, if_neg (by omega), Int.toNat_natCast, if_pos h5]
  exact hh
 ·rw [if_neg c] at hk
  have hsh : (M.nd i).shadow = -1 := Classical.byContradiction c
  by_cases d : asgL M R G i = []
  ·rw [if_pos d] at hk
   have hkd := h.good.kid hi hk
   refine ⟨hkd.1, h.rkA_kid hi hk, no5 i hi hk, fun h5 => ?_, fun h5 => ⟨?_, hk⟩⟩
   ·unfold upZ
    rw [hkd.2.1, if_neg (by omega), Int.toNat_natCast, if_neg h5, if_neg c, if_pos d]
   ·unfold upZ
    rw [hkd.2.1, if_neg (by omega), Int.toNat_natCast, if_pos h5]
  ·rw [if_neg d] at hk
   have hkn := h.asg_lt hi hk
   have e := (h.asg hi hkn).1 hk
   obtain ⟨_, hsl, _, u, s, hu, hs, e1, e2, _⟩ := h.find_slot hkn e
   have hm : k ∈ R u := by
    rcases h.good.wf.inn k hkn with h0 | ⟨v, hv, e', hm⟩
    ·omega
    ·have : v = u := by omega
     exact this ▸ hm
   have hu1 := (h.shadow hu e2).2.2.2.2.2
   refine ⟨hkn, h.rkA_find hkn e, no5 u hu hm, fun _ => ?_, fun h5 => ?_⟩
   ·unfold upZ
    rw [e1, if_neg (by omega), Int.toNat_natCast, if_neg (by omega), if_pos (by rw [e2]; omega)]
    exact e
   ·have := (isSl_iff.1 hsl).1; omega
theorem Inv.fK_falls (h : Inv M R G rk) : Falls M.n (fK M R G) (rkA M R) := fun i hi k hk => ⟨(h.fK_mem hi hk).1, (h.fK_mem hi hk).2.1⟩
theorem Inv.fK_nd (h : Inv M R G rk) {i : Nat} (hi : i < M.n) : (fK M R G i).Nodup := by
 unfold fK
 by_cases c : (M.nd i).shadow ≠ -1
 ·rw [if_pos c]
  obtain ⟨s, e, hs, _⟩ := h.shd hi c
  rw [e, Int.toNat_natCast]
  exact h.good.wf.nodup s hs
 ·rw [if_neg c]
  split
  ·exact h.good.wf.nodup i hi
  ·exact h.asg_nd hi
theorem Inv.fK_at (h : Inv M R G rk) {i : Nat} (hi : i < M.n) : OnlyAt M.n (fK M R G) (rkA M R) i := by
 refine ⟨h.fK_falls, fun a b z ha hb hza hzb => ?_, fun i hi => h.fK_nd hi⟩
 have han := ha.lt h.fK_falls hi
 have hbn := hb.lt h.fK_falls hi
 have k5 : ∀ x, Up M.n (fK M R G) i x -> x = i \/ (M.nd x).kind ≠ 5 := fun x hx => by
  cases hx with
  | here => exact .inl rfl
  | up hy hm _ => exact .inr (h.fK_mem hy hm).2.2.1
 have ma := h.fK_mem han hza
 have mb := h.fK_mem hbn hzb
 have low : ∀ x, Up M.n (fK M R G) i x -> i = x \/ rkA M R i < rkA M R x := fun x hx => hx.low h.fK_falls
 have key : ∀ a b, a < M.n -> b < M.n -> Up M.n (fK M R G) i a -> Up M.n (fK M R G) i b -> (M.nd a).kind = 5 -> (M.nd b).kind ≠ 5 -> upZ M R G z = (M.nd a).host -> upZ M R G z = (b : Int) -> False := fun a b han hbn ha hb h5 hb5 e1 e2 => by
  rcases k5 a ha with e | e
  ·subst e
   obtain ⟨o, ho, eo, es, _⟩ := h.host han h5
   have : o = b := by omega
   subst this
   have h1 := h.rkA_fwd ho (fwd_mem.2 (.inr ⟨by rw [es]; omega, by rw [es, Int.toNat_natCast]⟩) : a ∈ fwd M R o)
   rcases low o hb with e | e
   ·rw [e] at h1; omega
   ·omega
  ·exact e h5
 by_cases a5 : (M.nd a).kind = 5
 ·by_cases b5 : (M.nd b).kind = 5
  ·rcases k5 a ha with e | e
   ·rcases k5 b hb with e' | e'
    ·rw [e, e']
    ·exact absurd b5 e'
   ·exact absurd a5 e
  ·exact (key a b han hbn ha hb a5 b5 (ma.2.2.2.2 a5).1 (mb.2.2.2.1 b5)).elim
 ·by_cases b5 : (M.nd b).kind = 5
  ·exact (key b a hbn han hb ha b5 a5 (mb.2.2.2.2 b5).1 (ma.2.2.2.1 a5)).elim
  ·have h1 := ma.2.2.2.1 a5
   have h2 := mb.2.2.2.1 b5
   omega
theorem Inv.walk_len (h : Inv M R G rk) {i : Nat} (hi : i < M.n) : (tr M.n (fK M R G) i).length <= M.n := tr_len' (h.fK_at hi) hi
theorem Inv.upZ_low (h : Inv M R G rk) {k : Nat} (hk : k < M.n) : upZ M R G k = -1 \/ ∃ i : Nat, i < M.n /\ upZ M R G k = (i : Int) /\ rkA M R i < rkA M R k := by
 unfold upZ
 rcases h.good.wf.inn k hk with h0 | ⟨u, hu, e, hm⟩
 ·rw [if_pos h0]; exact .inl rfl
 rw [if_neg (by omega), e, Int.toNat_natCast]
 by_cases h5 : (M.nd u).kind = 5
 ·rw [if_pos h5]
  obtain ⟨o, ho, eo, es, _⟩ := h.host hu h5
  exact .inr ⟨o, ho, eo, Nat.lt_trans (h.rkA_fwd ho (fwd_mem.2 (.inr ⟨by rw [es]; omega, by rw [es, Int.toNat_natCast]⟩) : u ∈ fwd M R o)) (h.rkA_kid hu hm)⟩
 rw [if_neg h5]
 by_cases c : (M.nd u).shadow ≠ -1
 ·rw [if_pos c]
  have fin : (∃ i : Nat, findZ M R k = (i : Int)) -> findZ M R k = -1 \/ ∃ i : Nat, i < M.n /\ findZ M R k = (i : Int) /\ rkA M R i < rkA M R k := fun ⟨i, ei⟩ => .inr ⟨i, (h.find_slot hk ei).1, ei, h.rkA_find hk ei⟩
  rcases h.findC hk with ⟨e', _⟩ | ⟨o, s, _, _, _, _, _, _, e'⟩ | ⟨o, s, _, _, _, _, _, _, e'⟩
  ·exact .inl e'
  ·by_cases cc : ofZ M (M.gf k).up = (s : Int)
   ·have e2 : findZ M R k = (M.gf k).up := by rw [e']; unfold handZ; rw [if_pos cc]
    rcases h.gw.inn k hk with h0 | ⟨v, _, e'', _⟩
    ·exact .inl (e2.trans h0)
    ·exact fin ⟨v, e2.trans e''⟩
   ·exact .inl (by rw [e']; unfold handZ; rw [if_neg cc])
  ·rcases fstO_or (fun x => slNm (atV slotN (M.nd k).attrs) (M.nd x)) (tr M.n R s) with ⟨q, _⟩ | ⟨x, _, _, q⟩
   ·exact .inl (e'.trans q)
   ·exact fin ⟨x, e'.trans q⟩
 ·rw [if_neg c]
  split
  ·exact .inr ⟨u, hu, rfl, h.rkA_kid hu hm⟩
  ·exact .inl rfl
end
end
end Go.Proofs.Ytljnjdckhkglfaa
