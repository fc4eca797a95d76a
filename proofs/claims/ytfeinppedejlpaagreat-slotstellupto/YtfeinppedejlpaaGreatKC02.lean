/-
 What is shown in slots, as plain functions (pure).; The order in which shadow roots come ahead of kids; what is shown is a forest (pure).; What is shown, at last, and as a tree (pure).; portierelaw11: heavy, and both documents behind calls.
-/
import Derived.Test.YtfeinppedejlpaaGreatKR2
import Derived.Test.YtfeinppedejlpaaGreatKW29
import Derived.Test.YtfeinppedejlpaaGreatKW26
import Derived.Test.YtfeinppedejlpaaGreatKW17
import Derived.Deep.MidRow
namespace Go.Proofs.YtfeinppedejlpaaGreat
set_option linter.unusedVariables false
set_option maxRecDepth 100000
set_option maxHeartbeats 8000000
section
open Classical in
noncomputable def ofZ (M : Dm) (i : Int) : Int := if h : ∃ z, 0 <= i /\ i < (M.n : Int) /\ Znb M i.toNat z then h.choose else -1
noncomputable def zeo (M : Dm) (i s : Nat) : Int := if ofZ M (M.gf i).up = (s : Int) then (M.gf i).up else -1
def zkf (M : Dm) (R : Nat -> List Nat) (nm : List UInt8) (s : Nat) : Int := zee (fun k => zma nm (M.nd k)) (tr M.n R s)
noncomputable def zbi (M : Dm) (R : Nat -> List Nat) (i : Nat) : Int :=
 if za0 (M.nd i) = false \/ (M.pl i).up = -1 \/ (M.nd (M.pl i).up.toNat).shadow = -1 then -1
 else if (M.nd (M.nd (M.pl i).up.toNat).shadow.toNat).fl.b = true then zeo M i (M.nd (M.pl i).up.toNat).shadow.toNat
 else zkf M R (atV zbh (M.nd i).attrs) (M.nd (M.pl i).up.toNat).shadow.toNat
def zd7 (M : Dm) (R G : Nat -> List Nat) (i s : Nat) : List Nat :=
 if (M.nd s).fl.b = true then (G i).filter fun k => decide ((M.pl k).up = (M.nd s).host)
 else if zkf M R (atV zbp (M.nd i).attrs) s = (i : Int) then (R (M.nd s).host.toNat).filter fun k => zca (atV zbp (M.nd i).attrs) (M.nd k) else []
noncomputable def za8 (M : Dm) (R G : Nat -> List Nat) (i : Nat) : List Nat :=
 if za9 (M.nd i) = false \/ ofZ M (i : Int) = -1 then [] else zd7 M R G i (ofZ M (i : Int)).toNat
section
variable {M : Dm} {R G : Nat -> List Nat} {rk : Nat -> Nat}
theorem zcr {i : Nat} {z : Int} (hi : i < M.n) (h : Znb M i z) : ofZ M (i : Int) = z := by
 have hx : ∃ z, 0 <= (i : Int) /\ (i : Int) < (M.n : Int) /\ Znb M (i : Int).toNat z := ⟨z, by omega, by omega, by rw [Int.toNat_natCast]; exact h⟩
 unfold ofZ
 rw [dif_pos hx]
 exact Znb.one (M := M) (i := i) hx.choose_spec.2.2 h
theorem zrt {i : Int} (h : i < 0 \/ (M.n : Int) <= i) : ofZ M i = -1 := by
 unfold ofZ
 rw [dif_neg]
 rintro ⟨z, h1, h2, _⟩
 omega
theorem Inv.ofz (h : Inv M R G rk) {i : Nat} (hi : i < M.n) : (∃ t : Nat, t < M.n /\ Zbv M i t /\ ofZ M (i : Int) = (t : Int) /\ (M.nd t).kind = 5) \/ (∃ t : Nat, t < M.n /\ Zbv M i t /\ ofZ M (i : Int) = -1 /\ (M.nd t).kind ≠ 5) := by
 obtain ⟨t, ht, hT, _⟩ := h.good.top (rk i + 1) i (Nat.lt_succ_self _) hi
 by_cases c : (M.nd t).kind = 5
 ·exact .inl ⟨t, ht, hT, zcr hi (.yes hT c), c⟩
 ·exact .inr ⟨t, ht, hT, zcr hi (.no hT c), c⟩
theorem zpi {P : Nat -> Bool} {l : List Nat} {k : Nat} (h : zee P l = (k : Int)) : k ∈ l /\ P k = true := by
 unfold zee at h
 cases e : l.find? P with
 | none => rw [e] at h; have h' : (-1 : Int) = (k : Int) := h; omega
 | some x =>
  rw [e] at h
  have h' : (x : Int) = (k : Int) := h
  have : x = k := by omega
  subst this
  exact ⟨List.mem_of_find?_eq_some e, List.find?_some e⟩
theorem zqm {nm : List UInt8} {x : Nd} : zma nm x = true ↔ x.kind = 1 /\ x.name = zbh /\ atV zbp x.attrs = nm := by
 unfold zma za9
 simp [and_assoc]
theorem zbw {x : Nd} : za9 x = true ↔ x.kind = 1 /\ x.name = zbh := by
 unfold za9
 simp
theorem zgp {x : Nd} : za0 x = true ↔ x.kind = 1 \/ x.kind = 2 := by
 unfold za0
 simp
theorem zjp {nm : List UInt8} {x : Nd} : zca nm x = true ↔ za0 x = true /\ atV zbh x.attrs = nm := by
 unfold zca
 simp
theorem zsa (h : Good M R rk) {i k : Nat} (hu : Up M.n R i k) : ∀ {t}, Zbv M i t -> Zbv M k t := by
 induction hu with
 | here => exact fun h => h
 | @up x y hy hm _ ih => exact fun hT => .up (h.kid hy hm).2.1 (ih hT)
theorem zkj (h : Good M R rk) {i t : Nat} (hT : Zbv M i t) : i < M.n -> Up M.n R t i := by
 induction hT with
 | here _ => exact fun _ => .here
 | @up k m t e _ ih =>
  intro hk
  obtain ⟨hm, _⟩ := h.rk_up hk e
  rcases h.wf.inn k hk with e' | ⟨u, hu, e', hmem⟩
  ·omega
  ·have : u = m := by omega
   subst this
   exact .up hm hmem (ih hm)
theorem Inv.in_tree (h : Inv M R G rk) {s x : Nat} (hs : s < M.n) (hu : (M.pl s).up = -1) (hx : x < M.n) : x ∈ tr M.n R s ↔ Zbv M x s := by
 rw [zco h.good.falls hs]
 exact ⟨fun hh => zsa h.good hh (.here hu), fun hh => zkj h.good hh hx⟩
theorem Inv.of_tree (h : Inv M R G rk) {s x : Nat} (hs : s < M.n) (hk : (M.nd s).kind = 5) (hx : x < M.n) : x ∈ tr M.n R s ↔ ofZ M (x : Int) = (s : Int) := by
 obtain ⟨i, hi, _, _, _, hu⟩ := h.host hs hk
 rw [h.in_tree hs hu hx]
 constructor
 ·exact fun hh => zcr hx (.yes hh hk)
 ·intro hh
  rcases h.ofz hx with ⟨t, _, hT, e, _⟩ | ⟨t, _, hT, e, _⟩
  ·have : t = s := by omega
   exact this ▸ hT
  ·omega
inductive Zoe (M : Dm) (R G : Nat -> List Nat) (i : Nat) (z : Int) : Prop
 | none : z = -1 -> (za0 (M.nd i) = false \/ (M.pl i).up = -1 \/ ∃ h : Nat, h < M.n /\ (M.pl i).up = (h : Int) /\ (M.nd h).shadow = -1) -> Zoe M R G i z
 | hand (h s : Nat) : h < M.n -> s < M.n -> za0 (M.nd i) = true -> (M.pl i).up = (h : Int) -> (M.nd h).shadow = (s : Int) -> (M.nd s).fl.b = true -> z = zeo M i s -> Zoe M R G i z
 | name (h s : Nat) : h < M.n -> s < M.n -> za0 (M.nd i) = true -> (M.pl i).up = (h : Int) -> (M.nd h).shadow = (s : Int) -> (M.nd s).fl.b = false -> z = zkf M R (atV zbh (M.nd i).attrs) s -> Zoe M R G i z
theorem Inv.ups' (h : Inv M R G rk) {i : Nat} (hi : i < M.n) : (M.pl i).up = -1 \/ ∃ u : Nat, u < M.n /\ (M.pl i).up = (u : Int) := by
 rcases h.good.wf.inn i hi with h0 | ⟨u, hu, e, _⟩
 ·exact .inl h0
 ·exact .inr ⟨u, hu, e⟩
theorem Inv.findC (h : Inv M R G rk) {i : Nat} (hi : i < M.n) : Zoe M R G i (zbi M R i) := by
 unfold zbi
 by_cases c : za0 (M.nd i) = false
 ·rw [if_pos (.inl c)]; exact .none rfl (.inl c)
 rcases h.ups' hi with hu | ⟨u, hu, e⟩
 ·rw [if_pos (.inr (.inl hu))]; exact .none rfl (.inr (.inl hu))
 rw [e, Int.toNat_natCast]
 rcases h.core.shad u hu with hs | ⟨s, hs, es, _⟩
 ·rw [if_pos (.inr (.inr hs))]; exact .none rfl (.inr (.inr ⟨u, hu, e, hs⟩))
 rw [if_neg (by rw [es]; rintro (h | h | h); exact c h; omega; omega), es, Int.toNat_natCast]
 have c' : za0 (M.nd i) = true := by simpa using c
 cases b : (M.nd s).fl.b with
 | true => rw [if_pos rfl]; exact .hand u s hu hs c' e es b rfl
 | false => rw [if_neg (by simp)]; exact .name u s hu hs c' e es b rfl
theorem Inv.fst_slot (h : Inv M R G rk) {s k : Nat} {nm : List UInt8} (hs : s < M.n) (hk5 : (M.nd s).kind = 5) (e : zkf M R nm s = (k : Int)) : k < M.n /\ za9 (M.nd k) = true /\ ofZ M (k : Int) = (s : Int) /\ atV zbp (M.nd k).attrs = nm := by
 obtain ⟨h1, h2⟩ := zpi e
 have hk := zic h.good.falls _ s hs k h1
 have h3 := zqm.1 h2
 exact ⟨hk, zbw.2 ⟨h3.1, h3.2.1⟩, (h.of_tree hs hk5 hk).1 h1, h3.2.2⟩
theorem Inv.gave (h : Inv M R G rk) {i u : Nat} (hi : i < M.n) (hu : u < M.n) : i ∈ G u ↔ (M.gf i).up = (u : Int) := by
 constructor
 ·exact fun hm => h.gw.up hu hm
 ·intro e
  rcases h.gw.inn i hi with h0 | ⟨v, hv, e', hm⟩
  ·omega
  ·have : v = u := by omega
   exact this ▸ hm
theorem Inv.find_slot (h : Inv M R G rk) {i k : Nat} (hi : i < M.n) (e : zbi M R i = (k : Int)) : k < M.n /\ za9 (M.nd k) = true /\ za0 (M.nd i) = true /\ ∃ u s : Nat, u < M.n /\ s < M.n /\ (M.pl i).up = (u : Int) /\ (M.nd u).shadow = (s : Int) /\ ofZ M (k : Int) = (s : Int) := by
 rcases h.findC hi with ⟨e', _⟩ | ⟨u, s, hu, hs, hsh, e1, e2, hb, e'⟩ | ⟨u, s, hu, hs, hsh, e1, e2, hb, e'⟩
 ·omega
 ·unfold zeo at e'
  by_cases c : ofZ M (M.gf i).up = (s : Int)
  ·rw [if_pos c] at e'
   rw [e] at e'
   rw [<- e'] at c
   have hk : k < M.n := by
    apply Nat.lt_of_not_le
    intro hn
    rw [zrt (.inr (by omega))] at c
    omega
   have hm := (h.gave hi hk).2 e'.symm
   have hg := h.gft k hk i hm
   exact ⟨hk, zbw.2 hg.2, hsh, u, s, hu, hs, e1, e2, c⟩
  ·rw [if_neg c] at e'; omega
 ·have h5 := (h.shadow hu e2).2.1
  obtain ⟨h1, h2, h3, _⟩ := h.fst_slot hs h5 (e'.symm.trans e)
  exact ⟨h1, h2, hsh, u, s, hu, hs, e1, e2, h3⟩
theorem Inv.asg (h : Inv M R G rk) {i k : Nat} (hi : i < M.n) (hk : k < M.n) : k ∈ za8 M R G i ↔ zbi M R k = (i : Int) := by
 constructor
 ·intro hm
  unfold za8 at hm
  by_cases c : za9 (M.nd i) = false \/ ofZ M (i : Int) = -1
  ·rw [if_pos c] at hm; cases hm
  rw [if_neg c] at hm
  rcases h.ofz hi with ⟨s, hs, hT, e, h5⟩ | ⟨t, ht, hT, e, _⟩
  ·rw [e, Int.toNat_natCast] at hm
   obtain ⟨u, hu, eh, esh, _⟩ := h.host hs h5
   unfold zd7 at hm
   rw [eh] at hm
   cases b : (M.nd s).fl.b with
   | true =>
    rw [b, if_pos rfl] at hm
    obtain ⟨m1, m2⟩ := List.mem_filter.1 hm
    have hup : (M.pl k).up = (u : Int) := of_decide_eq_true m2
    have hgv := (h.gave hk hi).1 m1
    have hsh : za0 (M.nd k) = true := zgp.2 (h.gft i hi k m1).1
    unfold zbi
    rw [hup, Int.toNat_natCast, esh, Int.toNat_natCast, if_neg (by rw [hsh]; rintro (h | h | h); cases h; omega; omega), b, if_pos rfl]
    unfold zeo
    rw [hgv, e, if_pos rfl]
   | false =>
    rw [b, if_neg (by simp), Int.toNat_natCast] at hm
    by_cases cf : zkf M R (atV zbp (M.nd i).attrs) s = (i : Int)
    ·rw [if_pos cf] at hm
     obtain ⟨m1, m2⟩ := List.mem_filter.1 hm
     obtain ⟨a1, a2⟩ := zjp.1 m2
     have hup := (h.good.kid hu m1).2.1
     unfold zbi
     rw [hup, Int.toNat_natCast, esh, Int.toNat_natCast, if_neg (by rw [a1]; rintro (h | h | h); cases h; omega; omega), b, if_neg (by simp), a2]
     exact cf
    ·rw [if_neg cf] at hm; cases hm
  ·exact absurd (.inr e) c
 ·intro e
  obtain ⟨_, hsl, hsh, u, s, hu, hs, e1, e2, ho⟩ := h.find_slot hk e
  unfold za8
  rw [if_neg (by rw [hsl, ho]; rintro (h | h); cases h; omega), ho, Int.toNat_natCast]
  unfold zd7
  have hho := (h.shadow hu e2).2.2.1
  rw [hho, Int.toNat_natCast]
  have hmem : k ∈ R u := by
   rcases h.good.wf.inn k hk with h0 | ⟨v, hv, e', hm⟩
   ·omega
   ·have : v = u := by omega
    exact this ▸ hm
  unfold zbi at e
  rw [e1, Int.toNat_natCast, e2, Int.toNat_natCast, if_neg (by rw [hsh]; rintro (h | h | h); cases h; omega; omega)] at e
  cases b : (M.nd s).fl.b with
  | true =>
   rw [b, if_pos rfl] at e
   rw [if_pos rfl]
   unfold zeo at e
   by_cases c : ofZ M (M.gf k).up = (s : Int)
   ·rw [if_pos c] at e
    exact List.mem_filter.2 ⟨(h.gave hk hi).2 e, decide_eq_true e1⟩
   ·rw [if_neg c] at e; omega
  | false =>
   rw [b, if_neg (by simp)] at e
   rw [if_neg (by simp)]
   obtain ⟨_, _, _, hn⟩ := h.fst_slot hs (h.shadow hu e2).2.1 e
   rw [hn, if_pos e]
   exact List.mem_filter.2 ⟨hmem, zjp.2 ⟨hsh, rfl⟩⟩
theorem Inv.asg_lt (h : Inv M R G rk) {i k : Nat} (hi : i < M.n) (hm : k ∈ za8 M R G i) : k < M.n := by
 unfold za8 at hm
 by_cases c : za9 (M.nd i) = false \/ ofZ M (i : Int) = -1
 ·rw [if_pos c] at hm; cases hm
 rw [if_neg c] at hm
 rcases h.ofz hi with ⟨s, hs, hT, e, h5⟩ | ⟨t, ht, hT, e, _⟩
 ·rw [e, Int.toNat_natCast] at hm
  obtain ⟨u, hu, eh, esh, _⟩ := h.host hs h5
  unfold zd7 at hm
  rw [eh] at hm
  cases b : (M.nd s).fl.b with
  | true =>
   rw [b, if_pos rfl] at hm
   exact h.gw.lt i hi k (List.mem_filter.1 hm).1
  | false =>
   rw [b, if_neg (by simp), Int.toNat_natCast] at hm
   split at hm
   ·exact (h.good.kid hu (List.mem_filter.1 hm).1).1
   ·cases hm
 ·exact absurd (.inr e) c
theorem Inv.asg_nd (h : Inv M R G rk) {i : Nat} (hi : i < M.n) : (za8 M R G i).Nodup := by
 unfold za8
 split
 ·exact List.nodup_nil
 ·unfold zd7
  split
  ·exact (h.gw.nodup i hi).filter _
  ·split
   ·rename_i c1 c2 c3
    rcases h.ofz hi with ⟨s, hs, hT, e, h5⟩ | ⟨t, ht, hT, e, _⟩
    ·rw [e, Int.toNat_natCast]
     obtain ⟨u, hu, eh, _⟩ := h.host hs h5
     rw [eh, Int.toNat_natCast]
     exact (h.good.wf.nodup u hu).filter _
    ·exact absurd (.inr e) c1
   ·exact List.nodup_nil
end
end
section
theorem zru {l P S : List Nat} {x k : Nat} (e : l = P ++ S) (hx : x ∈ P) (hk : k ∉ P) : l.idxOf x < l.idxOf k := by
 rw [e, List.idxOf_append, List.idxOf_append, if_pos hx, if_neg hk]
 have := List.idxOf_lt_length_of_mem hx
 omega
theorem Up.mono {n : Nat} {F F' : Nat -> List Nat} (hs : ∀ i, i < n -> ∀ k ∈ F i, k ∈ F' i) {a x : Nat} (h : Up n F a x) : Up n F' a x := by
 induction h with
 | here => exact .here
 | up hy hm _ ih => exact .up hy (hs _ hy _ hm) ih
theorem zjx {n : Nat} {F : Nat -> List Nat} {rk : Nat -> Nat} (h : Only n F rk) {s i : Nat} (hs : s < n) (hu : Up n F s i) : i < n /\ ∃ q r, tr n F s = q ++ (tr n F i ++ r) := by
 induction hu with
 | here => exact ⟨hs, [], [], by rw [List.nil_append, List.append_nil]⟩
 | @up x y hy hm _ ih =>
  obtain ⟨_, q, r, e⟩ := ih
  obtain ⟨A, B, hAB⟩ := List.append_of_mem hm
  refine ⟨(h.falls y hy x hm).1, q ++ (y :: A.flatMap (tr n F)), B.flatMap (tr n F) ++ r, ?_⟩
  rw [e, zcz h.falls hy, hAB, List.flatMap_append, List.flatMap_cons]
  simp only [List.append_assoc, List.cons_append]
section
variable {M : Dm} {R G : Nat -> List Nat} {rk : Nat -> Nat}
theorem Inv.topT_up (h : Inv M R G rk) {x t : Nat} (hT : Ziv M x t) : x < M.n -> Up M.n (fwd M R) t x := by
 have mono : ∀ i, i < M.n -> ∀ k ∈ R i, k ∈ fwd M R i := fun i _ k hk => zb6.2 (.inl hk)
 induction hT with
 | here h0 _ => exact fun hx => (zkj h.good h0 hx).mono mono
 | @up i r o t h0 h5 e _ ih =>
  intro hx
  have hr : r < M.n := by
   obtain ⟨t', h1, h2, _⟩ := h.good.top (rk i + 1) i (Nat.lt_succ_self _) hx
   exact h0.one h2 ▸ h1
  obtain ⟨u, hu, e', es, _⟩ := h.host hr h5
  have : u = o := by omega
  subst this
  exact Up.trans (.up hu (zb6.2 (.inr ⟨by rw [es]; omega, by rw [es, Int.toNat_natCast]⟩)) (ih hu)) ((zkj h.good h0 hx).mono mono)
theorem Ziv.kid {x k t : Nat} (hT : Ziv M x t) (e : (M.pl k).up = (x : Int)) : Ziv M k t := by
 cases hT with
 | here h0 h5 => exact .here (.up e h0) h5
 | up h0 h5 eh h1 => exact .up (.up e h0) h5 eh h1
open Classical in
noncomputable def rkA (M : Dm) (R : Nat -> List Nat) (x : Nat) : Nat := if h : ∃ t, t < M.n /\ Ziv M x t then (tr M.n (fwd M R) h.choose).idxOf x else 0
theorem zl7 {x t : Nat} (ht : t < M.n) (hT : Ziv M x t) : rkA M R x = (tr M.n (fwd M R) t).idxOf x := by
 have hx : ∃ t, t < M.n /\ Ziv M x t := ⟨t, ht, hT⟩
 unfold rkA
 rw [dif_pos hx, hx.choose_spec.2.one hT]
theorem Inv.topS (h : Inv M R G rk) {x s t : Nat} (hx : x < M.n) (hs : (M.nd x).shadow = (s : Int)) (hT : Ziv M x t) : Ziv M s t := by
 have := h.shadow hx hs
 exact .up (.here this.2.2.2.1) this.2.1 this.2.2.1 hT
theorem Inv.rkA_fwd (h : Inv M R G rk) {x y : Nat} (hx : x < M.n) (hy : y ∈ fwd M R x) : rkA M R x < rkA M R y := by
 obtain ⟨t, ht, hT, _⟩ := h.topT (rk x + 1) x (Nat.lt_succ_self _) hx
 have hTy : Ziv M y t := by
  rcases zb6.1 hy with a | ⟨a, b⟩
  ·exact hT.kid (h.good.kid hx a).2.1
  ·obtain ⟨s, e, _⟩ := h.shd hx a
   rw [e, Int.toNat_natCast] at b
   subst b
   exact h.topS hx e hT
 rw [zl7 ht hT, zl7 ht hTy]
 obtain ⟨_, q, r, e⟩ := zjx h.only ht (h.topT_up hT hx)
 have hnd := zf5 h.only _ t ht (Nat.lt_succ_self _)
 rw [zcz h.only.falls hx] at e
 rw [e] at hnd
 have e2 : tr M.n (fwd M R) t = (q ++ [x]) ++ ((fwd M R x).flatMap (tr M.n (fwd M R)) ++ r) := by rw [e]; simp
 refine zru e2 (by simp) (fun hm => ?_)
 have hyn := (h.only.falls x hx y hy).1
 have hyi : y ∈ (fwd M R x).flatMap (tr M.n (fwd M R)) := List.mem_flatMap.2 ⟨y, hy, (zco h.only.falls hyn).2 .here⟩
 have e3 : q ++ (x :: (fwd M R x).flatMap (tr M.n (fwd M R)) ++ r) = (q ++ [x]) ++ ((fwd M R x).flatMap (tr M.n (fwd M R)) ++ r) := by simp
 rw [e3] at hnd
 exact (List.nodup_append.1 hnd).2.2 y hm y (List.mem_append_left _ hyi) rfl
theorem Inv.rkA_host (h : Inv M R G rk) {u s x k : Nat} (hu : u < M.n) (hs : (M.nd u).shadow = (s : Int)) (hx : x ∈ tr M.n (fwd M R) s) (hk : k ∈ R u) : rkA M R x < rkA M R k := by
 obtain ⟨t, ht, hT, _⟩ := h.topT (rk u + 1) u (Nat.lt_succ_self _) hu
 have hsn := (h.shadow hu hs).1
 have hTs := h.topS hu hs hT
 have hF := h.only.falls
 have hxn := zic hF _ s hsn x hx
 have hTx : Ziv M x t := by
  have hup := (zco hF hsn).1 hx
  clear hx hxn
  induction hup with
  | here => exact hTs
  | @up a b hb hm _ ih =>
   rcases zb6.1 hm with c | ⟨c, d⟩
   ·exact ih.kid (h.good.kid hb c).2.1
   ·obtain ⟨s', e, _⟩ := h.shd hb c
    rw [e, Int.toNat_natCast] at d
    subst d
    exact h.topS hb e ih
 have hkn := h.good.kid hu hk
 rw [zl7 ht hTx, zl7 ht (hT.kid hkn.2.1)]
 obtain ⟨_, q, r, e⟩ := zjx h.only ht (h.topT_up hT hu)
 have hnd := zf5 h.only _ t ht (Nat.lt_succ_self _)
 have ef : fwd M R u = s :: R u := by unfold fwd; rw [hs, if_neg (by omega), Int.toNat_natCast]
 have e2 : tr M.n (fwd M R) t = (q ++ (u :: tr M.n (fwd M R) s)) ++ ((R u).flatMap (tr M.n (fwd M R)) ++ r) := by
  rw [e, zcz hF hu, ef, List.flatMap_cons]
  simp
 rw [e2] at hnd
 refine zru e2 (by simp [hx]) (fun hm => ?_)
 exact (List.nodup_append.1 hnd).2.2 k hm k (List.mem_append_left _ (List.mem_flatMap.2 ⟨k, hk, (zco hF hkn.1).2 .here⟩)) rfl
theorem Inv.tr_fwd (h : Inv M R G rk) {s x : Nat} (hs : s < M.n) (hx : x ∈ tr M.n R s) : x ∈ tr M.n (fwd M R) s :=
 (zco h.only.falls hs).2 (((zco h.good.falls hs).1 hx).mono fun i _ k hk => zb6.2 (.inl hk))
theorem Inv.rkA_find (h : Inv M R G rk) {i k : Nat} (hk : k < M.n) (e : zbi M R k = (i : Int)) : rkA M R i < rkA M R k := by
 obtain ⟨hi, hsl, hsh, u, s, hu, hs, e1, e2, ho⟩ := h.find_slot hk e
 have h5 := (h.shadow hu e2).2.1
 have hm : k ∈ R u := by
  rcases h.good.wf.inn k hk with h0 | ⟨v, hv, e', hm⟩
  ·omega
  ·have : v = u := by omega
   exact this ▸ hm
 exact h.rkA_host hu e2 (h.tr_fwd hs ((h.of_tree hs h5 hi).2 ho)) hm
theorem Inv.rkA_kid (h : Inv M R G rk) {i k : Nat} (hi : i < M.n) (hk : k ∈ R i) : rkA M R i < rkA M R k := h.rkA_fwd hi (zb6.2 (.inl hk))
noncomputable def isS (M : Dm) (i : Nat) : Bool := za9 (M.nd i) && decide (ofZ M (i : Int) ≠ -1)
noncomputable def nxt (M : Dm) (R G : Nat -> List Nat) (i : Nat) : List Nat :=
 if isS M i = false then [] else if za8 M R G i = [] then (R i).filter fun k => za0 (M.nd k) else za8 M R G i
theorem Inv.nxt_mem (h : Inv M R G rk) {i k : Nat} (hi : i < M.n) (hk : k ∈ nxt M R G i) : k < M.n /\ rkA M R i < rkA M R k /\ za0 (M.nd k) = true /\ (zbi M R k = (i : Int) \/ (k ∈ R i /\ za8 M R G i = [])) := by
 unfold nxt at hk
 by_cases c : isS M i = false
 ·rw [if_pos c] at hk; cases hk
 rw [if_neg c] at hk
 by_cases d : za8 M R G i = []
 ·rw [if_pos d] at hk
  obtain ⟨m1, m2⟩ := List.mem_filter.1 hk
  exact ⟨(h.good.kid hi m1).1, h.rkA_kid hi m1, m2, .inr ⟨m1, d⟩⟩
 ·rw [if_neg d] at hk
  have hkn := h.asg_lt hi hk
  have e := (h.asg hi hkn).1 hk
  exact ⟨hkn, h.rkA_find hkn e, (h.find_slot hkn e).2.2.1, .inl e⟩
theorem Inv.nxt_falls (h : Inv M R G rk) : Falls M.n (nxt M R G) (rkA M R) := fun i hi k hk => ⟨(h.nxt_mem hi hk).1, (h.nxt_mem hi hk).2.1⟩
theorem Inv.nxt_nd (h : Inv M R G rk) {i : Nat} (hi : i < M.n) : (nxt M R G i).Nodup := by
 unfold nxt
 split
 ·exact List.nodup_nil
 ·split
  ·exact (h.good.wf.nodup i hi).filter _
  ·exact h.asg_nd hi
theorem Inv.nxt_in (h : Inv M R G rk) {T x y : Nat} (hT : T < M.n) (h5 : (M.nd T).kind = 5) (hx : x < M.n) (hy : y ∈ nxt M R G x) (hi : Up M.n (fwd M R) T y) : Up M.n (fwd M R) T x := by
 obtain ⟨hyn, _, _, hc⟩ := h.nxt_mem hx hy
 have hTu : (M.pl T).up = -1 := by
  obtain ⟨o, _, _, _, _, hu⟩ := h.host hT h5
  exact hu
 have back : ∀ u, u < M.n -> (M.pl y).up = (u : Int) -> y ∈ R u -> Up M.n (fwd M R) T u := fun u hu e hm => by
  cases hi with
  | here => omega
  | @up _ z hz hm' hup =>
   have := h.only.one u z y hu hz (zb6.2 (.inl hm)) hm'
   exact this ▸ hup
 rcases hc with e | ⟨hm, _⟩
 ·obtain ⟨_, _, _, u, s, hu, hs, e1, e2, ho⟩ := h.find_slot hyn e
  have hm : y ∈ R u := by
   rcases h.good.wf.inn y hyn with h0 | ⟨v, hv, e', hm⟩
   ·omega
   ·have : v = u := by omega
    exact this ▸ hm
  have h1 := back u hu e1 hm
  have h2 : Up M.n (fwd M R) s x := (zco h.only.falls hs).1 (h.tr_fwd hs ((h.of_tree hs (h.shadow hu e2).2.1 hx).2 ho))
  exact Up.trans (.up hu (zb6.2 (.inr ⟨by rw [e2]; omega, by rw [e2, Int.toNat_natCast]⟩)) h1) h2
 ·exact back x hx (h.good.kid hx hm).2.1 hm
theorem Up.lt {n : Nat} {F : Nat -> List Nat} {rk : Nat -> Nat} (h : Falls n F rk) {a x : Nat} (ha : a < n) (hu : Up n F a x) : x < n := by
 cases hu with
 | here => exact ha
 | up hy hm _ => exact (h _ hy _ hm).1
theorem Inv.nxt_inn (h : Inv M R G rk) {T s x : Nat} (hT : T < M.n) (h5 : (M.nd T).kind = 5) (hs : s < M.n) (hu : Up M.n (nxt M R G) s x) : Up M.n (fwd M R) T x -> Up M.n (fwd M R) T s := by
 induction hu with
 | here => exact id
 | @up x y hy hm _ ih => exact fun hi => ih (h.nxt_in hT h5 hy hm hi)
theorem Inv.nxt_one (h : Inv M R G rk) {s a b z : Nat} (hs : s < M.n) (ha : Up M.n (nxt M R G) s a) (hb : Up M.n (nxt M R G) s b) (hza : z ∈ nxt M R G a) (hzb : z ∈ nxt M R G b) : a = b := by
 have han := ha.lt h.nxt_falls hs
 have hbn := hb.lt h.nxt_falls hs
 have key : ∀ a b, a < M.n -> b < M.n -> Up M.n (nxt M R G) s a -> Up M.n (nxt M R G) s b -> z < M.n -> zbi M R z = (a : Int) -> z ∈ R b -> False := fun a b han hbn ha hb hz e hm => by
  obtain ⟨_, _, _, u, T, hu, hT, e1, e2, ho⟩ := h.find_slot hz e
  have hub : u = b := by
   have := (h.good.kid hbn hm).2.1
   omega
  subst hub
  have h5 := (h.shadow hu e2).2.1
  have haT : Up M.n (fwd M R) T a := (zco h.only.falls hT).1 (h.tr_fwd hT ((h.of_tree hT h5 han).2 ho))
  have hsT := h.nxt_inn hT h5 hs ha haT
  have hlow : ∀ x, Up M.n (fwd M R) T x -> rkA M R u < rkA M R x := fun x hx => by
   have hr : Falls M.n (fwd M R) (rkA M R) := fun i hi k hk => ⟨(h.only.falls i hi k hk).1, h.rkA_fwd hi hk⟩
   have h1 : rkA M R u < rkA M R T := h.rkA_fwd hu (zb6.2 (.inr ⟨by rw [e2]; omega, by rw [e2, Int.toNat_natCast]⟩))
   rcases hx.low hr with e | e
   ·rw [<- e]; exact h1
   ·omega
  have h1 := hlow s hsT
  rcases hb.low h.nxt_falls with e | e
  ·rw [e] at h1; omega
  ·omega
 obtain ⟨hz, _, _, ca⟩ := h.nxt_mem han hza
 obtain ⟨_, _, _, cb⟩ := h.nxt_mem hbn hzb
 rcases ca with ea | ⟨ma, _⟩
 ·rcases cb with eb | ⟨mb, _⟩
  ·omega
  ·exact (key a b han hbn ha hb hz ea mb).elim
 ·rcases cb with eb | ⟨mb, _⟩
  ·exact (key b a hbn han hb ha hz eb ma).elim
  ·exact h.good.wf.one han hbn ma mb
end
section
variable {n : Nat} {F : Nat -> List Nat} {rk : Nat -> Nat}
structure Zes (n : Nat) (F : Nat -> List Nat) (rk : Nat -> Nat) (r : Nat) : Prop where
 falls : Falls n F rk
 one : ∀ a b z, Up n F r a -> Up n F r b -> z ∈ F a -> z ∈ F b -> a = b
 nd : ∀ i, i < n -> (F i).Nodup
theorem Zes.kid {r x : Nat} (h : Zes n F rk r) (hr : r < n) (hx : x ∈ F r) : Zes n F rk x :=
 ⟨h.falls, fun a b z ha hb => h.one a b z (Up.trans (.up hr hx .here) ha) (Up.trans (.up hr hx .here) hb), h.nd⟩
theorem Zes.lin {r : Nat} (h : Zes n F rk r) {a b x : Nat} (hra : Up n F r a) (hrb : Up n F r b) (ha : Up n F a x) : Up n F b x -> Up n F a b \/ Up n F b a := by
 induction ha with
 | here => exact fun hb => .inr hb
 | @up x y hy hm h1 ih =>
  intro hb
  cases hb with
  | here => exact .inl (.up hy hm h1)
  | @up _ z hz hm' h2 =>
   have := h.one y z x (Up.trans hra h1) (Up.trans hrb h2) hm hm'
   subst this
   exact ih h2
theorem zi4 : ∀ (f i : Nat), Zes n F rk i -> i < n -> dn n rk i < f -> (tr n F i).Nodup
 | 0, i, _, _, hf => absurd hf (Nat.not_lt_zero _)
 | f + 1, i, h, hi, hf => by
  rw [zcz h.falls hi]
  refine List.nodup_cons.2 ⟨fun hm => ?_, zdb (h.nd i hi) (fun x hx => ?_) (fun x hx y hy hxy z hz1 hz2 => ?_)⟩
  ·obtain ⟨k, hk, hm⟩ := List.mem_flatMap.1 hm
   have hkn := h.falls i hi k hk
   rcases ((zco h.falls hkn.1).1 hm).low h.falls with e | e
   ·rw [e] at hkn; omega
   ·omega
  ·have hkn := h.falls i hi x hx
   exact zi4 f x (h.kid hi hx) hkn.1 (by have := zfh hkn.1 hkn.2; omega)
  ·have hxn := h.falls i hi x hx
   have hyn := h.falls i hi y hy
   have u1 := (zco h.falls hxn.1).1 hz1
   have u2 := (zco h.falls hyn.1).1 hz2
   have no : ∀ a b, a ∈ F i -> b ∈ F i -> a ≠ b -> ¬ Up n F a b := fun a b ha hb hab hu => by
    cases hu with
    | here => exact hab rfl
    | @up _ c hc hm hu =>
     have := h.one i c b .here (Up.trans (.up hi ha .here) hu) hb hm
     subst this
     have := (h.falls i hi a ha).2
     rcases hu.low h.falls with e | e
     ·rw [e] at this; omega
     ·omega
   rcases h.lin (.up hi hx .here) (.up hi hy .here) u1 u2 with q | q
   ·exact no x y hx hy hxy q
   ·exact no y x hy hx (fun e => hxy e.symm) q
theorem zo0 {i : Nat} (h : Zes n F rk i) (hi : i < n) : (tr n F i).length <= n :=
 za4 n _ (zi4 _ i h hi (Nat.lt_succ_self _)) (fun x hx => zic h.falls n i hi x hx)
end
end
section
section
variable {M : Dm} {R G : Nat -> List Nat} {rk : Nat -> Nat}
theorem Inv.nxt_at (h : Inv M R G rk) {i : Nat} (hi : i < M.n) : Zes M.n (nxt M R G) (rkA M R) i :=
 ⟨h.nxt_falls, fun a b z ha hb => h.nxt_one hi ha hb, fun i hi => h.nxt_nd hi⟩
noncomputable def zbc (M : Dm) (R G : Nat -> List Nat) (i : Nat) : List Nat := if isS M i = true then (tr M.n (nxt M R G) i).filter fun k => !isS M k else []
theorem Inv.flat_len (h : Inv M R G rk) {i : Nat} (hi : i < M.n) : (zbc M R G i).length <= M.n := by
 unfold zbc
 split
 ·exact Nat.le_trans (List.length_filter_le ..) (zo0 (h.nxt_at hi) hi)
 ·exact Nat.zero_le _
theorem zdr {p : Nat -> Bool} {f : Nat -> List Nat} : ∀ l : List Nat, (l.flatMap f).filter p = l.flatMap fun x => (f x).filter p
 | [] => rfl
 | x :: r => by rw [List.flatMap_cons, List.filter_append, zdr r, List.flatMap_cons]
theorem Inv.flat_eq (h : Inv M R G rk) {i : Nat} (hi : i < M.n) (hs : isS M i = true) : zbc M R G i = (nxt M R G i).flatMap fun k => if isS M k = true then zbc M R G k else [k] := by
 have e : zbc M R G i = (tr M.n (nxt M R G) i).filter fun k => !isS M k := by unfold zbc; rw [if_pos hs]
 rw [e, zcz h.nxt_falls hi, List.filter_cons_of_neg (by simp [hs]), zdr]
 refine zcq fun k hk => ?_
 by_cases c : isS M k = true
 ·rw [if_pos c]; unfold zbc; rw [if_pos c]
 ·rw [if_neg c]
  have c' : isS M k = false := by simpa using c
  have hn : nxt M R G k = [] := by unfold nxt; rw [if_pos c']
  rw [zcz h.nxt_falls (h.nxt_mem hi hk).1, hn, List.flatMap_nil, List.filter_cons_of_pos (by simp [c']), List.filter_nil]
noncomputable def fK (M : Dm) (R G : Nat -> List Nat) (i : Nat) : List Nat :=
 if (M.nd i).shadow ≠ -1 then R (M.nd i).shadow.toNat else if za8 M R G i = [] then R i else za8 M R G i
noncomputable def upZ (M : Dm) (R G : Nat -> List Nat) (k : Nat) : Int :=
 if (M.pl k).up = -1 then -1 else if (M.nd (M.pl k).up.toNat).kind = 5 then (M.nd (M.pl k).up.toNat).host
 else if (M.nd (M.pl k).up.toNat).shadow ≠ -1 then zbi M R k else if za8 M R G (M.pl k).up.toNat = [] then (M.pl k).up else -1
theorem Inv.shd5 (h : Inv M R G rk) {u : Nat} (hu : u < M.n) (h5 : (M.nd u).kind = 5) : (M.nd u).shadow = -1 := by
 rcases h.core.shad u hu with e | ⟨s, _, _, e, _⟩
 ·exact e
 ·omega
theorem Inv.fK_mem (h : Inv M R G rk) {i k : Nat} (hi : i < M.n) (hk : k ∈ fK M R G i) : k < M.n /\ rkA M R i < rkA M R k /\ (M.nd k).kind ≠ 5 /\ ((M.nd i).kind ≠ 5 -> upZ M R G k = (i : Int)) /\ ((M.nd i).kind = 5 -> upZ M R G k = (M.nd i).host /\ k ∈ R i) := by
 have no5 : ∀ u, u < M.n -> k ∈ R u -> (M.nd k).kind ≠ 5 := fun u hu hm h5 => by
  have h1 := h.good.kid hu hm
  obtain ⟨_, _, _, _, _, e⟩ := h.host h1.1 h5
  omega
 unfold fK at hk
 by_cases c : (M.nd i).shadow ≠ -1
 ·rw [if_pos c] at hk
  obtain ⟨s, e, hs, hh, _⟩ := h.shd hi c
  have h5 := (h.shadow hi e).2.1
  rw [e, Int.toNat_natCast] at hk
  have hkd := h.good.kid hs hk
  have hi5 : (M.nd i).kind ≠ 5 := fun h5 => c (h.shd5 hi h5)
  refine ⟨hkd.1, Nat.lt_trans (h.rkA_fwd hi (zb6.2 (.inr ⟨c, by rw [e, Int.toNat_natCast]⟩))) (h.rkA_kid hs hk), no5 s hs hk, fun _ => ?_, fun h5 => absurd h5 hi5⟩
  unfold upZ
  rw [hkd.2.1, if_neg (by omega), Int.toNat_natCast, if_pos h5]
  exact hh
 ·rw [if_neg c] at hk
  have hsh : (M.nd i).shadow = -1 := Classical.byContradiction c
  by_cases d : za8 M R G i = []
  ·rw [if_pos d] at hk
   have hkd := h.good.kid hi hk
   refine ⟨hkd.1, h.rkA_kid hi hk, no5 i hi hk, fun h5 => ?_, fun h5 => ⟨?_, hk⟩⟩
   ·unfold upZ
    rw [hkd.2.1, if_neg (by omega), Int.toNat_natCast, if_neg h5, if_neg c, if_pos d]
   ·unfold upZ
    rw [hkd.2.1, if_neg (by omega), Int.toNat_natCast, if_pos h5]
  ·rw [if_neg d] at hk
   have hkn := h.asg_lt hi hk
   have e := (h.asg hi hkn).1 hk
   obtain ⟨_, hsl, _, u, s, hu, hs, e1, e2, _⟩ := h.find_slot hkn e
   have hm : k ∈ R u := by
    rcases h.good.wf.inn k hkn with h0 | ⟨v, hv, e', hm⟩
    ·omega
    ·have : v = u := by omega
     exact this ▸ hm
   have hu1 := (h.shadow hu e2).2.2.2.2.2
   refine ⟨hkn, h.rkA_find hkn e, no5 u hu hm, fun _ => ?_, fun h5 => ?_⟩
   ·unfold upZ
    rw [e1, if_neg (by omega), Int.toNat_natCast, if_neg (by omega), if_pos (by rw [e2]; omega)]
    exact e
   ·have := (zbw.1 hsl).1; omega
theorem Inv.fK_falls (h : Inv M R G rk) : Falls M.n (fK M R G) (rkA M R) := fun i hi k hk => ⟨(h.fK_mem hi hk).1, (h.fK_mem hi hk).2.1⟩
theorem Inv.fK_nd (h : Inv M R G rk) {i : Nat} (hi : i < M.n) : (fK M R G i).Nodup := by
 unfold fK
 by_cases c : (M.nd i).shadow ≠ -1
 ·rw [if_pos c]
  obtain ⟨s, e, hs, _⟩ := h.shd hi c
  rw [e, Int.toNat_natCast]
  exact h.good.wf.nodup s hs
 ·rw [if_neg c]
  split
  ·exact h.good.wf.nodup i hi
  ·exact h.asg_nd hi
theorem Inv.fK_at (h : Inv M R G rk) {i : Nat} (hi : i < M.n) : Zes M.n (fK M R G) (rkA M R) i := by
 refine ⟨h.fK_falls, fun a b z ha hb hza hzb => ?_, fun i hi => h.fK_nd hi⟩
 have han := ha.lt h.fK_falls hi
 have hbn := hb.lt h.fK_falls hi
 have k5 : ∀ x, Up M.n (fK M R G) i x -> x = i \/ (M.nd x).kind ≠ 5 := fun x hx => by
  cases hx with
  | here => exact .inl rfl
  | up hy hm _ => exact .inr (h.fK_mem hy hm).2.2.1
 have ma := h.fK_mem han hza
 have mb := h.fK_mem hbn hzb
 have low : ∀ x, Up M.n (fK M R G) i x -> i = x \/ rkA M R i < rkA M R x := fun x hx => hx.low h.fK_falls
 have key : ∀ a b, a < M.n -> b < M.n -> Up M.n (fK M R G) i a -> Up M.n (fK M R G) i b -> (M.nd a).kind = 5 -> (M.nd b).kind ≠ 5 -> upZ M R G z = (M.nd a).host -> upZ M R G z = (b : Int) -> False := fun a b han hbn ha hb h5 hb5 e1 e2 => by
  rcases k5 a ha with e | e
  ·subst e
   obtain ⟨o, ho, eo, es, _⟩ := h.host han h5
   have : o = b := by omega
   subst this
   have h1 := h.rkA_fwd ho (zb6.2 (.inr ⟨by rw [es]; omega, by rw [es, Int.toNat_natCast]⟩) : a ∈ fwd M R o)
   rcases low o hb with e | e
   ·rw [e] at h1; omega
   ·omega
  ·exact e h5
 by_cases a5 : (M.nd a).kind = 5
 ·by_cases b5 : (M.nd b).kind = 5
  ·rcases k5 a ha with e | e
   ·rcases k5 b hb with e' | e'
    ·rw [e, e']
    ·exact absurd b5 e'
   ·exact absurd a5 e
  ·exact (key a b han hbn ha hb a5 b5 (ma.2.2.2.2 a5).1 (mb.2.2.2.1 b5)).elim
 ·by_cases b5 : (M.nd b).kind = 5
  ·exact (key b a hbn han hb ha b5 a5 (mb.2.2.2.2 b5).1 (ma.2.2.2.1 a5)).elim
  ·have h1 := ma.2.2.2.1 a5
   have h2 := mb.2.2.2.1 b5
   omega
theorem Inv.walk_len (h : Inv M R G rk) {i : Nat} (hi : i < M.n) : (tr M.n (fK M R G) i).length <= M.n := zo0 (h.fK_at hi) hi
end
end
section
open Go.RowKit Go.Sort
theorem zrn (n : Nat) (hnn : 60 < n) (a : Option Addr) (c : Nat) (w : World) :
  Calls Tryz.prog 12 #[.slice a n c] w fun e w' => e = .returned (.bool true) /\ Kept (fun k => k < w.heap.size) w w' := by
 have hg60 : decide ((n : Int) > 60) = true := decide_eq_true (by omega)
 go_enter Tryz.func12, Tryz.ntmps12
 go_wp2
 go_ret
 exact ⟨rfl, Kept.refl _ _⟩
theorem zk1 (l : List Opx) (n : Nat) (hln : l.length = n) (hnn : n <= 60) (a : Option Addr) (c : Nat) (hb2 : zcb l <= 2000000) (w : World) (h : Zcp (fun k => k < w.heap.size) w a l) :
  Calls Tryz.prog 12 #[.slice a n c] w fun e w' => e = .returned (.bool (decide (6000 < zcb l))) /\ Kept (fun k => k < w.heap.size) w w' := by
 have rh := zgu l n hln (by omega) a c hb2 w h
 have hg60 : decide ((n : Int) > 60) = false := decide_eq_false (by omega)
 obtain ⟨hv, hhv⟩ : ∃ hv, zcb l = hv := ⟨_, rfl⟩
 rw [hhv] at rh ⊢
 have hg6 : decide ((hv : Int) > 6000) = decide (6000 < hv) := by
  by_cases c6 : 6000 < hv
  ·rw [decide_eq_true c6]; exact decide_eq_true (by omega)
  ·rw [decide_eq_false c6]; exact decide_eq_false (by omega)
 obtain ⟨b, hbb⟩ : ∃ b, decide (6000 < hv) = b := ⟨_, rfl⟩
 rw [hbb] at hg6 ⊢
 clear hhv h hln hb2 hbb
 go_enter Tryz.func12, Tryz.ntmps12
 go_wp2_with (go_at_call 25; refine rh.mono ?_; rintro e w1 ⟨rfl, k1⟩)
 go_ret
 exact ⟨rfl, k1⟩
theorem zr9 (l : List Opx) (n : Nat) (hln : l.length = n) (hnn : n <= 1000000) (a : Option Addr) (c : Nat) (hok : ∀ o ∈ l, Zhc o) (hb : zcb l <= 900000) (w : World) (h : Zcp (fun k => k < w.heap.size) w a l) :
  Calls Tryz.prog 14 #[.slice a n c] w fun e w' => ∃ p r E M R G rk, e = .returned (.tuple #[.pointer (some ⟨p, 0, none⟩), .pointer (some ⟨r, 0, none⟩)]) /\ Grown (fun k => k < w.heap.size) E w' p r M R G rk 300 /\ Kept (fun k => k < w.heap.size) w w' := by
 have rn := zej 300 w (by decide) (by decide)
 have HRN : Hid (∀ X, Calls Tryz.prog 28 #[.int .i64 300] X fun e w' => ∃ p, e = .returned (.pointer (some ⟨p, 0, none⟩)) /\ X.heap.size <= p /\ RX (fun k => k < X.heap.size) TT w' p (Dm.new 300) (fun _ => []) (fun _ => []) /\ Kept (fun k => k < X.heap.size) X w') := fun X => zgd 300 X (by decide) (by decide)
 have HL : Hid (l.length = n) := hln
 have HB : Hid (zcb l <= 900000) := hb
 have HH : Hid (Zcp (fun k => k < w.heap.size) w a l) := h
 have HOK : Hid (∀ o ∈ l, Zhc o) := hok
 clear hln hb h hok
 go_enter Tryz.func14, Tryz.ntmps14
 go_wp2_with fail
 refine rn.mono ?_
 rintro e w1 ⟨p, rfl, hp, hX1, k1⟩
 clear rn
 have rn2 := HRN.out w1
 have HX1 : Hid (DX (fun k => k < w.heap.size) w1 p (Dm.new 300)) := hX1
 have HK1 : Hid (Kept (fun k => k < w.heap.size) w w1) := k1
 clear hX1 k1 HRN
 go_wp2_with fail
 refine rn2.mono ?_
 rintro e w2 ⟨r, rfl, hr, hX2, k2⟩
 clear rn2
 have HG2 : Hid (Grown (fun k => k < w.heap.size) (fun k => w1.heap.size <= k /\ k < w2.heap.size) w2 p r (Dm.new 300) (fun _ => []) (fun _ => []) (fun _ => 0) 300) := ⟨zh1 HX1.out HK1.out hX2 k2, Inv.new 300, rfl, by show 1 <= 300; decide⟩
 have HK2 : Hid (Kept (fun k => k < w.heap.size) w w2) := kt HK1.out k2
 clear HX1 HK1 hX2 k2 hp hr
 go_upto_region 4 with fail
 go_loopg [6] n (fun gh v wr => ∃ (k : Nat) (E : Nat -> Prop) (M : Dm) (R G : Nat -> List Nat) (rk : Nat -> Nat), gh = n - k /\ k <= n /\ v = .int .i64 (k : Int) /\ Grown (fun k => k < w.heap.size) E wr p r M R G rk 300 /\ Kept (fun k => k < w.heap.size) w wr)
 case atStart => exact ⟨0, _, _, _, _, _, rfl, Nat.zero_le _, rfl, HG2.out, HK2.out⟩
 case round =>
  clear HG2 HK2
  obtain ⟨k, E, M, R, G, rk, hgk, hk, rfl, hG, hK⟩ := hrel
  have HG : Hid (Grown (fun k => k < w.heap.size) E wr p r M R G rk 300) := hG
  have HK : Hid (Kept (fun k => k < w.heap.size) w wr) := hK
  by_cases hlt : k < n
  ·have hll : k < l.length := by rw [HL.out]; exact hlt
   obtain ⟨g, o, A, rfl, hg, hA, hc⟩ := HH.out k hll
   have hmem := List.getElem_mem hll
   obtain ⟨x, hx⟩ : ∃ x, l[k] = x := ⟨_, rfl⟩
   rw [hx] at hA hc hmem
   have hvx := zf3 hmem
   have hrange : wr.rangeAt g (o + k * 17) (opC x A) := fun f u hu => (hK.cell (p := ⟨g, o + k * 17 + f, none⟩) hg).trans (hc f u hu)
   obtain ⟨N, hN⟩ : ∃ N, wr.heap.size = N := ⟨_, rfl⟩
   have hb1 : (wr.alloc (.cells zbf 50)).heap[N]? = some (.cells zbf 50 (0, 0)) := by rw [<- hN]; exact heap_alloc_new wr _
   obtain ⟨W1, hW1⟩ : ∃ W1, (wr.alloc (.cells zbf 50)).setRow N (opC x A).toArray = W1 := ⟨_, rfl⟩
   have hB1 : W1.heap[N]? = some (.cells (opC x A).toArray 50 (0, 0)) := by rw [<- hW1]; exact setRow_heap _ _ _ _ _ _ hb1
   have k1 : Kept (fun k => k < wr.heap.size) wr W1 := by rw [<- hW1]; exact zap ((Kept.refl _ wr).alloc (fun _ h => h) _) (by rw [hN]; exact Nat.lt_irrefl _) _
   obtain ⟨W2, hW2⟩ : ∃ W2, W1.setCell ⟨N, 4, none⟩ (.bool true) = W2 := ⟨_, rfl⟩
   have hB2 : W2.heap[N]? = some (.cells (opC { x with inn := true } A).toArray 50 (0, 0)) := by rw [<- hW2]; exact zbj hB1 4 (.bool true)
   have k2 : Kept (fun k => k < wr.heap.size) wr W2 := by rw [<- hW2]; exact k1.setCell (p := ⟨N, 4, none⟩) (by rw [hN]; exact Nat.lt_irrefl _) _
   have k2w : Kept (fun k => k < w.heap.size) w W2 := kt hK k2
   have b4 : W1.cell? ⟨N, 4, none⟩ = some (.bool x.inn) := by rw [zaa hB1]; rfl
   have f4 : W1.frozen? ⟨N, 4, none⟩ = false := zak hB1 4
   have e0 : W2.cell? ⟨N, 0, none⟩ = some (.int .u8 (x.k : Int)) := by rw [zaa hB2]; rfl
   have hdoes := zf0 (fun k => k < w.heap.size) E p r M R G rk W2 { x with inn := true } A ⟨(hG.kept k2).two, hG.inv, hG.le, by rw [hG.lim]; decide, (HOK.out x hmem).inn, by have := HB.out; show opH x <= _; omega, hA.kept k2w (fun g hg => hg), rfl⟩
   obtain ⟨cs, hcs⟩ : ∃ cs, (opC x A).toArray = cs := ⟨_, rfl⟩
   have hsz : cs.size = 17 := by rw [<- hcs]; rfl
   have hone : cs.all (·.oneCell') = true := by rw [<- hcs]; exact zdc x A
   have hlen : (opC x A).length = 17 := rfl
   obtain ⟨cl, hcl⟩ : ∃ cl, opC x A = cl := ⟨_, rfl⟩
   have hcc : cl.toArray = cs := by rw [<- hcl]; exact hcs
   rw [hcl] at hrange hlen
   have hil : (Tryz.prog.info? 50).map (·.size) = some cl.length := by rw [hlen]; exact zbr cs hsz |>.trans (by rw [hsz])
   have HW1 : Hid ((wr.alloc (.cells zbf 50)).setRow N cs = W1) := by rw [<- hcs]; exact hW1
   have HW2 : Hid (W1.setCell ⟨N, 4, none⟩ (.bool true) = W2) := hW2
   have HN : Hid (wr.heap.size = N) := hN
   have HN' : Hid (N = wr.heap.size) := hN.symm
   obtain ⟨cs2, hcs2⟩ : ∃ cs2, (opC { x with inn := true } A).toArray = cs2 := ⟨_, rfl⟩
   have hsz2 : cs2.size = 17 := by rw [<- hcs2]; rfl
   rw [hcs2] at hB2
   obtain ⟨q, hq⟩ : ∃ q, x.k % 16 = q := ⟨_, rfl⟩
   have hkm : (x.k : Int).tmod 16 = (q : Int) := by rw [<- hq]; rfl
   have HD : Hid (Calls Tryz.prog 31 #[.pointer (some ⟨p, 0, none⟩), .pointer (some ⟨r, 0, none⟩), .agg cs2] W2 (Zeb x.k (fun k => k < w.heap.size) p r M W2)) := by rw [<- hcs2]; exact hdoes
   have HG2 : Hid (Grown (fun k => k < w.heap.size) E W2 p r M R G rk 300) := hG.kept k2
   have HK2 : Hid (Kept (fun k => k < w.heap.size) w W2) := k2w
   clear hG hK hc hA hmem hx hvx hdoes hq hW1 hW2 hB1 k1 k2 k2w hcs hcs2 hN hlen hcl
   go_upto_region 6 with fail
   go_upto_region 7 with (first | (refine wpList_load_mid rfl 50 _ rfl g (o + k * 17) rfl cl _ hrange Tryz.underlying50 rfl hil ?_; rw [hcc]) | (rw [HN.out]; refine wpList_store_row rfl 50 _ _ rfl N cs rfl rfl 50 _ hb1 (zbr _ hsz) (by rw [hsz]; rfl) hone ?_))
   rw [HW1.out]
   clear hrange hb1 HW1
   go_upto_region 8 with fail
   rw [HW2.out]
   clear b4 f4 HW2
   by_cases q15 : q = 15
   ·subst q15
    clear HD
    go_wp2
    go_roundg (n - (k + 1))
    case rel => exact ⟨k + 1, E, M, R, G, rk, rfl, by omega, by go_num, HG2.out, HK2.out⟩
    case measure => omega
   ·have n15 : ((q : Int) == 15) = false := by simp; omega
    have n15' : ((q : Int) != 15) = true := by simp; omega
    go_upto_region 9 with fail
    go_wp2_with (refine wpList_load_row rfl 50 _ rfl N rfl 50 cs2 (0, 0) _ hB2 Tryz.underlying50 rfl (zbr _ hsz2) ?_)
    refine HD.out.mono ?_
    rintro e w3 ⟨rfl, E', M', R', G', rk', h2, hI, hG', hK3⟩
    have HG3 : Hid (Grown (fun k => k < w.heap.size) E' w3 p r M' R' G' rk' 300) := ⟨h2, hI, hG'.limit.trans HG2.out.lim, hG'.le HG2.out.le⟩
    have HK3 : Hid (Kept (fun k => k < w.heap.size) w w3) := HK2.out.trans hK3
    clear HD h2 hI hG' hK3 HG2 HK2 e0 hB2
    go_wp2
    go_roundg (n - (k + 1))
    case rel => exact ⟨k + 1, E', M', R', G', rk', rfl, by omega, by go_num, HG3.out, HK3.out⟩
    case measure => omega
  ·have hkn : n = k := by omega
   subst hkn
   clear hG hK
   go_wp2
   go_ret2
   exact ⟨p, r, E, M, R, G, rk, rfl, HG.out, HK.out⟩
end
end Go.Proofs.YtfeinppedejlpaaGreat
