/-
 What is shown in slots, as plain functions (pure).; The order in which shadow roots come ahead of kids; what is shown is a forest (pure).; What is shown, at last, and as a tree (pure).; portierelaw11: heavy, and both documents behind calls.
-/
import Derived.Test.YtkngpgkldkohgaaGreatB32
import Derived.Test.YtkngpgkldkohgaaGreatB29
import Derived.Test.YtkngpgkldkohgaaGreatB26
import Derived.Test.YtkngpgkldkohgaaGreatB17
import Derived.Deep.MidRow
namespace Go.Proofs.YtkngpgkldkohgaaGreat
set_option linter.unusedVariables false
set_option maxRecDepth 100000
set_option maxHeartbeats 8000000
section
open Classical in
noncomputable def ofZ (M : Dm) (i : Int) : Int := if h : ∃ z, 0 <= i /\ i < (M.n : Int) /\ OfOf M i.toNat z then h.choose else -1
noncomputable def handZ (M : Dm) (i s : Nat) : Int := if ofZ M (M.gf i).up = (s : Int) then (M.gf i).up else -1
def fstS (M : Dm) (R : Nat -> List Nat) (nm : List UInt8) (s : Nat) : Int := fstO (fun k => slNm nm (M.nd k)) (tr M.n R s)
noncomputable def findZ (M : Dm) (R : Nat -> List Nat) (i : Nat) : Int :=
 if showB (M.nd i) = false \/ (M.pl i).up = -1 \/ (M.nd (M.pl i).up.toNat).shadow = -1 then -1
 else if (M.nd (M.nd (M.pl i).up.toNat).shadow.toNat).fl.b = true then handZ M i (M.nd (M.pl i).up.toNat).shadow.toNat
 else fstS M R (atV slotN (M.nd i).attrs) (M.nd (M.pl i).up.toNat).shadow.toNat
def shwL (M : Dm) (R G : Nat -> List Nat) (i s : Nat) : List Nat :=
 if (M.nd s).fl.b = true then (G i).filter fun k => decide ((M.pl k).up = (M.nd s).host)
 else if fstS M R (atV nameN (M.nd i).attrs) s = (i : Int) then (R (M.nd s).host.toNat).filter fun k => asksB (atV nameN (M.nd i).attrs) (M.nd k) else []
noncomputable def asgL (M : Dm) (R G : Nat -> List Nat) (i : Nat) : List Nat :=
 if isSl (M.nd i) = false \/ ofZ M (i : Int) = -1 then [] else shwL M R G i (ofZ M (i : Int)).toNat
section
variable {M : Dm} {R G : Nat -> List Nat} {rk : Nat -> Nat}
theorem ofZ_eq {i : Nat} {z : Int} (hi : i < M.n) (h : OfOf M i z) : ofZ M (i : Int) = z := by
 have hx : ∃ z, 0 <= (i : Int) /\ (i : Int) < (M.n : Int) /\ OfOf M (i : Int).toNat z := ⟨z, by omega, by omega, by rw [Int.toNat_natCast]; exact h⟩
 unfold ofZ
 rw [dif_pos hx]
 exact OfOf.one (M := M) (i := i) hx.choose_spec.2.2 h
theorem ofZ_no {i : Int} (h : i < 0 \/ (M.n : Int) <= i) : ofZ M i = -1 := by
 unfold ofZ
 rw [dif_neg]
 rintro ⟨z, h1, h2, _⟩
 omega
theorem Inv.ofz (h : Inv M R G rk) {i : Nat} (hi : i < M.n) : (∃ t : Nat, t < M.n /\ TopOf M i t /\ ofZ M (i : Int) = (t : Int) /\ (M.nd t).kind = 5) \/ (∃ t : Nat, t < M.n /\ TopOf M i t /\ ofZ M (i : Int) = -1 /\ (M.nd t).kind ≠ 5) := by
 obtain ⟨t, ht, hT, _⟩ := h.good.top (rk i + 1) i (Nat.lt_succ_self _) hi
 by_cases c : (M.nd t).kind = 5
 ·exact .inl ⟨t, ht, hT, ofZ_eq hi (.yes hT c), c⟩
 ·exact .inr ⟨t, ht, hT, ofZ_eq hi (.no hT c), c⟩
theorem fstO_some {P : Nat -> Bool} {l : List Nat} {k : Nat} (h : fstO P l = (k : Int)) : k ∈ l /\ P k = true := by
 unfold fstO at h
 cases e : l.find? P with
 | none => rw [e] at h; have h' : (-1 : Int) = (k : Int) := h; omega
 | some x =>
  rw [e] at h
  have h' : (x : Int) = (k : Int) := h
  have : x = k := by omega
  subst this
  exact ⟨List.mem_of_find?_eq_some e, List.find?_some e⟩
theorem slNm_iff {nm : List UInt8} {x : Nd} : slNm nm x = true ↔ x.kind = 1 /\ x.name = slotN /\ atV nameN x.attrs = nm := by
 unfold slNm isSl
 simp [and_assoc]
theorem isSl_iff {x : Nd} : isSl x = true ↔ x.kind = 1 /\ x.name = slotN := by
 unfold isSl
 simp
theorem showB_iff {x : Nd} : showB x = true ↔ x.kind = 1 \/ x.kind = 2 := by
 unfold showB
 simp
theorem asksB_iff {nm : List UInt8} {x : Nd} : asksB nm x = true ↔ showB x = true /\ atV slotN x.attrs = nm := by
 unfold asksB
 simp
theorem up_topR (h : Good M R rk) {i k : Nat} (hu : Up M.n R i k) : ∀ {t}, TopOf M i t -> TopOf M k t := by
 induction hu with
 | here => exact fun h => h
 | @up x y hy hm _ ih => exact fun hT => .up (h.kid hy hm).2.1 (ih hT)
theorem top_upR (h : Good M R rk) {i t : Nat} (hT : TopOf M i t) : i < M.n -> Up M.n R t i := by
 induction hT with
 | here _ => exact fun _ => .here
 | @up k m t e _ ih =>
  intro hk
  obtain ⟨hm, _⟩ := h.rk_up hk e
  rcases h.wf.inn k hk with e' | ⟨u, hu, e', hmem⟩
  ·omega
  ·have : u = m := by omega
   subst this
   exact .up hm hmem (ih hm)
theorem Inv.in_tree (h : Inv M R G rk) {s x : Nat} (hs : s < M.n) (hu : (M.pl s).up = -1) (hx : x < M.n) : x ∈ tr M.n R s ↔ TopOf M x s := by
 rw [mem_tr h.good.falls hs]
 exact ⟨fun hh => up_topR h.good hh (.here hu), fun hh => top_upR h.good hh hx⟩
theorem Inv.of_tree (h : Inv M R G rk) {s x : Nat} (hs : s < M.n) (hk : (M.nd s).kind = 5) (hx : x < M.n) : x ∈ tr M.n R s ↔ ofZ M (x : Int) = (s : Int) := by
 obtain ⟨i, hi, _, _, _, hu⟩ := h.host hs hk
 rw [h.in_tree hs hu hx]
 constructor
 ·exact fun hh => ofZ_eq hx (.yes hh hk)
 ·intro hh
  rcases h.ofz hx with ⟨t, _, hT, e, _⟩ | ⟨t, _, hT, e, _⟩
  ·have : t = s := by omega
   exact this ▸ hT
  ·omega
inductive FindC (M : Dm) (R G : Nat -> List Nat) (i : Nat) (z : Int) : Prop
 | none : z = -1 -> (showB (M.nd i) = false \/ (M.pl i).up = -1 \/ ∃ h : Nat, h < M.n /\ (M.pl i).up = (h : Int) /\ (M.nd h).shadow = -1) -> FindC M R G i z
 | hand (h s : Nat) : h < M.n -> s < M.n -> showB (M.nd i) = true -> (M.pl i).up = (h : Int) -> (M.nd h).shadow = (s : Int) -> (M.nd s).fl.b = true -> z = handZ M i s -> FindC M R G i z
 | name (h s : Nat) : h < M.n -> s < M.n -> showB (M.nd i) = true -> (M.pl i).up = (h : Int) -> (M.nd h).shadow = (s : Int) -> (M.nd s).fl.b = false -> z = fstS M R (atV slotN (M.nd i).attrs) s -> FindC M R G i z
theorem Inv.ups' (h : Inv M R G rk) {i : Nat} (hi : i < M.n) : (M.pl i).up = -1 \/ ∃ u : Nat, u < M.n /\ (M.pl i).up = (u : Int) := by
 rcases h.good.wf.inn i hi with h0 | ⟨u, hu, e, _⟩
 ·exact .inl h0
 ·exact .inr ⟨u, hu, e⟩
theorem Inv.findC (h : Inv M R G rk) {i : Nat} (hi : i < M.n) : FindC M R G i (findZ M R i) := by
 unfold findZ
 by_cases c : showB (M.nd i) = false
 ·rw [if_pos (.inl c)]; exact .none rfl (.inl c)
 rcases h.ups' hi with hu | ⟨u, hu, e⟩
 ·rw [if_pos (.inr (.inl hu))]; exact .none rfl (.inr (.inl hu))
 rw [e, Int.toNat_natCast]
 rcases h.core.shad u hu with hs | ⟨s, hs, es, _⟩
 ·rw [if_pos (.inr (.inr hs))]; exact .none rfl (.inr (.inr ⟨u, hu, e, hs⟩))
 rw [if_neg (by rw [es]; rintro (h | h | h); exact c h; omega; omega), es, Int.toNat_natCast]
 have c' : showB (M.nd i) = true := by simpa using c
 cases b : (M.nd s).fl.b with
 | true => rw [if_pos rfl]; exact .hand u s hu hs c' e es b rfl
 | false => rw [if_neg (by simp)]; exact .name u s hu hs c' e es b rfl
theorem Inv.fst_slot (h : Inv M R G rk) {s k : Nat} {nm : List UInt8} (hs : s < M.n) (hk5 : (M.nd s).kind = 5) (e : fstS M R nm s = (k : Int)) : k < M.n /\ isSl (M.nd k) = true /\ ofZ M (k : Int) = (s : Int) /\ atV nameN (M.nd k).attrs = nm := by
 obtain ⟨h1, h2⟩ := fstO_some e
 have hk := tr_lt h.good.falls _ s hs k h1
 have h3 := slNm_iff.1 h2
 exact ⟨hk, isSl_iff.2 ⟨h3.1, h3.2.1⟩, (h.of_tree hs hk5 hk).1 h1, h3.2.2⟩
theorem Inv.gave (h : Inv M R G rk) {i u : Nat} (hi : i < M.n) (hu : u < M.n) : i ∈ G u ↔ (M.gf i).up = (u : Int) := by
 constructor
 ·exact fun hm => h.gw.up hu hm
 ·intro e
  rcases h.gw.inn i hi with h0 | ⟨v, hv, e', hm⟩
  ·omega
  ·have : v = u := by omega
   exact this ▸ hm
theorem Inv.find_slot (h : Inv M R G rk) {i k : Nat} (hi : i < M.n) (e : findZ M R i = (k : Int)) : k < M.n /\ isSl (M.nd k) = true /\ showB (M.nd i) = true /\ ∃ u s : Nat, u < M.n /\ s < M.n /\ (M.pl i).up = (u : Int) /\ (M.nd u).shadow = (s : Int) /\ ofZ M (k : Int) = (s : Int) := by
 rcases h.findC hi with ⟨e', _⟩ | ⟨u, s, hu, hs, hsh, e1, e2, hb, e'⟩ | ⟨u, s, hu, hs, hsh, e1, e2, hb, e'⟩
 ·omega
 ·unfold handZ at e'
  by_cases c : ofZ M (M.gf i).up = (s : Int)
  ·rw [if_pos c] at e'
   rw [e] at e'
   rw [<- e'] at c
   have hk : k < M.n := by
    apply Nat.lt_of_not_le
    intro hn
    rw [ofZ_no (.inr (by omega))] at c
    omega
   have hm := (h.gave hi hk).2 e'.symm
   have hg := h.gft k hk i hm
   exact ⟨hk, isSl_iff.2 hg.2, hsh, u, s, hu, hs, e1, e2, c⟩
  ·rw [if_neg c] at e'; omega
 ·have h5 := (h.shadow hu e2).2.1
  obtain ⟨h1, h2, h3, _⟩ := h.fst_slot hs h5 (e'.symm.trans e)
  exact ⟨h1, h2, hsh, u, s, hu, hs, e1, e2, h3⟩
theorem Inv.asg (h : Inv M R G rk) {i k : Nat} (hi : i < M.n) (hk : k < M.n) : k ∈ asgL M R G i ↔ findZ M R k = (i : Int) := by
 constructor
 ·intro hm
  unfold asgL at hm
  by_cases c : isSl (M.nd i) = false \/ ofZ M (i : Int) = -1
  ·rw [if_pos c] at hm; cases hm
  rw [if_neg c] at hm
  rcases h.ofz hi with ⟨s, hs, hT, e, h5⟩ | ⟨t, ht, hT, e, _⟩
  ·rw [e, Int.toNat_natCast] at hm
   obtain ⟨u, hu, eh, esh, _⟩ := h.host hs h5
   unfold shwL at hm
   rw [eh] at hm
   cases b : (M.nd s).fl.b with
   | true =>
    rw [b, if_pos rfl] at hm
    obtain ⟨m1, m2⟩ := List.mem_filter.1 hm
    have hup : (M.pl k).up = (u : Int) := of_decide_eq_true m2
    have hgv := (h.gave hk hi).1 m1
    have hsh : showB (M.nd k) = true := showB_iff.2 (h.gft i hi k m1).1
    unfold findZ
    rw [hup, Int.toNat_natCast, esh, Int.toNat_natCast, if_neg (by rw [hsh]; rintro (h | h | h); cases h; omega; omega), b, if_pos rfl]
    unfold handZ
    rw [hgv, e, if_pos rfl]
   | false =>
    rw [b, if_neg (by simp), Int.toNat_natCast] at hm
    by_cases cf : fstS M R (atV nameN (M.nd i).attrs) s = (i : Int)
    ·rw [if_pos cf] at hm
     obtain ⟨m1, m2⟩ := List.mem_filter.1 hm
     obtain ⟨a1, a2⟩ := asksB_iff.1 m2
     have hup := (h.good.kid hu m1).2.1
     unfold findZ
     rw [hup, Int.toNat_natCast, esh, Int.toNat_natCast, if_neg (by rw [a1]; rintro (h | h | h); cases h; omega; omega), b, if_neg (by simp), a2]
     exact cf
    ·rw [if_neg cf] at hm; cases hm
  ·exact absurd (.inr e) c
 ·intro e
  obtain ⟨_, hsl, hsh, u, s, hu, hs, e1, e2, ho⟩ := h.find_slot hk e
  unfold asgL
  rw [if_neg (by rw [hsl, ho]; rintro (h | h); cases h; omega), ho, Int.toNat_natCast]
  unfold shwL
  have hho := (h.shadow hu e2).2.2.1
  rw [hho, Int.toNat_natCast]
  have hmem : k ∈ R u := by
   rcases h.good.wf.inn k hk with h0 | ⟨v, hv, e', hm⟩
   ·omega
   ·have : v = u := by omega
    exact this ▸ hm
  unfold findZ at e
  rw [e1, Int.toNat_natCast, e2, Int.toNat_natCast, if_neg (by rw [hsh]; rintro (h | h | h); cases h; omega; omega)] at e
  cases b : (M.nd s).fl.b with
  | true =>
   rw [b, if_pos rfl] at e
   rw [if_pos rfl]
   unfold handZ at e
   by_cases c : ofZ M (M.gf k).up = (s : Int)
   ·rw [if_pos c] at e
    exact List.mem_filter.2 ⟨(h.gave hk hi).2 e, decide_eq_true e1⟩
   ·rw [if_neg c] at e; omega
  | false =>
   rw [b, if_neg (by simp)] at e
   rw [if_neg (by simp)]
   obtain ⟨_, _, _, hn⟩ := h.fst_slot hs (h.shadow hu e2).2.1 e
   rw [hn, if_pos e]
   exact List.mem_filter.2 ⟨hmem, asksB_iff.2 ⟨hsh, rfl⟩⟩
theorem Inv.asg_lt (h : Inv M R G rk) {i k : Nat} (hi : i < M.n) (hm : k ∈ asgL M R G i) : k < M.n := by
 unfold asgL at hm
 by_cases c : isSl (M.nd i) = false \/ ofZ M (i : Int) = -1
 ·rw [if_pos c] at hm; cases hm
 rw [if_neg c] at hm
 rcases h.ofz hi with ⟨s, hs, hT, e, h5⟩ | ⟨t, ht, hT, e, _⟩
 ·rw [e, Int.toNat_natCast] at hm
  obtain ⟨u, hu, eh, esh, _⟩ := h.host hs h5
  unfold shwL at hm
  rw [eh] at hm
  cases b : (M.nd s).fl.b with
  | true =>
   rw [b, if_pos rfl] at hm
   exact h.gw.lt i hi k (List.mem_filter.1 hm).1
  | false =>
   rw [b, if_neg (by simp), Int.toNat_natCast] at hm
   split at hm
   ·exact (h.good.kid hu (List.mem_filter.1 hm).1).1
   ·cases hm
 ·exact absurd (.inr e) c
theorem Inv.asg_nd (h : Inv M R G rk) {i : Nat} (hi : i < M.n) : (asgL M R G i).Nodup := by
 unfold asgL
 split
 ·exact List.nodup_nil
 ·unfold shwL
  split
  ·exact (h.gw.nodup i hi).filter _
  ·split
   ·rename_i c1 c2 c3
    rcases h.ofz hi with ⟨s, hs, hT, e, h5⟩ | ⟨t, ht, hT, e, _⟩
    ·rw [e, Int.toNat_natCast]
     obtain ⟨u, hu, eh, _⟩ := h.host hs h5
     rw [eh, Int.toNat_natCast]
     exact (h.good.wf.nodup u hu).filter _
    ·exact absurd (.inr e) c1
   ·exact List.nodup_nil
end
end
section
theorem Up.mono {n : Nat} {F F' : Nat -> List Nat} (hs : ∀ i, i < n -> ∀ k ∈ F i, k ∈ F' i) {a x : Nat} (h : Up n F a x) : Up n F' a x := by
 induction h with
 | here => exact .here
 | up hy hm _ ih => exact .up hy (hs _ hy _ hm) ih
section
variable {M : Dm} {R G : Nat -> List Nat} {rk : Nat -> Nat}
theorem TopT.kid {x k t : Nat} (hT : TopT M x t) (e : (M.pl k).up = (x : Int)) : TopT M k t := by
 cases hT with
 | here h0 h5 => exact .here (.up e h0) h5
 | up h0 h5 eh h1 => exact .up (.up e h0) h5 eh h1
noncomputable def isS (M : Dm) (i : Nat) : Bool := isSl (M.nd i) && decide (ofZ M (i : Int) ≠ -1)
theorem Up.lt {n : Nat} {F : Nat -> List Nat} {rk : Nat -> Nat} (h : Falls n F rk) {a x : Nat} (ha : a < n) (hu : Up n F a x) : x < n := by
 cases hu with
 | here => exact ha
 | up hy hm _ => exact (h _ hy _ hm).1
end
section
variable {n : Nat} {F : Nat -> List Nat} {rk : Nat -> Nat}
structure OnlyAt (n : Nat) (F : Nat -> List Nat) (rk : Nat -> Nat) (r : Nat) : Prop where
 falls : Falls n F rk
 one : ∀ a b z, Up n F r a -> Up n F r b -> z ∈ F a -> z ∈ F b -> a = b
 nd : ∀ i, i < n -> (F i).Nodup
theorem OnlyAt.kid {r x : Nat} (h : OnlyAt n F rk r) (hr : r < n) (hx : x ∈ F r) : OnlyAt n F rk x :=
 ⟨h.falls, fun a b z ha hb => h.one a b z (Up.trans (.up hr hx .here) ha) (Up.trans (.up hr hx .here) hb), h.nd⟩
theorem OnlyAt.lin {r : Nat} (h : OnlyAt n F rk r) {a b x : Nat} (hra : Up n F r a) (hrb : Up n F r b) (ha : Up n F a x) : Up n F b x -> Up n F a b \/ Up n F b a := by
 induction ha with
 | here => exact fun hb => .inr hb
 | @up x y hy hm h1 ih =>
  intro hb
  cases hb with
  | here => exact .inl (.up hy hm h1)
  | @up _ z hz hm' h2 =>
   have := h.one y z x (Up.trans hra h1) (Up.trans hrb h2) hm hm'
   subst this
   exact ih h2
end
end
section
section
variable {M : Dm} {R G : Nat -> List Nat} {rk : Nat -> Nat}
end
end
section
open Go.RowKit Go.Sort
end
end Go.Proofs.YtkngpgkldkohgaaGreat
