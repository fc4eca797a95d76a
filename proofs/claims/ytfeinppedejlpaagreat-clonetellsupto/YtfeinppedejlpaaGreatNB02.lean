/-
 Kinds of names, as plain functions on lists of bytes.; Rows of nodes as doubly linked lists, plain functions (of no program): taking one out, putting one in.; Kinds of names, as plain functions on lists of bytes.
-/
import Derived.WalkKit
namespace Go.Proofs.YtfeinppedejlpaaGreat
set_option linter.unusedVariables false
set_option maxRecDepth 100000
set_option maxHeartbeats 8000000
section
def ze3 : List UInt8 -> List UInt8 -> List (List UInt8)
 | acc, [] => [acc]
 | acc, c :: r => if c = 32 then acc :: ze3 [] r else ze3 (acc ++ [c]) r
def zga (t l : List UInt8) : Bool := (ze3 [] t).any (· == l) && l != []
theorem zo6 {t l : List UInt8} {L : List (List UInt8)} (h : ze3 [] t = L) (h0 : ∀ x ∈ L, x ≠ []) : zga t l = L.any (l == ·) := by
 unfold zga
 rw [h]
 have e : (L.any fun x => x == l) = L.any (l == ·) := by
  apply List.any_congr rfl
  intro x
  exact BEq.comm
 rw [e]
 by_cases hl : l = []
 ·subst hl
  have : L.any ([] == ·) = false := by
   rw [List.any_eq_false]
   intro x hx
   have hx0 := h0 x hx
   cases x with
   | nil => exact absurd rfl hx0
   | cons a r => simp
  rw [this]
  rfl
 ·have : (l != []) = true := by simpa using hl
  rw [this, Bool.and_true]
end
section
structure Lk where
 up : Int
 prev : Int
 next : Int
 first : Int
 last : Int
def Lk.nil : Lk := ⟨-1, -1, -1, -1, -1⟩
def hdD : List Nat -> Int -> Int
 | [], q => q
 | i :: _, _ => (i : Int)
def lsD : List Nat -> Int -> Int
 | [], p => p
 | i :: r, _ => lsD r (i : Int)
def Seg (L : Nat -> Lk) (u : Nat) : Int -> List Nat -> Int -> Prop
 | _, [], _ => True
 | p, i :: r, q => (L i).up = (u : Int) /\ (L i).prev = p /\ (L i).next = hdD r q /\ Seg L u (i : Int) r q
theorem zck (a b : List Nat) (q : Int) : hdD (a ++ b) q = hdD a (hdD b q) := by cases a <;> rfl
theorem zdd (a b : List Nat) (p : Int) : lsD (a ++ b) p = lsD b (lsD a p) := by
 induction a generalizing p with
 | nil => rfl
 | cons x r ih => exact ih _
theorem Seg.append {L : Nat -> Lk} {u : Nat} : ∀ {a b : List Nat} {p q : Int}, Seg L u p (a ++ b) q ↔ Seg L u p a (hdD b q) /\ Seg L u (lsD a p) b q
 | [], b, p, q => by simp [Seg, lsD]
 | x :: r, b, p, q => by
  simp only [List.cons_append, Seg, lsD, zck]
  rw [Seg.append (a := r)]
  exact ⟨fun ⟨h1, h2, h3, h4, h5⟩ => ⟨⟨h1, h2, h3, h4⟩, h5⟩, fun ⟨⟨h1, h2, h3, h4⟩, h5⟩ => ⟨h1, h2, h3, h4, h5⟩⟩
theorem Seg.congr {L L' : Nat -> Lk} {u : Nat} : ∀ {l : List Nat} {p q : Int}, (∀ j ∈ l, (L' j).up = (L j).up /\ (L' j).prev = (L j).prev /\ (L' j).next = (L j).next) -> Seg L u p l q -> Seg L' u p l q
 | [], _, _, _, _ => trivial
 | x :: r, p, q, h, ⟨h1, h2, h3, h4⟩ => by
  obtain ⟨a, b, c⟩ := h x (List.mem_cons_self ..)
  exact ⟨a.trans h1, b.trans h2, c.trans h3, Seg.congr (fun j hj => h j (List.mem_cons_of_mem _ hj)) h4⟩
theorem Seg.mem {L : Nat -> Lk} {u : Nat} : ∀ {l : List Nat} {p q : Int}, Seg L u p l q -> ∀ j ∈ l, (L j).up = (u : Int)
 | x :: r, p, q, ⟨h1, _, _, h4⟩, j, hj => by
  rcases List.mem_cons.1 hj with rfl | hj
  ·exact h1
  ·exact Seg.mem h4 j hj
theorem Seg.tail {L L' : Nat -> Lk} {u : Nat} {q' : Int} : ∀ {a : List Nat} {p q : Int}, a.Nodup -> Seg L u p a q ->
  (∀ j ∈ a, (L' j).up = (L j).up /\ (L' j).prev = (L j).prev /\ (L' j).next = if (j : Int) = lsD a (-1) then q' else (L j).next) -> Seg L' u p a q'
 | [], _, _, _, _, _ => trivial
 | [x], p, q, _, ⟨h1, h2, h3, _⟩, h => by
  obtain ⟨a, b, c⟩ := h x (List.mem_singleton.2 rfl)
  refine ⟨a.trans h1, b.trans h2, ?_, trivial⟩
  rw [c]
  exact if_pos rfl
 | x :: y :: r, p, q, hn, ⟨h1, h2, h3, h4⟩, h => by
  obtain ⟨a, b, c⟩ := h x (List.mem_cons_self ..)
  have hn' := List.nodup_cons.1 hn
  refine ⟨a.trans h1, b.trans h2, ?_, Seg.tail hn'.2 h4 fun j hj => ?_⟩
  ·rw [c, if_neg]
   ·exact h3
   ·intro e
    have : ∀ (l : List Nat) (z : Nat), ∃ m ∈ (z :: l), lsD (z :: l) (-1) = (m : Int) := by
     intro l
     induction l with
     | nil => intro z; exact ⟨z, List.mem_singleton.2 rfl, rfl⟩
     | cons t l ih =>
      intro z
      obtain ⟨m, hm, he⟩ := ih t
      exact ⟨m, List.mem_cons_of_mem _ hm, he⟩
    obtain ⟨m, hm, he⟩ := this r y
    have e' : (x : Int) = lsD (y :: r) (-1) := e
    rw [he] at e'
    have : x = m := by omega
    exact hn'.1 (this ▸ hm)
  ·exact h j (List.mem_cons_of_mem _ hj)
theorem Seg.head {L L' : Nat -> Lk} {u : Nat} {p p' q : Int} {b : List Nat} (hn : b.Nodup) (hs : Seg L u p b q)
  (h : ∀ j ∈ b, (L' j).up = (L j).up /\ (L' j).next = (L j).next /\ (L' j).prev = if (j : Int) = hdD b (-1) then p' else (L j).prev) : Seg L' u p' b q := by
 cases b with
 | nil => trivial
 | cons x r =>
  obtain ⟨h1, h2, h3, h4⟩ := hs
  obtain ⟨a, b, c⟩ := h x (List.mem_cons_self ..)
  have hn' := List.nodup_cons.1 hn
  refine ⟨a.trans h1, by rw [c]; exact if_pos rfl, b.trans h3, Seg.congr (fun j hj => ?_) h4⟩
  obtain ⟨a, b, c⟩ := h j (List.mem_cons_of_mem _ hj)
  refine ⟨a, ?_, b⟩
  rw [c, if_neg]
  intro e
  have e' : (j : Int) = (x : Int) := e
  have : j = x := by omega
  exact hn'.1 (this ▸ hj)
theorem zd0 (l : List Nat) : (l = [] /\ hdD l (-1) = -1) \/ ∃ m, m ∈ l /\ hdD l (-1) = (m : Int) := by
 cases l with
 | nil => exact .inl ⟨rfl, rfl⟩
 | cons x r => exact .inr ⟨x, List.mem_cons_self .., rfl⟩
theorem ze2 (l : List Nat) : (l = [] /\ lsD l (-1) = -1) \/ ∃ m, m ∈ l /\ lsD l (-1) = (m : Int) := by
 cases l with
 | nil => exact .inl ⟨rfl, rfl⟩
 | cons x r =>
  right
  have : ∀ (l : List Nat) (z : Nat), ∃ m ∈ (z :: l), lsD (z :: l) (-1) = (m : Int) := by
   intro l
   induction l with
   | nil => intro z; exact ⟨z, List.mem_singleton.2 rfl, rfl⟩
   | cons t l ih =>
    intro z
    obtain ⟨m, hm, he⟩ := ih t
    exact ⟨m, List.mem_cons_of_mem _ hm, he⟩
  exact this r x
theorem zpi {l : List Nat} (h : l ≠ []) (p p' : Int) : lsD l p = lsD l p' := by
 cases l with
 | nil => exact absurd rfl h
 | cons x r => rfl
theorem zpp {l : List Nat} (h : l ≠ []) (p p' : Int) : hdD l p = hdD l p' := by
 cases l with
 | nil => exact absurd rfl h
 | cons x r => rfl
structure WF (n : Nat) (L : Nat -> Lk) (R : Nat -> List Nat) : Prop where
 first : ∀ u, u < n -> (L u).first = hdD (R u) (-1)
 last : ∀ u, u < n -> (L u).last = lsD (R u) (-1)
 seg : ∀ u, u < n -> Seg L u (-1) (R u) (-1)
 nodup : ∀ u, u < n -> (R u).Nodup
 lt : ∀ u, u < n -> ∀ i ∈ R u, i < n
 inn : ∀ i, i < n -> (L i).up = -1 \/ ∃ u, u < n /\ (L i).up = (u : Int) /\ i ∈ R u
theorem WF.up {n : Nat} {L : Nat -> Lk} {R : Nat -> List Nat} (h : WF n L R) {u i : Nat} (hu : u < n) (hi : i ∈ R u) : (L i).up = (u : Int) := (h.seg u hu).mem i hi
theorem WF.one {n : Nat} {L : Nat -> Lk} {R : Nat -> List Nat} (h : WF n L R) {u v i : Nat} (hu : u < n) (hv : v < n) (hi : i ∈ R u) (hj : i ∈ R v) : u = v := by
 have a := h.up hu hi
 have b := h.up hv hj
 omega
theorem WF.split {n : Nat} {L : Nat -> Lk} {R : Nat -> List Nat} (h : WF n L R) {u i : Nat} (hu : u < n) {a b : List Nat} (e : R u = a ++ i :: b) : (L i).prev = lsD a (-1) /\ (L i).next = hdD b (-1) := by
 have hs := h.seg u hu
 rw [e, Seg.append] at hs
 exact ⟨hs.2.2.1, hs.2.2.2.1⟩
theorem zc5 {i : Nat} {l : List Nat} (h : i ∈ l) : ∃ a b, l = a ++ i :: b := List.append_of_mem h
def zax (R : Nat -> List Nat) (u : Nat) (l : List Nat) : Nat -> List Nat := fun k => if k = u then l else R k
theorem zaf (R : Nat -> List Nat) (u : Nat) (l : List Nat) : zax R u l u = l := if_pos rfl
theorem zaj (R : Nat -> List Nat) {u k : Nat} (l : List Nat) (h : k ≠ u) : zax R u l k = R k := if_neg h
def zct (L : Nat -> Lk) (i : Nat) : Nat -> Lk := if (L i).up = -1 then L else fun k =>
 ⟨if k = i then -1 else (L k).up,
  if k = i then -1 else if (k : Int) = (L i).next then (L i).prev else (L k).prev,
  if k = i then -1 else if (k : Int) = (L i).prev then (L i).next else (L k).next,
  if (k : Int) = (L i).up /\ (L i).prev = -1 then (L i).next else (L k).first,
  if (k : Int) = (L i).up /\ (L i).next = -1 then (L i).prev else (L k).last⟩
def zcy (L : Nat -> Lk) (R : Nat -> List Nat) (i : Nat) : Nat -> List Nat := if (L i).up = -1 then R else zax R (L i).up.toNat ((R (L i).up.toNat).erase i)
theorem zik {a b : List Nat} {i : Nat} (h : (a ++ i :: b).Nodup) : (a ++ i :: b).erase i = a ++ b := by
 have : i ∉ a := by
  intro hi
  have := (List.nodup_append.1 h).2.2 i hi i (List.mem_cons_self ..)
  exact this rfl
 rw [List.erase_append_right _ this, List.erase_cons_head]
theorem WF.out {n : Nat} {L : Nat -> Lk} {R : Nat -> List Nat} (h : WF n L R) {i : Nat} (hi : i < n) : WF n (zct L i) (zcy L R i) := by
 unfold zct zcy
 rcases h.inn i hi with h0 | ⟨u, hu, hup, hm⟩
 ·rw [if_pos h0, if_pos h0]; exact h
 have hne : ¬ (L i).up = -1 := by omega
 rw [if_neg hne, if_neg hne, hup]
 obtain ⟨a, b, e⟩ := zc5 hm
 obtain ⟨hp, hq⟩ := h.split hu e
 have hnd := h.nodup u hu
 have hs := h.seg u hu
 have hlt := h.lt u hu
 rw [e] at hnd hs hlt
 have hab : (a ++ b).Nodup := (List.Sublist.append_left (List.sublist_cons_self i b) a).nodup hnd
 have hia : i ∉ a := fun hh => (List.nodup_append.1 hnd).2.2 i hh i (List.mem_cons_self ..) rfl
 have hib : i ∉ b := (List.nodup_cons.1 (List.nodup_append.1 hnd).2.1).1
 have hna := (List.nodup_append.1 hab).1
 have hnb := (List.nodup_append.1 hab).2.1
 have hdj := (List.nodup_append.1 hab).2.2
 rw [Seg.append] at hs
 obtain ⟨sa, -, -, -, sb⟩ := hs
 have hR : zax R (u : Int).toNat ((R (u : Int).toNat).erase i) = zax R u (a ++ b) := by
  rw [Int.toNat_natCast, e, zik hnd]
 rw [hR]
 have oth : ∀ v, v < n -> v ≠ u -> ∀ j ∈ R v, j ≠ i /\ (j : Int) ≠ (L i).next /\ (j : Int) ≠ (L i).prev := by
  intro v hv hvu j hj
  have nu : j ∉ R u := fun hh => hvu (h.one hv hu hj hh)
  refine ⟨fun e' => nu (e' ▸ hm), ?_, ?_⟩
  ·rw [hq]
   rcases zd0 b with ⟨-, e1⟩ | ⟨m, m1, e1⟩
   ·rw [e1]; omega
   ·rw [e1]
    intro e2
    have : j = m := by omega
    exact nu (by rw [e, this]; simp [m1])
  ·rw [hp]
   rcases ze2 a with ⟨-, e1⟩ | ⟨m, m1, e1⟩
   ·rw [e1]; omega
   ·rw [e1]
    intro e2
    have : j = m := by omega
    exact nu (by rw [e, this]; simp [m1])
 refine ⟨fun v hv => ?_, fun v hv => ?_, fun v hv => ?_, fun v hv => ?_, fun v hv j hj => ?_, fun j hj => ?_⟩
 ·dsimp only
  by_cases c : v = u
  ·subst c
   rw [zaf, zck, hp]
   have hf := h.first v hv
   rw [e, zck] at hf
   rcases ze2 a with ⟨e0, e1⟩ | ⟨m, m1, e1⟩
   ·rw [if_pos ⟨rfl, e1⟩, hq, e0]; rfl
   ·rw [if_neg (by omega), hf]
    exact zpp (fun e2 => by rw [e2] at m1; cases m1) _ _
  ·rw [zaj _ _ c, if_neg (by omega)]; exact h.first v hv
 ·dsimp only
  by_cases c : v = u
  ·subst c
   rw [zaf, zdd, hq]
   have hf := h.last v hv
   rw [e, zdd] at hf
   rcases zd0 b with ⟨e0, e1⟩ | ⟨m, m1, e1⟩
   ·rw [if_pos ⟨rfl, e1⟩, hp, e0]; rfl
   ·rw [if_neg (by omega), hf]
    show lsD b (i : Int) = _
    exact zpi (fun e2 => by rw [e2] at m1; cases m1) _ _
  ·rw [zaj _ _ c, if_neg (by omega)]; exact h.last v hv
 ·by_cases c : v = u
  ·subst c
   rw [zaf, Seg.append]
   have fa : ∀ j ∈ a, j ≠ i := fun j hj e' => hia (e' ▸ hj)
   have fb : ∀ j ∈ b, j ≠ i := fun j hj e' => hib (e' ▸ hj)
   have na : ∀ j ∈ a, (j : Int) ≠ hdD b (-1) := by
    intro j hj
    rcases zd0 b with ⟨-, e1⟩ | ⟨m, m1, e1⟩
    ·rw [e1]; omega
    ·rw [e1]; intro e2
     exact hdj j hj m m1 (by omega)
   have nb : ∀ j ∈ b, (j : Int) ≠ lsD a (-1) := by
    intro j hj
    rcases ze2 a with ⟨-, e1⟩ | ⟨m, m1, e1⟩
    ·rw [e1]; omega
    ·rw [e1]; intro e2
     exact hdj m m1 j hj (by omega)
   constructor
   ·refine Seg.tail (q' := hdD b (-1)) hna sa fun j hj => ?_
    dsimp only
    rw [if_neg (fa j hj), if_neg (fa j hj), if_neg (fa j hj), hq, hp, if_neg (na j hj)]
    exact ⟨rfl, rfl, rfl⟩
   ·refine Seg.head (p := (i : Int)) hnb sb fun j hj => ?_
    dsimp only
    rw [if_neg (fb j hj), if_neg (fb j hj), if_neg (fb j hj), hq, hp, if_neg (nb j hj)]
    exact ⟨rfl, rfl, rfl⟩
  ·rw [zaj _ _ c]
   refine Seg.congr (fun j hj => ?_) (h.seg v hv)
   obtain ⟨o1, o2, o3⟩ := oth v hv c j hj
   dsimp only
   rw [if_neg o1, if_neg o1, if_neg o1, if_neg o2, if_neg o3]
   exact ⟨rfl, rfl, rfl⟩
 ·by_cases c : v = u
  ·subst c; rw [zaf]; exact hab
  ·rw [zaj _ _ c]; exact h.nodup v hv
 ·by_cases c : v = u
  ·subst c
   rw [zaf] at hj
   refine hlt j ?_
   rcases List.mem_append.1 hj with hj | hj
   ·exact List.mem_append_left _ hj
   ·exact List.mem_append_right _ (List.mem_cons_of_mem _ hj)
  ·rw [zaj _ _ c] at hj; exact h.lt v hv j hj
 ·dsimp only
  by_cases c : j = i
  ·rw [if_pos c]; exact .inl rfl
  ·rw [if_neg c]
   rcases h.inn j hj with h1 | ⟨v, hv, h1, h2⟩
   ·exact .inl h1
   ·refine .inr ⟨v, hv, h1, ?_⟩
    by_cases c' : v = u
    ·subst c'
     rw [zaf]
     rw [e] at h2
     rcases List.mem_append.1 h2 with h2 | h2
     ·exact List.mem_append_left _ h2
     ·rcases List.mem_cons.1 h2 with h2 | h2
      ·exact absurd h2 c
      ·exact List.mem_append_right _ h2
    ·rw [zaj _ _ c']; exact h2
theorem zia {L : Nat -> Lk} {i : Nat} : (zct L i i).up = -1 := by
 unfold zct
 by_cases c : (L i).up = -1
 ·rw [if_pos c]; exact c
 ·rw [if_neg c]; dsimp only; rw [if_pos rfl]
theorem zk0 {n : Nat} {L : Nat -> Lk} {R : Nat -> List Nat} (h : WF n L R) {i u : Nat} (hi : i < n) (hu : u < n) : i ∉ zcy L R i u := by
 intro hm
 have := (h.out hi).up hu hm
 rw [zia] at this
 omega
def inL (L : Nat -> Lk) (up i : Nat) (bef p : Int) : Nat -> Lk := fun k =>
 ⟨if k = i then (up : Int) else (L k).up,
  if k = i then p else if (k : Int) = bef then (i : Int) else (L k).prev,
  if k = i then bef else if (k : Int) = p then (i : Int) else (L k).next,
  if k = up /\ p = -1 then (i : Int) else (L k).first,
  if k = up /\ bef = -1 then (i : Int) else (L k).last⟩
inductive At (l : List Nat) (bef : Int) : List Nat -> List Nat -> Prop
 | last : bef = -1 -> At l bef l []
 | mid {a b : List Nat} {m : Nat} : bef = (m : Int) -> l = a ++ m :: b -> At l bef a (m :: b)
theorem At.eq {l : List Nat} {bef : Int} {a b : List Nat} (h : At l bef a b) : l = a ++ b := by cases h <;> simp_all
theorem At.bef {l : List Nat} {bef : Int} {a b : List Nat} (h : At l bef a b) : bef = hdD b (-1) := by cases h <;> simp_all [hdD]
def zh9 (L : Nat -> Lk) (up : Nat) (bef : Int) : Int := if bef = -1 then (L up).last else (L bef.toNat).prev
theorem zlv {n : Nat} {L : Nat -> Lk} {R : Nat -> List Nat} (h : WF n L R) {up : Nat} (hu : up < n) {bef : Int} {a b : List Nat} (ha : At (R up) bef a b) : zh9 L up bef = lsD a (-1) := by
 unfold zh9
 cases ha with
 | last e => rw [if_pos e]; exact h.last up hu
 | mid e el =>
  subst e
  rw [if_neg (by omega), Int.toNat_natCast]
  exact (h.split hu el).1
theorem WF.put {n : Nat} {L : Nat -> Lk} {R : Nat -> List Nat} (h : WF n L R) {up i : Nat} (hu : up < n) (hi : i < n) (hfree : (L i).up = -1) {bef : Int} {a b : List Nat} (ha : At (R up) bef a b) :
  WF n (inL L up i bef (zh9 L up bef)) (zax R up (a ++ i :: b)) := by
 have hp := zlv h hu ha
 have hb := ha.bef
 have hl := ha.eq
 rw [hp]
 have hni : ∀ v, v < n -> i ∉ R v := fun v hv hm => by have := h.up hv hm; omega
 have hnd := h.nodup up hu
 have hs := h.seg up hu
 have hf := h.first up hu
 have hla := h.last up hu
 have hmi := hni up hu
 rw [hl] at hnd hs hf hla hmi
 rw [Seg.append] at hs
 rw [zck] at hf
 rw [zdd] at hla
 have hna := (List.nodup_append.1 hnd).1
 have hnb := (List.nodup_append.1 hnd).2.1
 have hdj := (List.nodup_append.1 hnd).2.2
 have fa : ∀ j ∈ a, j ≠ i := fun j hj e' => hmi (e' ▸ List.mem_append_left _ hj)
 have fb : ∀ j ∈ b, j ≠ i := fun j hj e' => hmi (e' ▸ List.mem_append_right _ hj)
 have na : ∀ j ∈ a, (j : Int) ≠ hdD b (-1) := by
  intro j hj
  rcases zd0 b with ⟨-, e1⟩ | ⟨m, m1, e1⟩
  ·rw [e1]; omega
  ·rw [e1]; intro e2
   exact hdj j hj m m1 (by omega)
 have nb : ∀ j ∈ b, (j : Int) ≠ lsD a (-1) := by
  intro j hj
  rcases ze2 a with ⟨-, e1⟩ | ⟨m, m1, e1⟩
  ·rw [e1]; omega
  ·rw [e1]; intro e2
   exact hdj m m1 j hj (by omega)
 have oth : ∀ v, v < n -> v ≠ up -> ∀ j ∈ R v, j ≠ i /\ (j : Int) ≠ bef /\ (j : Int) ≠ lsD a (-1) := by
  intro v hv hvu j hj
  have nu : j ∉ R up := fun hh => hvu (h.one hv hu hj hh)
  refine ⟨fun e' => hni v hv (e' ▸ hj), ?_, ?_⟩
  ·rw [hb]
   rcases zd0 b with ⟨-, e1⟩ | ⟨m, m1, e1⟩
   ·rw [e1]; omega
   ·rw [e1]
    intro e2
    have : j = m := by omega
    exact nu (by rw [hl, this]; simp [m1])
  ·rcases ze2 a with ⟨-, e1⟩ | ⟨m, m1, e1⟩
   ·rw [e1]; omega
   ·rw [e1]
    intro e2
    have : j = m := by omega
    exact nu (by rw [hl, this]; simp [m1])
 refine ⟨fun v hv => ?_, fun v hv => ?_, fun v hv => ?_, fun v hv => ?_, fun v hv j hj => ?_, fun j hj => ?_⟩
 ·unfold inL
  dsimp only
  by_cases c : v = up
  ·subst c
   rw [zaf, zck]
   rcases ze2 a with ⟨e0, e1⟩ | ⟨m, m1, e1⟩
   ·rw [if_pos ⟨rfl, e1⟩, e0]; rfl
   ·rw [if_neg (by omega), hf]
    exact zpp (fun e2 => by rw [e2] at m1; cases m1) _ _
  ·rw [zaj _ _ c, if_neg (by omega)]; exact h.first v hv
 ·unfold inL
  dsimp only
  by_cases c : v = up
  ·subst c
   rw [zaf, zdd, hb]
   rcases zd0 b with ⟨e0, e1⟩ | ⟨m, m1, e1⟩
   ·rw [if_pos ⟨rfl, e1⟩, e0]; rfl
   ·rw [if_neg (by omega), hla]
    show _ = lsD b (i : Int)
    exact zpi (fun e2 => by rw [e2] at m1; cases m1) _ _
  ·rw [zaj _ _ c, if_neg (by omega)]; exact h.last v hv
 ·by_cases c : v = up
  ·subst c
   rw [zaf, Seg.append]
   constructor
   ·refine Seg.tail (q' := (i : Int)) hna hs.1 fun j hj => ?_
    unfold inL
    dsimp only
    rw [if_neg (fa j hj), if_neg (fa j hj), if_neg (fa j hj), hb, if_neg (na j hj)]
    exact ⟨rfl, rfl, rfl⟩
   ·refine ⟨?_, ?_, ?_, Seg.head (p := lsD a (-1)) hnb hs.2 fun j hj => ?_⟩
    ·unfold inL; dsimp only; rw [if_pos rfl]
    ·unfold inL; dsimp only; rw [if_pos rfl]
    ·unfold inL; dsimp only; rw [if_pos rfl]; exact hb
    ·unfold inL
     dsimp only
     rw [if_neg (fb j hj), if_neg (fb j hj), if_neg (fb j hj), hb, if_neg (nb j hj)]
     exact ⟨rfl, rfl, rfl⟩
  ·rw [zaj _ _ c]
   refine Seg.congr (fun j hj => ?_) (h.seg v hv)
   obtain ⟨o1, o2, o3⟩ := oth v hv c j hj
   unfold inL
   dsimp only
   rw [if_neg o1, if_neg o1, if_neg o1, if_neg o2, if_neg o3]
   exact ⟨rfl, rfl, rfl⟩
 ·by_cases c : v = up
  ·subst c
   rw [zaf]
   refine List.nodup_append.2 ⟨hna, List.nodup_cons.2 ⟨fun hh => fb i hh rfl, hnb⟩, fun x hx y hy => ?_⟩
   rcases List.mem_cons.1 hy with rfl | hy
   ·exact fa x hx
   ·exact hdj x hx y hy
  ·rw [zaj _ _ c]; exact h.nodup v hv
 ·by_cases c : v = up
  ·subst c
   rw [zaf] at hj
   rcases List.mem_append.1 hj with hj | hj
   ·exact h.lt v hv j (by rw [hl]; exact List.mem_append_left _ hj)
   ·rcases List.mem_cons.1 hj with rfl | hj
    ·exact hi
    ·exact h.lt v hv j (by rw [hl]; exact List.mem_append_right _ hj)
  ·rw [zaj _ _ c] at hj; exact h.lt v hv j hj
 ·unfold inL
  dsimp only
  by_cases c : j = i
  ·rw [if_pos c]
   subst c
   exact .inr ⟨up, hu, rfl, by rw [zaf]; simp⟩
  ·rw [if_neg c]
   rcases h.inn j hj with h1 | ⟨v, hv, h1, h2⟩
   ·exact .inl h1
   ·refine .inr ⟨v, hv, h1, ?_⟩
    by_cases c' : v = up
    ·subst c'
     rw [zaf]
     rw [hl] at h2
     rcases List.mem_append.1 h2 with h2 | h2
     ·exact List.mem_append_left _ h2
     ·exact List.mem_append_right _ (List.mem_cons_of_mem _ h2)
    ·rw [zaj _ _ c']; exact h2
theorem WF.more {n : Nat} {L : Nat -> Lk} {R : Nat -> List Nat} (h : WF n L R) (L' : Nat -> Lk) (hL : ∀ k, k < n -> L' k = L k) (hn : L' n = Lk.nil) : WF (n + 1) L' (zax R n []) := by
 have c : ∀ v, v < n + 1 -> v = n \/ (v < n /\ v ≠ n) := fun v hv => by omega
 refine ⟨fun v hv => ?_, fun v hv => ?_, fun v hv => ?_, fun v hv => ?_, fun v hv j hj => ?_, fun j hj => ?_⟩
 ·rcases c v hv with rfl | ⟨h1, h2⟩
  ·rw [zaf, hn]; rfl
  ·rw [zaj _ _ h2, hL v h1]; exact h.first v h1
 ·rcases c v hv with rfl | ⟨h1, h2⟩
  ·rw [zaf, hn]; rfl
  ·rw [zaj _ _ h2, hL v h1]; exact h.last v h1
 ·rcases c v hv with rfl | ⟨h1, h2⟩
  ·rw [zaf]; trivial
  ·rw [zaj _ _ h2]
   exact Seg.congr (fun j hj => by rw [hL j (h.lt v h1 j hj)]; exact ⟨rfl, rfl, rfl⟩) (h.seg v h1)
 ·rcases c v hv with rfl | ⟨h1, h2⟩
  ·rw [zaf]; exact List.nodup_nil
  ·rw [zaj _ _ h2]; exact h.nodup v h1
 ·rcases c v hv with rfl | ⟨h1, h2⟩
  ·rw [zaf] at hj; cases hj
  ·rw [zaj _ _ h2] at hj
   have := h.lt v h1 j hj
   omega
 ·rcases c j hj with rfl | ⟨h1, h2⟩
  ·rw [hn]; exact .inl rfl
  ·rw [hL j h1]
   rcases h.inn j h1 with h3 | ⟨v, hv, h3, h4⟩
   ·exact .inl h3
   ·exact .inr ⟨v, by omega, h3, by rw [zaj _ _ (by omega)]; exact h4⟩
end
section
def zpt : List (List UInt8) := [[97, 114, 101, 97], [98, 97, 115, 101], [98, 114], [99, 111, 108], [101, 109, 98, 101, 100], [104, 114], [105, 109, 103], [105, 110, 112, 117, 116], [108, 105, 110, 107], [109, 101, 116, 97], [115, 111, 117, 114, 99, 101], [116, 114, 97, 99, 107], [119, 98, 114]]
def ze6 (l : List UInt8) : Bool := zpt.any (l == ·)
def zc4 (c : UInt8) : Bool := decide (97 <= c.toNat) && decide (c.toNat <= 122)
def zdp (c : UInt8) : Bool := (decide (48 <= c.toNat) && decide (c.toNat <= 57)) || c.toNat == 45 || c.toNat == 46 || c.toNat == 95
def zqb (c : UInt8) : Bool := zc4 c || zdp c
def zos : List UInt8 -> Bool
 | [] => true
 | c :: r => zc4 c && r.all zqb
def za6 (l : List UInt8) : Bool := decide (1 <= l.length) && decide (l.length <= 60) && zos l
def zq3 : ByteArray := ⟨#[97, 114, 101, 97, 32, 98, 97, 115, 101, 32, 98, 114, 32, 99, 111, 108, 32, 101, 109, 98, 101, 100, 32, 104, 114, 32, 105, 109, 103, 32, 105, 110, 112, 117, 116, 32, 108, 105, 110, 107, 32, 109, 101, 116, 97, 32, 115, 111, 117, 114, 99, 101, 32, 116, 114, 97, 99, 107, 32, 119, 98, 114]⟩
theorem zk5 (l : List UInt8) : zga zq3.data.toList l = ze6 l := zo6 (L := zpt) (by decide +kernel) (by decide +kernel)
end
end Go.Proofs.YtfeinppedejlpaaGreat
