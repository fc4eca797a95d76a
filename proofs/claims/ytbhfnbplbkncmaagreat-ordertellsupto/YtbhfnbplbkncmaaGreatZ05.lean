/-
  Rows of nodes as doubly linked lists, plain functions (of no program): taking one out, putting one in.
  The document in memory (DX): its nodes lie in one row of 22 cells each, apart from K; each node's attributes in a row of their own.
  Leaves of the document: where a node and its links lie.
-/
import Derived.WalkKit
import Derived.Test.YtbhfnbplbkncmaaGreatProg
import Derived.Test.YtbhfnbplbkncmaaGreatZ02
import Derived.Test.YtbhfnbplbkncmaaGreatZ03
import Derived.Deep.LoopGhost
import Derived.Deep.Cut
import Derived.Deep.RegionWith
import Derived.Deep.RegionHeld3
import Derived.Deep.RegionLaw
import Derived.Deep.QuietTactic
import Derived.BigQuiet
namespace Go.Proofs.YtbhfnbplbkncmaaGreat

/-- What a node knows of the others of one chain. -/
structure Lk where
  up : Int
  prev : Int
  next : Int
  first : Int
  last : Int
def Lk.nil : Lk := ⟨-1, -1, -1, -1, -1⟩
def hdD : List Nat → Int → Int
  | [], q => q
  | i :: _, _ => (i : Int)
def lsD : List Nat → Int → Int
  | [], p => p
  | i :: r, _ => lsD r (i : Int)
/-- A stretch of u's row: ahead of it p, behind it q. -/
def Seg (L : Nat → Lk) (u : Nat) : Int → List Nat → Int → Prop
  | _, [], _ => True
  | p, i :: r, q => (L i).up = (u : Int) ∧ (L i).prev = p ∧ (L i).next = hdD r q ∧ Seg L u (i : Int) r q
theorem hdD_append (a b : List Nat) (q : Int) : hdD (a ++ b) q = hdD a (hdD b q) := by cases a <;> rfl
theorem lsD_append (a b : List Nat) (p : Int) : lsD (a ++ b) p = lsD b (lsD a p) := by
  induction a generalizing p with
  | nil => rfl
  | cons x r ih => exact ih _
theorem Seg.append {L : Nat → Lk} {u : Nat} : ∀ {a b : List Nat} {p q : Int}, Seg L u p (a ++ b) q ↔ Seg L u p a (hdD b q) ∧ Seg L u (lsD a p) b q
  | [], b, p, q => by simp [Seg, lsD]
  | x :: r, b, p, q => by
    simp only [List.cons_append, Seg, lsD, hdD_append]
    rw [Seg.append (a := r)]
    exact ⟨fun ⟨h1, h2, h3, h4, h5⟩ => ⟨⟨h1, h2, h3, h4⟩, h5⟩, fun ⟨⟨h1, h2, h3, h4⟩, h5⟩ => ⟨h1, h2, h3, h4, h5⟩⟩
theorem Seg.congr {L L' : Nat → Lk} {u : Nat} : ∀ {l : List Nat} {p q : Int}, (∀ j ∈ l, (L' j).up = (L j).up ∧ (L' j).prev = (L j).prev ∧ (L' j).next = (L j).next) → Seg L u p l q → Seg L' u p l q
  | [], _, _, _, _ => trivial
  | x :: r, p, q, h, ⟨h1, h2, h3, h4⟩ => by
    obtain ⟨a, b, c⟩ := h x (List.mem_cons_self ..)
    exact ⟨a.trans h1, b.trans h2, c.trans h3, Seg.congr (fun j hj => h j (List.mem_cons_of_mem _ hj)) h4⟩
theorem Seg.mem {L : Nat → Lk} {u : Nat} : ∀ {l : List Nat} {p q : Int}, Seg L u p l q → ∀ j ∈ l, (L j).up = (u : Int)
  | x :: r, p, q, ⟨h1, _, _, h4⟩, j, hj => by
    rcases List.mem_cons.1 hj with rfl | hj
    · exact h1
    · exact Seg.mem h4 j hj
/-- The last one's next is another one. -/
theorem Seg.tail {L L' : Nat → Lk} {u : Nat} {q' : Int} : ∀ {a : List Nat} {p q : Int}, a.Nodup → Seg L u p a q →
    (∀ j ∈ a, (L' j).up = (L j).up ∧ (L' j).prev = (L j).prev ∧ (L' j).next = if (j : Int) = lsD a (-1) then q' else (L j).next) → Seg L' u p a q'
  | [], _, _, _, _, _ => trivial
  | [x], p, q, _, ⟨h1, h2, h3, _⟩, h => by
    obtain ⟨a, b, c⟩ := h x (List.mem_singleton.2 rfl)
    refine ⟨a.trans h1, b.trans h2, ?_, trivial⟩
    rw [c]
    exact if_pos rfl
  | x :: y :: r, p, q, hn, ⟨h1, h2, h3, h4⟩, h => by
    obtain ⟨a, b, c⟩ := h x (List.mem_cons_self ..)
    have hn' := List.nodup_cons.1 hn
    refine ⟨a.trans h1, b.trans h2, ?_, Seg.tail hn'.2 h4 fun j hj => ?_⟩
    · rw [c, if_neg]
      · exact h3
      · intro e
        have : ∀ (l : List Nat) (z : Nat), ∃ m ∈ (z :: l), lsD (z :: l) (-1) = (m : Int) := by
          intro l
          induction l with
          | nil => intro z; exact ⟨z, List.mem_singleton.2 rfl, rfl⟩
          | cons t l ih =>
            intro z
            obtain ⟨m, hm, he⟩ := ih t
            exact ⟨m, List.mem_cons_of_mem _ hm, he⟩
        obtain ⟨m, hm, he⟩ := this r y
        have e' : (x : Int) = lsD (y :: r) (-1) := e
        rw [he] at e'
        have : x = m := by omega
        exact hn'.1 (this ▸ hm)
    · exact h j (List.mem_cons_of_mem _ hj)
/-- The first one's previous is another one. -/
theorem Seg.head {L L' : Nat → Lk} {u : Nat} {p p' q : Int} {b : List Nat} (hn : b.Nodup) (hs : Seg L u p b q)
    (h : ∀ j ∈ b, (L' j).up = (L j).up ∧ (L' j).next = (L j).next ∧ (L' j).prev = if (j : Int) = hdD b (-1) then p' else (L j).prev) : Seg L' u p' b q := by
  cases b with
  | nil => trivial
  | cons x r =>
    obtain ⟨h1, h2, h3, h4⟩ := hs
    obtain ⟨a, b, c⟩ := h x (List.mem_cons_self ..)
    have hn' := List.nodup_cons.1 hn
    refine ⟨a.trans h1, by rw [c]; exact if_pos rfl, b.trans h3, Seg.congr (fun j hj => ?_) h4⟩
    obtain ⟨a, b, c⟩ := h j (List.mem_cons_of_mem _ hj)
    refine ⟨a, ?_, b⟩
    rw [c, if_neg]
    intro e
    have e' : (j : Int) = (x : Int) := e
    have : j = x := by omega
    exact hn'.1 (this ▸ hj)
theorem hdD_or (l : List Nat) : (l = [] ∧ hdD l (-1) = -1) ∨ ∃ m, m ∈ l ∧ hdD l (-1) = (m : Int) := by
  cases l with
  | nil => exact .inl ⟨rfl, rfl⟩
  | cons x r => exact .inr ⟨x, List.mem_cons_self .., rfl⟩
theorem lsD_or (l : List Nat) : (l = [] ∧ lsD l (-1) = -1) ∨ ∃ m, m ∈ l ∧ lsD l (-1) = (m : Int) := by
  cases l with
  | nil => exact .inl ⟨rfl, rfl⟩
  | cons x r =>
    right
    have : ∀ (l : List Nat) (z : Nat), ∃ m ∈ (z :: l), lsD (z :: l) (-1) = (m : Int) := by
      intro l
      induction l with
      | nil => intro z; exact ⟨z, List.mem_singleton.2 rfl, rfl⟩
      | cons t l ih =>
        intro z
        obtain ⟨m, hm, he⟩ := ih t
        exact ⟨m, List.mem_cons_of_mem _ hm, he⟩
    exact this r x
theorem lsD_ne {l : List Nat} (h : l ≠ []) (p p' : Int) : lsD l p = lsD l p' := by
  cases l with
  | nil => exact absurd rfl h
  | cons x r => rfl
theorem hdD_ne {l : List Nat} (h : l ≠ []) (p p' : Int) : hdD l p = hdD l p' := by
  cases l with
  | nil => exact absurd rfl h
  | cons x r => rfl

/-- Rows R, kept as links L. -/
structure WF (n : Nat) (L : Nat → Lk) (R : Nat → List Nat) : Prop where
  first : ∀ u, u < n → (L u).first = hdD (R u) (-1)
  last : ∀ u, u < n → (L u).last = lsD (R u) (-1)
  seg : ∀ u, u < n → Seg L u (-1) (R u) (-1)
  nodup : ∀ u, u < n → (R u).Nodup
  lt : ∀ u, u < n → ∀ i ∈ R u, i < n
  inn : ∀ i, i < n → (L i).up = -1 ∨ ∃ u, u < n ∧ (L i).up = (u : Int) ∧ i ∈ R u
theorem WF.up {n : Nat} {L : Nat → Lk} {R : Nat → List Nat} (h : WF n L R) {u i : Nat} (hu : u < n) (hi : i ∈ R u) : (L i).up = (u : Int) := (h.seg u hu).mem i hi
theorem WF.one {n : Nat} {L : Nat → Lk} {R : Nat → List Nat} (h : WF n L R) {u v i : Nat} (hu : u < n) (hv : v < n) (hi : i ∈ R u) (hj : i ∈ R v) : u = v := by
  have a := h.up hu hi
  have b := h.up hv hj
  omega
/-- A node in a row, with what stands ahead and behind. -/
theorem WF.split {n : Nat} {L : Nat → Lk} {R : Nat → List Nat} (h : WF n L R) {u i : Nat} (hu : u < n) {a b : List Nat} (e : R u = a ++ i :: b) : (L i).prev = lsD a (-1) ∧ (L i).next = hdD b (-1) := by
  have hs := h.seg u hu
  rw [e, Seg.append] at hs
  exact ⟨hs.2.2.1, hs.2.2.2.1⟩
theorem mem_split {i : Nat} {l : List Nat} (h : i ∈ l) : ∃ a b, l = a ++ i :: b := List.append_of_mem h

def updR (R : Nat → List Nat) (u : Nat) (l : List Nat) : Nat → List Nat := fun k => if k = u then l else R k
theorem updR_same (R : Nat → List Nat) (u : Nat) (l : List Nat) : updR R u l u = l := if_pos rfl
theorem updR_ne (R : Nat → List Nat) {u k : Nat} (l : List Nat) (h : k ≠ u) : updR R u l k = R k := if_neg h

/-- A node is taken out of its row. -/
def outL (L : Nat → Lk) (i : Nat) : Nat → Lk := if (L i).up = -1 then L else fun k =>
  ⟨if k = i then -1 else (L k).up,
   if k = i then -1 else if (k : Int) = (L i).next then (L i).prev else (L k).prev,
   if k = i then -1 else if (k : Int) = (L i).prev then (L i).next else (L k).next,
   if (k : Int) = (L i).up ∧ (L i).prev = -1 then (L i).next else (L k).first,
   if (k : Int) = (L i).up ∧ (L i).next = -1 then (L i).prev else (L k).last⟩
def outR (L : Nat → Lk) (R : Nat → List Nat) (i : Nat) : Nat → List Nat := if (L i).up = -1 then R else updR R (L i).up.toNat ((R (L i).up.toNat).erase i)

theorem erase_split {a b : List Nat} {i : Nat} (h : (a ++ i :: b).Nodup) : (a ++ i :: b).erase i = a ++ b := by
  have : i ∉ a := by
    intro hi
    have := (List.nodup_append.1 h).2.2 i hi i (List.mem_cons_self ..)
    exact this rfl
  rw [List.erase_append_right _ this, List.erase_cons_head]

theorem WF.out {n : Nat} {L : Nat → Lk} {R : Nat → List Nat} (h : WF n L R) {i : Nat} (hi : i < n) : WF n (outL L i) (outR L R i) := by
  unfold outL outR
  rcases h.inn i hi with h0 | ⟨u, hu, hup, hm⟩
  · rw [if_pos h0, if_pos h0]; exact h
  have hne : ¬ (L i).up = -1 := by omega
  rw [if_neg hne, if_neg hne, hup]
  obtain ⟨a, b, e⟩ := mem_split hm
  obtain ⟨hp, hq⟩ := h.split hu e
  have hnd := h.nodup u hu
  have hs := h.seg u hu
  have hlt := h.lt u hu
  rw [e] at hnd hs hlt
  have hab : (a ++ b).Nodup := (List.Sublist.append_left (List.sublist_cons_self i b) a).nodup hnd
  have hia : i ∉ a := fun hh => (List.nodup_append.1 hnd).2.2 i hh i (List.mem_cons_self ..) rfl
  have hib : i ∉ b := (List.nodup_cons.1 (List.nodup_append.1 hnd).2.1).1
  have hna := (List.nodup_append.1 hab).1
  have hnb := (List.nodup_append.1 hab).2.1
  have hdj := (List.nodup_append.1 hab).2.2
  rw [Seg.append] at hs
  obtain ⟨sa, -, -, -, sb⟩ := hs
  have hR : updR R (u : Int).toNat ((R (u : Int).toNat).erase i) = updR R u (a ++ b) := by
    rw [Int.toNat_natCast, e, erase_split hnd]
  rw [hR]
  -- what is touched of other rows
  have oth : ∀ v, v < n → v ≠ u → ∀ j ∈ R v, j ≠ i ∧ (j : Int) ≠ (L i).next ∧ (j : Int) ≠ (L i).prev := by
    intro v hv hvu j hj
    have nu : j ∉ R u := fun hh => hvu (h.one hv hu hj hh)
    refine ⟨fun e' => nu (e' ▸ hm), ?_, ?_⟩
    · rw [hq]
      rcases hdD_or b with ⟨-, e1⟩ | ⟨m, m1, e1⟩
      · rw [e1]; omega
      · rw [e1]
        intro e2
        have : j = m := by omega
        exact nu (by rw [e, this]; simp [m1])
    · rw [hp]
      rcases lsD_or a with ⟨-, e1⟩ | ⟨m, m1, e1⟩
      · rw [e1]; omega
      · rw [e1]
        intro e2
        have : j = m := by omega
        exact nu (by rw [e, this]; simp [m1])
  refine ⟨fun v hv => ?_, fun v hv => ?_, fun v hv => ?_, fun v hv => ?_, fun v hv j hj => ?_, fun j hj => ?_⟩
  · dsimp only
    by_cases c : v = u
    · subst c
      rw [updR_same, hdD_append, hp]
      have hf := h.first v hv
      rw [e, hdD_append] at hf
      rcases lsD_or a with ⟨e0, e1⟩ | ⟨m, m1, e1⟩
      · rw [if_pos ⟨rfl, e1⟩, hq, e0]; rfl
      · rw [if_neg (by omega), hf]
        exact hdD_ne (fun e2 => by rw [e2] at m1; cases m1) _ _
    · rw [updR_ne _ _ c, if_neg (by omega)]; exact h.first v hv
  · dsimp only
    by_cases c : v = u
    · subst c
      rw [updR_same, lsD_append, hq]
      have hf := h.last v hv
      rw [e, lsD_append] at hf
      rcases hdD_or b with ⟨e0, e1⟩ | ⟨m, m1, e1⟩
      · rw [if_pos ⟨rfl, e1⟩, hp, e0]; rfl
      · rw [if_neg (by omega), hf]
        show lsD b (i : Int) = _
        exact lsD_ne (fun e2 => by rw [e2] at m1; cases m1) _ _
    · rw [updR_ne _ _ c, if_neg (by omega)]; exact h.last v hv
  · by_cases c : v = u
    · subst c
      rw [updR_same, Seg.append]
      have fa : ∀ j ∈ a, j ≠ i := fun j hj e' => hia (e' ▸ hj)
      have fb : ∀ j ∈ b, j ≠ i := fun j hj e' => hib (e' ▸ hj)
      have na : ∀ j ∈ a, (j : Int) ≠ hdD b (-1) := by
        intro j hj
        rcases hdD_or b with ⟨-, e1⟩ | ⟨m, m1, e1⟩
        · rw [e1]; omega
        · rw [e1]; intro e2
          exact hdj j hj m m1 (by omega)
      have nb : ∀ j ∈ b, (j : Int) ≠ lsD a (-1) := by
        intro j hj
        rcases lsD_or a with ⟨-, e1⟩ | ⟨m, m1, e1⟩
        · rw [e1]; omega
        · rw [e1]; intro e2
          exact hdj m m1 j hj (by omega)
      constructor
      · refine Seg.tail (q' := hdD b (-1)) hna sa fun j hj => ?_
        dsimp only
        rw [if_neg (fa j hj), if_neg (fa j hj), if_neg (fa j hj), hq, hp, if_neg (na j hj)]
        exact ⟨rfl, rfl, rfl⟩
      · refine Seg.head (p := (i : Int)) hnb sb fun j hj => ?_
        dsimp only
        rw [if_neg (fb j hj), if_neg (fb j hj), if_neg (fb j hj), hq, hp, if_neg (nb j hj)]
        exact ⟨rfl, rfl, rfl⟩
    · rw [updR_ne _ _ c]
      refine Seg.congr (fun j hj => ?_) (h.seg v hv)
      obtain ⟨o1, o2, o3⟩ := oth v hv c j hj
      dsimp only
      rw [if_neg o1, if_neg o1, if_neg o1, if_neg o2, if_neg o3]
      exact ⟨rfl, rfl, rfl⟩
  · by_cases c : v = u
    · subst c; rw [updR_same]; exact hab
    · rw [updR_ne _ _ c]; exact h.nodup v hv
  · by_cases c : v = u
    · subst c
      rw [updR_same] at hj
      refine hlt j ?_
      rcases List.mem_append.1 hj with hj | hj
      · exact List.mem_append_left _ hj
      · exact List.mem_append_right _ (List.mem_cons_of_mem _ hj)
    · rw [updR_ne _ _ c] at hj; exact h.lt v hv j hj
  · dsimp only
    by_cases c : j = i
    · rw [if_pos c]; exact .inl rfl
    · rw [if_neg c]
      rcases h.inn j hj with h1 | ⟨v, hv, h1, h2⟩
      · exact .inl h1
      · refine .inr ⟨v, hv, h1, ?_⟩
        by_cases c' : v = u
        · subst c'
          rw [updR_same]
          rw [e] at h2
          rcases List.mem_append.1 h2 with h2 | h2
          · exact List.mem_append_left _ h2
          · rcases List.mem_cons.1 h2 with h2 | h2
            · exact absurd h2 c
            · exact List.mem_append_right _ h2
        · rw [updR_ne _ _ c']; exact h2
theorem out_up {L : Nat → Lk} {i : Nat} : (outL L i i).up = -1 := by
  unfold outL
  by_cases c : (L i).up = -1
  · rw [if_pos c]; exact c
  · rw [if_neg c]; dsimp only; rw [if_pos rfl]
theorem outR_notin {n : Nat} {L : Nat → Lk} {R : Nat → List Nat} (h : WF n L R) {i u : Nat} (hi : i < n) (hu : u < n) : i ∉ outR L R i u := by
  intro hm
  have := (h.out hi).up hu hm
  rw [out_up] at this
  omega

/-- A node is put into up's row, ahead of before. -/
def inL (L : Nat → Lk) (up i : Nat) (bef p : Int) : Nat → Lk := fun k =>
  ⟨if k = i then (up : Int) else (L k).up,
   if k = i then p else if (k : Int) = bef then (i : Int) else (L k).prev,
   if k = i then bef else if (k : Int) = p then (i : Int) else (L k).next,
   if k = up ∧ p = -1 then (i : Int) else (L k).first,
   if k = up ∧ bef = -1 then (i : Int) else (L k).last⟩
/-- Where a node is put in: ahead of bef, which is in the row, or at the end. -/
inductive At (l : List Nat) (bef : Int) : List Nat → List Nat → Prop
  | last : bef = -1 → At l bef l []
  | mid {a b : List Nat} {m : Nat} : bef = (m : Int) → l = a ++ m :: b → At l bef a (m :: b)
theorem At.eq {l : List Nat} {bef : Int} {a b : List Nat} (h : At l bef a b) : l = a ++ b := by cases h <;> simp_all
theorem At.bef {l : List Nat} {bef : Int} {a b : List Nat} (h : At l bef a b) : bef = hdD b (-1) := by cases h <;> simp_all [hdD]
/-- What stands ahead of the place. -/
def befP (L : Nat → Lk) (up : Nat) (bef : Int) : Int := if bef = -1 then (L up).last else (L bef.toNat).prev
theorem befP_at {n : Nat} {L : Nat → Lk} {R : Nat → List Nat} (h : WF n L R) {up : Nat} (hu : up < n) {bef : Int} {a b : List Nat} (ha : At (R up) bef a b) : befP L up bef = lsD a (-1) := by
  unfold befP
  cases ha with
  | last e => rw [if_pos e]; exact h.last up hu
  | mid e el =>
    subst e
    rw [if_neg (by omega), Int.toNat_natCast]
    exact (h.split hu el).1
theorem WF.put {n : Nat} {L : Nat → Lk} {R : Nat → List Nat} (h : WF n L R) {up i : Nat} (hu : up < n) (hi : i < n) (hfree : (L i).up = -1) {bef : Int} {a b : List Nat} (ha : At (R up) bef a b) :
    WF n (inL L up i bef (befP L up bef)) (updR R up (a ++ i :: b)) := by
  have hp := befP_at h hu ha
  have hb := ha.bef
  have hl := ha.eq
  rw [hp]
  have hni : ∀ v, v < n → i ∉ R v := fun v hv hm => by have := h.up hv hm; omega
  have hnd := h.nodup up hu
  have hs := h.seg up hu
  have hf := h.first up hu
  have hla := h.last up hu
  have hmi := hni up hu
  rw [hl] at hnd hs hf hla hmi
  rw [Seg.append] at hs
  rw [hdD_append] at hf
  rw [lsD_append] at hla
  have hna := (List.nodup_append.1 hnd).1
  have hnb := (List.nodup_append.1 hnd).2.1
  have hdj := (List.nodup_append.1 hnd).2.2
  have fa : ∀ j ∈ a, j ≠ i := fun j hj e' => hmi (e' ▸ List.mem_append_left _ hj)
  have fb : ∀ j ∈ b, j ≠ i := fun j hj e' => hmi (e' ▸ List.mem_append_right _ hj)
  have na : ∀ j ∈ a, (j : Int) ≠ hdD b (-1) := by
    intro j hj
    rcases hdD_or b with ⟨-, e1⟩ | ⟨m, m1, e1⟩
    · rw [e1]; omega
    · rw [e1]; intro e2
      exact hdj j hj m m1 (by omega)
  have nb : ∀ j ∈ b, (j : Int) ≠ lsD a (-1) := by
    intro j hj
    rcases lsD_or a with ⟨-, e1⟩ | ⟨m, m1, e1⟩
    · rw [e1]; omega
    · rw [e1]; intro e2
      exact hdj m m1 j hj (by omega)
  have oth : ∀ v, v < n → v ≠ up → ∀ j ∈ R v, j ≠ i ∧ (j : Int) ≠ bef ∧ (j : Int) ≠ lsD a (-1) := by
    intro v hv hvu j hj
    have nu : j ∉ R up := fun hh => hvu (h.one hv hu hj hh)
    refine ⟨fun e' => hni v hv (e' ▸ hj), ?_, ?_⟩
    · rw [hb]
      rcases hdD_or b with ⟨-, e1⟩ | ⟨m, m1, e1⟩
      · rw [e1]; omega
      · rw [e1]
        intro e2
        have : j = m := by omega
        exact nu (by rw [hl, this]; simp [m1])
    · rcases lsD_or a with ⟨-, e1⟩ | ⟨m, m1, e1⟩
      · rw [e1]; omega
      · rw [e1]
        intro e2
        have : j = m := by omega
        exact nu (by rw [hl, this]; simp [m1])
  refine ⟨fun v hv => ?_, fun v hv => ?_, fun v hv => ?_, fun v hv => ?_, fun v hv j hj => ?_, fun j hj => ?_⟩
  · unfold inL
    dsimp only
    by_cases c : v = up
    · subst c
      rw [updR_same, hdD_append]
      rcases lsD_or a with ⟨e0, e1⟩ | ⟨m, m1, e1⟩
      · rw [if_pos ⟨rfl, e1⟩, e0]; rfl
      · rw [if_neg (by omega), hf]
        exact hdD_ne (fun e2 => by rw [e2] at m1; cases m1) _ _
    · rw [updR_ne _ _ c, if_neg (by omega)]; exact h.first v hv
  · unfold inL
    dsimp only
    by_cases c : v = up
    · subst c
      rw [updR_same, lsD_append, hb]
      rcases hdD_or b with ⟨e0, e1⟩ | ⟨m, m1, e1⟩
      · rw [if_pos ⟨rfl, e1⟩, e0]; rfl
      · rw [if_neg (by omega), hla]
        show _ = lsD b (i : Int)
        exact lsD_ne (fun e2 => by rw [e2] at m1; cases m1) _ _
    · rw [updR_ne _ _ c, if_neg (by omega)]; exact h.last v hv
  · by_cases c : v = up
    · subst c
      rw [updR_same, Seg.append]
      constructor
      · refine Seg.tail (q' := (i : Int)) hna hs.1 fun j hj => ?_
        unfold inL
        dsimp only
        rw [if_neg (fa j hj), if_neg (fa j hj), if_neg (fa j hj), hb, if_neg (na j hj)]
        exact ⟨rfl, rfl, rfl⟩
      · refine ⟨?_, ?_, ?_, Seg.head (p := lsD a (-1)) hnb hs.2 fun j hj => ?_⟩
        · unfold inL; dsimp only; rw [if_pos rfl]
        · unfold inL; dsimp only; rw [if_pos rfl]
        · unfold inL; dsimp only; rw [if_pos rfl]; exact hb
        · unfold inL
          dsimp only
          rw [if_neg (fb j hj), if_neg (fb j hj), if_neg (fb j hj), hb, if_neg (nb j hj)]
          exact ⟨rfl, rfl, rfl⟩
    · rw [updR_ne _ _ c]
      refine Seg.congr (fun j hj => ?_) (h.seg v hv)
      obtain ⟨o1, o2, o3⟩ := oth v hv c j hj
      unfold inL
      dsimp only
      rw [if_neg o1, if_neg o1, if_neg o1, if_neg o2, if_neg o3]
      exact ⟨rfl, rfl, rfl⟩
  · by_cases c : v = up
    · subst c
      rw [updR_same]
      refine List.nodup_append.2 ⟨hna, List.nodup_cons.2 ⟨fun hh => fb i hh rfl, hnb⟩, fun x hx y hy => ?_⟩
      rcases List.mem_cons.1 hy with rfl | hy
      · exact fa x hx
      · exact hdj x hx y hy
    · rw [updR_ne _ _ c]; exact h.nodup v hv
  · by_cases c : v = up
    · subst c
      rw [updR_same] at hj
      rcases List.mem_append.1 hj with hj | hj
      · exact h.lt v hv j (by rw [hl]; exact List.mem_append_left _ hj)
      · rcases List.mem_cons.1 hj with rfl | hj
        · exact hi
        · exact h.lt v hv j (by rw [hl]; exact List.mem_append_right _ hj)
    · rw [updR_ne _ _ c] at hj; exact h.lt v hv j hj
  · unfold inL
    dsimp only
    by_cases c : j = i
    · rw [if_pos c]
      subst c
      exact .inr ⟨up, hu, rfl, by rw [updR_same]; simp⟩
    · rw [if_neg c]
      rcases h.inn j hj with h1 | ⟨v, hv, h1, h2⟩
      · exact .inl h1
      · refine .inr ⟨v, hv, h1, ?_⟩
        by_cases c' : v = up
        · subst c'
          rw [updR_same]
          rw [hl] at h2
          rcases List.mem_append.1 h2 with h2 | h2
          · exact List.mem_append_left _ h2
          · exact List.mem_append_right _ (List.mem_cons_of_mem _ h2)
        · rw [updR_ne _ _ c']; exact h2
/-- A new node, in nothing. -/
theorem WF.more {n : Nat} {L : Nat → Lk} {R : Nat → List Nat} (h : WF n L R) (L' : Nat → Lk) (hL : ∀ k, k < n → L' k = L k) (hn : L' n = Lk.nil) : WF (n + 1) L' (updR R n []) := by
  have c : ∀ v, v < n + 1 → v = n ∨ (v < n ∧ v ≠ n) := fun v hv => by omega
  refine ⟨fun v hv => ?_, fun v hv => ?_, fun v hv => ?_, fun v hv => ?_, fun v hv j hj => ?_, fun j hj => ?_⟩
  · rcases c v hv with rfl | ⟨h1, h2⟩
    · rw [updR_same, hn]; rfl
    · rw [updR_ne _ _ h2, hL v h1]; exact h.first v h1
  · rcases c v hv with rfl | ⟨h1, h2⟩
    · rw [updR_same, hn]; rfl
    · rw [updR_ne _ _ h2, hL v h1]; exact h.last v h1
  · rcases c v hv with rfl | ⟨h1, h2⟩
    · rw [updR_same]; trivial
    · rw [updR_ne _ _ h2]
      exact Seg.congr (fun j hj => by rw [hL j (h.lt v h1 j hj)]; exact ⟨rfl, rfl, rfl⟩) (h.seg v h1)
  · rcases c v hv with rfl | ⟨h1, h2⟩
    · rw [updR_same]; exact List.nodup_nil
    · rw [updR_ne _ _ h2]; exact h.nodup v h1
  · rcases c v hv with rfl | ⟨h1, h2⟩
    · rw [updR_same] at hj; cases hj
    · rw [updR_ne _ _ h2] at hj
      have := h.lt v h1 j hj
      omega
  · rcases c j hj with rfl | ⟨h1, h2⟩
    · rw [hn]; exact .inl rfl
    · rw [hL j h1]
      rcases h.inn j h1 with h3 | ⟨v, hv, h3, h4⟩
      · exact .inl h3
      · exact .inr ⟨v, by omega, h3, by rw [updR_ne _ _ (by omega)]; exact h4⟩
end Go.Proofs.YtbhfnbplbkncmaaGreat

namespace Go.Proofs.YtbhfnbplbkncmaaGreat
open Go.RowKit

structure Fg where
  a : Bool
  b : Bool
  c : Bool
  d : Bool
  e : Bool
/-- A node, but for its links. -/
structure Nd where
  kind : Nat
  name : List UInt8
  data : List UInt8
  attrs : List Atr
  fl : Fg
  shadow : Int
  host : Int
  content : Int
/-- A document: what its nodes are, and both chains. -/
structure Dm where
  limit : Nat
  n : Nat
  nd : Nat → Nd
  pl : Nat → Lk
  gf : Nat → Lk
def lkCells (l : Lk) : List Value := [.int .i64 l.up, .int .i64 l.prev, .int .i64 l.next, .int .i64 l.first, .int .i64 l.last]
def ndCells (x : Nd) (p q : Lk) (aa : Option Addr) (ac : Nat) : List Value :=
  [.int .u8 (x.kind : Int), sv x.name, sv x.data, .slice aa x.attrs.length ac, .bool x.fl.a, .bool x.fl.b, .bool x.fl.c, .bool x.fl.d, .bool x.fl.e, .int .i64 x.shadow, .int .i64 x.host, .int .i64 x.content,
   .int .i64 p.up, .int .i64 p.prev, .int .i64 p.next, .int .i64 p.first, .int .i64 p.last, .int .i64 q.up, .int .i64 q.prev, .int .i64 q.next, .int .i64 q.first, .int .i64 q.last]
theorem nd_one (x : Nd) (p q : Lk) (aa : Option Addr) (ac : Nat) : ∀ u ∈ ndCells x p q aa ac, u.oneCell' = true := by
  intro u hu
  simp only [ndCells, List.mem_cons, List.not_mem_nil, or_false] at hu
  rcases hu with rfl | rfl | rfl | rfl | rfl | rfl | rfl | rfl | rfl | rfl | rfl | rfl | rfl | rfl | rfl | rfl | rfl | rfl | rfl | rfl | rfl | rfl <;> rfl
def Dm.cells (S : Dm) (i : Nat) (aa : Option Addr) (ac : Nat) : List Value := ndCells (S.nd i) (S.pl i) (S.gf i) aa ac
theorem Dm.cells_len (S : Dm) (i : Nat) (aa : Option Addr) (ac : Nat) : (S.cells i aa ac).length = 22 := rfl

/-- THE DOCUMENT at the block p, its nodes at the slice ga. -/
def DY (K : Nat → Prop) (w : World) (p : Nat) (S : Dm) (ga : Option Addr) (cap : Nat) : Prop :=
  (∀ k, K k → k < w.heap.size) ∧ ¬ K p ∧
    w.heap[p]? = some (.cells #[.int .i64 (S.limit : Int), .slice ga S.n cap] 87 (0, 0)) ∧
    ∃ (xs : List Value) (aa : Nat → Option Addr) (ac : Nat → Nat),
      OwnZ (fun k => K k ∨ k = p) w 94 22 ga S.n cap xs ∧
      (∀ i, i < S.n → ∀ f u, (S.cells i (aa i) (ac i))[f]? = some u → xs[i * 22 + f]? = some u) ∧
      (∀ i, i < S.n → OwnZ (fun k => K k ∨ k = p ∨ blkOf ga k) w 140 2 (aa i) (S.nd i).attrs.length (ac i) (atrCells (S.nd i).attrs)) ∧
      ∀ i j, i < S.n → j < S.n → i ≠ j → ∀ g, blkOf (aa i) g → ¬ blkOf (aa j) g
def DX (K : Nat → Prop) (w : World) (p : Nat) (S : Dm) : Prop := ∃ ga cap, DY K w p S ga cap

theorem DY.lt {K : Nat → Prop} {w : World} {p : Nat} {S : Dm} {ga : Option Addr} {cap : Nat} (h : DY K w p S ga cap) : ∀ k, K k → k < w.heap.size := h.1
theorem DY.plt {K : Nat → Prop} {w : World} {p : Nat} {S : Dm} {ga : Option Addr} {cap : Nat} (h : DY K w p S ga cap) : p < w.heap.size := lt_block h.2.2.1
theorem DY.pk {K : Nat → Prop} {w : World} {p : Nat} {S : Dm} {ga : Option Addr} {cap : Nat} (h : DY K w p S ga cap) : ¬ K p := h.2.1
theorem DY.c0 {K : Nat → Prop} {w : World} {p : Nat} {S : Dm} {ga : Option Addr} {cap : Nat} (h : DY K w p S ga cap) : w.cell? ⟨p, 0, none⟩ = some (.int .i64 (S.limit : Int)) := by rw [cell_block h.2.2.1]; rfl
theorem DY.c1 {K : Nat → Prop} {w : World} {p : Nat} {S : Dm} {ga : Option Addr} {cap : Nat} (h : DY K w p S ga cap) : w.cell? ⟨p, 1, none⟩ = some (.slice ga S.n cap) := by rw [cell_block h.2.2.1]; rfl
theorem DY.fp {K : Nat → Prop} {w : World} {p : Nat} {S : Dm} {ga : Option Addr} {cap : Nat} (h : DY K w p S ga cap) (i : Nat) : w.frozen? ⟨p, i, none⟩ = false := frozen_block h.2.2.1 i
theorem DY.cap_le {K : Nat → Prop} {w : World} {p : Nat} {S : Dm} {ga : Option Addr} {cap : Nat} (h : DY K w p S ga cap) : S.n ≤ cap ∧ cap ≤ maxLen := by
  obtain ⟨_, _, _, xs, aa, ac, ho, _⟩ := h
  exact ⟨ho.2.1, ho.2.2.1⟩
/-- Where the nodes lie. -/
theorem DY.at {K : Nat → Prop} {w : World} {p : Nat} {S : Dm} {ga : Option Addr} {cap : Nat} (h : DY K w p S ga cap) (h0 : 0 < S.n) : ∃ g, ga = some ⟨g, 0, none⟩ ∧ ¬ K g ∧ g ≠ p ∧ g < w.heap.size := by
  obtain ⟨_, _, _, xs, aa, ac, ho, _⟩ := h
  obtain ⟨h1, h2, h3, h4⟩ := ho
  rcases h4 with ⟨_, r2⟩ | ⟨g, cur, r1, r2, r3, r4⟩
  · omega
  · exact ⟨g, r1, fun hk => r2 (.inl hk), fun e => r2 (.inr e), lt_block r3⟩
/-- The cells of a node. -/
theorem DY.cell {K : Nat → Prop} {w : World} {p : Nat} {S : Dm} {g : Nat} {cap : Nat} (h : DY K w p S (some ⟨g, 0, none⟩) cap) {i : Nat} (hi : i < S.n) :
    ∃ aa ac, (∀ f u, (S.cells i aa ac)[f]? = some u → w.cell? ⟨g, i * 22 + f, none⟩ = some u) ∧ OwnZ (fun k => K k ∨ k = p ∨ k = g) w 140 2 aa (S.nd i).attrs.length ac (atrCells (S.nd i).attrs) := by
  obtain ⟨_, _, _, xs, aa, ac, ho, hx, ha, _⟩ := h
  refine ⟨aa i, ac i, fun f u hf => ?_, OwnZ.to (ha i hi) (fun x hx hk => ?_) (fun _ _ => rfl)⟩
  · obtain ⟨g', e, hc⟩ := ho.cell (hx i hi f u hf)
    injection e with e
    injection e with e
    subst e
    exact hc
  · refine (OwnZ.out (ha i hi) hx).1 ?_
    rcases hk with hk | hk | hk
    · exact .inl hk
    · exact .inr (.inl hk)
    · subst hk; exact .inr (.inr rfl)
theorem DY.fg {K : Nat → Prop} {w : World} {p : Nat} {S : Dm} {g : Nat} {cap : Nat} (h : DY K w p S (some ⟨g, 0, none⟩) cap) (i : Nat) : w.frozen? ⟨g, i, none⟩ = false := by
  obtain ⟨_, _, _, xs, aa, ac, ho, _⟩ := h
  obtain ⟨h1, h2, h3, h4⟩ := ho
  rcases h4 with ⟨r1, _⟩ | ⟨g', cur, r1, r2, r3, r4⟩
  · cases r1
  · injection r1 with r1
    injection r1 with r1
    subst r1
    exact frozen_block r3 i
theorem DY.gk {K : Nat → Prop} {w : World} {p : Nat} {S : Dm} {g : Nat} {cap : Nat} (h : DY K w p S (some ⟨g, 0, none⟩) cap) : ¬ K g ∧ g ≠ p ∧ g < w.heap.size := by
  obtain ⟨_, _, _, xs, aa, ac, ho, _⟩ := h
  have := OwnZ.out ho (g := g) rfl
  exact ⟨fun hk => this.1 (.inl hk), fun e => this.1 (.inr e), this.2⟩
theorem DY.kept {K : Nat → Prop} {w w' : World} {p : Nat} {S : Dm} {ga : Option Addr} {cap : Nat} (h : DY K w p S ga cap) (hk : Kept (fun k => k < w.heap.size) w w') : DY K w' p S ga cap := by
  obtain ⟨h1, h2, h3, xs, aa, ac, ho, hx, ha, hs⟩ := h
  exact ⟨fun k hk' => Nat.lt_of_lt_of_le (h1 k hk') hk.size, h2, by rw [hk.block p (lt_block h3)]; exact h3, xs, aa, ac, OwnZ.to ho (fun g hg => (ho.out hg).1) (fun g hg => hk.block g (ho.out hg).2), hx,
    fun i hi => OwnZ.to (ha i hi) (fun g hg => ((ha i hi).out hg).1) (fun g hg => hk.block g ((ha i hi).out hg).2), hs⟩
theorem DX.kept {K : Nat → Prop} {w w' : World} {p : Nat} {S : Dm} (h : DX K w p S) (hk : Kept (fun k => k < w.heap.size) w w') : DX K w' p S := by
  obtain ⟨ga, cap, h⟩ := h
  exact ⟨ga, cap, h.kept hk⟩
theorem DX.lt {K : Nat → Prop} {w : World} {p : Nat} {S : Dm} (h : DX K w p S) : ∀ k, K k → k < w.heap.size := by
  obtain ⟨ga, cap, h⟩ := h
  exact h.1
/-- Less is kept, or what is new. -/
theorem DY.more {K K' : Nat → Prop} {w w' : World} {p : Nat} {S : Dm} {ga : Option Addr} {cap : Nat} (h : DY K w p S ga cap) (hk : Kept (fun k => k < w.heap.size) w w') (hs : ∀ k, K' k → K k ∨ w.heap.size ≤ k) (hl : ∀ k, K' k → k < w'.heap.size) : DY K' w' p S ga cap := by
  obtain ⟨h1, h2, h3, xs, aa, ac, ho, hx, ha, hsp⟩ := h
  have hp := lt_block h3
  refine ⟨hl, fun hh => ?_, by rw [hk.block p hp]; exact h3, xs, aa, ac, OwnZ.to ho (fun g hg hh => ?_) (fun g hg => hk.block g (ho.out hg).2), hx, fun i hi => OwnZ.to (ha i hi) (fun g hg hh => ?_) (fun g hg => hk.block g ((ha i hi).out hg).2), hsp⟩
  · rcases hs p hh with hh | hh
    · exact h2 hh
    · omega
  · rcases hh with hh | hh
    · rcases hs g hh with hh | hh
      · exact (ho.out hg).1 (.inl hh)
      · have := (ho.out hg).2; omega
    · exact (ho.out hg).1 (.inr hh)
  · rcases hh with hh | hh
    · rcases hs g hh with hh | hh
      · exact ((ha i hi).out hg).1 (.inl hh)
      · have := ((ha i hi).out hg).2; omega
    · exact ((ha i hi).out hg).1 (.inr hh)
theorem DX.more {K K' : Nat → Prop} {w w' : World} {p : Nat} {S : Dm} (h : DX K w p S) (hk : Kept (fun k => k < w.heap.size) w w') (hs : ∀ k, K' k → K k ∨ w.heap.size ≤ k) (hl : ∀ k, K' k → k < w'.heap.size) : DX K' w' p S := by
  obtain ⟨ga, cap, h⟩ := h
  exact ⟨ga, cap, h.more hk hs hl⟩
/-- A store into the row of nodes, but not of attributes. -/
theorem DY.set {K : Nat → Prop} {w : World} {p : Nat} {S S' : Dm} {g : Nat} {cap : Nat} (h : DY K w p S (some ⟨g, 0, none⟩) cap) {i f : Nat} (hi : i < S.n) (hf : f < 22) {v : Value} (e1 : S'.limit = S.limit) (e2 : S'.n = S.n) (e3 : ∀ j, (S'.nd j).attrs = (S.nd j).attrs)
    (hc : ∀ j aa ac, j ≠ i → S'.cells j aa ac = S.cells j aa ac) (hd : ∀ aa ac, S'.cells i aa ac = (S.cells i aa ac).set f v) :
    DY K (w.setCell ⟨g, i * 22 + f, none⟩ v) p S' (some ⟨g, 0, none⟩) cap ∧ Kept K w (w.setCell ⟨g, i * 22 + f, none⟩ v) := by
  obtain ⟨gk, gp, gl⟩ := h.gk
  obtain ⟨h1, h2, h3, xs, aa, ac, ho, hx, ha, hs⟩ := h
  have kK : Kept K w (w.setCell ⟨g, i * 22 + f, none⟩ v) := (Kept.refl K w).setCell (p := ⟨g, i * 22 + f, none⟩) gk v
  have kG : Kept (fun k => k ≠ g) w (w.setCell ⟨g, i * 22 + f, none⟩ v) := (Kept.refl _ w).setCell (p := ⟨g, i * 22 + f, none⟩) (fun h => h rfl) v
  refine ⟨⟨fun k hk => Nat.lt_of_lt_of_le (h1 k hk) kK.size, h2, ?_, xs.set (i * 22 + f) v, aa, ac, ?_, ?_, fun j hj => ?_, fun j k hj hk => hs j k (by omega) (by omega)⟩, kK⟩
  · rw [kG.block p (fun e => gp e.symm), e1, e2]; exact h3
  · obtain ⟨o1, o2, o3, o4⟩ := ho
    rw [e2]
    refine ⟨by rw [List.length_set]; exact o1, o2, o3, ?_⟩
    rcases o4 with ⟨r1, _⟩ | ⟨g', cur, r1, r2, r3, r4, r5⟩
    · cases r1
    · injection r1 with r1
      injection r1 with r1
      subst r1
      refine .inr ⟨g, _, rfl, r2, heap_setCell_at r3 _ v, by simp [r4], ?_⟩
      rw [Array.toList_setIfInBounds, ← r5, List.take_set]
  · intro j hj f' u hu
    rw [e2] at hj
    have hf' : f' < 22 := by
      rcases Nat.lt_or_ge f' 22 with hh | hh
      · exact hh
      · rw [List.getElem?_eq_none (by rw [Dm.cells_len]; exact hh)] at hu; cases hu
    by_cases c : j = i
    · subst c
      rw [hd] at hu
      by_cases c2 : f' = f
      · subst c2
        have hl : j * 22 + f' < xs.length := by rw [ho.1]; have := Nat.mul_le_mul_right 22 hi; omega
        rw [List.getElem?_set_self (by rw [Dm.cells_len]; exact hf')] at hu
        rw [List.getElem?_set_self hl]
        exact hu
      · rw [List.getElem?_set_ne (by omega)] at hu
        rw [List.getElem?_set_ne (by omega)]
        exact hx j hj f' u hu
    · rw [hc j _ _ c] at hu
      rw [List.getElem?_set_ne (by omega)]
      exact hx j hj f' u hu
  · rw [e2] at hj
    rw [e3]
    refine OwnZ.to (ha j hj) (fun x hx => ((ha j hj).out hx).1) (fun x hx => kG.block x ?_)
    intro e
    subst e
    exact ((ha j hj).out hx).1 (.inr (.inr rfl))

def Dm.setP (S : Dm) (L : Nat → Lk) : Dm := { S with pl := L }
def Dm.setG (S : Dm) (L : Nat → Lk) : Dm := { S with gf := L }
def updL (L : Nat → Lk) (i : Nat) (l : Lk) : Nat → Lk := fun k => if k = i then l else L k
theorem DY.setPup {K : Nat → Prop} {w : World} {p : Nat} {S : Dm} {g : Nat} {cap : Nat} (h : DY K w p S (some ⟨g, 0, none⟩) cap) {i : Nat} (hi : i < S.n) (z : Int) :
    DY K (w.setCell ⟨g, i * 22 + 12, none⟩ (.int .i64 z)) p (S.setP (updL S.pl i { S.pl i with up := z })) (some ⟨g, 0, none⟩) cap ∧ Kept K w (w.setCell ⟨g, i * 22 + 12, none⟩ (.int .i64 z)) :=
  h.set hi (by omega) rfl rfl (fun _ => rfl) (fun j aa ac hj => by simp only [Dm.cells, Dm.setP, updL, if_neg hj]) (fun aa ac => by simp only [Dm.cells, Dm.setP, updL, if_pos]; rfl)
theorem DY.setPprev {K : Nat → Prop} {w : World} {p : Nat} {S : Dm} {g : Nat} {cap : Nat} (h : DY K w p S (some ⟨g, 0, none⟩) cap) {i : Nat} (hi : i < S.n) (z : Int) :
    DY K (w.setCell ⟨g, i * 22 + 13, none⟩ (.int .i64 z)) p (S.setP (updL S.pl i { S.pl i with prev := z })) (some ⟨g, 0, none⟩) cap ∧ Kept K w (w.setCell ⟨g, i * 22 + 13, none⟩ (.int .i64 z)) :=
  h.set hi (by omega) rfl rfl (fun _ => rfl) (fun j aa ac hj => by simp only [Dm.cells, Dm.setP, updL, if_neg hj]) (fun aa ac => by simp only [Dm.cells, Dm.setP, updL, if_pos]; rfl)
theorem DY.setPnext {K : Nat → Prop} {w : World} {p : Nat} {S : Dm} {g : Nat} {cap : Nat} (h : DY K w p S (some ⟨g, 0, none⟩) cap) {i : Nat} (hi : i < S.n) (z : Int) :
    DY K (w.setCell ⟨g, i * 22 + 14, none⟩ (.int .i64 z)) p (S.setP (updL S.pl i { S.pl i with next := z })) (some ⟨g, 0, none⟩) cap ∧ Kept K w (w.setCell ⟨g, i * 22 + 14, none⟩ (.int .i64 z)) :=
  h.set hi (by omega) rfl rfl (fun _ => rfl) (fun j aa ac hj => by simp only [Dm.cells, Dm.setP, updL, if_neg hj]) (fun aa ac => by simp only [Dm.cells, Dm.setP, updL, if_pos]; rfl)
theorem DY.setPfirst {K : Nat → Prop} {w : World} {p : Nat} {S : Dm} {g : Nat} {cap : Nat} (h : DY K w p S (some ⟨g, 0, none⟩) cap) {i : Nat} (hi : i < S.n) (z : Int) :
    DY K (w.setCell ⟨g, i * 22 + 15, none⟩ (.int .i64 z)) p (S.setP (updL S.pl i { S.pl i with first := z })) (some ⟨g, 0, none⟩) cap ∧ Kept K w (w.setCell ⟨g, i * 22 + 15, none⟩ (.int .i64 z)) :=
  h.set hi (by omega) rfl rfl (fun _ => rfl) (fun j aa ac hj => by simp only [Dm.cells, Dm.setP, updL, if_neg hj]) (fun aa ac => by simp only [Dm.cells, Dm.setP, updL, if_pos]; rfl)
theorem DY.setPlast {K : Nat → Prop} {w : World} {p : Nat} {S : Dm} {g : Nat} {cap : Nat} (h : DY K w p S (some ⟨g, 0, none⟩) cap) {i : Nat} (hi : i < S.n) (z : Int) :
    DY K (w.setCell ⟨g, i * 22 + 16, none⟩ (.int .i64 z)) p (S.setP (updL S.pl i { S.pl i with last := z })) (some ⟨g, 0, none⟩) cap ∧ Kept K w (w.setCell ⟨g, i * 22 + 16, none⟩ (.int .i64 z)) :=
  h.set hi (by omega) rfl rfl (fun _ => rfl) (fun j aa ac hj => by simp only [Dm.cells, Dm.setP, updL, if_neg hj]) (fun aa ac => by simp only [Dm.cells, Dm.setP, updL, if_pos]; rfl)
theorem DY.setGup {K : Nat → Prop} {w : World} {p : Nat} {S : Dm} {g : Nat} {cap : Nat} (h : DY K w p S (some ⟨g, 0, none⟩) cap) {i : Nat} (hi : i < S.n) (z : Int) :
    DY K (w.setCell ⟨g, i * 22 + 17, none⟩ (.int .i64 z)) p (S.setG (updL S.gf i { S.gf i with up := z })) (some ⟨g, 0, none⟩) cap ∧ Kept K w (w.setCell ⟨g, i * 22 + 17, none⟩ (.int .i64 z)) :=
  h.set hi (by omega) rfl rfl (fun _ => rfl) (fun j aa ac hj => by simp only [Dm.cells, Dm.setG, updL, if_neg hj]) (fun aa ac => by simp only [Dm.cells, Dm.setG, updL, if_pos]; rfl)
theorem DY.setGprev {K : Nat → Prop} {w : World} {p : Nat} {S : Dm} {g : Nat} {cap : Nat} (h : DY K w p S (some ⟨g, 0, none⟩) cap) {i : Nat} (hi : i < S.n) (z : Int) :
    DY K (w.setCell ⟨g, i * 22 + 18, none⟩ (.int .i64 z)) p (S.setG (updL S.gf i { S.gf i with prev := z })) (some ⟨g, 0, none⟩) cap ∧ Kept K w (w.setCell ⟨g, i * 22 + 18, none⟩ (.int .i64 z)) :=
  h.set hi (by omega) rfl rfl (fun _ => rfl) (fun j aa ac hj => by simp only [Dm.cells, Dm.setG, updL, if_neg hj]) (fun aa ac => by simp only [Dm.cells, Dm.setG, updL, if_pos]; rfl)
theorem DY.setGnext {K : Nat → Prop} {w : World} {p : Nat} {S : Dm} {g : Nat} {cap : Nat} (h : DY K w p S (some ⟨g, 0, none⟩) cap) {i : Nat} (hi : i < S.n) (z : Int) :
    DY K (w.setCell ⟨g, i * 22 + 19, none⟩ (.int .i64 z)) p (S.setG (updL S.gf i { S.gf i with next := z })) (some ⟨g, 0, none⟩) cap ∧ Kept K w (w.setCell ⟨g, i * 22 + 19, none⟩ (.int .i64 z)) :=
  h.set hi (by omega) rfl rfl (fun _ => rfl) (fun j aa ac hj => by simp only [Dm.cells, Dm.setG, updL, if_neg hj]) (fun aa ac => by simp only [Dm.cells, Dm.setG, updL, if_pos]; rfl)
theorem DY.setGfirst {K : Nat → Prop} {w : World} {p : Nat} {S : Dm} {g : Nat} {cap : Nat} (h : DY K w p S (some ⟨g, 0, none⟩) cap) {i : Nat} (hi : i < S.n) (z : Int) :
    DY K (w.setCell ⟨g, i * 22 + 20, none⟩ (.int .i64 z)) p (S.setG (updL S.gf i { S.gf i with first := z })) (some ⟨g, 0, none⟩) cap ∧ Kept K w (w.setCell ⟨g, i * 22 + 20, none⟩ (.int .i64 z)) :=
  h.set hi (by omega) rfl rfl (fun _ => rfl) (fun j aa ac hj => by simp only [Dm.cells, Dm.setG, updL, if_neg hj]) (fun aa ac => by simp only [Dm.cells, Dm.setG, updL, if_pos]; rfl)
theorem DY.setGlast {K : Nat → Prop} {w : World} {p : Nat} {S : Dm} {g : Nat} {cap : Nat} (h : DY K w p S (some ⟨g, 0, none⟩) cap) {i : Nat} (hi : i < S.n) (z : Int) :
    DY K (w.setCell ⟨g, i * 22 + 21, none⟩ (.int .i64 z)) p (S.setG (updL S.gf i { S.gf i with last := z })) (some ⟨g, 0, none⟩) cap ∧ Kept K w (w.setCell ⟨g, i * 22 + 21, none⟩ (.int .i64 z)) :=
  h.set hi (by omega) rfl rfl (fun _ => rfl) (fun j aa ac hj => by simp only [Dm.cells, Dm.setG, updL, if_neg hj]) (fun aa ac => by simp only [Dm.cells, Dm.setG, updL, if_pos]; rfl)
def Dm.setN (S : Dm) (i : Nat) (x : Nd) : Dm := { S with nd := fun k => if k = i then x else S.nd k }
theorem DY.setNshadow {K : Nat → Prop} {w : World} {p : Nat} {S : Dm} {g : Nat} {cap : Nat} (h : DY K w p S (some ⟨g, 0, none⟩) cap) {i : Nat} (hi : i < S.n) (z : Int) :
    DY K (w.setCell ⟨g, i * 22 + 9, none⟩ (.int .i64 z)) p (S.setN i { S.nd i with shadow := z }) (some ⟨g, 0, none⟩) cap ∧ Kept K w (w.setCell ⟨g, i * 22 + 9, none⟩ (.int .i64 z)) :=
  h.set hi (by omega) rfl rfl (fun j => by simp only [Dm.setN]; split <;> simp_all) (fun j aa ac hj => by simp only [Dm.cells, Dm.setN, if_neg hj]) (fun aa ac => by simp only [Dm.cells, Dm.setN, if_pos]; rfl)
theorem DY.setNhost {K : Nat → Prop} {w : World} {p : Nat} {S : Dm} {g : Nat} {cap : Nat} (h : DY K w p S (some ⟨g, 0, none⟩) cap) {i : Nat} (hi : i < S.n) (z : Int) :
    DY K (w.setCell ⟨g, i * 22 + 10, none⟩ (.int .i64 z)) p (S.setN i { S.nd i with host := z }) (some ⟨g, 0, none⟩) cap ∧ Kept K w (w.setCell ⟨g, i * 22 + 10, none⟩ (.int .i64 z)) :=
  h.set hi (by omega) rfl rfl (fun j => by simp only [Dm.setN]; split <;> simp_all) (fun j aa ac hj => by simp only [Dm.cells, Dm.setN, if_neg hj]) (fun aa ac => by simp only [Dm.cells, Dm.setN, if_pos]; rfl)
theorem DY.setNcontent {K : Nat → Prop} {w : World} {p : Nat} {S : Dm} {g : Nat} {cap : Nat} (h : DY K w p S (some ⟨g, 0, none⟩) cap) {i : Nat} (hi : i < S.n) (z : Int) :
    DY K (w.setCell ⟨g, i * 22 + 11, none⟩ (.int .i64 z)) p (S.setN i { S.nd i with content := z }) (some ⟨g, 0, none⟩) cap ∧ Kept K w (w.setCell ⟨g, i * 22 + 11, none⟩ (.int .i64 z)) :=
  h.set hi (by omega) rfl rfl (fun j => by simp only [Dm.setN]; split <;> simp_all) (fun j aa ac hj => by simp only [Dm.cells, Dm.setN, if_neg hj]) (fun aa ac => by simp only [Dm.cells, Dm.setN, if_pos]; rfl)
theorem DY.setNdata {K : Nat → Prop} {w : World} {p : Nat} {S : Dm} {g : Nat} {cap : Nat} (h : DY K w p S (some ⟨g, 0, none⟩) cap) {i : Nat} (hi : i < S.n) (z : List UInt8) :
    DY K (w.setCell ⟨g, i * 22 + 2, none⟩ (sv z)) p (S.setN i { S.nd i with data := z }) (some ⟨g, 0, none⟩) cap ∧ Kept K w (w.setCell ⟨g, i * 22 + 2, none⟩ (sv z)) :=
  h.set hi (by omega) rfl rfl (fun j => by simp only [Dm.setN]; split <;> simp_all) (fun j aa ac hj => by simp only [Dm.cells, Dm.setN, if_neg hj]) (fun aa ac => by simp only [Dm.cells, Dm.setN, if_pos]; rfl)
end Go.Proofs.YtbhfnbplbkncmaaGreat

namespace Go.Proofs.YtbhfnbplbkncmaaGreat
open Go.RowKit
set_option linter.unusedVariables false

/-- A func value that tells where a node's links lie. -/
def ChV (p o : Nat) (v : Value) : Prop :=
  ∃ f caps, v = .func (.func f) caps #[] ∧ (∀ args X, (callFunc f args).run Tryz.prog X = .ok (.enter f args) X) ∧
    ∀ (X : World) (g n cap i : Nat), X.cell? ⟨p, 1, none⟩ = some (.slice (some ⟨g, 0, none⟩) n cap) → i < n → n ≤ 1000000000 → Calls Tryz.prog f (caps ++ #[.int .i64 (i : Int)]) X fun e Y => e = .returned (.pointer (some ⟨g, i * 22 + o, none⟩)) ∧ Y = X
set_option maxRecDepth 20000 in
theorem placeOf_any (p g n cap i : Nat) (w : World) (hc : w.cell? ⟨p, 1, none⟩ = some (.slice (some ⟨g, 0, none⟩) n cap)) (hi : i < n) (hn : n ≤ 1000000000) :
    Calls Tryz.prog 139 #[.pointer (some ⟨p, 0, none⟩), .int .i64 (i : Int)] w fun e w' => e = .returned (.pointer (some ⟨g, i * 22 + 12, none⟩)) ∧ w' = w := by
  go_enter Tryz.func139, Tryz.ntmps139
  go_wp2
  go_ret
  exact ⟨rfl, rfl⟩
set_option maxRecDepth 20000 in
theorem giftOf_any (p g n cap i : Nat) (w : World) (hc : w.cell? ⟨p, 1, none⟩ = some (.slice (some ⟨g, 0, none⟩) n cap)) (hi : i < n) (hn : n ≤ 1000000000) :
    Calls Tryz.prog 189 #[.pointer (some ⟨p, 0, none⟩), .int .i64 (i : Int)] w fun e w' => e = .returned (.pointer (some ⟨g, i * 22 + 17, none⟩)) ∧ w' = w := by
  go_enter Tryz.func189, Tryz.ntmps189
  go_wp2
  go_ret
  exact ⟨rfl, rfl⟩
abbrev chP (p : Nat) : Value := .func (.func 139) #[.pointer (some ⟨p, 0, none⟩)] #[]
abbrev chG (p : Nat) : Value := .func (.func 189) #[.pointer (some ⟨p, 0, none⟩)] #[]
theorem kids_any (p : Nat) (w : World) : Calls Tryz.prog 78 #[.pointer (some ⟨p, 0, none⟩)] w fun e w' => e = .returned (chP p) ∧ w' = w := by
  go_enter Tryz.func78, Tryz.ntmps78
  go_wp2
  go_ret
  exact ⟨rfl, rfl⟩
theorem gifts_any (p : Nat) (w : World) : Calls Tryz.prog 165 #[.pointer (some ⟨p, 0, none⟩)] w fun e w' => e = .returned (chG p) ∧ w' = w := by
  go_enter Tryz.func165, Tryz.ntmps165
  go_wp2
  go_ret
  exact ⟨rfl, rfl⟩

set_option maxRecDepth 20000 in
theorem at_yes (p g n cap i : Nat) (w : World) (hc : w.cell? ⟨p, 1, none⟩ = some (.slice (some ⟨g, 0, none⟩) n cap)) (hi : i < n) (hn : n ≤ 1000000000) :
    Calls Tryz.prog 76 #[.pointer (some ⟨p, 0, none⟩), .int .i64 (i : Int)] w fun e w' => e = .returned (.pointer (some ⟨g, i * 22, none⟩)) ∧ w' = w := by
  go_enter Tryz.func76, Tryz.ntmps76
  go_wp2
  go_ret
  exact ⟨rfl, rfl⟩
set_option maxRecDepth 20000 in
theorem at_no (p n cap : Nat) (ga : Option Addr) (i : Int) (w : World) (hc : w.cell? ⟨p, 1, none⟩ = some (.slice ga n cap)) (hi : i < 0 ∨ (n : Int) ≤ i) (hn : n ≤ 1000000000) :
    Calls Tryz.prog 76 #[.pointer (some ⟨p, 0, none⟩), .int .i64 i] w fun e w' => e = .returned (.pointer none) ∧ w' = w := by
  rcases hi with hi | hi
  · have h1 : decide (i < 0) = true := decide_eq_true hi
    go_enter Tryz.func76, Tryz.ntmps76
    go_wp2
    go_ret
    exact ⟨rfl, rfl⟩
  · have h1 : decide (i < 0) = false := decide_eq_false (by omega)
    have h2 : decide (i ≥ (n : Int)) = true := decide_eq_true (by omega)
    go_enter Tryz.func76, Tryz.ntmps76
    go_wp2
    go_ret
    exact ⟨rfl, rfl⟩
end Go.Proofs.YtbhfnbplbkncmaaGreat
