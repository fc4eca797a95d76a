/-
  Doc.put and Doc.Insert.
-/
import Derived.Test.YtmplhphcdgpigaaCI
import Derived.Test.YtmplhphcdgpigaaCD
namespace Go.Proofs.Ytmplhphcdgpigaa
open Go.RowKit
set_option linter.unusedVariables false

/-- A node ahead of bef (-1: at the end). -/
def insB (l : List Nat) (i : Nat) (bef : Int) : List Nat := l.takeWhile (fun k : Nat => decide ((k : Int) ≠ bef)) ++ i :: l.dropWhile (fun k : Nat => decide ((k : Int) ≠ bef))
def putR (L : Nat → Lk) (R : Nat → List Nat) (up i : Nat) (bef : Int) : Nat → List Nat := updR (outR L R i) up (insB (outR L R i up) i bef)
theorem at_of {l : List Nat} {bef : Int} {a b : List Nat} (h : At l bef a b) (hn : l.Nodup) : a = l.takeWhile (fun k : Nat => decide ((k : Int) ≠ bef)) ∧ b = l.dropWhile (fun k : Nat => decide ((k : Int) ≠ bef)) := by
  cases h with
  | last e =>
    subst e
    have : ∀ l : List Nat, l.takeWhile (fun k : Nat => decide ((k : Int) ≠ -1)) = l ∧ l.dropWhile (fun k : Nat => decide ((k : Int) ≠ -1)) = [] := by
      intro l
      induction l with
      | nil => exact ⟨rfl, rfl⟩
      | cons x r ih =>
        have e : decide ((x : Int) ≠ -1) = true := decide_eq_true (by omega)
        rw [List.takeWhile_cons, List.dropWhile_cons, e, if_pos rfl, if_pos rfl, ih.1]
        exact ⟨rfl, ih.2⟩
    exact ⟨(this l).1.symm, (this l).2.symm⟩
  | @mid _ b' m e el =>
    subst e
    subst el
    have : ∀ a : List Nat, (a ++ m :: b').Nodup → (a ++ m :: b').takeWhile (fun k : Nat => decide ((k : Int) ≠ (m : Int))) = a ∧ (a ++ m :: b').dropWhile (fun k : Nat => decide ((k : Int) ≠ (m : Int))) = m :: b' := by
      intro a
      induction a with
      | nil =>
        intro _
        have e : decide ((m : Int) ≠ (m : Int)) = false := decide_eq_false (fun h => h rfl)
        rw [List.nil_append, List.takeWhile_cons, List.dropWhile_cons, e]
        exact ⟨rfl, rfl⟩
      | cons x r ih =>
        intro hnd
        have hnd' := List.nodup_cons.1 hnd
        have hx : x ≠ m := fun e => hnd'.1 (e ▸ List.mem_append_right _ (List.mem_cons_self ..))
        have e : decide ((x : Int) ≠ (m : Int)) = true := decide_eq_true (by omega)
        rw [List.cons_append, List.takeWhile_cons, List.dropWhile_cons, e, if_pos rfl, if_pos rfl, (ih hnd'.2).1]
        exact ⟨rfl, (ih hnd'.2).2⟩
    exact ⟨(this a hn).1.symm, (this a hn).2.symm⟩
theorem WF.putR {n : Nat} {L : Nat → Lk} {R : Nat → List Nat} (h : WF n L R) {up i : Nat} (hu : up < n) (hi : i < n) {bef : Int} (hb : BefOk n L up i bef) : WF n (putL L up i bef) (putR L R up i bef) := by
  obtain ⟨a, b, ha⟩ := put_at h hu hi hb
  have := h.putOk hu hi ha
  obtain ⟨e1, e2⟩ := at_of ha ((h.out hi).nodup up hu)
  unfold Ytmplhphcdgpigaa.putR insB
  rw [← e1, ← e2]
  exact this
theorem put_up {L : Nat → Lk} {up i k : Nat} {bef : Int} (h : k ≠ i) : (putL L up i bef k).up = (L k).up := by
  unfold putL inL
  dsimp only
  rw [if_neg h, out_upne h]
theorem put_up_same {L : Nat → Lk} {up i : Nat} {bef : Int} : (putL L up i bef i).up = (up : Int) := by
  unfold putL inL
  dsimp only
  rw [if_pos rfl]
theorem WF.next_up {n : Nat} {L : Nat → Lk} {R : Nat → List Nat} (h : WF n L R) {i u : Nat} (hi : i < n) (hu : (L i).up = (u : Int)) : (L i).next = -1 ∨ ∃ m : Nat, m < n ∧ m ≠ i ∧ (L i).next = (m : Int) ∧ (L m).up = (u : Int) := by
  rcases h.inn i hi with h0 | ⟨v, hv, h1, h2⟩
  · omega
  have : v = u := by omega
  subst this
  obtain ⟨a, b, e⟩ := mem_split h2
  obtain ⟨hp, hq⟩ := h.split hv e
  have hnd := h.nodup v hv
  have hib : i ∉ b := by
    rw [e] at hnd
    exact (List.nodup_cons.1 (List.nodup_append.1 hnd).2.1).1
  rw [hq]
  rcases hdD_or b with ⟨-, e1⟩ | ⟨m, m1, e1⟩
  · exact .inl e1
  · have hm : m ∈ R v := by rw [e]; exact List.mem_append_right _ (List.mem_cons_of_mem _ m1)
    exact .inr ⟨m, h.lt v hv m hm, fun e => hib (e ▸ m1), e1, h.up hv hm⟩
/-- Nodes one by one. -/
def putsL (L : Nat → Lk) (up : Nat) (bef : Int) : List Nat → Nat → Lk
  | [] => L
  | k :: r => putsL (putL L up k bef) up bef r
def putsR (L : Nat → Lk) (R : Nat → List Nat) (up : Nat) (bef : Int) : List Nat → Nat → List Nat
  | [] => R
  | k :: r => putsR (putL L up k bef) (putR L R up k bef) up bef r
/-- What Insert does to the links: of a Fragment what is in it. -/
def putD (S : Dm) (R : Nat → List Nat) (up i : Nat) (bef : Int) : Nat → Lk := if (S.nd i).kind = 4 then putsL S.pl up bef (R i) else putL S.pl up i (if bef = (i : Int) then (S.pl i).next else bef)
def putDR (S : Dm) (R : Nat → List Nat) (up i : Nat) (bef : Int) : Nat → List Nat := if (S.nd i).kind = 4 then putsR S.pl R up bef (R i) else putR S.pl R up i (if bef = (i : Int) then (S.pl i).next else bef)

/-- The next one of a Fragment's Kids. -/
structure FrS (n up i : Nat) (bef : Int) (L : Nat → Lk) (R : Nat → List Nat) (rest : List Nat) : Prop where
  wf : WF n L R
  row : R i = rest
  hu : up < n
  hi : i < n
  ne : up ≠ i
  no : ∀ k ∈ rest, k ≠ i ∧ k ≠ up
  bef : bef = -1 ∨ ∃ m : Nat, m < n ∧ bef = (m : Int) ∧ (L m).up = (up : Int)
theorem FrS.ok {n up i : Nat} {bef : Int} {L : Nat → Lk} {R : Nat → List Nat} {k : Nat} {rest : List Nat} (h : FrS n up i bef L R (k :: rest)) : k < n ∧ up ≠ k ∧ BefOk n L up k bef := by
  have hk : k ∈ R i := by rw [h.row]; exact List.mem_cons_self ..
  have hup := h.wf.up h.hi hk
  refine ⟨h.wf.lt i h.hi k hk, fun e => (h.no k (List.mem_cons_self ..)).2 e.symm, ?_⟩
  rcases h.bef with hb | ⟨m, hm, e, hmu⟩
  · exact .inl hb
  · exact .inr ⟨m, hm, fun e' => by subst e'; rw [hup] at hmu; exact h.ne (by omega), e, hmu⟩
theorem FrS.next {n up i : Nat} {bef : Int} {L : Nat → Lk} {R : Nat → List Nat} {k : Nat} {rest : List Nat} (h : FrS n up i bef L R (k :: rest)) : FrS n up i bef (putL L up k bef) (Ytmplhphcdgpigaa.putR L R up k bef) rest := by
  obtain ⟨hk, huk, hb⟩ := h.ok
  have hkm : k ∈ R i := by rw [h.row]; exact List.mem_cons_self ..
  have hup := h.wf.up h.hi hkm
  refine ⟨h.wf.putR h.hu hk hb, ?_, h.hu, h.hi, h.ne, fun j hj => h.no j (List.mem_cons_of_mem _ hj), ?_⟩
  · unfold Ytmplhphcdgpigaa.putR
    rw [updR_ne _ _ (fun e => h.ne e.symm)]
    unfold outR
    rw [if_neg (by rw [hup]; omega), hup, Int.toNat_natCast, updR_same, h.row, List.erase_cons_head]
  · rcases hb with hb | ⟨m, hm, hmk, e, hmu⟩
    · exact .inl hb
    · exact .inr ⟨m, hm, e, by rw [put_up hmk]; exact hmu⟩
theorem FrS.all {n up i : Nat} {bef : Int} (rest : List Nat) : ∀ {L : Nat → Lk} {R : Nat → List Nat}, FrS n up i bef L R rest → WF n (putsL L up bef rest) (putsR L R up bef rest) := by
  induction rest with
  | nil => exact fun h => h.wf
  | cons k r ih => exact fun h => ih h.next
/-- What is asked ahead of a putting in. -/
structure PutOk (S : Dm) (R : Nat → List Nat) (up i : Nat) (bef : Int) : Prop where
  wf : WF S.n S.pl R
  hu : up < S.n
  hi : i < S.n
  ne : up ≠ i
  no : ∀ k ∈ R i, k ≠ i ∧ k ≠ up
  bef : bef = -1 ∨ ∃ m : Nat, m < S.n ∧ bef = (m : Int) ∧ (S.pl m).up = (up : Int)
theorem PutOk.fr {S : Dm} {R : Nat → List Nat} {up i : Nat} {bef : Int} (h : PutOk S R up i bef) : FrS S.n up i bef S.pl R (R i) := ⟨h.wf, rfl, h.hu, h.hi, h.ne, h.no, h.bef⟩
theorem PutOk.one {S : Dm} {R : Nat → List Nat} {up i : Nat} {bef : Int} (h : PutOk S R up i bef) : BefOk S.n S.pl up i (if bef = (i : Int) then (S.pl i).next else bef) := by
  by_cases c : bef = (i : Int)
  · rw [if_pos c]
    rcases h.bef with hb | ⟨m, hm, e, hmu⟩
    · omega
    · have : m = i := by omega
      subst this
      exact h.wf.next_up hm hmu
  · rw [if_neg c]
    rcases h.bef with hb | ⟨m, hm, e, hmu⟩
    · exact .inl hb
    · exact .inr ⟨m, hm, fun e' => c (by rw [e, e']), e, hmu⟩
theorem PutOk.out {S : Dm} {R : Nat → List Nat} {up i : Nat} {bef : Int} (h : PutOk S R up i bef) : WF S.n (putD S R up i bef) (putDR S R up i bef) := by
  unfold putD putDR
  by_cases c : (S.nd i).kind = 4
  · rw [if_pos c, if_pos c]; exact FrS.all _ h.fr
  · rw [if_neg c, if_neg c]; exact h.wf.putR h.hu h.hi h.one
theorem PutOk.of {S : Dm} {R : Nat → List Nat} {rk : Nat → Nat} {up i : Nat} {bef : Int} (hW : WF S.n S.pl R) (ha : Acy S rk) (hu : up < S.n) (hi : i < S.n) (hw : ¬ Wi S i up) (hb : bef = -1 ∨ ∃ m : Nat, m < S.n ∧ bef = (m : Int) ∧ (S.pl m).up = (up : Int)) : PutOk S R up i bef := by
  refine ⟨hW, hu, hi, fun e => hw (e ▸ .here), fun k hk => ?_, hb⟩
  have hup := hW.up hi hk
  have hp : parI S k = (i : Int) := by
    unfold parI
    rw [if_neg (by omega)]
    exact hup
  constructor
  · intro e
    subst e
    rcases ha k hi with h0 | ⟨m, _, h1, h2⟩
    · omega
    · have : m = k := by omega
      subst this
      omega
  · intro e
    subst e
    exact hw (.up hp .here)
end Go.Proofs.Ytmplhphcdgpigaa
