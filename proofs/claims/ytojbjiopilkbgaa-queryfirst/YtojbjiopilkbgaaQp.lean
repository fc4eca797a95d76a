/-
  Elements that are sought: as plain functions on a document.
-/
import Derived.Test.YtojbjiopilkbgaaO1
namespace Go.Proofs.Ytojbjiopilkbgaa
open Go.RowKit
set_option linter.unusedVariables false
def elB (x : Nd) : Bool := decide (x.kind = 1)
def namB (nm : List UInt8) (x : Nd) : Bool := decide (x.kind = 1) && decide (x.name = nm)
def isA (nm v : List UInt8) (a : Atr) : Bool := decide (a.name = nm) && decide (a.value = v)
def havB (nm v : List UInt8) (x : Nd) : Bool := decide (x.kind = 1) && x.attrs.any (isA nm v)
def qF (M : Dm) (P : Nd → Bool) (i : Int) (x : Nat) : Bool := !decide ((x : Int) = i) && P (M.nd x)
/-- What is sought in a tree, but its root. -/
def qL (M : Dm) (R : Nat → List Nat) (P : Nd → Bool) (i : Int) : List Nat := (trI M.n R i).filter (qF M P i)
def elsL (M : Dm) (R : Nat → List Nat) (i : Int) : List Nat := ((trI M.n R i).drop 1).filter fun x => elB (M.nd x)
def attL (M : Dm) (nm v : List UInt8) (x : Nat) : List Nat := ((M.nd x).attrs.filter (isA nm v)).map fun _ => x
section
variable {M : Dm} {R G : Nat → List Nat} {rk : Nat → Nat}
theorem qL_len (h : Only M.n R rk) (P : Nd → Bool) (i : Int) : (qL M R P i).length ≤ M.n := Nat.le_trans (List.length_filter_le _ _) (trI_len h i)
theorem drop_eq (h : Only M.n R rk) (P : Nd → Bool) (i : Int) : ((trI M.n R i).drop 1).filter (fun x => P (M.nd x)) = qL M R P i := by
  unfold qL
  by_cases c : i < 0 ∨ (M.n : Int) ≤ i
  · rw [trI_no c]; rfl
  · obtain ⟨k, hk, rfl⟩ : ∃ k : Nat, k < M.n ∧ i = (k : Int) := ⟨i.toNat, by omega, by omega⟩
    have hnd := tr_nodup h _ k hk (Nat.lt_succ_self _)
    rw [trI_in hk]
    rw [tr_eq h.falls hk] at hnd ⊢
    obtain ⟨rest, hr⟩ : ∃ r, (R k).flatMap (tr M.n R) = r := ⟨_, rfl⟩
    rw [hr] at hnd ⊢
    have h0 := (List.nodup_cons.1 hnd).1
    have e1 : qF M P (k : Int) k = false := by unfold qF; simp
    rw [List.drop_succ_cons, List.drop_zero, List.filter_cons_of_neg (by rw [e1]; decide)]
    refine List.filter_congr fun x hx => ?_
    have hne : x ≠ k := fun e => h0 (e ▸ hx)
    unfold qF
    rw [decide_eq_false (by omega : ¬ (x : Int) = (k : Int))]
    rfl
theorem els_eq (h : Only M.n R rk) (i : Int) : elsL M R i = qL M R elB i := drop_eq h elB i
theorem qL_and (P Q : Nd → Bool) (i : Int) (hQ : ∀ x, P x = (elB x && Q x)) : (qL M R elB i).filter (fun x => Q (M.nd x)) = qL M R P i := by
  unfold qL
  rw [List.filter_filter]
  refine List.filter_congr fun x _ => ?_
  unfold qF
  rw [hQ]
  cases elB (M.nd x) <;> cases Q (M.nd x) <;> cases decide ((x : Int) = i) <;> rfl
theorem nam_eq (nm : List UInt8) (i : Int) : (qL M R elB i).filter (fun x => decide ((M.nd x).name = nm)) = qL M R (namB nm) i := qL_and (namB nm) (fun y => decide (y.name = nm)) i fun x => rfl
theorem allW_no {ahead : List (List UInt8)} : ∀ {l : List Atr}, allW ahead l = true → ∀ a ∈ l, a.name ∉ ahead
  | [], _, a, h => by cases h
  | b :: r, hw, a, h => by
    unfold allW at hw
    rw [Bool.and_eq_true, Bool.and_eq_true] at hw
    rcases List.mem_cons.1 h with rfl | h
    · intro hm
      have := hw.1.2
      rw [List.contains_iff_mem.2 hm] at this
      cases this
    · exact fun hm => allW_no hw.2 a h (List.mem_cons_of_mem _ hm)
theorem allW_tail {ahead : List (List UInt8)} {b : Atr} {r : List Atr} (h : allW ahead (b :: r) = true) : allW (b.name :: ahead) r = true := by
  unfold allW at h
  rw [Bool.and_eq_true] at h
  exact h.2
theorem one_att (nm v : List UInt8) (x : Nat) : ∀ (l : List Atr) (ahead : List (List UInt8)), allW ahead l = true → (l.filter (isA nm v)).map (fun _ => x) = if l.any (isA nm v) = true then [x] else []
  | [], _, _ => rfl
  | b :: r, ahead, h => by
    have ht := allW_tail h
    have ih := one_att nm v x r _ ht
    by_cases hb : isA nm v b = true
    · have hno : r.any (isA nm v) = false := by
        rw [Bool.eq_false_iff]
        intro ha
        obtain ⟨a, ha1, ha2⟩ := List.any_eq_true.1 ha
        have h1 := allW_no ht a ha1
        unfold isA at hb ha2
        rw [Bool.and_eq_true, decide_eq_true_iff, decide_eq_true_iff] at hb ha2
        exact h1 (by rw [ha2.1, ← hb.1]; exact List.mem_cons_self ..)
      rw [hno] at ih
      rw [List.filter_cons_of_pos hb, List.map_cons, ih, List.any_cons, hb]
      rfl
    · rw [List.filter_cons_of_neg hb, ih, List.any_cons, Bool.eq_false_iff.2 hb, Bool.false_or]
theorem att_eq (hc : ∀ x, x < M.n → (M.nd x).kind = 1 → soundA (M.nd x).attrs = true) (h : Only M.n R rk) (nm v : List UInt8) (i : Int) : (elsL M R i).flatMap (attL M nm v) = qL M R (havB nm v) i := by
  rw [els_eq h]
  have h2 := qL_and (M := M) (R := R) (havB nm v) (fun y => y.attrs.any (isA nm v)) i (fun x => rfl)
  rw [← h2]
  have hin : ∀ x ∈ qL M R elB i, soundA (M.nd x).attrs = true := fun x hx => by
    obtain ⟨h3, h4⟩ := List.mem_filter.1 hx
    unfold qF at h4
    rw [Bool.and_eq_true] at h4
    refine hc x ?_ (of_decide_eq_true h4.2)
    by_cases c : i < 0 ∨ (M.n : Int) ≤ i
    · rw [trI_no c] at h3; cases h3
    · obtain ⟨k, hk, rfl⟩ : ∃ k : Nat, k < M.n ∧ i = (k : Int) := ⟨i.toNat, by omega, by omega⟩
      rw [trI_in hk] at h3
      exact tr_lt h.falls _ k hk x h3
  revert hin
  generalize qL M R elB i = L
  intro hin
  induction L with
  | nil => rfl
  | cons x r ih =>
    have hx := hin x (List.mem_cons_self ..)
    have e : attL M nm v x = if (M.nd x).attrs.any (isA nm v) = true then [x] else [] := by
      unfold soundA at hx
      rw [Bool.and_eq_true] at hx
      exact one_att nm v x _ [] hx.2
    rw [List.flatMap_cons, ih fun y hy => hin y (List.mem_cons_of_mem _ hy), e]
    by_cases c : (M.nd x).attrs.any (isA nm v) = true
    · simp [c]
    · simp [c]
/-- The nearest of a name, upwards. -/
inductive Clo (M : Dm) (nm : List UInt8) : Int → Int → Prop
  | out {z : Int} : z < 0 ∨ (M.n : Int) ≤ z → Clo M nm z (-1)
  | here {k : Nat} : k < M.n → namB nm (M.nd k) = true → Clo M nm (k : Int) (k : Int)
  | up {k : Nat} {c : Int} : k < M.n → namB nm (M.nd k) = false → Clo M nm (M.pl k).up c → Clo M nm (k : Int) c
theorem Clo.one {nm : List UInt8} {z c d : Int} (h : Clo M nm z c) : Clo M nm z d → c = d := by
  induction h with
  | out hz =>
    intro h'
    cases h' with
    | out => rfl
    | here hk _ => omega
    | up hk _ _ => omega
  | @here k hk hn =>
    intro h'
    generalize hz : (k : Int) = z' at h'
    cases h' with
    | out ho => omega
    | @here j hj _ => first | exact hz | rfl
    | @up j _ hj hn' _ =>
      have : k = j := by omega
      subst this
      rw [hn] at hn'; cases hn'
  | @up k _ hk hn _ ih =>
    intro h'
    generalize hz : (k : Int) = z' at h'
    cases h' with
    | out ho => omega
    | @here j hj hn' =>
      have : k = j := by omega
      subst this
      rw [hn'] at hn; cases hn
    | @up j _ hj _ h2 =>
      have : k = j := by omega
      subst this
      exact ih h2
theorem Clo.ex (h : Good M R rk) (nm : List UInt8) (z : Int) : ∃ c, Clo M nm z c := by
  have key : ∀ (f i : Nat), rk i < f → i < M.n → ∃ c, Clo M nm (i : Int) c := by
    intro f
    induction f with
    | zero => exact fun i h => absurd h (Nat.not_lt_zero _)
    | succ f ih =>
      intro i hi hl
      cases hb : namB nm (M.nd i) with
      | true => exact ⟨_, .here hl hb⟩
      | false =>
        rcases h.wf.inn i hl with e | ⟨u, hu, e, hm⟩
        · exact ⟨-1, .up hl hb (by rw [e]; exact .out (.inl (by omega)))⟩
        · have h1 := h.rk_up hl e
          obtain ⟨c, hc⟩ := ih u (by omega) hu
          exact ⟨c, .up hl hb (by rw [e]; exact hc)⟩
  by_cases c : z < 0 ∨ (M.n : Int) ≤ z
  · exact ⟨-1, .out c⟩
  · obtain ⟨k, hk, rfl⟩ : ∃ k : Nat, k < M.n ∧ z = (k : Int) := ⟨z.toNat, by omega, by omega⟩
    exact key _ k (Nat.lt_succ_self _) hk
end
end Go.Proofs.Ytojbjiopilkbgaa
