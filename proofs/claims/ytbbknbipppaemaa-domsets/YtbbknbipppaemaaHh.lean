/-
  The walk of DomSets.
-/
import Derived.Test.YtbbknbipppaemaaHg
import Derived.Test.YtbbknbipppaemaaOn
namespace Go.Proofs.Ytbbknbipppaemaa
open Go.RowKit
set_option linter.unusedVariables false

theorem setN_same (M : Dm) (i : Nat) (x : Nd) : (M.setN i x).nd i = x := by
  show (if i = i then x else M.nd i) = x
  exact if_pos rfl
theorem setN_ne (M : Dm) {i j : Nat} (x : Nd) (h : j ≠ i) : (M.setN i x).nd j = M.nd j := by
  show (if j = i then x else M.nd j) = M.nd j
  exact if_neg h
/-- The document of the walk: its one element, and what is kept of it. -/
structure SS (M : Dm) (R : Nat → List Nat) : Prop where
  n2 : M.n = 2
  wf : WF M.n M.pl R
  kind : (M.nd 1).kind = 1
  name : (M.nd 1).name = divNm
  few : Few M
  snd : soundA (M.nd 1).attrs = true
  sz : ∀ x ∈ (M.nd 1).attrs, x.name.length ≤ 5000 ∧ x.value.length ≤ 5000
theorem soundA_len {l : List Atr} (h : soundA l = true) : l.length ≤ 50 := by
  unfold soundA at h
  simp only [Bool.and_eq_true] at h
  exact of_decide_eq_true h.1
theorem SS.set {M : Dm} {R : Nat → List Nat} (h : SS M R) {l : List Atr} (hs : soundA l = true) (hz : ∀ x ∈ l, x.name.length ≤ 5000 ∧ x.value.length ≤ 5000) : SS (M.setN 1 { M.nd 1 with attrs := l }) R := by
  have e : (M.setN 1 { M.nd 1 with attrs := l }).nd 1 = { M.nd 1 with attrs := l } := setN_same _ _ _
  refine ⟨h.n2, h.wf, by rw [e]; exact h.kind, by rw [e]; exact h.name, fun i hi => ?_, by rw [e]; exact hs, by rw [e]; exact hz⟩
  by_cases c : i = 1
  · subst c
    rw [e]
    have := soundA_len hs
    show l.length ≤ 1000
    omega
  · have e2 : (M.setN 1 { M.nd 1 with attrs := l }).nd i = M.nd i := setN_ne _ _ c
    rw [e2]
    exact h.few i hi
theorem SS.attrs (M : Dm) (l : List Atr) : ((M.setN 1 { M.nd 1 with attrs := l }).nd 1).attrs = l := by
  have e : (M.setN 1 { M.nd 1 with attrs := l }).nd 1 = { M.nd 1 with attrs := l } := setN_same _ _ _
  rw [e]
theorem SS.first {M : Dm} {R : Nat → List Nat} {rk : Nat → Nat} (hG : Good M R rk) (hD : Divs M 1) : SS M R := by
  have e := hD.divs 1 (by omega) (by omega)
  refine ⟨hD.len, hG.wf, by rw [e]; rfl, by rw [e]; rfl, hG.few, by rw [e]; rfl, fun x hx => by rw [e] at hx; cases hx⟩
/-- Set, of that element. -/
theorem set_SS (K : Nat → Prop) (p : Nat) (M : Dm) (R : Nat → List Nat) (a : Atr) (hS : SS M R) (ha : a.name.length ≤ 5000 ∧ a.value.length ≤ 5000) (w : World) (h : DX K w p M) :
    Calls Try.prog 10 #[.pointer (some ⟨p, 0, none⟩), .int .i64 1, .string ⟨a.name.toArray⟩, .string ⟨a.value.toArray⟩] w fun e w' =>
      ((soundA (setA (M.nd 1).attrs a) = true ∧ e = .returned (.int .u16 0) ∧ DX K w' p (M.setN 1 { M.nd 1 with attrs := setA (M.nd 1).attrs a }) ∧ SS (M.setN 1 { M.nd 1 with attrs := setA (M.nd 1).attrs a }) R) ∨
        (soundA (setA (M.nd 1).attrs a) = false ∧ e = .returned (.int .u16 82) ∧ DX K w' p M)) ∧ Kept K w w' := by
  have e1 : (⟨a.name.toArray⟩ : ByteArray).toList = a.name := by rw [ByteArray.toList_eq]
  have e2 : (⟨a.value.toArray⟩ : ByteArray).toList = a.value := by rw [ByteArray.toList_eq]
  have r := set_in K p 1 M ⟨a.name.toArray⟩ ⟨a.value.toArray⟩ w h (by rw [hS.n2]; omega) (by rw [hS.n2]; omega) hS.kind (by have := soundA_len hS.snd; omega) (fun x hx => by have := hS.sz x hx; omega) (by rw [ba_size]; omega) (by rw [ba_size]; omega)
  rw [e1, e2, hS.name, sound_div_iff] at r
  refine r.mono fun e w' hh => ⟨?_, hh.2⟩
  rcases hh.1 with ⟨q1, q2, q3⟩ | ⟨q1, q2, q3⟩
  · refine .inl ⟨q1, q2, q3, hS.set q1 fun x hx => ?_⟩
    rcases setA_mem _ _ _ hx with h | h
    · exact hS.sz x h
    · rw [h]; exact ha
  · exact .inr ⟨q1, q2, q3⟩
/-- Drop, of that element. -/
theorem drop_SS (K : Nat → Prop) (p : Nat) (M : Dm) (R : Nat → List Nat) (nm : List UInt8) (hS : SS M R) (w : World) (h : DX K w p M) :
    Calls Try.prog 12 #[.pointer (some ⟨p, 0, none⟩), .int .i64 1, .string ⟨nm.toArray⟩] w fun e w' =>
      ((∃ k, ∃ hk : k < (M.nd 1).attrs.length, (M.nd 1).attrs[k].name = nm ∧ (∀ x ∈ (M.nd 1).attrs.take k, x.name ≠ nm) ∧ e = .returned (.int .u16 0) ∧ DX K w' p (M.setN 1 { M.nd 1 with attrs := (M.nd 1).attrs.eraseIdx k })) ∨
        ((∀ x ∈ (M.nd 1).attrs, x.name ≠ nm) ∧ e = .returned (.int .u16 82) ∧ DX K w' p M)) ∧ Kept K w w' := by
  have e1 : (⟨nm.toArray⟩ : ByteArray).toList = nm := by rw [ByteArray.toList_eq]
  have r := drop_in K p 1 M ⟨nm.toArray⟩ w h (by rw [hS.n2]; omega) (by rw [hS.n2]; omega) hS.kind (by have := soundA_len hS.snd; omega)
  rw [e1] at r
  exact r
theorem allW_erase : ∀ (l : List Atr) (L : List (List UInt8)) (k : Nat), allW L l = true → ∀ L', (∀ x ∈ L', x ∈ L) → allW L' (l.eraseIdx k) = true
  | [], L, k, h, L', hL => by simp [allW]
  | x :: r, L, 0, h, L', hL => by
    simp only [allW, Bool.and_eq_true] at h
    have key : ∀ (r : List Atr) (L L' : List (List UInt8)), allW L r = true → (∀ x ∈ L', x ∈ L) → allW L' r = true := by
      intro r
      induction r with
      | nil => intro L L' _ _; rfl
      | cons y s ih =>
        intro L L' h hL
        simp only [allW, Bool.and_eq_true] at h ⊢
        refine ⟨⟨h.1.1, ?_⟩, ih _ _ h.2 fun z hz => ?_⟩
        · have h2 := h.1.2
          simp at h2 ⊢
          exact fun hh => h2 (hL _ hh)
        · rcases List.mem_cons.1 hz with rfl | hz
          · exact List.mem_cons_self ..
          · exact List.mem_cons_of_mem _ (hL z hz)
    exact key r _ L' h.2 (fun z hz => List.mem_cons_of_mem _ (hL z hz))
  | x :: r, L, k + 1, h, L', hL => by
    simp only [allW, Bool.and_eq_true] at h
    show allW L' (x :: r.eraseIdx k) = true
    simp only [allW, Bool.and_eq_true]
    refine ⟨⟨h.1.1, ?_⟩, allW_erase r _ k h.2 _ fun z hz => ?_⟩
    · have h2 := h.1.2
      simp at h2 ⊢
      exact fun hh => h2 (hL _ hh)
    · rcases List.mem_cons.1 hz with rfl | hz
      · exact List.mem_cons_self ..
      · exact List.mem_cons_of_mem _ (hL z hz)
theorem SS.erase {M : Dm} {R : Nat → List Nat} (h : SS M R) (k : Nat) : SS (M.setN 1 { M.nd 1 with attrs := (M.nd 1).attrs.eraseIdx k }) R := by
  refine h.set ?_ (fun x hx => h.sz x (List.mem_of_mem_eraseIdx hx))
  have hs := h.snd
  unfold soundA at hs ⊢
  simp only [Bool.and_eq_true] at hs ⊢
  refine ⟨decide_eq_true ?_, allW_erase _ [] k hs.2 [] (fun x hx => hx)⟩
  have h1 := of_decide_eq_true hs.1
  have h2 := List.length_eraseIdx_le (M.nd 1).attrs k
  omega
end Go.Proofs.Ytbbknbipppaemaa
