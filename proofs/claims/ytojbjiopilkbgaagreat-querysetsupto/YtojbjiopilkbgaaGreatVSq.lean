/-
  QuerySets: an attribute that is set, and taken away; what is found by it.
-/
import Derived.Test.YtojbjiopilkbgaaGreatVOr
namespace Go.Proofs.YtojbjiopilkbgaaGreat
open Go.RowKit Go.Sort
set_option linter.unusedVariables false
abbrev idN : List UInt8 := [105, 100]
theorem setA_any (l : List Atr) (nm v : List UInt8) : (setA l ⟨nm, v⟩).any (isA nm v) = true := by
  induction l with
  | nil => show (isA nm v ⟨nm, v⟩ || false) = true; unfold isA; simp
  | cons x r ih =>
    show (if x.name = nm then (⟨nm, v⟩ : Atr) :: r else x :: setA r ⟨nm, v⟩).any (isA nm v) = true
    by_cases c : x.name = nm
    · rw [if_pos c, List.any_cons]; unfold isA; simp
    · rw [if_neg c, List.any_cons, ih, Bool.or_true]
theorem allW_one {nm : List UInt8} : ∀ (l : List Atr) (ahead : List (List UInt8)) (j : Nat) (hj : j < l.length), zbz ahead l = true → l[j].name = nm → ∀ x ∈ l.eraseIdx j, x.name ≠ nm
  | [], _, j, hj, _, _ => absurd hj (Nat.not_lt_zero _)
  | b :: r, ahead, 0, hj, h, e => fun x hx => by
    have h1 := zly (zl0 h) x hx
    intro e2
    have e3 : b.name = nm := e
    exact h1 (by rw [e2, ← e3]; exact List.mem_cons_self ..)
  | b :: r, ahead, j + 1, hj, h, e => fun x hx => by
    have hjr : j < r.length := by simp at hj; omega
    have e' : r[j].name = nm := e
    rcases List.mem_cons.1 hx with rfl | hx
    · have h1 := zly (zl0 h) r[j] (List.getElem_mem hjr)
      intro e2
      exact h1 (by rw [e', ← e2]; exact List.mem_cons_self ..)
    · exact allW_one r _ j hjr (zl0 h) e' x hx
theorem setN_twice (M : Dm) (i : Nat) (x y : Nd) : (M.setN i x).setN i y = M.setN i y := by
  unfold Dm.setN
  congr 1
  funext k
  show (if k = i then y else (if k = i then x else M.nd k)) = if k = i then y else M.nd k
  by_cases c : k = i
  · simp [c]
  · simp [c]
theorem Zeb.endQ {M : Dm} {i t : Nat} (h : Zeb M i t) : (M.pl t).up = -1 := by
  induction h with
  | here h => exact h
  | up _ _ ih => exact ih
section
variable {M : Dm} {R G : Nat → List Nat} {rk : Nat → Nat}
/-- What Set and Drop of an id do. -/
theorem setQ (hI : Inv M R G rk) (hn : M.n ≤ 100000) {i : Nat} (hi : i < M.n) (T : ByteArray) (hT : T.size < 1000000) :
    (∃ z : Int, z ≠ 0 ∧ ∀ K w p, DX K w p M → Calls Tryz.prog 28 #[.pointer (some ⟨p, 0, none⟩), .int .i64 (i : Int), .string ⟨#[105, 100]⟩, .string T] w fun e w' => e = .returned (.int .u16 z) ∧ Kept K w w') ∨
    (∃ A1 A2, (M.nd i).kind = 1 ∧ A1.any (isA idN T.toList) = true ∧ A2.any (isA idN T.toList) = false ∧ Inv (M.setN i { M.nd i with attrs := A1 }) R G rk ∧ Inv (M.setN i { M.nd i with attrs := A2 }) R G rk ∧
      (∀ K w p, DX K w p M → Calls Tryz.prog 28 #[.pointer (some ⟨p, 0, none⟩), .int .i64 (i : Int), .string ⟨#[105, 100]⟩, .string T] w fun e w' => e = .returned (.int .u16 0) ∧ DX K w' p (M.setN i { M.nd i with attrs := A1 }) ∧ Kept K w w') ∧
      (∀ K w p, DX K w p (M.setN i { M.nd i with attrs := A1 }) → Calls Tryz.prog 48 #[.pointer (some ⟨p, 0, none⟩), .int .i64 (i : Int), .string ⟨#[105, 100]⟩] w fun e w' => e = .returned (.int .u16 0) ∧ DX K w' p (M.setN i { M.nd i with attrs := A2 }) ∧ Kept K w w')) := by
  by_cases h0 : zd2 M (i : Int) = 0
  · obtain ⟨k, hk, e, hk1⟩ := zjq h0
    have : i = k := by omega
    subst this
    have hs := (hI.core.el i hk hk1).2
    have hv := (hI.core.el i hk hk1).1
    have hfew := hI.core.few hk
    have hsz : ∀ x ∈ (M.nd i).attrs, x.name.length ≤ 1000000000 ∧ x.value.length ≤ 1000000000 := fun x hx => by have := hI.core.atr hk x hx; omega
    have pd := fun K w p h => zqr K p i M ⟨#[105, 100]⟩ T w h hk (by omega) hk1 (by omega) hsz (by decide) (by omega)
    rw [zmt hv, zjk [105, 100]] at pd
    cases hg : zax (setA (M.nd i).attrs ⟨[105, 100], T.toList⟩) with
    | false =>
      refine .inl ⟨82, by decide, fun K w p h => (pd K w p h).mono ?_⟩
      rintro e w' ⟨⟨c, -, -⟩ | ⟨-, rfl, hX⟩, hK⟩
      · rw [hg] at c; cases c
      · exact ⟨rfl, hK⟩
    | true =>
      have hinv : ∀ A, zax A = true → Inv (M.setN i { M.nd i with attrs := A }) R G rk := fun A hA => hI.setN hk rfl rfl rfl rfl rfl (fun _ => hA) (fun e => absurd hk1 e) (fun h5 => zht hk1 (zdc (x := M.nd i) hk1 (hI.ex.snd i hk h5)) hv hA) (hI.ex.okd i hk)
      have hI1 := hinv _ hg
      have hany := setA_any (M.nd i).attrs [105, 100] T.toList
      have pp : ∀ K w p, DX K w p M → Calls Tryz.prog 28 #[.pointer (some ⟨p, 0, none⟩), .int .i64 (i : Int), .string ⟨#[105, 100]⟩, .string T] w fun e w' => e = .returned (.int .u16 0) ∧ DX K w' p (M.setN i { M.nd i with attrs := setA (M.nd i).attrs ⟨[105, 100], T.toList⟩ }) ∧ Kept K w w' := fun K w p h => (pd K w p h).mono fun e w' => by
        rintro ⟨⟨-, rfl, hX⟩ | ⟨c, -, -⟩, hK⟩
        · exact ⟨rfl, hX, hK⟩
        · rw [hg] at c; cases c
      obtain ⟨A1, hA1⟩ : ∃ A, setA (M.nd i).attrs ⟨[105, 100], T.toList⟩ = A := ⟨_, rfl⟩
      rw [hA1] at hg hI1 hany pp
      obtain ⟨zf, hzf⟩ := Zcr.ex A1 [105, 100]
      have e1 : (M.setN i { M.nd i with attrs := A1 }).nd i = { M.nd i with attrs := A1 } := zap _ _ _
      have hl50 : A1.length ≤ 50 := zcy hg
      have dd := fun K w p h => zp2 K p i (M.setN i { M.nd i with attrs := A1 }) ⟨#[105, 100]⟩ w h hk (by show M.n ≤ _; omega) (by rw [e1]; exact hk1) (by rw [e1]; show A1.length ≤ _; omega)
      rw [zjk [105, 100]] at dd
      cases hzf with
      | no hno =>
        obtain ⟨x, hx1, hx2⟩ := List.any_eq_true.1 hany
        unfold isA at hx2
        rw [Bool.and_eq_true] at hx2
        exact absurd (of_decide_eq_true hx2.1) (hno x hx1)
      | @yes j hj en ha =>
        have hg2 := zel hg j
        refine .inr ⟨A1, A1.eraseIdx j, hk1, hany, ?_, hI1, hinv _ hg2, pp, fun K w p h => (dd K w p h).mono ?_⟩
        · rw [Bool.eq_false_iff]
          intro h
          obtain ⟨x, hx1, hx2⟩ := List.any_eq_true.1 h
          unfold isA at hx2
          rw [Bool.and_eq_true] at hx2
          unfold zax at hg
          rw [Bool.and_eq_true] at hg
          exact allW_one A1 [] j hj hg.2 en x hx1 (of_decide_eq_true hx2.1)
        · rintro e w' ⟨⟨j', hj', e1', ha', rfl, hX⟩ | ⟨hno, -, -⟩, hK⟩
          · have hj2 : j' < A1.length := by have := hj'; rw [e1] at this; exact this
            have e2' : A1[j'].name = [105, 100] := by have := e1'; simp only [e1] at this; exact this
            have ha2 : ∀ x ∈ A1.take j', x.name ≠ [105, 100] := by have := ha'; rw [e1] at this; exact this
            have := Zcr.one (.yes hj en ha) (.yes hj2 e2' ha2)
            have hjj : j = j' := by omega
            subst hjj
            rw [setN_twice, e1] at hX
            exact ⟨rfl, hX, hK⟩
          · rw [e1] at hno
            exact absurd en (hno _ (List.getElem_mem hj))
  · exact .inl ⟨zd2 M (i : Int), h0, fun K w p h => (zqy K p M (i : Int) ⟨#[105, 100]⟩ T w h (by omega) _ rfl h0).mono fun e w' ⟨h1, h2⟩ => ⟨h1, by rw [h2]; exact Kept.refl _ _⟩⟩
/-- One more is found, or one less. -/
theorem drop_len {Z : List Nat} {f g : Nat → Bool} {i : Nat} (hn : Z.Nodup) (hi : i ∈ Z) (hf : f i = true) (hg : ∀ k, g k = (f k && decide (k ≠ i))) : (Z.filter g).length + 1 = (Z.filter f).length ∧ i ∈ Z.filter f := by
  have hm : i ∈ Z.filter f := List.mem_filter.2 ⟨hi, hf⟩
  refine ⟨?_, hm⟩
  have e : Z.filter g = (Z.filter f).erase i := by
    rw [List.Nodup.erase_eq_filter (hn.filter f) i, List.filter_filter]
    refine List.filter_congr fun x _ => ?_
    rw [hg x, Bool.and_comm]
    by_cases c : x = i
    · subst c; simp
    · simp [c]
  have hp := List.length_pos_of_mem hm
  rw [e, List.length_erase_of_mem hm]
  omega
theorem sets_lens (hI : Inv M R G rk) {i t : Nat} (hi : i < M.n) (ht : t < M.n) (hT : Zeb M i t) (hup : (M.pl i).up ≠ -1) (nm v : List UInt8) (A1 A2 : List Atr) (hk : (M.nd i).kind = 1) (h1 : A1.any (isA nm v) = true) (h2 : A2.any (isA nm v) = false) :
    (qL (M.setN i { M.nd i with attrs := A2 }) R (zh8 nm v) (t : Int)).length + 1 = (qL (M.setN i { M.nd i with attrs := A1 }) R (zh8 nm v) (t : Int)).length ∧ i ∈ qL (M.setN i { M.nd i with attrs := A1 }) R (zh8 nm v) (t : Int) := by
  have hne : i ≠ t := fun e => by
    rw [← e] at hT
    exact hup hT.endQ
  have hm : i ∈ trI M.n R (t : Int) := by
    rw [zdp ht]
    exact (zjv hI.good.falls ht).2 (top_upR hI.good hT hi)
  have hnd : (trI M.n R (t : Int)).Nodup := by rw [zdp ht]; exact zgl hI.good.only _ t ht (Nat.lt_succ_self _)
  have hfi : qF (M.setN i { M.nd i with attrs := A1 }) (zh8 nm v) (t : Int) i = true := by
    unfold qF
    rw [zap, decide_eq_false (by omega : ¬ (i : Int) = (t : Int))]
    show (true && (decide ((M.nd i).kind = 1) && A1.any (isA nm v))) = true
    rw [hk, h1]; rfl
  refine drop_len hnd hm hfi fun k => ?_
  by_cases c : k = i
  · subst c
    rw [decide_eq_false (by simp : ¬ k ≠ k), Bool.and_false]
    unfold qF
    rw [zap]
    show (_ && (decide ((M.nd k).kind = 1) && A2.any (isA nm v))) = false
    rw [h2, Bool.and_false, Bool.and_false]
  · rw [decide_eq_true c, Bool.and_true]
    unfold qF
    rw [zau _ _ c, zau _ _ c]
end
end Go.Proofs.YtojbjiopilkbgaaGreat
