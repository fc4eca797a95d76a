/-
  What stays so (Good): rows, ways upwards, few attributes; behind Make and Insert.
-/
import Derived.Test.YtmplhphcdgpigaaCO
namespace Go.Proofs.Ytmplhphcdgpigaa
open Go.RowKit
set_option linter.unusedVariables false

structure Good (M : Dm) (R : Nat → List Nat) (rk : Nat → Nat) : Prop where
  wf : WF M.n M.pl R
  acy : Acy M rk
  few : Few M
theorem Good.new (limit : Nat) : Good (Dm.new limit) (fun _ => []) (fun _ => 0) := by
  have hpl : ∀ k, ((Dm.new limit).pl k) = Lk.nil := fun k => by
    show updL (fun _ => Lk.nil) 0 Lk.nil k = Lk.nil
    unfold updL
    split <;> rfl
  refine ⟨⟨fun u hu => by rw [hpl]; rfl, fun u hu => by rw [hpl]; rfl, fun u hu => trivial, fun u hu => List.nodup_nil, fun u hu i hi => (by cases hi), fun i hi => .inl (by rw [hpl]; rfl)⟩, fun k hk => .inl ?_, fun i hi => ?_⟩
  · have hk0 : k = 0 := by have : k < 0 + 1 := hk; omega
    subst hk0
    unfold parI
    rw [hpl]
    rfl
  · have hk0 : i = 0 := by have : i < 0 + 1 := hi; omega
    subst hk0
    show (0 : Nat) ≤ 1000
    omega
theorem add_par {M : Dm} {x : Nd} {k : Nat} (hk : k < M.n) : parI (M.add x) k = parI M k := by
  have c : ¬ k = M.n := by omega
  unfold parI
  simp only [Dm.add, updL, if_neg c]
theorem add_par_new {M : Dm} {x : Nd} : parI (M.add x) M.n = -1 := by
  unfold parI
  simp [Dm.add, updL, Lk.nil, Nd.new]
theorem Good.add {M : Dm} {R : Nat → List Nat} {rk : Nat → Nat} (h : Good M R rk) (x : Nd) (hx : x.attrs.length ≤ 1000) : Good (M.add x) (updR R M.n []) rk := by
  refine ⟨h.wf.more _ (fun k hk => updL_ne _ _ (by omega)) (updL_same _ _ _), fun k hk => ?_, fun i hi => ?_⟩
  · have : k < M.n + 1 := hk
    by_cases c : k = M.n
    · subst c; exact .inl add_par_new
    · have hk' : k < M.n := by omega
      rw [add_par hk']
      rcases h.acy k hk' with h0 | ⟨m, h1, h2, h3⟩
      · exact .inl h0
      · exact .inr ⟨m, by show m < M.n + 1; omega, h2, h3⟩
  · have : i < M.n + 1 := hi
    by_cases c : i = M.n
    · subst c
      show (if M.n = M.n then x.new else M.nd M.n).attrs.length ≤ 1000
      rw [if_pos rfl]; exact hx
    · show (if i = M.n then x.new else M.nd i).attrs.length ≤ 1000
      rw [if_neg c]; exact h.few i (by omega)
open Classical in
theorem Acy.move {M M' : Dm} {rk : Nat → Nat} {i up : Nat} (h : Acy M rk) (hn : M'.n = M.n) (hu : up < M.n) (hw : ¬ Wi M i up) (hp : ∀ k, k < M.n → parI M' k = parI M k ∨ (Wi M i k ∧ parI M' k = (up : Int))) :
    Acy M' (fun k => if Wi M i k then rk k + rk up + 1 else rk k) := by
  -- upwards the ranks fall
  have mono : ∀ j k, k < M.n → Wi M j k → rk j ≤ rk k := by
    intro j k hk hwi
    induction hwi with
    | here => exact Nat.le_refl _
    | @up k m e _ ih =>
      rcases h k hk with h0 | ⟨q, h1, h2, h3⟩
      · omega
      · have : m = q := by omega
        subst this
        have := ih h1
        omega
  intro k hk
  rw [hn] at hk
  dsimp only
  rcases hp k hk with e | ⟨hwk, e⟩
  · rw [e]
    rcases h k hk with h0 | ⟨m, h1, h2, h3⟩
    · exact .inl h0
    · refine .inr ⟨m, by rw [hn]; exact h1, h2, ?_⟩
      by_cases ck : Wi M i k
      · rw [if_pos ck]
        by_cases cm : Wi M i m
        · rw [if_pos cm]; omega
        · rw [if_neg cm]; omega
      · rw [if_neg ck, if_neg (fun cm => ck (.up h2 cm))]
        exact h3
  · refine .inr ⟨up, by rw [hn]; exact hu, e, ?_⟩
    rw [if_pos hwk, if_neg hw]
    omega
theorem parI_setP {M : Dm} {L : Nat → Lk} {k : Nat} (h : (L k).up = (M.pl k).up) : parI (M.setP L) k = parI M k := by
  unfold parI
  simp only [Dm.setP, h]
theorem parI_set {M : Dm} {L : Nat → Lk} {k up : Nat} (h : (L k).up = (up : Int)) : parI (M.setP L) k = (up : Int) := by
  unfold parI
  simp only [Dm.setP, h]
  rw [if_neg (by omega)]
theorem puts_up (up : Nat) (bef : Int) : ∀ (l : List Nat) (L : Nat → Lk) (k : Nat), (k ∉ l → (putsL L up bef l k).up = (L k).up) ∧ (k ∈ l → (putsL L up bef l k).up = (up : Int))
  | [], L, k => ⟨fun _ => rfl, fun h => by cases h⟩
  | x :: r, L, k => by
    obtain ⟨h1, h2⟩ := puts_up up bef r (putL L up x bef) k
    refine ⟨fun h => ?_, fun h => ?_⟩
    · have hx : k ≠ x := fun e => h (e ▸ List.mem_cons_self ..)
      exact (h1 fun hm => h (List.mem_cons_of_mem _ hm)).trans (put_up hx)
    · by_cases hm : k ∈ r
      · exact h2 hm
      · rcases List.mem_cons.1 h with rfl | h
        · exact (h1 hm).trans put_up_same
        · exact absurd h hm
theorem Good.ins {M : Dm} {R : Nat → List Nat} {rk : Nat → Nat} (h : Good M R rk) {up i : Nat} {bef : Int} (hu : up < M.n) (hi : i < M.n) (hF : Fits M up i bef) : ∃ rk', Good (M.setP (putD M R up i bef)) (putDR M R up i bef) rk' := by
  have hP := PutOk.of h.wf h.acy hu hi hF.2.2.1 hF.2.2.2
  refine ⟨_, hP.out, Acy.move (M := M) (i := i) h.acy rfl hu hF.2.2.1 (fun k hk => ?_), h.few⟩
  unfold putD
  by_cases c : (M.nd i).kind = 4
  · rw [if_pos c]
    obtain ⟨h1, h2⟩ := puts_up up bef (R i) M.pl k
    by_cases hm : k ∈ R i
    · refine .inr ⟨.up ?_ .here, parI_set (h2 hm)⟩
      have hup := h.wf.up hi hm
      unfold parI
      rw [if_neg (by omega)]
      exact hup
    · exact .inl (parI_setP (h1 hm))
  · rw [if_neg c]
    by_cases hk' : k = i
    · subst hk'
      exact .inr ⟨.here, parI_set put_up_same⟩
    · exact .inl (parI_setP (put_up hk'))
end Go.Proofs.Ytmplhphcdgpigaa
