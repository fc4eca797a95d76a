/-
  A host with a root that may come along: what Clone makes of it.
-/
import Derived.Test.YtkngpgkldkohgaaCk
namespace Go.Proofs.Ytkngpgkldkohgaa
open Go.RowKit
set_option linter.unusedVariables false
set_option maxRecDepth 100000
set_option maxHeartbeats 8000000
structure Rt (s : Sta) (f : Fg) (many : Nat) : Prop where
  ok : s.ok
  lim : s.M.limit = 300
  n : s.M.n = 3 + many
  lt : many < 30
  n1 : (s.M.nd 1).kind = 1 ∧ (s.M.nd 1).shadow = 2 ∧ (s.M.nd 1).content = -1
  n2 : (s.M.nd 2).kind = 5 ∧ (s.M.nd 2).fl = f
  r1 : s.R 1 = []
  r2 : (s.R 2).length = many
  leaf : ∀ k ∈ s.R 2, (s.M.nd k).shadow = -1 ∧ (s.M.nd k).content = -1 ∧ s.R k = []
theorem needs_one {nf : Nat → Nat} : ∀ (l : List Nat), (∀ k ∈ l, nf k = 1) → needs nf l = l.length
  | [], _ => rfl
  | a :: l, h => by
    have e : needs nf (a :: l) = nf a + needs nf l := by unfold needs; rw [List.map_cons, List.sum_cons]
    rw [e, h a (List.mem_cons_self ..), needs_one l fun k hk => h k (List.mem_cons_of_mem _ hk), List.length_cons, Nat.add_comm]
theorem Rt.clon {s : Sta} {f : Fg} {many : Nat} (h : Rt s f many) : Go.Proofs.Ytkngpgkldkohgaa.clon s.M (s.M.nd 1) = f.e := by
  unfold Go.Proofs.Ytkngpgkldkohgaa.clon
  rw [h.n1.2.1]
  show (decide ((2 : Int) ≠ -1) && (s.M.nd 2).fl.e) = f.e
  rw [h.n2.2]
  rfl
theorem Rt.needS {s : Sta} {f : Fg} {many : Nat} (h : Rt s f many) (F : Nat) : Go.Proofs.Ytkngpgkldkohgaa.needS s.M s.R (fun k => needF s.M s.R (F + 1) k true) 1 = if f.e = true then 2 + many else 1 := by
  have e2 : needs (fun k => needF s.M s.R (F + 1) k true) (s.R 2) = many := by
    rw [needs_one (s.R 2) fun k hk => ?_, h.r2]
    obtain ⟨a, b, c⟩ := h.leaf k hk
    have c1 : Go.Proofs.Ytkngpgkldkohgaa.clon s.M (s.M.nd k) = false := by unfold Go.Proofs.Ytkngpgkldkohgaa.clon; rw [a]; rfl
    show needC s.M s.R _ k + needs _ (s.R k) = 1
    unfold needC Go.Proofs.Ytkngpgkldkohgaa.needS
    rw [c1, b, c]; rfl
  unfold Go.Proofs.Ytkngpgkldkohgaa.needS
  rw [h.clon, h.n1.2.2, h.n1.2.1]
  show 1 + 0 + (if f.e = true then 1 + needs _ (s.R 2) else 0) = _
  rw [e2]
  cases f.e
  · rfl
  · show 1 + 0 + (1 + many) = 2 + many; omega
theorem Rt.need {s : Sta} {f : Fg} {many : Nat} (h : Rt s f many) (F : Nat) (deep : Bool) : needF s.M s.R (F + 2) 1 deep = if f.e = true then 2 + many else 1 := by
  cases deep with
  | false => exact h.needS F
  | true =>
    show needC s.M s.R _ 1 + needs _ (s.R 1) = _
    unfold needC
    rw [h.n1.2.2, h.r1, if_pos rfl, h.needS F]
    rfl
theorem Rt.clone {K : Nat → Prop} {w : World} {p : Nat} {s : Sta} {f : Fg} {many : Nat} (h : Rt s f many) (hX : DX K w p s.M) (deep : Bool) :
    Calls Try.prog 8 #[.pointer (some ⟨p, 0, none⟩), .int .i64 1, .bool deep] w fun e w' => e = .returned (.tuple #[.int .i64 ((3 + many : Nat) : Int), .int .u16 0]) ∧ (∃ s' : Sta, s'.ok ∧ DX K w' p s'.M ∧ 3 + many < s'.M.n ∧ s'.M.n ≤ 300 ∧ (f.e = false → s'.M.n = 4 + many ∧ (s'.M.nd (3 + many)).shadow = -1) ∧ (f.e = true → s'.M.n = 5 + 2 * many ∧ (s'.M.nd (3 + many)).shadow = ((4 + many : Nat) : Int) ∧ (s'.M.nd (4 + many)).fl = f ∧ (s'.M.nd (4 + many)).host = ((3 + many : Nat) : Int) ∧ (s'.R (4 + many)).length = many)) ∧ Kept K w w' := by
  obtain ⟨rk, hI⟩ := h.ok
  obtain ⟨F, hF⟩ : ∃ F, dn s.M.n rk 1 = F := ⟨_, rfl⟩
  have hn := h.n
  have hlim := h.lim
  have hlt := h.lt
  have hnd := h.need F deep
  have hnl : needF s.M s.R (F + 2) 1 deep ≤ 2 + many := by rw [hnd]; split <;> omega
  have hk5 : (s.M.nd 1).kind ≠ 5 := by rw [h.n1.1]; decide
  refine (clone_in hI (by omega) (by omega) (F + 2) 1 (by omega) (by omega) deep w hX).mono ?_
  rintro e w' ⟨hk, hC⟩
  cases hC with
  | shadow a _ _ => exact absurd a hk5
  | full _ a _ _ => omega
  | made _ a he hd =>
    have hdone := copyF_ok hI (F + 2) 1 (by omega) (by omega) hk5 s deep (Keeps.refl _ _ _) h.ok (by omega)
    have hL := lev_of hI (f := F + 1) (i := 1) (by omega)
    have hroot := copyS_root hI (i := 1) (by omega) hk5 hL (Keeps.refl _ _ s) h.ok (by rw [h.needS]; split <;> omega)
    have hD : (copyF (F + 2) s 1 deep).1 = copyS (fun s k => copyF (F + 1) s k true) s 1 := by
      show copyD (fun s k => copyF (F + 1) s k true) s 1 deep = _
      cases deep with
      | false => rfl
      | true =>
        show copies _ s.M.n (s.R 1) (copyC _ s 1) = _
        rw [h.r1]
        show copyC _ s 1 = _
        unfold copyC
        rw [if_pos h.n1.2.2]
    have hm := hdone.mid
    have hmn := hm.n
    rw [hnd] at hmn
    rw [h.clon, hn] at hroot
    have hd' : DX K w' p (copyF (F + 2) s 1 deep).1.M := hd
    rw [hD] at hm hmn hd'
    refine ⟨by rw [← hn]; exact he, ⟨_, hm.ok, hd', by rw [hmn, hn]; split <;> omega, by rw [hmn, hn]; split <;> omega, fun hf => ⟨?_, hroot.2.1 hf⟩, fun hf => ?_⟩, hk⟩
    · rw [hmn, hn, hf, if_neg (by decide)]; omega
    · obtain ⟨q, r, e1, e2, e3, e4, e5, e6, e7⟩ := hroot.2.2 hf
      have hq : q = 2 := by have := h.n1.2.1; omega
      subst hq
      have hr : r = 4 + many := by rw [e2, mk1_n, h.n1.2.2, if_pos rfl, hn]; omega
      subst hr
      exact ⟨by rw [hmn, hn, hf, if_pos rfl]; omega, e3, by rw [e5]; exact h.n2.2, e6, by rw [e7]; exact h.r2⟩
end Go.Proofs.Ytkngpgkldkohgaa
