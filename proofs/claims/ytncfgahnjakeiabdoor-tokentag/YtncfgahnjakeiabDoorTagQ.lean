/-
  A text that is written, then a tag: what the reader of tokens makes of both.
-/
import Derived.Test.YtncfgahnjakeiabDoorTagP
namespace Go.Proofs.YtncfgahnjakeiabDoor

theorem cleanL_app (a b : List UInt8) : cleanL (a ++ b) = cleanL a ++ cleanL b := by simp [cleanL]
theorem nbq_clean {c : UInt8} {r : List UInt8} (h : nbq (c :: r) = false) : nbq (c :: cleanL r) = false := by
  rw [Bool.eq_false_iff]
  intro hh
  obtain ⟨r', e⟩ := nbq_iff.1 hh
  injection e with e1 e2
  cases r with
  | nil => cases e2
  | cons d r2 =>
    have e3 : cleanL (d :: r2) = cleanB d ++ cleanL r2 := rfl
    rw [e3] at e2
    unfold cleanB at e2
    split at e2
    · injection e2 with e2 _
      exact absurd e2 (by decide)
    · injection e2 with e2 _
      rw [e1, e2] at h
      cases h
theorem clean_esc : ∀ t : List UInt8, cleanL (esc false t) = esc false (cleanL t) :=
  overL (p := fun l => cleanL (esc false l) = esc false (cleanL l)) rfl fun l hl ih => by
    by_cases h : nbq l = true
    · obtain ⟨r, rfl⟩ := nbq_iff.1 h
      have ih' : cleanL (esc false r) = esc false (cleanL r) := ih
      rw [esc_nb, cleanL_app, ih']
      rfl
    · cases l with
      | nil => exact absurd rfl hl
      | cons c r =>
        have h' : nbq (c :: r) = false := by simpa using h
        have ih' : cleanL (esc false r) = esc false (cleanL r) := by
          unfold far at ih
          rw [h'] at ih
          exact ih
        rw [esc_one h', cleanL_app, ih']
        by_cases hc : c = 0
        · subst hc
          have e : cleanL (0 :: r) = 239 :: 191 :: 189 :: cleanL r := rfl
          rw [e, esc_one (q := false) (c := 239) rfl, esc_one (q := false) (c := 191) rfl, esc_one (q := false) (c := 189) rfl]
          rfl
        · have e : cleanL (c :: r) = c :: cleanL r := by
            show cleanB c ++ cleanL r = _
            unfold cleanB
            rw [if_neg hc]
            rfl
          rw [e, esc_one (nbq_clean h'), clean_id _ (fun d hd => one_z hc hd)]

theorem tok_tag {n u : List UInt8} (hn : ∀ c ∈ 101 :: n, 97 ≤ c.toNat ∧ c.toNat ≤ 122) (hk : softP (101 :: n) = false ∧ rawP (101 :: n) = false) (hu : ∀ c ∈ u, c ≠ 0) {l : List (UInt8 × List UInt8)} (h1 : ∀ b ∈ l, 97 ≤ b.1.toNat ∧ b.1.toNat ≤ 122) (h2 : ∀ b ∈ l, ∀ d ∈ b.2, d ≠ 0) (h3 : (l.map (·.1)).Nodup) (h4 : l.length ≤ 50) :
    (tokL (esc false u ++ 60 :: ((101 :: n) ++ (aws l ++ [62])))).toks = (if u = [] then [] else [⟨3, [], [], false, u, 0⟩]) ++ [⟨1, 101 :: n, ats l, false, [], (esc false u).length⟩] ∧ (tokL (esc false u ++ 60 :: ((101 :: n) ++ (aws l ++ [62])))).flts = [] := by
  obtain ⟨R, hR⟩ : ∃ R, (101 :: n) ++ (aws l ++ [62]) = R := ⟨_, rfl⟩
  obtain ⟨L, hL⟩ : ∃ L, (esc false u).length = L := ⟨_, rfl⟩
  have hbeg : begL R = true := by rw [← hR]; rfl
  have e1 : (tokL (esc false u ++ 60 :: R)) = (TS.mk (60 :: R) L [] [] u 0).run := by
    unfold tokL
    rw [run_esc (60 :: R) u (TS.new (esc false u ++ 60 :: R)) hu rfl]
    congr 1
    show TS.addT (TS.mk (List.drop (esc false u).length (esc false u ++ 60 :: R)) (0 + (esc false u).length) [] [] [] 0) u 0 = _
    rw [List.drop_left, hL, Nat.zero_add]
    unfold TS.addT
    split
    · rename_i h
      rw [h]
    · rfl
  have e2 : (TS.mk (60 :: R) L [] [] u 0).markup = (TS.mk R (L + 1) [] [] u 0).tag 1 L := by
    show (TS.mk R (L + 1) [] [] u 0).opened L = _
    unfold TS.opened
    rw [hbeg, if_pos rfl]
  have hup : upTo (hdIn tgE) R = (101 :: n).length := by
    rw [← hR, upTo_in _ _ (fun c hc => ?_)]
    · cases l with
      | nil => rfl
      | cons b l => rfl
    · have := hn c hc
      rw [Bool.eq_false_iff]
      intro hh
      have hm : c ∈ tgE := by simpa using hh
      have : ∀ d ∈ tgE, d.toNat < 97 := by decide
      have := this c hm
      omega
  obtain ⟨q, hq⟩ := tag_all l [] (aws l ++ [62]).length.succ (L + 1 + (101 :: n).length) [] [] u 0 (by simp) h1 h2 (by simpa using h3) (by simpa using h4)
  have c1 : (TS.mk R (L + 1) [] [] u 0).cutTo (hdIn tgE) = TS.mk (aws l ++ [62]) (L + 1 + (101 :: n).length) [] [] u 0 := by
    show TS.mk (List.drop (upTo _ R) R) (L + 1 + upTo _ R) [] [] u 0 = _
    rw [hup, ← hR, List.drop_left]
  have c2 : (TS.mk R (L + 1) [] [] u 0).front (hdIn tgE) = 101 :: n := by
    show List.take (upTo _ R) R = _
    rw [hup, ← hR, List.take_left]
  have e3 : (TS.mk R (L + 1) [] [] u 0).tag 1 L = (TS.mk [] q [] [] u 0).add ⟨1, 101 :: n, ats l, false, [], L⟩ := by
    unfold TS.tag
    rw [c1, c2, nm_letters hn]
    have hq' : TS.tagF (aws l ++ [62]).length.succ (TS.mk (aws l ++ [62]) (L + 1 + (101 :: n).length) [] [] u 0) [] = ⟨TS.mk [] q [] [] u 0, ats l, false, true⟩ := hq
    rw [hq']
    dsimp only
    rw [if_pos rfl, if_neg (by decide)]
    unfold TS.inside
    rw [hk.1, hk.2]
    rfl
  rw [hR, e1, run_lt rfl, e2, e3, hL]
  by_cases h0 : u = []
  · subst h0
    rw [run_nil rfl]
    exact ⟨rfl, rfl⟩
  · have e4 : (TS.mk [] q [] [] u 0).add ⟨1, 101 :: n, ats l, false, [], L⟩ = TS.mk [] q ([⟨3, [], [], false, u, 0⟩] ++ [⟨1, 101 :: n, ats l, false, [], L⟩]) [] [] 0 := by
      unfold TS.add TS.endT
      rw [if_neg h0]
      rfl
    rw [e4, run_nil rfl, if_neg h0]
    exact ⟨rfl, rfl⟩
end Go.Proofs.YtncfgahnjakeiabDoor
