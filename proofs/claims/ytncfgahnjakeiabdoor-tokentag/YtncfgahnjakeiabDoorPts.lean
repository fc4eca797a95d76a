/-
  What the reader of tokens makes of a doctype.
-/
import Derived.Test.YtncfgahnjakeiabDoorMc
namespace Go.Proofs.YtncfgahnjakeiabDoor

theorem upTo_in {set : List UInt8} : ∀ (a b : List UInt8), (∀ c ∈ a, set.contains c = false) → upTo (hdIn set) (a ++ b) = a.length + upTo (hdIn set) b
  | [], b, _ => by simp
  | c :: r, b, h => by
    rw [List.cons_append, upTo_cons, if_neg (by show ¬ set.contains c = true; rw [h c List.mem_cons_self]; decide), upTo_in r b (fun d hd => h d (List.mem_cons_of_mem _ hd)), List.length_cons]
    omega
theorem upTo_stop {p : List UInt8 → Bool} : ∀ (a z : List UInt8), z ≠ [] → p z = true → upTo p (a ++ z) ≤ a.length
  | [], z, hz, h => by
    cases z with
    | nil => exact absurd rfl hz
    | cons c r => rw [List.nil_append, upTo_cons, if_pos h]; exact Nat.le_refl _
  | c :: r, z, hz, h => by
    rw [List.cons_append, upTo_cons]
    have := upTo_stop r z hz h
    split
    · exact Nat.zero_le _
    · simp only [List.length_cons]; omega
/-- Cut to a place that is not behind z. -/
theorem cutTo_app {s : TS} {a z : List UInt8} {p : List UInt8 → Bool} (h : s.rest = a ++ z) (hz : z ≠ []) (hp : p z = true) : ∃ k, k ≤ a.length ∧ s.cutTo p = s.cut k ∧ (s.cutTo p).rest = a.drop k ++ z ∧ s.front p = a.take k := by
  have hk := upTo_stop a z hz hp
  refine ⟨upTo p s.rest, by rw [h]; exact hk, rfl, ?_, ?_⟩
  · show s.rest.drop (upTo p s.rest) = _
    rw [h, List.drop_append_of_le_length hk]
  · show s.rest.take (upTo p s.rest) = _
    rw [h, List.take_append_of_le_length hk]

theorem letter_low {c : UInt8} (h : 97 ≤ c.toNat ∧ c.toNat ≤ 122) : lowB c = c := by
  unfold lowB
  rw [if_neg (by omega)]
theorem nm_letters : ∀ {l : List UInt8}, (∀ c ∈ l, 97 ≤ c.toNat ∧ c.toNat ≤ 122) → nmL l = l
  | [], _ => rfl
  | c :: r, h => by
    have hc := h c List.mem_cons_self
    have ih := nm_letters (l := r) (fun d hd => h d (List.mem_cons_of_mem _ hd))
    have e : nmL (c :: r) = cleanB (lowB c) ++ nmL r := rfl
    rw [e, ih, letter_low hc]
    unfold cleanB
    rw [if_neg (by intro e; rw [e] at hc; exact absurd hc.1 (by decide))]
    rfl

/-- Behind <!DocType: what stands up to the sign >, and one letter. -/
theorem tok_dt (x : List UInt8) (hx : ∀ c ∈ x, c ≠ 62) : ∃ nm p, (tokL (60 :: 33 :: 68 :: 111 :: 99 :: 84 :: 121 :: 112 :: 101 :: 32 :: (x ++ [62, 120]))).toks = [⟨5, nm, [], false, [], 0⟩, ⟨3, [], [], false, [120], p⟩] ∧ (tokL (60 :: 33 :: 68 :: 111 :: 99 :: 84 :: 121 :: 112 :: 101 :: 32 :: (x ++ [62, 120]))).flts = [] ∧
    ∀ t r, (∀ c ∈ t, 97 ≤ c.toNat ∧ c.toNat ≤ 122) → t ≠ [] → x = t ++ 32 :: r → nm = t := by
  have e : (TS.new (60 :: 33 :: 68 :: 111 :: 99 :: 84 :: 121 :: 112 :: 101 :: 32 :: (x ++ [62, 120]))).markup = (TS.mk (32 :: (x ++ [62, 120])) 9 [] [] [] 0).doctype 0 := rfl
  obtain ⟨s0, es0⟩ : ∃ s0, TS.mk (32 :: (x ++ [62, 120])) 9 [] [] [] 0 = s0 := ⟨_, rfl⟩
  have h0 : s0.rest = (32 :: x) ++ [62, 120] := by rw [← es0]; rfl
  obtain ⟨k1, l1, c1, r1, _⟩ := cutTo_app (p := hdOut blk) h0 (by decide) rfl
  obtain ⟨k2, l2, c2, r2, f2⟩ := cutTo_app (p := hdIn [9, 10, 12, 32, 62]) r1 (by decide) rfl
  obtain ⟨k3, l3, c3, r3, _⟩ := cutTo_app (p := hdIn [62]) r2 (by decide) rfl
  have hno : ∀ c ∈ (32 :: x).drop k1 |>.drop k2, ([62] : List UInt8).contains c = false := by
    intro c hc
    have : c ∈ 32 :: x := List.mem_of_mem_drop (List.mem_of_mem_drop hc)
    rcases List.mem_cons.1 this with rfl | hm
    · rfl
    · have := hx c hm
      simp [this]
  have hk3 : (((s0.cutTo (hdOut blk)).cutTo (hdIn [9, 10, 12, 32, 62])).cutTo (hdIn [62])).rest = [62, 120] := by
    show List.drop (upTo (hdIn [62]) _) _ = _
    rw [r2, upTo_in _ _ hno, show upTo (hdIn [62]) [62, 120] = 0 from rfl, Nat.add_zero, List.drop_left]
  obtain ⟨s3, es3⟩ : ∃ s3, ((s0.cutTo (hdOut blk)).cutTo (hdIn [9, 10, 12, 32, 62])).cutTo (hdIn [62]) = s3 := ⟨_, rfl⟩
  rw [es3] at hk3
  have hs3 : s3.toks = [] ∧ s3.flts = [] ∧ s3.text = [] := by
    rw [← es3, c3, c2, c1, ← es0]
    exact ⟨rfl, rfl, rfl⟩
  have ed : s0.doctype 0 = (s3.cut 1).add ⟨5, nmL ((s0.cutTo (hdOut blk)).front (hdIn [9, 10, 12, 32, 62])), [], false, [], 0⟩ := by
    unfold TS.doctype
    rw [es3]
    unfold TS.dtEnd
    rw [hk3, if_pos (show pre [62] [62, 120] = true from rfl)]
  obtain ⟨nm, enm⟩ : ∃ nm, nmL ((s0.cutTo (hdOut blk)).front (hdIn [9, 10, 12, 32, 62])) = nm := ⟨_, rfl⟩
  rw [enm] at ed
  have ea : (s3.cut 1).add ⟨5, nm, [], false, [], 0⟩ = TS.mk [120] (s3.pl + 1) [⟨5, nm, [], false, [], 0⟩] [] [] s3.tat := by
    obtain ⟨rest, pl, toks, flts, text, tat⟩ := s3
    obtain ⟨q1, q2, q3⟩ := hs3
    dsimp only at q1 q2 q3 hk3
    subst q1
    subst q2
    subst q3
    subst hk3
    rfl
  refine ⟨nm, s3.pl + 1, ?_⟩
  have hrun : tokL (60 :: 33 :: 68 :: 111 :: 99 :: 84 :: 121 :: 112 :: 101 :: 32 :: (x ++ [62, 120])) = ((TS.mk [] (s3.pl + 1 + 1) [⟨5, nm, [], false, [], 0⟩] [] [] s3.tat).addT [120] (s3.pl + 1)).endT := by
    unfold tokL
    rw [run_lt rfl, e, es0, ed, ea, run_plain (c := 120) (r := []) rfl ⟨by decide, by decide, by decide⟩]
    exact run_nil (by rw [(addT_rest _ _ _).1]; rfl)
  rw [hrun, addT_endT rfl (by decide)]
  refine ⟨rfl, rfl, fun t r ht hne hxt => ?_⟩
  rw [← enm]
  have hk1 : k1 = 1 := by
    have : s0.cutTo (hdOut blk) = s0.cut 1 := by
      show s0.cut (upTo (hdOut blk) s0.rest) = _
      cases t with
      | nil => exact absurd rfl hne
      | cons c t =>
        have hc := ht c List.mem_cons_self
        rw [h0, hxt]
        show s0.cut (upTo (hdOut blk) (32 :: c :: _)) = _
        rw [upTo_cons, if_neg (show ¬ hdOut blk (32 :: _) = true from show ¬ (!blk.contains 32) = true by decide), upTo_cons, if_pos]
        show (!blk.contains c) = true
        have h1 : c ≠ 9 := by intro e; rw [e] at hc; exact absurd hc.1 (by decide)
        have h2 : c ≠ 10 := by intro e; rw [e] at hc; exact absurd hc.1 (by decide)
        have h3 : c ≠ 12 := by intro e; rw [e] at hc; exact absurd hc.1 (by decide)
        have h4 : c ≠ 32 := by intro e; rw [e] at hc; exact absurd hc.1 (by decide)
        simp [blk, h1, h2, h3, h4]
    have h5 := congrArg TS.pl (c1.symm.trans this)
    simp only [TS.cut] at h5
    omega
  subst hk1
  have hfr : (s0.cutTo (hdOut blk)).front (hdIn [9, 10, 12, 32, 62]) = t := by
    have hin : ∀ c ∈ t, ([9, 10, 12, 32, 62] : List UInt8).contains c = false := by
      intro c hc
      have hc := ht c hc
      have h1 : c ≠ 9 := by intro e; rw [e] at hc; exact absurd hc.1 (by decide)
      have h2 : c ≠ 10 := by intro e; rw [e] at hc; exact absurd hc.1 (by decide)
      have h3 : c ≠ 12 := by intro e; rw [e] at hc; exact absurd hc.1 (by decide)
      have h4 : c ≠ 32 := by intro e; rw [e] at hc; exact absurd hc.1 (by decide)
      have h5 : c ≠ 62 := by intro e; rw [e] at hc; exact absurd hc.1 (by decide)
      simp [h1, h2, h3, h4, h5]
    have hrest : (s0.cutTo (hdOut blk)).rest = t ++ 32 :: (r ++ [62, 120]) := by
      rw [r1, hxt]
      simp
    show List.take (upTo _ (s0.cutTo (hdOut blk)).rest) (s0.cutTo (hdOut blk)).rest = t
    rw [hrest, upTo_in t _ hin, show upTo (hdIn [9, 10, 12, 32, 62]) (32 :: (r ++ [62, 120])) = 0 from by rw [upTo_cons, if_pos (show hdIn [9, 10, 12, 32, 62] (32 :: _) = true from rfl)], Nat.add_zero, List.take_left]
  rw [hfr, nm_letters ht]
end Go.Proofs.YtncfgahnjakeiabDoor
