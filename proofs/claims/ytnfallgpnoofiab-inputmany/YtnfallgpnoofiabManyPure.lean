/-
  What the plain decoder tells is right, has no 13, has no more characters than there were bytes, and stays when it is read again. No program is named here.
-/
import Derived.Test.YtnfallgpnoofiabRefPure
import Derived.Test.YtnfallgpnoofiabRune
namespace Go.Proofs.Ytnfallgpnoofiab

/-- How many bytes begin a character. -/
def cntS (l : List UInt8) : Nat := (l.filter fun c => decide (c.toNat < 128 ∨ 191 < c.toNat)).length
theorem cntS_append (a b : List UInt8) : cntS (a ++ b) = cntS a + cntS b := by simp [cntS]
theorem cntS_cons (c : UInt8) (l : List UInt8) : cntS (c :: l) = (if c.toNat < 128 ∨ 191 < c.toNat then 1 else 0) + cntS l := by
  unfold cntS
  by_cases h : c.toNat < 128 ∨ 191 < c.toNat
  · rw [List.filter_cons_of_pos (by simpa using h), if_pos h]; simp; omega
  · rw [List.filter_cons_of_neg (by simpa using h), if_neg h]; simp
theorem cntS_le (l : List UInt8) : cntS l ≤ l.length := List.length_filter_le _ _
theorem cntS_rep : cntS repB = 1 := by decide

/-- Bytes of a character that has begun: what they become when the rest comes. -/
def PendC (p : List UInt8) (n : Nat) (lo hi : UInt8) : Prop := (∀ u : List UInt8, u.length = n → contOk lo hi u → CharB (p ++ u)) ∧ cntS p = 1 ∧ 128 ≤ lo.toNat ∧ hi.toNat ≤ 191 ∧ p ≠ []

theorem behind_hi {c : UInt8} (h : (behindS c).1 ≠ 0) : (behindS c).2.2.toNat ≤ 191 := by
  unfold behindS at h ⊢
  repeat' split
  all_goals simp_all
theorem PendC.one {d : UInt8} (h : (behindS d).1 ≠ 0) : PendC [d] (behindS d).1 (behindS d).2.1 (behindS d).2.2 := by
  refine ⟨fun u hu hc => ⟨⟨d, u, rfl, fun h0 => h (by rw [← hu, h0]; rfl), hu.symm, hc⟩⟩, ?_, (behind_up h).2, behind_hi h, by simp⟩
  have := (behind_up h).1
  rw [cntS_cons, if_pos (by omega)]
  rfl
theorem PendC.snoc {p : List UInt8} {m : Nat} {lo hi d : UInt8} (h : PendC p (m + 1) lo hi) (h1 : lo.toNat ≤ d.toNat) (h2 : d.toNat ≤ hi.toNat) : PendC (p ++ [d]) m 128 191 := by
  obtain ⟨k1, k2, k3, k4, k5⟩ := h
  refine ⟨fun u hu hc => ?_, ?_, by decide, by decide, by simp⟩
  · have := k1 (d :: u) (by simp [hu]) ⟨h1, h2, hc⟩
    simpa using this
  · rw [cntS_append, k2, cntS_cons, if_neg (by omega)]
    rfl
theorem char_rep : CharB repB := ⟨⟨239, [191, 189], rfl, by simp, by decide, by decide, by decide, by decide, by decide, trivial⟩⟩

/-- What is told is right, and stays. -/
theorem ch0_told : ∀ (r p : List UInt8) (n : Nat) (lo hi : UInt8) (b : Bool), (n ≠ 0 → PendC p n lo hi) → ch0 (nl b (ch p n lo hi r)) = nl b (ch p n lo hi r)
  | [], p, n, lo, hi, b, _ => by
    rw [ch]
    split
    · simp [nl, ch0, ch]
    · have h1 := nl_up repB b [] up_rep (by decide)
      rw [List.append_nil] at h1
      rw [h1]
      have := ch0_char char_rep []
      simpa [nl, ch0, ch] using this
  | d :: r, p, n, lo, hi, b, hp => by
    have start : ∀ b, ch0 (nl b (if (behindS d).1 = 0 then rawB d ++ ch [] 0 0 0 r else ch [d] (behindS d).1 (behindS d).2.1 (behindS d).2.2 r)) = nl b (if (behindS d).1 = 0 then rawB d ++ ch [] 0 0 0 r else ch [d] (behindS d).1 (behindS d).2.1 (behindS d).2.2 r) := by
      intro b
      by_cases hb : (behindS d).1 = 0
      · rw [if_pos hb]
        unfold rawB
        by_cases hl : d.toNat < 128
        · rw [if_pos hl, List.cons_append, List.nil_append, nl]
          have ih := fun b => ch0_told r [] 0 0 0 b (fun h => absurd rfl h)
          split
          · rw [ch0, ch, if_pos rfl, if_pos (by decide)]
            have : ch [] 0 0 0 (nl true (ch [] 0 0 0 r)) = nl true (ch [] 0 0 0 r) := ih true
            rw [this]
            rfl
          · split
            · exact ih false
            · have hb' : ch0 (d :: nl false (ch [] 0 0 0 r)) = d :: ch0 (nl false (ch [] 0 0 0 r)) := by
                show ch [] 0 0 0 _ = _
                rw [ch, if_pos rfl, if_pos hb]
                simp [rawB, hl, ch0]
              rw [hb', ih false]
        · rw [if_neg hl, nl_up repB b _ up_rep (by decide), ch0_char char_rep, ch0_told r [] 0 0 0 false (fun h => absurd rfl h)]
      · rw [if_neg hb]
        exact ch0_told r [d] _ _ _ b (fun _ => PendC.one hb)
    rw [ch]
    by_cases hn : n = 0
    · rw [if_pos hn]
      exact start b
    · rw [if_neg hn]
      have hpd := hp hn
      by_cases hbad : d.toNat < lo.toNat ∨ hi.toNat < d.toNat
      · rw [if_pos hbad, nl_up repB b _ up_rep (by decide), ch0_char char_rep, start false]
      · rw [if_neg hbad]
        obtain ⟨m, rfl⟩ : ∃ m, n = m + 1 := ⟨n - 1, by omega⟩
        by_cases h1 : m + 1 = 1
        · rw [if_pos h1]
          have hc : CharB (p ++ [d]) := hpd.1 [d] (by simp; omega) ⟨by omega, by omega, trivial⟩
          have e : p ++ d :: ch [] 0 0 0 r = (p ++ [d]) ++ ch [] 0 0 0 r := by simp
          rw [e, nl_up _ b _ (up_char hc) (char_ne hc), ch0_char hc, ch0_told r [] 0 0 0 false (fun h => absurd rfl h)]
        · rw [if_neg h1]
          exact ch0_told r (p ++ [d]) (m + 1 - 1) 128 191 b (fun _ => hpd.snoc (by omega) (by omega))

theorem cnt_nl : ∀ (l : List UInt8) (b : Bool), cntS (nl b l) ≤ cntS l
  | [], _ => by simp [nl]
  | c :: l, b => by
    rw [nl, cntS_cons]
    have i1 := cnt_nl l true
    have i2 := cnt_nl l false
    split
    · rename_i h
      rw [cntS_cons, if_pos (by decide), if_pos (by omega)]
      omega
    · split
      · omega
      · rw [cntS_cons]; omega
theorem cnt_raw (d : UInt8) : cntS (rawB d) = 1 := by
  unfold rawB
  split
  · rename_i h
    rw [cntS_cons, if_pos (.inl h)]; rfl
  · exact cntS_rep
theorem cnt_ch : ∀ (r p : List UInt8) (n : Nat) (lo hi : UInt8), (n ≠ 0 → PendC p n lo hi) → cntS (ch p n lo hi r) ≤ r.length + if n = 0 then 0 else 1
  | [], p, n, lo, hi, _ => by
    rw [ch]
    by_cases h : n = 0
    · rw [if_pos h]; simp [cntS]
    · rw [if_neg h, if_neg h, cntS_rep]; simp
  | d :: r, p, n, lo, hi, hp => by
    have start : cntS (if (behindS d).1 = 0 then rawB d ++ ch [] 0 0 0 r else ch [d] (behindS d).1 (behindS d).2.1 (behindS d).2.2 r) ≤ r.length + 1 := by
      by_cases hb : (behindS d).1 = 0
      · rw [if_pos hb, cntS_append, cnt_raw]
        have := cnt_ch r [] 0 0 0 (fun h => absurd rfl h)
        simp at this
        omega
      · rw [if_neg hb]
        have := cnt_ch r [d] _ _ _ (fun _ => PendC.one hb)
        rw [if_neg hb] at this
        exact this
    rw [ch]
    by_cases hn : n = 0
    · rw [if_pos hn, if_pos hn]
      simpa using start
    · rw [if_neg hn, if_neg hn]
      have hpd := hp hn
      by_cases hbad : d.toNat < lo.toNat ∨ hi.toNat < d.toNat
      · rw [if_pos hbad, cntS_append, cntS_rep]
        simp
        omega
      · rw [if_neg hbad]
        obtain ⟨m, rfl⟩ : ∃ m, n = m + 1 := ⟨n - 1, by omega⟩
        by_cases h1 : m + 1 = 1
        · rw [if_pos h1, cntS_append, cntS_cons, hpd.2.1]
          have k3 := hpd.2.2.1
          have k4 := hpd.2.2.2.1
          rw [if_neg (by omega)]
          have := cnt_ch r [] 0 0 0 (fun h => absurd rfl h)
          simp at this
          simp
          omega
        · rw [if_neg h1]
          have := cnt_ch r (p ++ [d]) (m + 1 - 1) 128 191 (fun _ => hpd.snoc (by omega) (by omega))
          rw [if_neg (by omega)] at this
          rw [List.length_cons]
          omega
theorem nl_13 : ∀ (l : List UInt8) (b : Bool), ∀ c ∈ nl b l, c.toNat ≠ 13
  | [], _ => by simp [nl]
  | x :: l, b => by
    have i1 := nl_13 l true
    have i2 := nl_13 l false
    rw [nl]
    split
    · intro c hc
      rcases List.mem_cons.1 hc with rfl | hc
      · decide
      · exact i1 c hc
    · rename_i h
      split
      · exact i2
      · intro c hc
        rcases List.mem_cons.1 hc with rfl | hc
        · exact h
        · exact i2 c hc

theorem dec_form (b : List UInt8) : decS b = nl false (ch0 (stripIn b)) := by rw [decS_spec, specB, strip_in]
theorem dec_13 (b : List UInt8) : ∀ c ∈ decS b, c.toNat ≠ 13 := by rw [dec_form]; exact nl_13 _ _
theorem dec_cnt (b : List UInt8) : cntS (decS b) ≤ b.length := by
  rw [dec_form]
  have h1 := cnt_nl (ch0 (stripIn b)) false
  have h2 := cnt_ch (stripIn b) [] 0 0 0 (fun h => absurd rfl h)
  have h3 : (stripIn b).length ≤ b.length := by
    unfold stripIn
    split <;> simp
  have h4 : cntS (ch0 (stripIn b)) ≤ (stripIn b).length := by
    rw [if_pos rfl, Nat.add_zero] at h2
    exact h2
  omega
theorem nl_same : ∀ l : List UInt8, (∀ c ∈ l, c.toNat ≠ 13) → nl false l = l
  | [], _ => rfl
  | c :: l, h => by
    rw [nl, if_neg (h c (by simp)), if_neg (by simp), nl_same l (fun d hd => h d (by simp [hd]))]
theorem dec_again (b : List UInt8) (hm : (decS b).take 3 ≠ markB) : decS (decS b) = decS b := by
  have h1 : ch0 (decS b) = decS b := by rw [dec_form]; exact ch0_told (stripIn b) [] 0 0 0 false (fun h => absurd rfl h)
  rw [decS_spec (decS b), specB, h1, strip, if_neg hm, nl_same _ (dec_13 b)]

end Go.Proofs.Ytnfallgpnoofiab
