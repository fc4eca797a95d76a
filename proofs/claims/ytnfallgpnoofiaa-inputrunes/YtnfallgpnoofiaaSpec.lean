/-
  The decoder's plain function is: characters one by one (ch), the first mark left out (strip), ends of lines made one (nl). No program is named here.
-/
import Derived.Test.YtnfallgpnoofiaaPure
namespace Go.Proofs.Ytnfallgpnoofiaa

/-- What is told of a byte that begins nothing longer. -/
def rawB (c : UInt8) : List UInt8 := if c.toNat < 128 then [c] else repB

/-- Characters: p are the bytes of one that is not whole yet, n more are asked for, the next one from lo to hi. -/
def ch : List UInt8 → Nat → UInt8 → UInt8 → List UInt8 → List UInt8
  | _, n, _, _, [] => if n = 0 then [] else repB
  | p, n, lo, hi, d :: r =>
    if n = 0 then
      if (behindS d).1 = 0 then rawB d ++ ch [] 0 0 0 r else ch [d] (behindS d).1 (behindS d).2.1 (behindS d).2.2 r
    else if d.toNat < lo.toNat ∨ hi.toNat < d.toNat then
      repB ++ if (behindS d).1 = 0 then rawB d ++ ch [] 0 0 0 r else ch [d] (behindS d).1 (behindS d).2.1 (behindS d).2.2 r
    else if n = 1 then p ++ d :: ch [] 0 0 0 r
    else ch (p ++ [d]) (n - 1) 128 191 r

/-- Ends of lines; the flag: the last byte was 13. -/
def nl : Bool → List UInt8 → List UInt8
  | _, [] => []
  | b, c :: l => if c.toNat = 13 then 10 :: nl true l else if b = true ∧ c.toNat = 10 then nl false l else c :: nl false l

/-- The first mark. -/
def strip (l : List UInt8) : List UInt8 := if l.take 3 = markB then l.drop 3 else l

def ch0 (l : List UInt8) : List UInt8 := ch [] 0 0 0 l
def specB (l : List UInt8) : List UInt8 := nl false (strip (ch0 l))

/-- Bytes of a longer character. -/
def Up (l : List UInt8) : Prop := ∀ c ∈ l, 128 ≤ c.toNat

theorem up_rep : Up repB := by unfold Up repB; decide
theorem nl_up : ∀ (x : List UInt8) (b : Bool) (l : List UInt8), Up x → x ≠ [] → nl b (x ++ l) = x ++ nl false l
  | [], _, _, _, h => absurd rfl h
  | [c], b, l, hu, _ => by
    have := hu c (by simp)
    simp only [List.cons_append, List.nil_append, nl]
    rw [if_neg (by omega), if_neg (by omega)]
  | c :: d :: x, b, l, hu, _ => by
    have := hu c (by simp)
    have ih := nl_up (d :: x) false l (fun e he => hu e (List.mem_cons_of_mem _ he)) (by simp)
    rw [List.cons_append, nl, if_neg (by omega), if_neg (by omega), ih]
    rfl

theorem behind_up {c : UInt8} (h : (behindS c).1 ≠ 0) : 194 ≤ c.toNat ∧ 128 ≤ (behindS c).2.1.toNat := by
  unfold behindS at h ⊢
  repeat' split
  all_goals simp_all
  all_goals omega

theorem behind_ef {c : UInt8} (h : c = 239) : (behindS c).1 = 2 := by subst h; decide

/-- What is known of the bytes of a character that is not whole yet. -/
structure Pend (p : List UInt8) (n : Nat) (lo : UInt8) : Prop where
  up : Up p
  ne : p ≠ []
  lo : 128 ≤ lo.toNat
  ef : ∀ q, p = 239 :: q → q.length + n = 2

theorem Pend.one {d : UInt8} (h : (behindS d).1 ≠ 0) : Pend [d] (behindS d).1 (behindS d).2.1 :=
  ⟨fun c hc => by simp at hc; subst hc; have := (behind_up h).1; omega, by simp, (behind_up h).2, fun q hq => by
    simp at hq
    obtain ⟨hd, rfl⟩ := hq
    simp [behind_ef hd]⟩
theorem Pend.snoc {p : List UInt8} {n : Nat} {lo d : UInt8} (h : Pend p (n + 1) lo) (hd : lo.toNat ≤ d.toNat) : Pend (p ++ [d]) n 128 :=
  ⟨fun c hc => by
    simp at hc
    rcases hc with hc | rfl
    · exact h.up c hc
    · have := h.lo; omega, by simp, by decide, fun q hq => by
    cases hp : p with
    | nil => exact absurd hp h.ne
    | cons e p' =>
      rw [hp] at hq
      simp at hq
      obtain ⟨rfl, rfl⟩ := hq
      have := h.ef p' hp
      simp
      omega⟩
theorem up_snoc {p : List UInt8} {n : Nat} {lo d : UInt8} (h : Pend p n lo) (hd : lo.toNat ≤ d.toNat) : Up (p ++ [d]) := by
  intro c hc
  simp at hc
  rcases hc with hc | rfl
  · exact h.up c hc
  · have := h.lo; omega

/-- What comes of a character that has begun does not begin with an end of line. -/
theorem nl_ch : ∀ (r p : List UInt8) (n : Nat) (lo hi : UInt8) (b : Bool), Pend p n lo → n ≠ 0 → nl b (ch p n lo hi r) = nl false (ch p n lo hi r)
  | [], p, n, lo, hi, b, _, hn => by
    rw [ch, if_neg hn]
    have h1 := nl_up repB b [] up_rep (by decide)
    have h2 := nl_up repB false [] up_rep (by decide)
    rw [List.append_nil] at h1 h2
    rw [h1, h2]
  | d :: r, p, n, lo, hi, b, hp, hn => by
    rw [ch, if_neg hn]
    by_cases hb : d.toNat < lo.toNat ∨ hi.toNat < d.toNat
    · rw [if_pos hb, nl_up repB b _ up_rep (by decide), nl_up repB false _ up_rep (by decide)]
    · rw [if_neg hb]
      by_cases h1 : n = 1
      · rw [if_pos h1]
        have e : p ++ d :: ch [] 0 0 0 r = (p ++ [d]) ++ ch [] 0 0 0 r := by simp
        rw [e, nl_up _ b _ (up_snoc hp (by omega)) (by simp), nl_up _ false _ (up_snoc hp (by omega)) (by simp)]
      · rw [if_neg h1]
        obtain ⟨m, rfl⟩ : ∃ m, n = m + 1 := ⟨n - 1, by omega⟩
        exact nl_ch r (p ++ [d]) m 128 191 b (hp.snoc (by omega)) (by omega)

/-- A state whose text is settled but for what is pending. -/
structure Rel (s : St) (p : List UInt8) : Prop where
  text : s.text = s.text.take s.settled ++ p
  pend : s.count ≠ 0 → Pend p s.count s.low ∧ s.returned = false
  none : s.count = 0 → p = []

theorem Rel.settle (s : St) (h : s.count = 0) : Rel s.settle [] := ⟨by simp [St.settle], fun hc => absurd h hc, fun _ => rfl⟩

theorem addB_raw {d : UInt8} (b : Bool) (hj : ¬ (b = true ∧ d.toNat = 10)) (l : List UInt8) : nl b (rawB d ++ l) = addB d ++ nl (decide (d.toNat = 13)) l := by
  unfold rawB addB
  by_cases h13 : d.toNat = 13
  · have : d.toNat < 128 := by omega
    simp [h13, nl]
  · by_cases hl : d.toNat < 128
    · simp [h13, hl, nl]
      intro hb' hd
      exact absurd ⟨hb', hd⟩ hj
    · simp only [hl, if_false, h13, decide_false]
      exact nl_up repB b l up_rep (by decide)

/-- THE CLAIM, of a decoder that has begun. -/
theorem feed_begun : ∀ (r : List UInt8) (s : St) (p : List UInt8), s.Ok → Rel s p → s.begun = true →
    (s.feed r).finish = s.text.take s.settled ++ nl s.returned (ch p s.count s.low s.high r)
  | [], s, p, _, hr, _ => by
    have e : s.feed [] = s := rfl
    rw [e, ch, St.finish]
    by_cases hc : s.count = 0
    · rw [if_pos hc, if_neg (by omega)]
      simp [nl]
    · rw [if_neg hc, if_pos (by omega)]
      have h1 := nl_up repB s.returned [] up_rep (by decide)
      rw [List.append_nil] at h1
      rw [h1]
      simp [nl]
  | d :: r, s, p, hok, hr, hb => by
    have e : s.feed (d :: r) = (s.feed1 d).feed r := rfl
    rw [e]
    -- a first byte, where nothing is pending
    have start : ∀ (s : St), s.Ok → s.count = 0 → s.text = s.text.take s.settled → s.begun = true → ((s.first d).feed r).finish =
        s.text ++ nl s.returned (if (behindS d).1 = 0 then rawB d ++ ch [] 0 0 0 r else ch [d] (behindS d).1 (behindS d).2.1 (behindS d).2.2 r) := by
      intro s hok hc ht hb
      have hok' := hok.first d
      by_cases hj : s.returned = true ∧ d.toNat = 10
      · have hf : s.first d = { s with returned := false } := by
          unfold St.first
          rw [if_pos hj]
          simp [hj.2]
        rw [hf] at hok' ⊢
        have hbd : (behindS d).1 = 0 := by simp [behindS, hj.2]
        have hraw : rawB d = [d] := by simp [rawB, hj.2]
        rw [feed_begun r _ [] hok' ⟨by simpa using ht, fun h => absurd hc h, fun _ => rfl⟩ hb, if_pos hbd, hraw]
        simp only [hc, List.cons_append, List.nil_append, nl]
        rw [if_neg (by omega), if_pos hj, ← ht]
        cases r with
        | nil => simp [ch, nl]
        | cons x y => simp [ch]
      · by_cases hbd : (behindS d).1 = 0
        · have hf : s.first d = St.settle { s with text := s.text ++ addB d, count := (behindS d).1, low := (behindS d).2.1, high := (behindS d).2.2, returned := decide (d.toNat = 13) } := by
            unfold St.first
            rw [if_neg hj, if_neg (by omega)]
          rw [hf] at hok' ⊢
          rw [feed_begun r _ [] hok' (Rel.settle _ hbd) rfl, if_pos hbd, addB_raw _ hj]
          simp only [St.settle, List.take_length, hbd, List.append_assoc]
          cases r with
          | nil => simp [ch, nl]
          | cons x y => simp [ch]
        · have hf : s.first d = { s with text := s.text ++ [d], count := (behindS d).1, low := (behindS d).2.1, high := (behindS d).2.2, returned := decide (d.toNat = 13) } := by
            unfold St.first
            rw [if_neg hj, if_pos (by omega)]
          have hup := behind_up hbd
          have hd13 : decide (d.toNat = 13) = false := by simp; omega
          rw [hf] at hok' ⊢
          have htk : (s.text ++ [d]).take s.settled = s.text := by
            have h1 := hok.le
            have h2 := congrArg List.length ht
            simp at h2
            rw [List.take_append_of_le_length h1]
            exact ht.symm
          rw [feed_begun r _ [d] hok' ⟨by simp [htk], fun _ => ⟨Pend.one hbd, hd13⟩, fun h => absurd h hbd⟩ hb, if_neg hbd]
          simp only [htk, hd13]
          rw [nl_ch r [d] _ _ _ s.returned (Pend.one hbd) hbd]
    by_cases hc : s.count = 0
    · have hp := hr.none hc
      subst hp
      have ht : s.text = s.text.take s.settled := by have := hr.text; simpa using this
      have hf1 : s.feed1 d = s.first d := by unfold St.feed1; rw [if_neg (by omega)]
      rw [hf1, start s hok hc ht hb, ch, if_pos hc, ← ht]
    · obtain ⟨hpd, hret⟩ := hr.pend hc
      have hf1 : s.feed1 d = s.further d := by unfold St.feed1; rw [if_pos (by omega)]
      rw [hf1, ch, if_neg hc]
      by_cases hbad : d.toNat < s.low.toNat ∨ s.high.toNat < d.toNat
      · have hf2 : s.further d = s.breakOff.first d := by unfold St.further; rw [if_pos hbad]
        rw [hf2, if_pos hbad, start s.breakOff (St.Ok.settle (by simp)) rfl (List.take_length (l := s.breakOff.text)).symm rfl, hret, nl_up repB false _ up_rep (by decide)]
        simp [St.breakOff, St.settle, hret]
      · rw [if_neg hbad]
        by_cases h1 : s.count = 1
        · have hdm : St.dropMark { s with text := s.text ++ [d], count := s.count - 1, low := 128, high := 191 } = { s with text := s.text ++ [d], count := s.count - 1, low := 128, high := 191 } := by
            unfold St.dropMark
            rw [if_neg (by simp [hb])]
          have hf2 : s.further d = St.settle { s with text := s.text ++ [d], count := s.count - 1, low := 128, high := 191 } := by
            unfold St.further
            rw [if_neg hbad, if_pos (by omega), hdm]
          rw [hf2, if_pos h1]
          have hc0 : s.count - 1 = 0 := by omega
          rw [feed_begun r _ [] (St.Ok.settle (by simp; omega)) (Rel.settle _ hc0) rfl]
          have e2 : p ++ d :: ch [] 0 0 0 r = (p ++ [d]) ++ ch [] 0 0 0 r := by simp
          rw [e2, hret, nl_up _ false _ (up_snoc hpd (by omega)) (by simp)]
          simp only [St.settle, List.take_length, hc0]
          rw [← List.append_assoc, ← List.append_assoc, ← hr.text]
          cases r with
          | nil => simp [ch, nl]
          | cons x y => simp [ch]
        · have hf2 : s.further d = { s with text := s.text ++ [d], count := s.count - 1, low := 128, high := 191 } := by
            unfold St.further
            rw [if_neg hbad, if_neg (by omega)]
          rw [hf2, if_neg h1]
          obtain ⟨m, hm⟩ : ∃ m, s.count = m + 1 := ⟨s.count - 1, by omega⟩
          have hp2 : Pend (p ++ [d]) m 128 := by rw [hm] at hpd; exact hpd.snoc (by omega)
          have hm1 : s.count - 1 = m := by omega
          have htk : (s.text ++ [d]).take s.settled = s.text.take s.settled := List.take_append_of_le_length hok.le
          have hok2 : St.Ok { s with text := s.text ++ [d], count := s.count - 1, low := 128, high := 191 } := ⟨by have := hok.le; simp; omega, by have := hok.cnt; simp; omega, hok.z⟩
          rw [feed_begun r _ (p ++ [d]) hok2 ⟨by simp only [htk]; rw [← List.append_assoc, ← hr.text], fun _ => ⟨by simp only [hm1]; exact hp2, hret⟩, fun h => absurd h (by simp; omega)⟩ hb]
          simp only [htk]

theorem strip_raw {d : UInt8} (l : List UInt8) : strip (rawB d ++ l) = rawB d ++ l := by
  unfold strip rawB markB repB
  split
  · rename_i hd
    rw [if_neg]
    intro h
    have h0 := congrArg (fun l => l[0]?) h
    simp at h0
    subst h0
    revert hd
    decide
  · rw [if_neg]
    intro h
    simp at h
theorem strip_rep (l : List UInt8) : strip (repB ++ l) = repB ++ l := by
  unfold strip markB repB
  rw [if_neg]
  intro h
  simp at h

/-- THE CLAIM, of a decoder that has not begun. -/
theorem feed_first : ∀ (r : List UInt8) (s : St), s.Ok → s.begun = false → s.returned = false → (s.count ≠ 0 → Pend s.text s.count s.low) → (s.count = 0 → s.text = []) →
    (s.feed r).finish = nl false (strip (ch s.text s.count s.low s.high r))
  | [], s, hok, hb, _, _, _ => by
    have e : s.feed [] = s := rfl
    have hz := hok.z hb
    rw [e, ch, St.finish, hz]
    by_cases hc : s.count = 0
    · rw [if_pos hc, if_neg (by omega)]
      rfl
    · rw [if_neg hc, if_pos (by omega), List.take_zero]
      decide
  | d :: r, s, hok, hb, hret, hpd, hnone => by
    have e : s.feed (d :: r) = (s.feed1 d).feed r := rfl
    have hz := hok.z hb
    rw [e, ch]
    by_cases hc : s.count = 0
    · have ht := hnone hc
      have hf1 : s.feed1 d = s.first d := by unfold St.feed1; rw [if_neg (by omega)]
      have hok' := hok.first d
      rw [hf1, if_pos hc]
      by_cases hbd : (behindS d).1 = 0
      · have hf : s.first d = St.settle { s with text := s.text ++ addB d, count := (behindS d).1, low := (behindS d).2.1, high := (behindS d).2.2, returned := decide (d.toNat = 13) } := by
          unfold St.first
          rw [if_neg (by simp [hret]), if_neg (by omega)]
        rw [hf] at hok' ⊢
        rw [feed_begun r _ [] hok' (Rel.settle _ hbd) rfl, if_pos hbd, strip_raw, addB_raw _ (by simp)]
        simp only [St.settle, List.take_length, hbd, ht, List.nil_append]
        cases r with
        | nil => simp [ch, nl]
        | cons x y => simp [ch]
      · have hf : s.first d = { s with text := s.text ++ [d], count := (behindS d).1, low := (behindS d).2.1, high := (behindS d).2.2, returned := decide (d.toNat = 13) } := by
          unfold St.first
          rw [if_neg (by simp [hret]), if_pos (by omega)]
        have hup := behind_up hbd
        have hd13 : decide (d.toNat = 13) = false := by simp; omega
        rw [hf] at hok' ⊢
        rw [feed_first r _ hok' hb hd13 (fun _ => by simp only [ht, List.nil_append]; exact Pend.one hbd) (fun h => absurd h hbd), if_neg hbd]
        simp only [ht, List.nil_append]
    · have hpd := hpd hc
      have hf1 : s.feed1 d = s.further d := by unfold St.feed1; rw [if_pos (by omega)]
      rw [hf1, if_neg hc]
      by_cases hbad : d.toNat < s.low.toNat ∨ s.high.toNat < d.toNat
      · have hf2 : s.further d = s.breakOff.first d := by unfold St.further; rw [if_pos hbad]
        have hb2 : s.breakOff.feed (d :: r) = (s.breakOff.first d).feed r := by
          show (s.breakOff.feed1 d).feed r = _
          unfold St.feed1
          rw [if_neg (show ¬ 0 < s.breakOff.count from Nat.lt_irrefl 0)]
        rw [hf2, if_pos hbad, ← hb2, feed_begun (d :: r) s.breakOff [] (St.Ok.settle (by simp)) (Rel.settle _ rfl) rfl, strip_rep, nl_up repB false _ up_rep (by decide)]
        have e1 : s.breakOff.count = 0 := rfl
        have e2 : s.breakOff.text.take s.breakOff.settled = repB := by simp [St.breakOff, St.settle, hz]
        have e3 : s.breakOff.returned = false := hret
        rw [e2, e3, ch, if_pos e1]
      · rw [if_neg hbad]
        by_cases h1 : s.count = 1
        · have hc0 : s.count - 1 = 0 := by omega
          have hf2 : s.further d = (St.dropMark { s with text := s.text ++ [d], count := s.count - 1, low := 128, high := 191 }).settle := by
            unfold St.further
            rw [if_neg hbad, if_pos hc0]
          rw [hf2, if_pos h1]
          have hcd : ∀ s' : St, s'.dropMark.count = s'.count := by
            intro s'
            unfold St.dropMark
            split <;> rfl
          rw [feed_begun r _ [] (St.Ok.settle (by rw [hcd]; simp; omega)) (Rel.settle _ (by rw [hcd]; exact hc0)) rfl]
          have hfl : ∀ s' : St, s'.dropMark.settle.count = s'.count ∧ s'.dropMark.settle.returned = s'.returned ∧ s'.dropMark.settle.low = s'.low ∧ s'.dropMark.settle.high = s'.high ∧ s'.dropMark.settle.text.take s'.dropMark.settle.settled = s'.dropMark.text := by
            intro s'
            unfold St.dropMark
            split <;> simp [St.settle]
          obtain ⟨q1, q2, q3, q4, q5⟩ := hfl { s with text := s.text ++ [d], count := s.count - 1, low := 128, high := 191 }
          rw [q1, q2, q3, q4, q5]
          simp only [hc0, hret]
          have e3 : ch [] 0 128 191 r = ch [] 0 0 0 r := by
            cases r with
            | nil => simp [ch]
            | cons x y => simp [ch]
          rw [e3]
          have e2 : s.text ++ d :: ch [] 0 0 0 r = (s.text ++ [d]) ++ ch [] 0 0 0 r := by simp
          rw [e2]
          by_cases hm : s.text ++ [d] = markB
          · have hdm : (St.dropMark { s with text := s.text ++ [d], count := s.count - 1, low := 128, high := 191 }).text = [] := by
              unfold St.dropMark
              rw [if_pos ⟨hb, hm⟩]
            simp only [hc0, hret] at hdm
            rw [hdm, hm]
            simp [strip, markB]
          · have hdm : (St.dropMark { s with text := s.text ++ [d], count := s.count - 1, low := 128, high := 191 }).text = s.text ++ [d] := by
              unfold St.dropMark
              rw [if_neg (fun h => hm h.2)]
            simp only [hc0, hret] at hdm
            have hst : strip ((s.text ++ [d]) ++ ch [] 0 0 0 r) = (s.text ++ [d]) ++ ch [] 0 0 0 r := by
              unfold strip
              rw [if_neg]
              intro h
              apply hm
              cases hp : s.text with
              | nil => exact absurd hp hpd.ne
              | cons a q =>
                rw [hp] at h
                simp [markB] at h
                obtain ⟨rfl, h⟩ := h
                have := hpd.ef q hp
                have hq : q.length = 1 := by omega
                match q, hq with
                | [x], _ =>
                  simp at h
                  simp [markB, h]
            rw [hst, hdm, nl_up _ false _ (up_snoc hpd (by omega)) (by simp)]
        · have hf2 : s.further d = { s with text := s.text ++ [d], count := s.count - 1, low := 128, high := 191 } := by
            unfold St.further
            rw [if_neg hbad, if_neg (by omega)]
          rw [hf2, if_neg h1]
          obtain ⟨m, hm⟩ : ∃ m, s.count = m + 1 := ⟨s.count - 1, by omega⟩
          have hp2 : Pend (s.text ++ [d]) m 128 := by rw [hm] at hpd; exact hpd.snoc (by omega)
          have hm1 : s.count - 1 = m := by omega
          have hok2 : St.Ok { s with text := s.text ++ [d], count := s.count - 1, low := 128, high := 191 } := ⟨by have := hok.le; simp; omega, by have := hok.cnt; simp; omega, hok.z⟩
          rw [feed_first r _ hok2 hb hret (fun _ => by simp only [hm1]; exact hp2) (fun h => absurd h (by simp; omega))]

theorem decS_spec (l : List UInt8) : decS l = specB l :=
  feed_first l St.new St.Ok.new rfl rfl (fun h => absurd rfl h) (fun _ => rfl)

end Go.Proofs.Ytnfallgpnoofiaa
