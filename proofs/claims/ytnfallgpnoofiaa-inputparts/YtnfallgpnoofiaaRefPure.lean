/-
  The document's answer for layer 1 as plain functions: how many bytes a first one asks for, how many are right, ends of lines by a look ahead; and that it is specB. No program is named here.
-/
import Derived.Test.YtnfallgpnoofiaaSpec
namespace Go.Proofs.Ytnfallgpnoofiaa

def moreZ (c : UInt8) : Int :=
  if c.toNat < 128 then 0 else if 194 ≤ c.toNat ∧ c.toNat ≤ 223 then 1 else if 224 ≤ c.toNat ∧ c.toNat ≤ 239 then 2 else if 240 ≤ c.toNat ∧ c.toNat ≤ 244 then 3 else -1
def loN (f : UInt8) (k : Nat) : Nat := if k = 1 then (if f.toNat = 224 then 160 else if f.toNat = 240 then 144 else 128) else 128
def hiN (f : UInt8) (k : Nat) : Nat := if k = 1 then (if f.toNat = 237 then 159 else if f.toNat = 244 then 143 else 191) else 191
def folB (f c : UInt8) (k : Nat) : Bool := decide (loN f k ≤ c.toNat ∧ c.toNat ≤ hiN f k)
/-- How many are right, from place k on. -/
def rgt (f : UInt8) (n : Int) : Nat → List UInt8 → Nat
  | k, [] => k
  | k, d :: r => if (k : Int) ≤ n ∧ folB f d k = true then rgt f n (k + 1) r else k

theorem rgt_ge (f : UInt8) (n : Int) : ∀ (r : List UInt8) (k : Nat), k ≤ rgt f n k r ∧ rgt f n k r ≤ k + r.length
  | [], k => by simp [rgt]
  | d :: r, k => by
    rw [rgt]
    split
    · have := rgt_ge f n r (k + 1); simp; omega
    · simp

theorem moreZ_bad {c : UInt8} (h : (behindS c).1 = 0) : moreZ c = if c.toNat < 128 then 0 else -1 := by
  unfold behindS at h
  unfold moreZ
  by_cases c1 : 194 ≤ c.toNat ∧ c.toNat ≤ 223
  · simp [c1] at h
  by_cases c2 : c.toNat = 224
  · simp [c2] at h
  by_cases c3 : c.toNat = 237
  · simp [c3] at h
  by_cases c4 : 225 ≤ c.toNat ∧ c.toNat ≤ 239
  · rw [if_neg c1, if_neg c2, if_neg c3, if_pos c4] at h; simp at h
  by_cases c5 : c.toNat = 240
  · simp [c5] at h
  by_cases c6 : c.toNat = 244
  · simp [c6] at h
  by_cases c7 : 241 ≤ c.toNat ∧ c.toNat ≤ 243
  · rw [if_neg c1, if_neg c2, if_neg c3, if_neg c4, if_neg c5, if_neg c6, if_pos c7] at h; simp at h
  rw [if_neg c1]
  split
  · rfl
  · rw [if_neg (by omega), if_neg (by omega)]
theorem moreZ_good {c : UInt8} (h : (behindS c).1 ≠ 0) : moreZ c = (behindS c).1 ∧ (behindS c).2.1.toNat = loN c 1 ∧ (behindS c).2.2.toNat = hiN c 1 := by
  unfold behindS at h ⊢
  unfold moreZ loN hiN
  by_cases c1 : 194 ≤ c.toNat ∧ c.toNat ≤ 223
  · rw [if_pos c1, if_neg (by omega), if_pos c1, if_pos rfl, if_pos rfl, if_neg (by omega), if_neg (by omega), if_neg (by omega), if_neg (by omega)]; decide
  by_cases c2 : c.toNat = 224
  · simp [c2]
  by_cases c3 : c.toNat = 237
  · simp [c3]
  by_cases c4 : 225 ≤ c.toNat ∧ c.toNat ≤ 239
  · rw [if_neg c1, if_neg c2, if_neg c3, if_pos c4, if_neg (by omega), if_neg c1, if_pos (by omega), if_pos rfl, if_pos rfl, if_neg c2, if_neg (by omega), if_neg c3, if_neg (by omega)]; decide
  by_cases c5 : c.toNat = 240
  · simp [c5]
  by_cases c6 : c.toNat = 244
  · simp [c6]
  by_cases c7 : 241 ≤ c.toNat ∧ c.toNat ≤ 243
  · rw [if_neg c1, if_neg c2, if_neg c3, if_neg c4, if_neg c5, if_neg c6, if_pos c7, if_neg (by omega), if_neg c1, if_neg (by omega), if_pos (by omega), if_pos rfl, if_pos rfl, if_neg c2, if_neg c5, if_neg c3, if_neg c6]; decide
  · rw [if_neg c1, if_neg c2, if_neg c3, if_neg c4, if_neg c5, if_neg c6, if_neg c7] at h
    exact absurd rfl h

theorem loN_2 (f : UInt8) {k : Nat} (h : k ≠ 1) : loN f k = 128 := by simp [loN, h]
theorem hiN_2 (f : UInt8) {k : Nat} (h : k ≠ 1) : hiN f k = 191 := by simp [hiN, h]

/-- A character that has begun: what comes of it, by how many are right. -/
theorem ch_rgt (f : UInt8) : ∀ (r p : List UInt8) (m k : Nat) (lo hi : UInt8), p.length = k → lo.toNat = loN f k → hi.toNat = hiN f k → 0 < k →
    ch p (m + 1) lo hi r = if rgt f ((k + m : Nat) : Int) k r = k + m + 1 then p ++ r.take (m + 1) ++ ch0 (r.drop (m + 1)) else repB ++ ch0 (r.drop (rgt f ((k + m : Nat) : Int) k r - k))
  | [], p, m, k, lo, hi, _, _, _, _ => by
    rw [ch, if_neg (by omega), rgt, if_neg (by omega)]
    simp [ch0, ch]
  | d :: r, p, m, k, lo, hi, hp, hlo, hhi, hk => by
    rw [ch, if_neg (by omega)]
    by_cases hbad : d.toNat < lo.toNat ∨ hi.toNat < d.toNat
    · have hf : folB f d k = false := by unfold folB; simp; omega
      have hr : rgt f ((k + m : Nat) : Int) k (d :: r) = k := by rw [rgt, if_neg (by simp [hf])]
      have hc : ch0 (d :: r) = if (behindS d).1 = 0 then rawB d ++ ch [] 0 0 0 r else ch [d] (behindS d).1 (behindS d).2.1 (behindS d).2.2 r := by
        show ch [] 0 0 0 (d :: r) = _
        rw [ch, if_pos rfl]
      rw [if_pos hbad, ← hc, hr, if_neg (by omega), Nat.sub_self, List.drop_zero]
    · have hf : folB f d k = true := by unfold folB; simp; omega
      have hr0 : rgt f ((k + m : Nat) : Int) k (d :: r) = rgt f ((k + m : Nat) : Int) (k + 1) r := by rw [rgt, if_pos ⟨by omega, hf⟩]
      rw [if_neg hbad, hr0]
      by_cases h1 : m = 0
      · subst h1
        have hr : rgt f ((k + 0 : Nat) : Int) (k + 1) r = k + 1 := by
          cases r with
          | nil => rfl
          | cons x y => rw [rgt, if_neg (by omega)]
        rw [if_pos (by omega), hr, if_pos (by omega)]
        simp [ch0]
      · obtain ⟨m', rfl⟩ : ∃ m', m = m' + 1 := ⟨m - 1, by omega⟩
        have ih := ch_rgt f r (p ++ [d]) m' (k + 1) 128 191 (by simp; omega) (by rw [loN_2 f (by omega)]; decide) (by rw [hiN_2 f (by omega)]; decide) (by omega)
        have e1 : k + (m' + 1) = k + 1 + m' := by omega
        have e2 : m' + 1 + 1 - 1 = m' + 1 := by omega
        rw [if_neg (by omega), e2, ih, e1]
        have hge := rgt_ge f ((k + 1 + m' : Nat) : Int) r (k + 1)
        by_cases hk2 : rgt f ((k + 1 + m' : Nat) : Int) (k + 1) r = k + 1 + m' + 1
        · rw [if_pos hk2, if_pos hk2]
          simp
        · rw [if_neg hk2, if_neg hk2]
          obtain ⟨q, hq⟩ : ∃ q, rgt f ((k + 1 + m' : Nat) : Int) (k + 1) r = k + 1 + q := ⟨_, (Nat.add_sub_cancel' hge.1).symm⟩
          rw [hq]
          have a1 : k + 1 + q - (k + 1) = q := by omega
          have a2 : k + 1 + q - k = q + 1 := by omega
          rw [a1, a2, List.drop_succ_cons]

/-- One step of the document's answer. -/
theorem ch0_step (c : UInt8) (r : List UInt8) :
    ch0 (c :: r) = if moreZ c = (rgt c (moreZ c) 1 r : Int) - 1 then (c :: r).take (rgt c (moreZ c) 1 r) ++ ch0 ((c :: r).drop (rgt c (moreZ c) 1 r)) else repB ++ ch0 ((c :: r).drop (rgt c (moreZ c) 1 r)) := by
  show ch [] 0 0 0 (c :: r) = _
  rw [ch, if_pos rfl]
  by_cases hb : (behindS c).1 = 0
  · rw [if_pos hb, moreZ_bad hb]
    by_cases hl : c.toNat < 128
    · have hr : rgt c 0 1 r = 1 := by
        cases r with
        | nil => rfl
        | cons x y => rw [rgt, if_neg (by simp)]
      rw [if_pos hl, hr, if_pos (by decide)]
      simp [rawB, hl, ch0]
    · have hr : rgt c (-1) 1 r = 1 := by
        cases r with
        | nil => rfl
        | cons x y => rw [rgt, if_neg (by simp)]
      rw [if_neg hl, hr, if_neg (by decide)]
      simp [rawB, hl, ch0]
  · rw [if_neg hb]
    obtain ⟨h1, h2, h3⟩ := moreZ_good hb
    obtain ⟨m, hm⟩ : ∃ m, (behindS c).1 = m + 1 := ⟨(behindS c).1 - 1, by omega⟩
    rw [h1, hm, ch_rgt c r [c] m 1 _ _ rfl h2 h3 (by omega)]
    have e : ((1 + m : Nat) : Int) = ((m + 1 : Nat) : Int) := by omega
    rw [e]
    have hge := rgt_ge c ((m + 1 : Nat) : Int) r 1
    by_cases hk : rgt c ((m + 1 : Nat) : Int) 1 r = 1 + m + 1
    · rw [if_pos hk, if_pos (by omega), hk]
      have a1 : 1 + m + 1 = (m + 1) + 1 := by omega
      rw [a1]
      simp
    · rw [if_neg hk, if_neg (by omega)]
      obtain ⟨q, hq⟩ : ∃ q, rgt c ((m + 1 : Nat) : Int) 1 r = q + 1 := ⟨rgt c ((m + 1 : Nat) : Int) 1 r - 1, by omega⟩
      rw [hq]
      simp

/-- Ends of lines by a look ahead. -/
def crl : List UInt8 → List UInt8
  | [] => []
  | c :: r => if c.toNat ≠ 13 then c :: crl r else if r.head? = some 10 then crl r else 10 :: crl r

theorem nl_crl : ∀ l : List UInt8, nl false l = crl l ∧ nl true l = (if l.head? = some 10 then crl l.tail else crl l)
  | [] => ⟨rfl, rfl⟩
  | c :: r => by
    have ih := nl_crl r
    constructor
    · rw [nl, crl]
      by_cases h : c.toNat = 13
      · rw [if_pos h, if_neg (by omega), ih.2]
        by_cases hh : r.head? = some 10
        · rw [if_pos hh, if_pos hh]
          cases r with
          | nil => simp at hh
          | cons x y =>
            simp at hh
            subst hh
            simp [crl]
        · rw [if_neg hh, if_neg hh]
      · rw [if_neg h, if_neg (by simp), if_pos h, ih.1]
    · rw [nl]
      by_cases h : c.toNat = 13
      · have hc : ¬ (c :: r).head? = some 10 := by
          intro hc
          simp at hc
          subst hc
          revert h
          decide
        rw [if_pos h, if_neg hc, crl, if_neg (by omega), ih.2]
        by_cases hh : r.head? = some 10
        · rw [if_pos hh, if_pos hh]
          cases r with
          | nil => simp at hh
          | cons x y =>
            simp at hh
            subst hh
            simp [crl]
        · rw [if_neg hh, if_neg hh]
      · rw [if_neg h]
        by_cases h10 : c.toNat = 10
        · have hc : c = 10 := UInt8.toNat_inj.1 h10
          subst hc
          rw [if_pos ⟨rfl, rfl⟩, if_pos (by simp), ih.1]
          rfl
        · rw [if_neg (by simp [h10]), if_neg, crl, if_pos h, ih.1]
          intro hc
          simp at hc
          subst hc
          exact h10 rfl

def stripIn (l : List UInt8) : List UInt8 := if l.take 3 = markB then l.drop 3 else l
def refB (l : List UInt8) : List UInt8 := crl (ch0 (stripIn l))

theorem strip_in (l : List UInt8) : strip (ch0 l) = ch0 (stripIn l) := by
  unfold stripIn
  by_cases h : l.take 3 = markB
  · rw [if_pos h]
    have e : l = markB ++ l.drop 3 := by rw [← h, List.take_append_drop]
    have hm : ∀ x, ch0 (markB ++ x) = markB ++ ch0 x := fun x => by simp [ch0, markB, ch, behindS]
    conv => lhs; rw [e, hm]
    simp [strip, markB]
  · rw [if_neg h]
    unfold strip
    rw [if_neg]
    intro hc
    apply h
    cases l with
    | nil => simp [ch0, ch, markB] at hc
    | cons c r =>
      rw [ch0_step] at hc
      split at hc
      · rename_i hk
        have hge := rgt_ge c (moreZ c) r 1
        obtain ⟨q, hq⟩ : ∃ q, rgt c (moreZ c) 1 r = q + 1 := ⟨rgt c (moreZ c) 1 r - 1, by omega⟩
        rw [hq] at hc hk hge
        have hc0 : c = 239 := by
          have := congrArg (fun l => l[0]?) hc
          simpa [markB] using this
        subst hc0
        have hm : moreZ 239 = 2 := by decide
        rw [hm] at hk
        have hq2 : q = 2 := by omega
        subst hq2
        rw [List.take_append_of_le_length (by simp; omega), List.take_take] at hc
        simpa using hc
      · simp [repB, markB] at hc

theorem spec_ref (l : List UInt8) : specB l = refB l := by
  unfold specB refB
  rw [strip_in, (nl_crl _).1]

end Go.Proofs.Ytnfallgpnoofiaa
