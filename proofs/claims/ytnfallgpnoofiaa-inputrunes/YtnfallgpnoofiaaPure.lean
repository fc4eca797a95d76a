/-
  The decoder's states and steps as plain functions on lists of bytes: no program is named here.
-/
import Derived.WalkKit
namespace Go.Proofs.Ytnfallgpnoofiaa

/-- What a decoder holds. -/
structure St where
  text : List UInt8
  settled : Nat
  count : Nat
  low : UInt8
  high : UInt8
  begun : Bool
  returned : Bool

def repB : List UInt8 := [239, 191, 189]
def markB : List UInt8 := [239, 187, 191]

/-- What a first byte asks for. -/
def behindS (c : UInt8) : Nat × UInt8 × UInt8 :=
  if 194 ≤ c.toNat ∧ c.toNat ≤ 223 then (1, 128, 191)
  else if c.toNat = 224 then (2, 160, 191)
  else if c.toNat = 237 then (2, 128, 159)
  else if 225 ≤ c.toNat ∧ c.toNat ≤ 239 then (2, 128, 191)
  else if c.toNat = 240 then (3, 144, 191)
  else if c.toNat = 244 then (3, 128, 143)
  else if 241 ≤ c.toNat ∧ c.toNat ≤ 243 then (3, 128, 191)
  else (0, 0, 0)

def St.new : St := ⟨[], 0, 0, 0, 0, false, false⟩
def St.settle (s : St) : St := { s with settled := s.text.length, begun := true }
def St.breakOff (s : St) : St := St.settle { s with text := s.text.take s.settled ++ repB, count := 0, low := 0, high := 0 }
def St.dropMark (s : St) : St := if s.begun = false ∧ s.text = markB then { s with text := [] } else s
/-- What a byte adds that begins a character, where no more is asked for. -/
def addB (c : UInt8) : List UInt8 := if c.toNat = 13 then [10] else if c.toNat < 128 then [c] else repB
def St.first (s : St) (c : UInt8) : St :=
  if s.returned = true ∧ c.toNat = 10 then { s with returned := decide (c.toNat = 13) }
  else if 0 < (behindS c).1 then { s with text := s.text ++ [c], count := (behindS c).1, low := (behindS c).2.1, high := (behindS c).2.2, returned := decide (c.toNat = 13) }
  else St.settle { s with text := s.text ++ addB c, count := (behindS c).1, low := (behindS c).2.1, high := (behindS c).2.2, returned := decide (c.toNat = 13) }
def St.further (s : St) (c : UInt8) : St :=
  if c.toNat < s.low.toNat ∨ s.high.toNat < c.toNat then s.breakOff.first c
  else if s.count - 1 = 0 then (St.dropMark { s with text := s.text ++ [c], count := s.count - 1, low := 128, high := 191 }).settle
  else { s with text := s.text ++ [c], count := s.count - 1, low := 128, high := 191 }
def St.feed1 (s : St) (c : UInt8) : St := if 0 < s.count then s.further c else s.first c
def St.feed (s : St) (l : List UInt8) : St := l.foldl St.feed1 s
def St.finish (s : St) : List UInt8 := s.text.take s.settled ++ if 0 < s.count then repB else []
def decS (l : List UInt8) : List UInt8 := (St.new.feed l).finish

/-- What holds of every state that is reached. -/
structure St.Ok (s : St) : Prop where
  le : s.settled ≤ s.text.length
  cnt : s.count ≤ 3
  z : s.begun = false → s.settled = 0

theorem behindS_le (c : UInt8) : (behindS c).1 ≤ 3 := by
  unfold behindS
  repeat' split
  all_goals simp

theorem St.Ok.new : St.new.Ok := ⟨Nat.le_refl _, Nat.zero_le _, fun _ => rfl⟩
theorem St.Ok.settle {s : St} (h : s.count ≤ 3) : s.settle.Ok := ⟨Nat.le_refl _, h, fun h => by simp [St.settle] at h⟩
theorem St.Ok.first {s : St} (h : s.Ok) (c : UInt8) : (s.first c).Ok := by
  unfold St.first
  split
  · exact ⟨h.le, h.cnt, h.z⟩
  · split
    · exact ⟨by have := h.le; simp; omega, behindS_le c, h.z⟩
    · exact St.Ok.settle (behindS_le c)
theorem St.Ok.feed1 {s : St} (h : s.Ok) (c : UInt8) : (s.feed1 c).Ok := by
  unfold St.feed1
  split
  · unfold St.further
    split
    · exact (St.Ok.settle (by simp)).first c
    · split
      · refine St.Ok.settle ?_
        have := h.cnt
        unfold St.dropMark
        split <;> simp <;> omega
      · exact ⟨by have := h.le; simp; omega, by have := h.cnt; simp; omega, h.z⟩
  · exact h.first c
theorem addB_len (c : UInt8) : (addB c).length ≤ 3 := by
  unfold addB repB
  repeat' split
  all_goals simp
theorem St.first_len (s : St) (c : UInt8) : (s.first c).text.length ≤ s.text.length + 3 := by
  have := addB_len c
  unfold St.first St.settle
  repeat' split
  all_goals simp
  omega
theorem St.feed1_len {s : St} (h : s.Ok) (c : UInt8) : (s.feed1 c).text.length ≤ s.text.length + 6 := by
  have hb : s.breakOff.text.length ≤ s.text.length + 3 := by
    have := h.le
    simp [St.breakOff, St.settle, repB]; omega
  have h1 := St.first_len s c
  have h2 := St.first_len s.breakOff c
  unfold St.feed1
  split
  · unfold St.further
    split
    · omega
    · split
      · unfold St.dropMark
        split <;> simp [St.settle]
      · simp
  · omega
theorem St.feed_ok {s : St} (h : s.Ok) : ∀ l : List UInt8, (s.feed l).Ok ∧ (s.feed l).text.length ≤ s.text.length + 6 * l.length
  | [] => ⟨h, by simp [St.feed]⟩
  | c :: l => by
    have ih := St.feed_ok (h.feed1 c) l
    have hl := St.feed1_len h c
    have e : s.feed (c :: l) = (s.feed1 c).feed l := rfl
    rw [e]
    refine ⟨ih.1, ?_⟩
    have := ih.2
    simp
    omega
theorem St.feed_append (s : St) (l m : List UInt8) : s.feed (l ++ m) = (s.feed l).feed m := by simp [St.feed]
theorem St.feed_snoc (s : St) (l : List UInt8) (c : UInt8) : s.feed (l ++ [c]) = (s.feed l).feed1 c := by simp [St.feed]

end Go.Proofs.Ytnfallgpnoofiaa
