/-
 References to characters as plain functions on lists of bytes, and what holds of them. No program is named here.; Texts as they are written, as plain functions on lists of bytes, and what holds of them. No program is named here.
-/
import Derived.Laws.Runes
import Derived.Laws.Cover4
namespace Go.Proofs.YteccdijjpmeeaaaGreat
set_option linter.unusedVariables false
set_option maxRecDepth 100000
set_option maxHeartbeats 8000000
section
def digV (c : UInt8) : Nat :=
 if 48 <= c.toNat /\ c.toNat <= 57 then c.toNat - 48 else if 97 <= c.toNat /\ c.toNat <= 102 then c.toNat - 87 else if 65 <= c.toNat /\ c.toNat <= 70 then c.toNat - 55 else 16
def runN (b : Nat) : List UInt8 -> Nat
 | [] => 0
 | c :: r => if digV c < b then runN b r + 1 else 0
theorem runN_le (b : Nat) : ∀ l : List UInt8, runN b l <= l.length
 | [] => Nat.le_refl _
 | c :: r => by
  unfold runN
  have := runN_le b r
  split
  ·simp; omega
  ·simp
def codeF (b code : Nat) (c : UInt8) : Nat := if code <= 1114111 then code * b + digV c else code
def codeL (b : Nat) (l : List UInt8) : Nat := l.foldl (codeF b) 0
def ctrl : List Nat := [8364, 129, 8218, 402, 8222, 8230, 8224, 8225, 710, 8240, 352, 8249, 338, 141, 381, 143, 144, 8216, 8217, 8220, 8221, 8226, 8211, 8212, 732, 8482, 353, 8250, 339, 157, 382, 376]
def wrongC (code : Nat) : Bool := decide (code = 0) || decide (1114111 < code) || (decide (55296 <= code) && decide (code <= 57343))
def ctrlC (code : Nat) : Bool := decide (128 <= code) && decide (code <= 159)
def meantC (code : Nat) : Nat := if wrongC code = true then 65533 else if ctrlC code = true then ctrl.getD (code - 128) 0 else code
def meantF (code : Nat) : Nat := if wrongC code = true then 2 else if ctrlC code = true then 2 else 0
structure Ref where
 text : ByteArray
 n : Nat
 fault : Nat
def none0 : Ref := ⟨⟨#[]⟩, 0, 0⟩
def semi (l : List UInt8) : Bool := [59].isPrefixOf l
def hexN : List UInt8 -> Nat
 | c :: _ => if c = 120 \/ c = 88 then 1 else 0
 | [] => 0
def baseN (x : Nat) : Nat := if x = 1 then 16 else 10
theorem hexN_le : ∀ l : List UInt8, hexN l <= l.length /\ hexN l <= 1
 | [] => ⟨Nat.le_refl _, Nat.zero_le _⟩
 | c :: r => by
  simp only [hexN]
  split
  ·simp
  ·simp
def numR (x b : Nat) (ds : List UInt8) : Ref :=
 if runN b ds = 0 then none0
 else ⟨Utf8.encode (meantC (codeL b (ds.take (runN b ds)))), 2 + x + runN b ds + (if semi (ds.drop (runN b ds)) = true then 1 else 0),
  if meantF (codeL b (ds.take (runN b ds))) = 0 then (if semi (ds.drop (runN b ds)) = true then 0 else 1) else meantF (codeL b (ds.take (runN b ds)))⟩
def numL (l : List UInt8) : Ref := numR (hexN l) (baseN (hexN l)) (l.drop (hexN l))
structure Nm where
 name : List UInt8
 code : Nat
 bare : Bool
def names : List Nm := [⟨[97, 109, 112], 38, true⟩, ⟨[108, 116], 60, true⟩, ⟨[103, 116], 62, true⟩, ⟨[113, 117, 111, 116], 34, true⟩, ⟨[97, 112, 111, 115], 39, false⟩, ⟨[110, 98, 115, 112], 160, true⟩, ⟨[99, 111, 112, 121], 169, true⟩, ⟨[114, 101, 103], 174, true⟩, ⟨[104, 101, 108, 108, 105, 112], 8230, false⟩, ⟨[109, 100, 97, 115, 104], 8212, false⟩, ⟨[110, 100, 97, 115, 104], 8211, false⟩, ⟨[108, 115, 113, 117, 111], 8216, false⟩, ⟨[114, 115, 113, 117, 111], 8217, false⟩, ⟨[108, 100, 113, 117, 111], 8220, false⟩, ⟨[114, 100, 113, 117, 111], 8221, false⟩, ⟨[101, 117, 114, 111], 8364, false⟩, ⟨[116, 105, 109, 101, 115], 215, true⟩, ⟨[100, 105, 118, 105, 100, 101], 247, true⟩, ⟨[112, 97, 114, 97], 182, true⟩, ⟨[115, 101, 99, 116], 167, true⟩, ⟨[110, 111, 116], 172, true⟩, ⟨[110, 111, 116, 105, 110], 8713, false⟩]
def lenN (r : Nm) (l : List UInt8) : Nat :=
 if r.name.isPrefixOf l = true then (if semi (l.drop r.name.length) = true then r.name.length + 1 else if r.bare = true then r.name.length else 0) else 0
structure St where
 code : Nat
 long : Nat
 ended : Bool
def stepN (l : List UInt8) (st : St) (r : Nm) : St := if st.long < lenN r l then ⟨r.code, lenN r l, semi (l.drop r.name.length)⟩ else st
def scanN (l : List UInt8) (rs : List Nm) : St := rs.foldl (stepN l) ⟨0, 0, false⟩
def goesOn (c : UInt8) : Bool := decide (c.toNat = 61) || (decide (48 <= c.toNat) && decide (c.toNat <= 57)) || (decide (97 <= c.toNat) && decide (c.toNat <= 122)) || (decide (65 <= c.toNat) && decide (c.toNat <= 90))
def goes : List UInt8 -> Bool
 | [] => false
 | c :: _ => goesOn c
def endR (st : St) (l : List UInt8) (attr : Bool) : Ref :=
 if st.long = 0 then none0 else if st.ended = true then ⟨Utf8.encode st.code, 1 + st.long, 0⟩ else if (attr && goes (l.drop st.long)) = true then none0 else ⟨Utf8.encode st.code, 1 + st.long, 1⟩
def nameL (l : List UInt8) (attr : Bool) : Ref := endR (scanN l names) l attr
def hash : List UInt8 -> Bool
 | [] => false
 | c :: _ => decide (c = 35)
def refL (l : List UInt8) (attr : Bool) : Ref := if hash l = true then numL (l.drop 1) else nameL l attr
def amp : List UInt8 -> Bool
 | [] => false
 | c :: _ => decide (c = 38)
def takeL (l : List UInt8) (attr : Bool) : Ref := if amp l = true then refL (l.drop 1) attr else none0
/-! ### How long, at most -/
theorem prefix_length : ∀ (p l : List UInt8), p.isPrefixOf l = true -> p.length <= l.length
 | [], _, _ => Nat.zero_le _
 | _ :: _, [], h => by simp [List.isPrefixOf] at h
 | a :: p, c :: l, h => by
  simp [List.isPrefixOf] at h
  have := prefix_length p l (by simpa using h.2)
  simp; omega
theorem semi_length {l : List UInt8} (h : semi l = true) : 1 <= l.length := prefix_length _ _ h
theorem lenN_le (r : Nm) (l : List UInt8) : lenN r l <= l.length := by
 unfold lenN
 split
 ·rename_i h
  have h1 := prefix_length _ _ h
  split
  ·rename_i h2
   have := semi_length h2
   simp at this
   omega
  ·split
   ·exact h1
   ·exact Nat.zero_le _
 ·exact Nat.zero_le _
theorem scanN_long (l : List UInt8) (rs : List Nm) : (scanN l rs).long <= l.length := by
 have key : ∀ (rs : List Nm) (st : St), st.long <= l.length -> (rs.foldl (stepN l) st).long <= l.length := by
  intro rs
  induction rs with
  | nil => exact fun _ h => h
  | cons r rs ih =>
   intro st h
   refine ih _ ?_
   unfold stepN
   split
   ·exact lenN_le r l
   ·exact h
 exact key rs _ (Nat.zero_le _)
theorem numR_n (x b : Nat) (ds : List UInt8) : (numR x b ds).n <= 2 + x + ds.length := by
 unfold numR
 split
 ·exact Nat.zero_le _
 ·have h1 := runN_le b ds
  dsimp
  split
  ·rename_i h
   have := semi_length h
   simp at this
   omega
  ·omega
theorem numL_n (l : List UInt8) : (numL l).n <= 2 + l.length := by
 unfold numL
 have := numR_n (hexN l) (baseN (hexN l)) (l.drop (hexN l))
 have h := hexN_le l
 simp at this
 omega
theorem nameL_n (l : List UInt8) (attr : Bool) : (nameL l attr).n <= 1 + l.length := by
 have h := scanN_long l names
 unfold nameL endR
 repeat' split
 all_goals first | exact Nat.zero_le _ | (dsimp; omega)
theorem takeL_n (l : List UInt8) (attr : Bool) : (takeL l attr).n <= l.length := by
 unfold takeL
 split
 ·cases l with
  | nil => contradiction
  | cons c r =>
   rw [List.drop_one, List.tail_cons]
   unfold refL
   split
   ·cases r with
    | nil => contradiction
    | cons d r =>
     have := numL_n r
     simp
     omega
   ·have := nameL_n r attr
    simpa [Nat.add_comm] using this
 ·exact Nat.zero_le _
theorem ite_ref {p : Ref -> Prop} {c : Prop} [Decidable c] {a b : Ref} (ha : p a) (hb : p b) : p (if c then a else b) := by
 split
 ·exact ha
 ·exact hb
theorem enc_le (c n f : Nat) : (Ref.mk (Utf8.encode (c : Int)) n f).text.size <= 4 := by
 dsimp only
 exact encode_size_le (c : Int)
theorem text_le (l : List UInt8) (attr : Bool) : (takeL l attr).text.size <= 4 := by
 have h0 : none0.text.size <= 4 := by decide
 have hn : (numL ((l.drop 1).drop 1)).text.size <= 4 := by
  unfold numL numR
  exact ite_ref (p := fun r => r.text.size <= 4) h0 (by apply enc_le)
 have ha : (nameL (l.drop 1) attr).text.size <= 4 := by
  unfold nameL endR
  exact ite_ref (p := fun r => r.text.size <= 4) h0 (ite_ref (p := fun r => r.text.size <= 4) (by apply enc_le) (ite_ref (p := fun r => r.text.size <= 4) h0 (by apply enc_le)))
 unfold takeL refL
 exact ite_ref (p := fun r => r.text.size <= 4) (ite_ref (p := fun r => r.text.size <= 4) hn ha) h0
/-! ### All of them -/
def allF (attr : Bool) : Nat -> List UInt8 -> List UInt8
 | 0, _ => []
 | _ + 1, [] => []
 | f + 1, c :: r => if (takeL (c :: r) attr).n = 0 then c :: allF attr f r else (takeL (c :: r) attr).text.data.toList ++ allF attr f ((c :: r).drop (takeL (c :: r) attr).n)
theorem allF_enough (attr : Bool) : ∀ (f g : Nat) (l : List UInt8), l.length <= f -> l.length <= g -> allF attr f l = allF attr g l
 | 0, g, l, hf, _ => by
  rw [List.eq_nil_of_length_eq_zero (l := l) (by omega)]
  cases g <;> rfl
 | f + 1, 0, l, _, hg => by
  rw [List.eq_nil_of_length_eq_zero (l := l) (by omega)]
  rfl
 | _ + 1, _ + 1, [], _, _ => rfl
 | f + 1, g + 1, c :: r, hf, hg => by
  simp only [List.length_cons] at hf hg
  unfold allF
  split
  ·rw [allF_enough attr f g r (by omega) (by omega)]
  ·rename_i h
   rw [allF_enough attr f g _ (by rw [List.length_drop, List.length_cons]; omega) (by rw [List.length_drop, List.length_cons]; omega)]
def allL (attr : Bool) (l : List UInt8) : List UInt8 := allF attr l.length l
theorem allL_none {attr : Bool} {c : UInt8} {r : List UInt8} (h : (takeL (c :: r) attr).n = 0) : allL attr (c :: r) = c :: allL attr r := by
 unfold allL
 rw [List.length_cons, allF, if_pos h]
theorem allL_some {attr : Bool} {l : List UInt8} (h : (takeL l attr).n ≠ 0) : allL attr l = (takeL l attr).text.data.toList ++ allL attr (l.drop (takeL l attr).n) := by
 cases l with
 | nil => exact absurd rfl h
 | cons c r =>
  unfold allL
  rw [List.length_cons, allF, if_neg h, allF_enough attr r.length ((c :: r).drop (takeL (c :: r) attr).n).length _ (by rw [List.length_drop, List.length_cons]; omega) (Nat.le_refl _)]
end
section
def one (q : Bool) (c : UInt8) : List UInt8 :=
 if c = 38 then [38, 97, 109, 112, 59] else if c = 60 then [38, 108, 116, 59] else if c = 62 then [38, 103, 116, 59] else if q = true /\ c = 34 then [38, 113, 117, 111, 116, 59] else [c]
def nbsp : List UInt8 := [38, 110, 98, 115, 112, 59]
def nbq : List UInt8 -> Bool
 | 194 :: 160 :: _ => true
 | _ => false
def front (q : Bool) : List UInt8 -> List UInt8
 | [] => []
 | c :: r => if nbq (c :: r) = true then nbsp else one q c
def far (l : List UInt8) : Nat := if nbq l = true then 2 else 1
/-! ### What is written comes back -/
end
end Go.Proofs.YteccdijjpmeeaaaGreat
