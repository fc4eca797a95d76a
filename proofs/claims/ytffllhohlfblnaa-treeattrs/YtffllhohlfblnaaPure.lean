/-
  References to characters as plain functions on lists of bytes, and what holds of them. No program is named here.
-/
import Derived.Laws.Runes
import Derived.Laws.Cover4
namespace Go.Proofs.Ytffllhohlfblnaa

/-- What a hex digit counts; 16: it is none. -/
def digV (c : UInt8) : Nat :=
  if 48 ≤ c.toNat ∧ c.toNat ≤ 57 then c.toNat - 48 else if 97 ≤ c.toNat ∧ c.toNat ≤ 102 then c.toNat - 87 else if 65 ≤ c.toNat ∧ c.toNat ≤ 70 then c.toNat - 55 else 16
theorem digV_le (c : UInt8) : digV c ≤ 16 := by
  unfold digV
  repeat' split
  all_goals omega

/-- How many digits stand ahead. -/
def runN (b : Nat) : List UInt8 → Nat
  | [] => 0
  | c :: r => if digV c < b then runN b r + 1 else 0
theorem runN_le (b : Nat) : ∀ l : List UInt8, runN b l ≤ l.length
  | [] => Nat.le_refl _
  | c :: r => by
    unfold runN
    have := runN_le b r
    split
    · simp; omega
    · simp
theorem runN_digit (b : Nat) : ∀ (l : List UInt8) (i : Nat) (h : i < l.length), i < runN b l → digV l[i] < b
  | [], _, h, _ => by cases h
  | c :: r, i, h, hi => by
    unfold runN at hi
    split at hi
    · cases i with
      | zero => assumption
      | succ i => exact runN_digit b r i (by simpa using h) (by omega)
    · omega
theorem runN_stop (b : Nat) : ∀ (l : List UInt8) (h : runN b l < l.length), ¬ digV l[runN b l] < b
  | [], h => by cases h
  | c :: r, h => by
    by_cases hc : digV c < b
    · have e : runN b (c :: r) = runN b r + 1 := by rw [runN, if_pos hc]
      have h' : runN b r < r.length := by rw [e] at h; simpa using h
      have := runN_stop b r h'
      simpa [e] using this
    · have e : runN b (c :: r) = 0 := by rw [runN, if_neg hc]
      simpa [e] using hc

/-- The number so far, and one digit more; beyond the last code it grows no more. -/
def codeF (b code : Nat) (c : UInt8) : Nat := if code ≤ 1114111 then code * b + digV c else code
def codeL (b : Nat) (l : List UInt8) : Nat := l.foldl (codeF b) 0
theorem codeL_snoc (b : Nat) (l : List UInt8) (c : UInt8) : codeL b (l ++ [c]) = codeF b (codeL b l) c := by
  unfold codeL
  rw [List.foldl_append]
  rfl
theorem codeF_le {b code : Nat} (hb : b ≤ 16) (h : code ≤ 17825807) (c : UInt8) : codeF b code c ≤ 17825807 := by
  unfold codeF
  have := digV_le c
  split
  · have : code * b ≤ 1114111 * 16 := Nat.mul_le_mul (by assumption) hb
    omega
  · exact h
theorem foldl_code_le {b : Nat} (hb : b ≤ 16) : ∀ (l : List UInt8) (code : Nat), code ≤ 17825807 → l.foldl (codeF b) code ≤ 17825807
  | [], _, h => h
  | c :: r, _, h => foldl_code_le hb r _ (codeF_le hb h c)
theorem codeL_le {b : Nat} (hb : b ≤ 16) (l : List UInt8) : codeL b l ≤ 17825807 := foldl_code_le hb l 0 (Nat.zero_le _)

/-- The document's number: bounded by one behind the last code. -/
def capF (b n : Nat) (c : UInt8) : Nat := min (n * b + digV c) 1114112
theorem cap_code {b : Nat} (hb : 1 ≤ b) (l : List UInt8) : ∀ (n code : Nat), n = min code 1114112 → l.foldl (capF b) n = min (l.foldl (codeF b) code) 1114112 := by
  induction l with
  | nil => exact fun _ _ h => h
  | cons c r ih =>
    intro n code h
    refine ih _ _ ?_
    unfold capF codeF
    by_cases hc : code ≤ 1114111
    · rw [if_pos hc]
      have : n = code := by omega
      rw [this]
    · rw [if_neg hc]
      have hn : n = 1114112 := by omega
      have : n * 1 ≤ n * b := Nat.mul_le_mul_left _ hb
      omega
def capL (b : Nat) (l : List UInt8) : Nat := l.foldl (capF b) 0
theorem capL_eq {b : Nat} (hb : 1 ≤ b) (l : List UInt8) : capL b l = min (codeL b l) 1114112 := cap_code hb l 0 0 rfl
theorem capL_snoc (b : Nat) (l : List UInt8) (c : UInt8) : capL b (l ++ [c]) = capF b (capL b l) c := by
  unfold capL
  rw [List.foldl_append]
  rfl
theorem capF_le (b n : Nat) (c : UInt8) : capF b n c ≤ 1114112 := Nat.min_le_right _ _
theorem capL_le (b : Nat) (l : List UInt8) : capL b l ≤ 1114112 := by
  have key : ∀ (l : List UInt8) (n : Nat), n ≤ 1114112 → l.foldl (capF b) n ≤ 1114112 := by
    intro l
    induction l with
    | nil => exact fun _ h => h
    | cons c r ih => exact fun n _ => ih _ (capF_le b n c)
  exact key l 0 (Nat.zero_le _)

def ctrl : List Nat := [8364, 129, 8218, 402, 8222, 8230, 8224, 8225, 710, 8240, 352, 8249, 338, 141, 381, 143, 144, 8216, 8217, 8220, 8221, 8226, 8211, 8212, 732, 8482, 353, 8250, 339, 157, 382, 376]
def wrongC (code : Nat) : Bool := decide (code = 0) || decide (1114111 < code) || (decide (55296 ≤ code) && decide (code ≤ 57343))
def ctrlC (code : Nat) : Bool := decide (128 ≤ code) && decide (code ≤ 159)
def meantC (code : Nat) : Nat := if wrongC code = true then 65533 else if ctrlC code = true then ctrl.getD (code - 128) 0 else code
def meantF (code : Nat) : Nat := if wrongC code = true then 2 else if ctrlC code = true then 2 else 0
theorem meant_cap (code : Nat) : meantC (min code 1114112) = meantC code ∧ meantF (min code 1114112) = meantF code := by
  by_cases h : code ≤ 1114112
  · rw [Nat.min_eq_left h]; exact ⟨rfl, rfl⟩
  · rw [Nat.min_eq_right (by omega)]
    have e : wrongC code = true := by unfold wrongC; simp; omega
    have e' : wrongC 1114112 = true := by decide
    unfold meantC meantF
    rw [if_pos e, if_pos e', if_pos e, if_pos e']
    exact ⟨rfl, rfl⟩

/-- What Take answers. -/
structure Ref where
  text : ByteArray
  n : Nat
  fault : Nat
def none0 : Ref := ⟨⟨#[]⟩, 0, 0⟩

def semi (l : List UInt8) : Bool := [59].isPrefixOf l
/-- x or X ahead: one byte, and hex. -/
def hexN : List UInt8 → Nat
  | c :: _ => if c = 120 ∨ c = 88 then 1 else 0
  | [] => 0
def baseN (x : Nat) : Nat := if x = 1 then 16 else 10
theorem hexN_le : ∀ l : List UInt8, hexN l ≤ l.length ∧ hexN l ≤ 1
  | [] => ⟨Nat.le_refl _, Nat.zero_le _⟩
  | c :: r => by
    simp only [hexN]
    split
    · simp
    · simp
theorem baseN_le (x : Nat) : 10 ≤ baseN x ∧ baseN x ≤ 16 := by
  unfold baseN
  split <;> omega
/-- A number, read: the base's digits ds, behind so many bytes. -/
def numR (x b : Nat) (ds : List UInt8) : Ref :=
  if runN b ds = 0 then none0
  else ⟨Utf8.encode (meantC (codeL b (ds.take (runN b ds)))), 2 + x + runN b ds + (if semi (ds.drop (runN b ds)) = true then 1 else 0),
    if meantF (codeL b (ds.take (runN b ds))) = 0 then (if semi (ds.drop (runN b ds)) = true then 0 else 1) else meantF (codeL b (ds.take (runN b ds)))⟩
/-- Behind & and #. -/
def numL (l : List UInt8) : Ref := numR (hexN l) (baseN (hexN l)) (l.drop (hexN l))

structure Nm where
  name : List UInt8
  code : Nat
  bare : Bool
def names : List Nm := [⟨[97, 109, 112], 38, true⟩, ⟨[108, 116], 60, true⟩, ⟨[103, 116], 62, true⟩, ⟨[113, 117, 111, 116], 34, true⟩, ⟨[97, 112, 111, 115], 39, false⟩, ⟨[110, 98, 115, 112], 160, true⟩, ⟨[99, 111, 112, 121], 169, true⟩, ⟨[114, 101, 103], 174, true⟩, ⟨[104, 101, 108, 108, 105, 112], 8230, false⟩, ⟨[109, 100, 97, 115, 104], 8212, false⟩, ⟨[110, 100, 97, 115, 104], 8211, false⟩, ⟨[108, 115, 113, 117, 111], 8216, false⟩, ⟨[114, 115, 113, 117, 111], 8217, false⟩, ⟨[108, 100, 113, 117, 111], 8220, false⟩, ⟨[114, 100, 113, 117, 111], 8221, false⟩, ⟨[101, 117, 114, 111], 8364, false⟩, ⟨[116, 105, 109, 101, 115], 215, true⟩, ⟨[100, 105, 118, 105, 100, 101], 247, true⟩, ⟨[112, 97, 114, 97], 182, true⟩, ⟨[115, 101, 99, 116], 167, true⟩, ⟨[110, 111, 116], 172, true⟩, ⟨[110, 111, 116, 105, 110], 8713, false⟩]

def lenN (r : Nm) (l : List UInt8) : Nat :=
  if r.name.isPrefixOf l = true then (if semi (l.drop r.name.length) = true then r.name.length + 1 else if r.bare = true then r.name.length else 0) else 0
/-- The state of the search: code, how long, with a semicolon? -/
structure St where
  code : Nat
  long : Nat
  ended : Bool
def stepN (l : List UInt8) (st : St) (r : Nm) : St := if st.long < lenN r l then ⟨r.code, lenN r l, semi (l.drop r.name.length)⟩ else st
def scanN (l : List UInt8) (rs : List Nm) : St := rs.foldl (stepN l) ⟨0, 0, false⟩
theorem scanN_snoc (l : List UInt8) (rs : List Nm) (r : Nm) : scanN l (rs ++ [r]) = stepN l (scanN l rs) r := by
  unfold scanN
  rw [List.foldl_append]
  rfl
def goesOn (c : UInt8) : Bool := decide (c.toNat = 61) || (decide (48 ≤ c.toNat) && decide (c.toNat ≤ 57)) || (decide (97 ≤ c.toNat) && decide (c.toNat ≤ 122)) || (decide (65 ≤ c.toNat) && decide (c.toNat ≤ 90))
def goes : List UInt8 → Bool
  | [] => false
  | c :: _ => goesOn c
def endR (st : St) (l : List UInt8) (attr : Bool) : Ref :=
  if st.long = 0 then none0 else if st.ended = true then ⟨Utf8.encode st.code, 1 + st.long, 0⟩ else if (attr && goes (l.drop st.long)) = true then none0 else ⟨Utf8.encode st.code, 1 + st.long, 1⟩
/-- Behind &, no number. -/
def nameL (l : List UInt8) (attr : Bool) : Ref := endR (scanN l names) l attr
def hash : List UInt8 → Bool
  | [] => false
  | c :: _ => decide (c = 35)
/-- Behind &. -/
def refL (l : List UInt8) (attr : Bool) : Ref := if hash l = true then numL (l.drop 1) else nameL l attr
def amp : List UInt8 → Bool
  | [] => false
  | c :: _ => decide (c = 38)
def takeL (l : List UInt8) (attr : Bool) : Ref := if amp l = true then refL (l.drop 1) attr else none0
def takeS (s : ByteArray) (i : Int) (attr : Bool) : Ref := if 0 ≤ i ∧ i < s.size then takeL (s.data.toList.drop i.toNat) attr else none0

/-! ### How long, at most -/
theorem prefix_length : ∀ (p l : List UInt8), p.isPrefixOf l = true → p.length ≤ l.length
  | [], _, _ => Nat.zero_le _
  | _ :: _, [], h => by simp [List.isPrefixOf] at h
  | a :: p, c :: l, h => by
    simp [List.isPrefixOf] at h
    have := prefix_length p l (by simpa using h.2)
    simp; omega
theorem semi_length {l : List UInt8} (h : semi l = true) : 1 ≤ l.length := prefix_length _ _ h
theorem lenN_le (r : Nm) (l : List UInt8) : lenN r l ≤ l.length := by
  unfold lenN
  split
  · rename_i h
    have h1 := prefix_length _ _ h
    split
    · rename_i h2
      have := semi_length h2
      simp at this
      omega
    · split
      · exact h1
      · exact Nat.zero_le _
  · exact Nat.zero_le _
theorem scanN_long (l : List UInt8) (rs : List Nm) : (scanN l rs).long ≤ l.length := by
  have key : ∀ (rs : List Nm) (st : St), st.long ≤ l.length → (rs.foldl (stepN l) st).long ≤ l.length := by
    intro rs
    induction rs with
    | nil => exact fun _ h => h
    | cons r rs ih =>
      intro st h
      refine ih _ ?_
      unfold stepN
      split
      · exact lenN_le r l
      · exact h
  exact key rs _ (Nat.zero_le _)
/-- Where something was found: the last of it is a semicolon just if it ended so. -/
theorem scanN_end (l : List UInt8) (rs : List Nm) (hrs : ∀ r ∈ rs, 59 ∉ r.name) (h0 : (scanN l rs).long ≠ 0) : (l[(scanN l rs).long - 1]? = some 59) ↔ (scanN l rs).ended = true := by
  have one : ∀ (r : Nm), 59 ∉ r.name → lenN r l ≠ 0 → ((l[lenN r l - 1]? = some 59) ↔ semi (l.drop r.name.length) = true) := by
    intro r hr hn
    by_cases hp : r.name.isPrefixOf l = true
    · obtain ⟨t, rfl⟩ := List.isPrefixOf_iff_prefix.1 hp
      rw [List.drop_left]
      by_cases hs : semi t = true
      · have e : lenN r (r.name ++ t) = r.name.length + 1 := by
          unfold lenN
          rw [if_pos hp, List.drop_left, if_pos hs]
        rw [e, Nat.add_sub_cancel]
        refine ⟨fun _ => hs, fun _ => ?_⟩
        rw [List.getElem?_append_right (Nat.le_refl _), Nat.sub_self]
        cases t with
        | nil => cases hs
        | cons a t =>
          have : 59 = a := by simpa [semi] using hs
          rw [← this]; rfl
      · have e : lenN r (r.name ++ t) = if r.bare = true then r.name.length else 0 := by
          unfold lenN
          rw [if_pos hp, List.drop_left, if_neg hs]
        rw [e] at hn ⊢
        split at hn
        · rename_i hb
          rw [if_pos hb]
          refine ⟨fun h => ?_, fun h => absurd h hs⟩
          rw [List.getElem?_append_left (by omega)] at h
          exact absurd (List.mem_of_getElem? h) hr
        · exact absurd rfl hn
    · exact absurd (by unfold lenN; rw [if_neg hp]) hn
  have key : ∀ (rs : List Nm) (st : St), (∀ r ∈ rs, 59 ∉ r.name) → (st.long ≠ 0 → ((l[st.long - 1]? = some 59) ↔ st.ended = true)) → ((rs.foldl (stepN l) st).long ≠ 0 → ((l[(rs.foldl (stepN l) st).long - 1]? = some 59) ↔ (rs.foldl (stepN l) st).ended = true)) := by
    intro rs
    induction rs with
    | nil => exact fun _ _ h => h
    | cons r rs ih =>
      intro st hm h
      refine ih _ (fun r hr => hm r (List.mem_cons_of_mem _ hr)) ?_
      unfold stepN
      split
      · rename_i hl
        exact fun hn => one r (hm r List.mem_cons_self) hn
      · exact h
  exact key rs _ hrs (fun h => absurd rfl h) h0
theorem names_semi : ∀ r ∈ names, 59 ∉ r.name := by decide

theorem numR_n (x b : Nat) (ds : List UInt8) : (numR x b ds).n ≤ 2 + x + ds.length := by
  unfold numR
  split
  · exact Nat.zero_le _
  · have h1 := runN_le b ds
    dsimp
    split
    · rename_i h
      have := semi_length h
      simp at this
      omega
    · omega
theorem numL_n (l : List UInt8) : (numL l).n ≤ 2 + l.length := by
  unfold numL
  have := numR_n (hexN l) (baseN (hexN l)) (l.drop (hexN l))
  have h := hexN_le l
  simp at this
  omega
theorem nameL_n (l : List UInt8) (attr : Bool) : (nameL l attr).n ≤ 1 + l.length := by
  have h := scanN_long l names
  unfold nameL endR
  repeat' split
  all_goals first | exact Nat.zero_le _ | (dsimp; omega)
theorem takeL_n (l : List UInt8) (attr : Bool) : (takeL l attr).n ≤ l.length := by
  unfold takeL
  split
  · cases l with
    | nil => contradiction
    | cons c r =>
      rw [List.drop_one, List.tail_cons]
      unfold refL
      split
      · cases r with
        | nil => contradiction
        | cons d r =>
          have := numL_n r
          simp
          omega
      · have := nameL_n r attr
        simpa [Nat.add_comm] using this
  · exact Nat.zero_le _
theorem ite_ref {p : Ref → Prop} {c : Prop} [Decidable c] {a b : Ref} (ha : p a) (hb : p b) : p (if c then a else b) := by
  split
  · exact ha
  · exact hb
theorem enc_le (c n f : Nat) : (Ref.mk (Utf8.encode (c : Int)) n f).text.size ≤ 4 := by
  dsimp only
  exact encode_size_le (c : Int)
theorem text_le (l : List UInt8) (attr : Bool) : (takeL l attr).text.size ≤ 4 := by
  have h0 : none0.text.size ≤ 4 := by decide
  have hn : (numL ((l.drop 1).drop 1)).text.size ≤ 4 := by
    unfold numL numR
    exact ite_ref (p := fun r => r.text.size ≤ 4) h0 (by apply enc_le)
  have ha : (nameL (l.drop 1) attr).text.size ≤ 4 := by
    unfold nameL endR
    exact ite_ref (p := fun r => r.text.size ≤ 4) h0 (ite_ref (p := fun r => r.text.size ≤ 4) (by apply enc_le) (ite_ref (p := fun r => r.text.size ≤ 4) h0 (by apply enc_le)))
  unfold takeL refL
  exact ite_ref (p := fun r => r.text.size ≤ 4) (ite_ref (p := fun r => r.text.size ≤ 4) hn ha) h0
theorem fault_le (l : List UInt8) (attr : Bool) : (takeL l attr).fault ≤ 2 := by
  have h0 : none0.fault ≤ 2 := by decide
  have hm : ∀ c, meantF c ≤ 2 := by
    intro c
    unfold meantF
    repeat' split
    all_goals omega
  have hn : (numL ((l.drop 1).drop 1)).fault ≤ 2 := by
    unfold numL numR
    refine ite_ref (p := fun r => r.fault ≤ 2) h0 ?_
    dsimp
    have := hm (codeL (baseN (hexN ((l.drop 1).drop 1))) (List.take (runN (baseN (hexN ((l.drop 1).drop 1))) (((l.drop 1).drop 1).drop (hexN ((l.drop 1).drop 1)))) (((l.drop 1).drop 1).drop (hexN ((l.drop 1).drop 1)))))
    split
    · split <;> omega
    · exact this
  have ha : (nameL (l.drop 1) attr).fault ≤ 2 := by
    unfold nameL endR
    exact ite_ref (p := fun r => r.fault ≤ 2) h0 (ite_ref (p := fun r => r.fault ≤ 2) (Nat.zero_le _) (ite_ref (p := fun r => r.fault ≤ 2) h0 (by show 1 ≤ 2; omega)))
  unfold takeL refL
  exact ite_ref (p := fun r => r.fault ≤ 2) (ite_ref (p := fun r => r.fault ≤ 2) hn ha) h0

/-! ### All of them -/
def allF (attr : Bool) : Nat → List UInt8 → List UInt8
  | 0, _ => []
  | _ + 1, [] => []
  | f + 1, c :: r => if (takeL (c :: r) attr).n = 0 then c :: allF attr f r else (takeL (c :: r) attr).text.data.toList ++ allF attr f ((c :: r).drop (takeL (c :: r) attr).n)
theorem allF_enough (attr : Bool) : ∀ (f g : Nat) (l : List UInt8), l.length ≤ f → l.length ≤ g → allF attr f l = allF attr g l
  | 0, g, l, hf, _ => by
    rw [List.eq_nil_of_length_eq_zero (l := l) (by omega)]
    cases g <;> rfl
  | f + 1, 0, l, _, hg => by
    rw [List.eq_nil_of_length_eq_zero (l := l) (by omega)]
    rfl
  | _ + 1, _ + 1, [], _, _ => rfl
  | f + 1, g + 1, c :: r, hf, hg => by
    simp only [List.length_cons] at hf hg
    unfold allF
    split
    · rw [allF_enough attr f g r (by omega) (by omega)]
    · rename_i h
      rw [allF_enough attr f g _ (by rw [List.length_drop, List.length_cons]; omega) (by rw [List.length_drop, List.length_cons]; omega)]
def allL (attr : Bool) (l : List UInt8) : List UInt8 := allF attr l.length l
theorem allL_nil (attr : Bool) : allL attr [] = [] := rfl
theorem allL_none {attr : Bool} {c : UInt8} {r : List UInt8} (h : (takeL (c :: r) attr).n = 0) : allL attr (c :: r) = c :: allL attr r := by
  unfold allL
  rw [List.length_cons, allF, if_pos h]
theorem allL_some {attr : Bool} {l : List UInt8} (h : (takeL l attr).n ≠ 0) : allL attr l = (takeL l attr).text.data.toList ++ allL attr (l.drop (takeL l attr).n) := by
  cases l with
  | nil => exact absurd rfl h
  | cons c r =>
    unfold allL
    rw [List.length_cons, allF, if_neg h, allF_enough attr r.length ((c :: r).drop (takeL (c :: r) attr).n).length _ (by rw [List.length_drop, List.length_cons]; omega) (Nat.le_refl _)]
end Go.Proofs.Ytffllhohlfblnaa
