/-
  No paragraph stands in another one but through what bounds it: pure.
-/
import Derived.Test.YtffllhohlfblnabFp
namespace Go.Proofs.Ytffllhohlfblnab

/-- From the end on a paragraph is met ahead of what bounds it. -/
def visP (o : List (List UInt8)) : Bool := (seek (isIn [[112]]) (isIn boundL) o).isSome
def isP (x : It) : Bool := decide (x.kind = 1) && x.name == [112]
def nextO (o : List (List UInt8)) (x : It) : List (List UInt8) := o.take x.deep ++ [x.name]
def chkP (o : List (List UInt8)) (x : It) : Bool := decide (x.deep ≤ o.length) && !(isP x && visP (o.take x.deep))
def scanP : List (List UInt8) → List It → Bool
  | _, [] => true
  | o, x :: r => chkP o x && scanP (nextO o x) r
def lastO : List (List UInt8) → List It → List (List UInt8)
  | o, [] => o
  | o, x :: r => lastO (nextO o x) r
theorem scan_snoc : ∀ (l : List It) (o : List (List UInt8)) (x : It), scanP o (l ++ [x]) = (scanP o l && chkP (lastO o l) x) ∧ lastO o (l ++ [x]) = nextO (lastO o l) x
  | [], o, x => ⟨by simp [scanP, lastO], rfl⟩
  | y :: r, o, x => by
    obtain ⟨h1, h2⟩ := scan_snoc r (nextO o y) x
    refine ⟨?_, h2⟩
    show (chkP o y && scanP (nextO o y) (r ++ [x])) = (chkP o y && scanP (nextO o y) r && chkP (lastO (nextO o y) r) x)
    rw [h1, Bool.and_assoc]
def NoPP (o : List (List UInt8)) : Prop := ∀ i (h : i < o.length), o[i] = [112] → visP (o.take i) = false
theorem NoPP.take {o : List (List UInt8)} (h : NoPP o) (k : Nat) : NoPP (o.take k) := by
  intro i hi he
  rw [List.length_take] at hi
  rw [List.getElem_take] at he
  rw [List.take_take, Nat.min_eq_left (by omega)]
  exact h i (by omega) he
theorem NoPP.push {o : List (List UInt8)} (h : NoPP o) (n : List UInt8) (hn : n = [112] → visP o = false) : NoPP (o ++ [n]) := by
  intro i hi he
  rw [List.length_append] at hi
  by_cases hl : i < o.length
  · rw [List.getElem_append_left hl] at he
    rw [List.take_append_of_le_length (by omega)]
    exact h i hl he
  · have hio : i = o.length := by simp at hi; omega
    subst hio
    have hv : n = [112] := by simpa using he
    have : (o ++ [n]).take o.length = o := by simp
    rw [this]
    exact hn hv
theorem seekR_get (so ba : List UInt8 → Bool) : ∀ (l : List (List UInt8)) (k : Nat), seekR so ba l = some k → ∃ x, l.reverse[k]? = some x ∧ so x = true
  | [], k, h => by cases h
  | x :: r, k, h => by
    unfold seekR at h
    split at h
    · rename_i hs
      injection h with h
      subst h
      exact ⟨x, by simp, hs⟩
    · split at h
      · cases h
      · obtain ⟨y, h1, h2⟩ := seekR_get so ba r k h
        refine ⟨y, ?_, h2⟩
        have hk := seekR_lt so ba r k h
        rw [List.reverse_cons, List.getElem?_append_left (by simpa using hk)]
        exact h1
theorem seek_get {so ba : List UInt8 → Bool} {l : List (List UInt8)} {k : Nat} (h : seek so ba l = some k) : ∃ hk : k < l.length, so l[k] = true := by
  obtain ⟨x, h1, h2⟩ := seekR_get so ba l.reverse k h
  rw [List.reverse_reverse] at h1
  have hk := seek_lt h
  refine ⟨hk, ?_⟩
  rw [List.getElem?_eq_getElem hk] at h1
  injection h1 with h1
  rw [h1]
  exact h2
/-- What is open is a front of what it was. -/
theorem opn_fin (b : BS) (so ba : List UInt8 → Bool) : ∃ k, (b.fin so ba).opn = b.opn.take k := by
  unfold BS.fin
  cases seek so ba b.opn with
  | none => exact ⟨b.opn.length, by show b.opn = _; rw [List.take_length]⟩
  | some k => exact ⟨k, rfl⟩
theorem opn_finF (b : BS) (so ba : List UInt8 → Bool) (a : Nat) : ∃ k, (b.finF so ba a).opn = b.opn.take k := by
  unfold BS.finF
  split
  · exact opn_fin b so ba
  · exact ⟨b.opn.length, by rw [List.take_length]⟩
theorem opn_first (b : BS) (n : List UInt8) (a : Nat) : ∃ k, (b.first n a).opn = b.opn.take k := by
  unfold BS.first
  split
  · exact opn_fin _ _ _
  split
  · exact opn_fin _ _ _
  split
  · exact opn_fin _ _ _
  split
  · obtain ⟨k, hk⟩ := opn_fin b (isIn [[111, 112, 116, 105, 111, 110]]) anyN
    obtain ⟨j, hj⟩ := opn_fin (b.fin (isIn [[111, 112, 116, 105, 111, 110]]) anyN) (isIn [[111, 112, 116, 103, 114, 111, 117, 112]]) anyN
    exact ⟨min j k, by rw [hj, hk, List.take_take]⟩
  split
  · exact opn_finF _ _ _ _
  split
  · exact opn_finF _ _ _ _
  · exact ⟨b.opn.length, by rw [List.take_length]⟩
theorem opn_para (b : BS) (n : List UInt8) : ∃ k, (b.para n).opn = b.opn.take k := by
  unfold BS.para
  split
  · exact opn_fin _ _ _
  · exact ⟨b.opn.length, by rw [List.take_length]⟩
theorem vis_para (b : BS) (h : NoPP b.opn) : visP (b.para [112]).opn = false := by
  have hb : (blockP [112] || isIn [[108, 105], [100, 100], [100, 116]] [112]) = true := by decide
  unfold BS.para
  rw [if_pos hb]
  unfold BS.fin visP
  cases hs : seek (isIn [[112]]) (isIn boundL) b.opn with
  | none =>
    show (seek (isIn [[112]]) (isIn boundL) b.opn).isSome = false
    rw [hs]
    rfl
  | some k =>
    obtain ⟨hk, hx⟩ := seek_get hs
    have hp : b.opn[k] = [112] := by simpa [isIn] using hx
    exact h k hk hp
/-- What is built so far is right. -/
structure Par (b : BS) : Prop where
  scan : scanP [] b.items = true
  front : (lastO [] b.items).take b.opn.length = b.opn
  le : b.opn.length ≤ (lastO [] b.items).length
  no : NoPP b.opn
theorem Par.new : Par BS.new := ⟨rfl, rfl, Nat.le_refl _, fun _ h => absurd h (Nat.not_lt_zero _)⟩
/-- Ended, or faults. -/
theorem Par.less {b c : BS} (h : Par b) (hi : c.items = b.items) (ho : ∃ k, c.opn = b.opn.take k) : Par c := by
  obtain ⟨k, hk⟩ := ho
  refine ⟨by rw [hi]; exact h.scan, ?_, ?_, by rw [hk]; exact h.no.take k⟩
  · rw [hi, hk]
    have := congrArg (List.take (b.opn.take k).length) h.front
    rw [List.take_take] at this
    rw [List.length_take] at this ⊢
    rw [show min (min k b.opn.length) b.opn.length = min k b.opn.length by omega] at this
    rw [this]
    rw [← List.take_take, List.take_length]
  · rw [hi, hk, List.length_take]
    have := h.le
    omega
theorem Par.same {b c : BS} (h : Par b) (hi : c.items = b.items) (ho : c.opn = b.opn) : Par c := h.less hi ⟨b.opn.length, by rw [ho, List.take_length]⟩
/-- One more item; it is not open. -/
theorem Par.item {b : BS} (h : Par b) (k : Nat) (n d : List UInt8) (l : List Atr) (hv : (decide (k = 1) && n == [112]) = true → visP b.opn = false) : Par (b.item k n l d) := by
  obtain ⟨s1, s2⟩ := scan_snoc b.items [] ⟨b.opn.length, k, n, l, d⟩
  have e : (b.item k n l d).items = b.items ++ [⟨b.opn.length, k, n, l, d⟩] := rfl
  have en : nextO (lastO [] b.items) ⟨b.opn.length, k, n, l, d⟩ = b.opn ++ [n] := by
    show (lastO [] b.items).take b.opn.length ++ [n] = _
    rw [h.front]
  refine ⟨?_, ?_, ?_, h.no⟩
  · rw [e, s1, h.scan]
    unfold chkP
    have hd : decide (b.opn.length ≤ (lastO [] b.items).length) = true := decide_eq_true h.le
    show (true && (decide (b.opn.length ≤ _) && !((decide (k = 1) && n == [112]) && visP ((lastO [] b.items).take b.opn.length)))) = true
    rw [hd, h.front]
    cases hk : (decide (k = 1) && n == [112]) with
    | false => rfl
    | true =>
      rw [hv hk]
      rfl
  · rw [e, s2, en]
    show (b.opn ++ [n]).take b.opn.length = b.opn
    simp
  · rw [e, s2, en]
    show b.opn.length ≤ (b.opn ++ [n]).length
    simp
/-- An element that may be open. -/
theorem Par.elem {b : BS} (h : Par b) (n : List UInt8) (l : List Atr) (hv : n = [112] → visP b.opn = false) : Par ((b.item 1 n l []).open1 n) := by
  have h1 : Par (b.item 1 n l []) := h.item 1 n [] l fun hn => hv (by simpa using hn)
  unfold BS.open1
  split
  · obtain ⟨s1, s2⟩ := scan_snoc b.items [] ⟨b.opn.length, 1, n, l, []⟩
    have e : (b.item 1 n l []).items = b.items ++ [⟨b.opn.length, 1, n, l, []⟩] := rfl
    have en : lastO [] (b.item 1 n l []).items = b.opn ++ [n] := by
      rw [e, s2]
      show (lastO [] b.items).take b.opn.length ++ [n] = _
      rw [h.front]
    refine ⟨h1.scan, ?_, ?_, h.no.push n hv⟩
    · show (lastO [] (b.item 1 n l []).items).take (b.opn ++ [n]).length = b.opn ++ [n]
      rw [en, List.take_length]
    · show (b.opn ++ [n]).length ≤ (lastO [] (b.item 1 n l []).items).length
      rw [en]
      exact Nat.le_refl _
  · exact h1
theorem Par.start {b : BS} (h : Par b) (n : List UInt8) (l : List Atr) (a : Nat) : Par (b.start n l a) := by
  unfold BS.start
  split
  · have h1 : Par (b.first n a) := h.less (first_b b n a).2.2 (opn_first b n a)
    have h2 : Par ((b.first n a).para n) := h1.less (para_b _ n).2.2 (opn_para _ n)
    have h3 : Par (((b.first n a).para n).flts' (l.length - (keepA [] l).length) 5 a) := h2.same rfl rfl
    refine h3.elem n (keepA [] l) fun hn => ?_
    subst hn
    exact vis_para _ h1.no
  · exact h.same rfl rfl
theorem Par.stop {b : BS} (h : Par b) (n : List UInt8) (a : Nat) : Par (b.stop n a) := by
  cases hq : seek (soughtBy n) (barredBy n) b.opn with
  | none =>
    rw [stop_none hq]
    split
    · rename_i hbp
      refine Par.same (h.item 1 n [] [] fun hn => ?_) rfl rfl
      have hp : n = [112] := by simpa using hn
      subst hp
      show (seek (isIn [[112]]) (isIn boundL) b.opn).isSome = false
      have hq' : seek (isIn [[112]]) (isIn boundL) b.opn = none := hq
      rw [hq']
      rfl
    · exact h.same rfl rfl
  | some k =>
    rw [stop_some hq]
    have h1 : Par (b.fin (soughtBy n) (barredBy n)) := h.less (fin_opn _ _ _).2.2 (opn_fin _ _ _)
    split
    · exact h1
    · exact h1.same rfl rfl
theorem Par.take {b : BS} (h : Par b) (t : Tk) : Par (b.take t) := by
  unfold BS.take
  split
  · exact h.start _ _ _
  split
  · exact h.stop _ _
  split
  · split
    · exact h
    · exact h.item 2 [] t.data [] (by simp)
  split
  · exact h.item 3 [] t.data [] (by simp)
  split
  · split
    · exact h.item 6 t.name [] [] (by simp)
    · exact h.same rfl rfl
  · exact h
theorem Par.build : ∀ (l : List Tk) {b c : BS}, Par b → buildF b l = some c → Par c
  | [], b, c, h, e => by
    injection e with e
    subst e
    exact h
  | t :: r, b, c, h, e => by
    unfold buildF at e
    split at e
    · cases e
    · exact Par.build r (h.take t) e
end Go.Proofs.Ytffllhohlfblnab
