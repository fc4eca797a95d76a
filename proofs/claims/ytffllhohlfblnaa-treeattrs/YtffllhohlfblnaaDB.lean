/-
  What the document's reader looks for: find, blank, letter, in, looks.
-/
import Derived.Test.YtffllhohlfblnaaDL
import Derived.Lib.QuietBelow
import Derived.BigQuiet
namespace Go.Proofs.Ytffllhohlfblnaa
open Go.RowKit Go.Sort

theorem Kept.regrown {K : Nat → Prop} {w : World} (hK : ∀ k, K k → k < w.heap.size) (d : Nat) (os : Array Obj) : Kept K w (grow (redrawn w d) os) := (Below.kept (below_regrown w d os)).mono hK
/-- A contract that keeps all that was there, met in a region that is walked once. -/
theorem regrown_calls {f : FuncId} {args : Array Value} {w : World} {v : Value} (h : ∀ X, Calls Try.prog f args X fun e w' => e = .returned v ∧ Kept (fun k => k < X.heap.size) X w') (d : Nat) (os : Array Obj) :
    Calls Try.prog f args (grow (redrawn w d) os) fun e w'' => e = .returned v ∧ ∃ p : Regrown, w'' = grow (redrawn w p.d) p.os :=
  Calls.regrown_of ((h _).mono fun _ _ ⟨h1, h2⟩ => ⟨h1, h2.below⟩)

def blankP (c : UInt8) : Bool := blk.contains c
set_option maxRecDepth 20000 in
theorem dblank (c : UInt8) (w : World) : Calls Try.prog 47 #[.int .u8 c.toNat] w fun e w' => e = .returned (.bool (blankP c)) ∧ w' = w := by
  by_cases h1 : c = 32
  · subst h1
    go_enter Try.func47, Try.ntmps47
    go_wp2
    go_ret
    exact ⟨rfl, rfl⟩
  · by_cases h2 : c = 9
    · subst h2
      go_enter Try.func47, Try.ntmps47
      go_wp2
      go_ret
      exact ⟨rfl, rfl⟩
    · by_cases h3 : c = 10
      · subst h3
        go_enter Try.func47, Try.ntmps47
        go_wp2
        go_ret
        exact ⟨rfl, rfl⟩
      · by_cases h4 : c = 12
        · subst h4
          go_enter Try.func47, Try.ntmps47
          go_wp2
          go_ret
          exact ⟨rfl, rfl⟩
        · have n1 : ((c.toNat : Int) == 32) = false := by simp; intro e; exact h1 (UInt8.toNat_inj.1 (by show c.toNat = 32; omega))
          have n2 : ((c.toNat : Int) == 9) = false := by simp; intro e; exact h2 (UInt8.toNat_inj.1 (by show c.toNat = 9; omega))
          have n3 : ((c.toNat : Int) == 10) = false := by simp; intro e; exact h3 (UInt8.toNat_inj.1 (by show c.toNat = 10; omega))
          have n4 : ((c.toNat : Int) == 12) = false := by simp; intro e; exact h4 (UInt8.toNat_inj.1 (by show c.toNat = 12; omega))
          have HB : Hid (blankP c = false) := by
            show blankP c = false
            unfold blankP blk
            simp [h1, h2, h3, h4]
          clear h1 h2 h3 h4
          go_enter Try.func47, Try.ntmps47
          go_wp2
          go_ret
          exact ⟨by rw [HB.out]; rfl, rfl⟩

set_option maxRecDepth 20000 in
theorem dletter (c : UInt8) (w : World) : Calls Try.prog 29 #[.int .u8 c.toNat] w fun e w' => e = .returned (.bool (letterP c)) ∧ w' = w := by
  have cls : c.toNat < 65 ∨ (65 ≤ c.toNat ∧ c.toNat ≤ 90) ∨ (90 < c.toNat ∧ c.toNat < 97) ∨ (97 ≤ c.toNat ∧ c.toNat ≤ 122) ∨ 122 < c.toNat := by omega
  have go : ∀ (b1 b2 b3 b4 r : Bool), decide ((c.toNat : Int) ≥ 97) = b1 → decide ((c.toNat : Int) ≤ 122) = b2 → decide ((c.toNat : Int) ≥ 65) = b3 → decide ((c.toNat : Int) ≤ 90) = b4 → letterP c = r → ((b1 && b2) || (b3 && b4)) = r → True := fun _ _ _ _ _ _ _ _ _ _ _ => trivial
  clear go
  rcases cls with g | g | g | g | g
  all_goals
    have HB : Hid (letterP c = letterP c) := rfl
  · have e0 : decide ((c.toNat : Int) ≥ 97) = false := decide_eq_false (by omega)
    have e2 : decide ((c.toNat : Int) ≥ 65) = false := decide_eq_false (by omega)
    replace HB : Hid (letterP c = false) := by show letterP c = _; unfold letterP; simp; omega
    clear g
    go_enter Try.func29, Try.ntmps29
    go_wp2
    go_ret
    exact ⟨by rw [HB.out]; rfl, rfl⟩
  · have e0 : decide ((c.toNat : Int) ≥ 97) = false := decide_eq_false (by omega)
    have e2 : decide ((c.toNat : Int) ≥ 65) = true := decide_eq_true (by omega)
    have e3 : decide ((c.toNat : Int) ≤ 90) = true := decide_eq_true (by omega)
    replace HB : Hid (letterP c = true) := by show letterP c = _; unfold letterP; simp; omega
    clear g
    go_enter Try.func29, Try.ntmps29
    go_wp2
    go_ret
    exact ⟨by rw [HB.out]; rfl, rfl⟩
  · have e0 : decide ((c.toNat : Int) ≥ 97) = false := decide_eq_false (by omega)
    have e2 : decide ((c.toNat : Int) ≥ 65) = true := decide_eq_true (by omega)
    have e3 : decide ((c.toNat : Int) ≤ 90) = false := decide_eq_false (by omega)
    replace HB : Hid (letterP c = false) := by show letterP c = _; unfold letterP; simp; omega
    clear g
    go_enter Try.func29, Try.ntmps29
    go_wp2
    go_ret
    exact ⟨by rw [HB.out]; rfl, rfl⟩
  · have e0 : decide ((c.toNat : Int) ≥ 97) = true := decide_eq_true (by omega)
    have e1 : decide ((c.toNat : Int) ≤ 122) = true := decide_eq_true (by omega)
    replace HB : Hid (letterP c = true) := by show letterP c = _; unfold letterP; simp; omega
    clear g
    go_enter Try.func29, Try.ntmps29
    go_wp2
    go_ret
    exact ⟨by rw [HB.out]; rfl, rfl⟩
  · have e0 : decide ((c.toNat : Int) ≥ 97) = true := decide_eq_true (by omega)
    have e1 : decide ((c.toNat : Int) ≤ 122) = false := decide_eq_false (by omega)
    have e2 : decide ((c.toNat : Int) ≥ 65) = true := decide_eq_true (by omega)
    have e3 : decide ((c.toNat : Int) ≤ 90) = false := decide_eq_false (by omega)
    replace HB : Hid (letterP c = false) := by show letterP c = _; unfold letterP; simp; omega
    clear g
    go_enter Try.func29, Try.ntmps29
    go_wp2
    go_ret
    exact ⟨by rw [HB.out]; rfl, rfl⟩

theorem u8_ne {c d : UInt8} (h : c ≠ d) : ((c.toNat : Int) == (d.toNat : Int)) = false := by
  simp
  intro e
  exact h (UInt8.toNat_inj.1 (by omega))
theorem sv_get (l : List UInt8) (k : Nat) (h : k < (⟨l.toArray⟩ : ByteArray).size) : (⟨l.toArray⟩ : ByteArray)[k]'h = l[k]'(by rw [← sv_size l]; exact h) := rfl

set_option maxRecDepth 20000 in
theorem din (l : List UInt8) (c : UInt8) (hl : l.length < 1000000) (w : World) : Calls Try.prog 98 #[sv l, .int .u8 c.toNat] w fun e w' => e = .returned (.bool (l.contains c)) ∧ w' = w := by
  obtain ⟨S, hS⟩ : ∃ S : ByteArray, (⟨l.toArray⟩ : ByteArray) = S := ⟨_, rfl⟩
  have sS : S.size = l.length := by rw [← hS]; exact sv_size _
  have HG : Hid (∀ k (h : k < S.size) (h2 : k < l.length), S[k] = l[k]) := by
    intro k h h2
    subst hS
    rfl
  obtain ⟨r, hr⟩ : ∃ r, l.contains c = r := ⟨_, rfl⟩
  have HR : Hid ((l.drop 0).contains c = r) := hr
  rw [hr]
  have HE : Hid (∀ k, S.size ≤ k → (l.drop k).contains c = false) := by
    intro k hk
    rw [List.drop_of_length_le (by omega)]
    rfl
  show Calls Try.prog 98 #[.string ⟨l.toArray⟩, .int .u8 c.toNat] w _
  rw [hS]
  have hz : S.size < 1000000 := by omega
  clear hS hr hl
  have HS : Hid (S.size = l.length) := sS
  clear sS
  go_enter Try.func98, Try.ntmps98
  go_wp2_with fail
  go_loopg [5] S.size (fun gm iv wr => ∃ k : Nat, gm = S.size - k ∧ k ≤ S.size ∧ iv = .int .i64 k ∧ (l.drop k).contains c = r ∧ wr = w)
  case atStart => exact ⟨0, rfl, Nat.zero_le _, rfl, HR.out, rfl⟩
  case round =>
    clear HR
    obtain ⟨k, hgk, hk, rfl, hc, rfl⟩ := hrel
    by_cases hlt : k < S.size
    · have hd : l.drop k = S[k] :: l.drop (k + 1) := by
        rw [HG.out k hlt (by have := HS.out; omega)]
        exact List.drop_eq_getElem_cons (by have := HS.out; omega)
      rw [hd, List.contains_cons] at hc
      by_cases he : S[k] = c
      · have e1 : ((S[k].toNat : Int) == (c.toNat : Int)) = true := by rw [he]; simp
        have HC : Hid (r = true) := by
          show r = true
          rw [← hc, he]
          simp
        clear hc hd HG HE HS he
        go_wp2
        go_ret
        exact ⟨by rw [HC.out]; rfl, rfl⟩
      · have e1 := u8_ne he
        have HC : Hid ((l.drop (k + 1)).contains c = r) := by
          show _ = r
          rw [← hc]
          have : (c == S[k]) = false := by simpa using fun h => he h.symm
          rw [this]
          rfl
        clear hc hd HG HE HS he
        go_wp2
        go_roundg (S.size - (k + 1))
        case rel => exact ⟨k + 1, rfl, by omega, by go_num, HC.out, rfl⟩
        case measure => omega
    · have HC : Hid (r = false) := by show r = false; rw [← hc, HE.out k (by omega)]
      clear hc HG HE HS
      go_wp2
      go_ret
      exact ⟨by rw [HC.out]; rfl, rfl⟩

theorem drop_at {s : List UInt8} {k : Nat} (h : k < s.length) (p : List UInt8 → Bool) : upTo p (s.drop k) = if p (s.drop k) = true then 0 else upTo p (s.drop (k + 1)) + 1 := by
  rw [List.drop_eq_getElem_cons h, upTo_cons]

set_option maxRecDepth 20000 in
theorem dfind (s : List UInt8) (K : Nat → Prop) (p : Nat) (st : TS) (w : World) (h : DX s K w p st) (hs : s.length ≤ 1000000) (c : UInt8) (fr : Nat) (hf : fr ≤ s.length) :
    Calls Try.prog 53 #[.pointer (some ⟨p, 0, none⟩), .int .u8 c.toNat, .int .i64 fr] w fun e w' => e = .returned (.int .i64 ((fr + upTo (hdIn [c]) (s.drop fr) : Nat) : Int)) ∧ w' = w := by
  have c0 := h.cells.1
  clear h
  obtain ⟨S, hS⟩ : ∃ S : ByteArray, (⟨s.toArray⟩ : ByteArray) = S := ⟨_, rfl⟩
  have sS : S.size = s.length := by rw [← hS]; exact sv_size _
  have HG : Hid (∀ k (h : k < S.size) (h2 : k < s.length), S[k] = s[k]) := by
    intro k h h2
    subst hS
    rfl
  replace c0 : w.cell? ⟨p, 0, none⟩ = some (.string S) := by rw [← hS]; exact c0
  obtain ⟨r, hr⟩ : ∃ r, fr + upTo (hdIn [c]) (s.drop fr) = r := ⟨_, rfl⟩
  rw [hr]
  have HR : Hid (fr + upTo (hdIn [c]) (s.drop fr) = r) := hr
  have hz : S.size ≤ 1000000 := by omega
  have hfz : fr ≤ S.size := by omega
  have HS : Hid (S.size = s.length) := sS
  clear hS hr hs sS hf
  go_enter Try.func53, Try.ntmps53
  go_wp2_with fail
  go_loopg [7] (S.size - fr) (fun gm iv wr => ∃ k : Nat, gm = S.size - k ∧ k ≤ S.size ∧ iv = .int .i64 k ∧ k + upTo (hdIn [c]) (s.drop k) = r ∧ wr = w)
  case atStart => exact ⟨fr, by first | rfl | omega, hfz, rfl, HR.out, rfl⟩
  case round =>
    clear HR
    obtain ⟨k, hgk, hk, rfl, hc, rfl⟩ := hrel
    by_cases hlt : k < S.size
    · have hks : k < s.length := by have := HS.out; omega
      have hd := drop_at hks (hdIn [c])
      have hh : hdIn [c] (s.drop k) = (S[k] == c) := by
        rw [List.drop_eq_getElem_cons hks, HG.out k hlt hks]
        show ([c] : List UInt8).contains _ = _
        simp [Bool.beq_eq_decide_eq]
      by_cases he : S[k] = c
      · have e1 : ((S[k].toNat : Int) == (c.toNat : Int)) = true := by rw [he]; simp
        have HC : Hid (k = r) := by
          show k = r
          rw [← hc, hd, hh, he, if_pos (by simp)]
          rfl
        clear hc hd HG HS he hh hks
        go_wp2
        go_ret
        exact ⟨congrArg (fun n : Nat => Ending.returned (.int .i64 (n : Int))) HC.out, rfl⟩
      · have e1 := u8_ne he
        have HC : Hid (k + 1 + upTo (hdIn [c]) (s.drop (k + 1)) = r) := by
          show _ = r
          rw [← hc, hd, hh, if_neg (by simpa using he)]
          omega
        clear hc hd HG HS he hh hks
        go_wp2
        go_roundg (S.size - (k + 1))
        case rel => exact ⟨k + 1, rfl, by omega, by go_num, HC.out, rfl⟩
        case measure => omega
    · have HC : Hid (k = r) := by
        show k = r
        rw [← hc, List.drop_of_length_le (by have := HS.out; omega)]
        rfl
      clear hc HG HS
      go_wp2
      go_ret
      exact ⟨congrArg (fun n : Nat => Ending.returned (.int .i64 (n : Int))) HC.out, rfl⟩
end Go.Proofs.Ytffllhohlfblnaa
