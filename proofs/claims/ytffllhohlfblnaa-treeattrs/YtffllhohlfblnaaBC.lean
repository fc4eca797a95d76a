/-
  Is a name one of some that lie in memory? slices.Index, slices.Contains, and the closure that oneOf makes.
-/
import Derived.Test.YtffllhohlfblnaaBT
import Derived.Test.YtffllhohlfblnaaTP
import Derived.Test.YtffllhohlfblnaaProg
import Derived.Deep.QuietTactic
import Derived.BigQuiet
import Derived.Deep.LoopGhost
namespace Go.Proofs.Ytffllhohlfblnaa
open Go.RowKit

/-- Names lie in a block. -/
def StrsIn (K : Nat → Prop) (w : World) (la : Option Addr) (l : List (List UInt8)) : Prop :=
  ∀ j (h : j < l.length), ∃ g, la = some ⟨g, 0, none⟩ ∧ K g ∧ w.cell? ⟨g, j, none⟩ = some (sv l[j])
theorem StrsIn.kept {K K' : Nat → Prop} {w w' : World} {la : Option Addr} {l : List (List UInt8)} (h : StrsIn K w la l) (hk : Kept K w w') (hm : ∀ k, K k → K' k) : StrsIn K' w' la l := fun j hj => by
  obtain ⟨g, h1, h2, h3⟩ := h j hj
  exact ⟨g, h1, hm g h2, by rw [hk.cell (p := ⟨g, j, none⟩) h2]; exact h3⟩
theorem isIn_cons (a : List UInt8) (l : List (List UInt8)) (n : List UInt8) : isIn (a :: l) n = ((n == a) || isIn l n) := rfl

set_option maxRecDepth 20000 in
set_option maxHeartbeats 1000000 in
theorem index_any (l : List (List UInt8)) (la : Option Addr) (cap : Nat) (s : ByteArray) (hn : l.length ≤ 1000000) (K K' : Nat → Prop) (w : World) (ha : StrsIn K' w la l) :
    Calls Try.prog 100 #[.slice la l.length cap, .string s] w fun e w' => (∃ z : Int, e = .returned (.int .i64 z) ∧ decide (z ≥ 0) = isIn l s.toList) ∧ Kept K w w' := by
  obtain ⟨A, hA⟩ : ∃ A, isIn l s.toList = A := ⟨_, rfl⟩
  rw [hA]
  obtain ⟨n, hne⟩ : ∃ n, l.length = n := ⟨_, rfl⟩
  have HA0 : Hid (isIn (l.drop 0) s.toList = A) := hA
  have HI : Hid (StrsIn K' w la l) := ha
  have HN : Hid (l.length = n) := hne
  rw [hne] at hn ⊢
  clear hA ha hne
  go_enter Try.func100, Try.ntmps100
  go_wp2_with fail
  go_loopg [8] n (fun g v wr => ∃ k : Nat, g = n - k ∧ k ≤ n ∧ v = .int .i64 k ∧ isIn (l.drop k) s.toList = A ∧ wr = w)
  case atStart => exact ⟨0, rfl, Nat.zero_le _, rfl, HA0.out, rfl⟩
  case round =>
    clear HA0
    obtain ⟨k, hgk, hk, rfl, HA, rfl⟩ := hrel
    by_cases hlt : k < n
    · have hl : k < l.length := by rw [HN.out]; exact hlt
      obtain ⟨g, hg, -, c0⟩ := HI.out k hl
      subst hg
      rw [List.drop_eq_getElem_cons hl, isIn_cons] at HA
      obtain ⟨S, hS⟩ : ∃ S : ByteArray, (⟨l[k].toArray⟩ : ByteArray) = S := ⟨_, rfl⟩
      replace c0 : wr.cell? ⟨g, k, none⟩ = some (.string S) := by rw [← hS]; exact c0
      obtain ⟨q, hq⟩ : ∃ q, (s.toList == S.toList) = q := ⟨_, rfl⟩
      have hqe : (s.toList == l[k]) = q := by rw [← hq, ByteArray.toList_eq S, ← hS]
      rw [hqe] at HA
      have HA' : Hid ((q || isIn (l.drop (k + 1)) s.toList) = A) := HA
      clear HA hqe hS HI HN hl
      cases q with
      | true =>
        have hA : A = true := HA'.out.symm
        subst hA
        clear HA'
        go_wp2
        go_ret
        exact ⟨⟨_, rfl, decide_eq_true (by omega)⟩, Kept.refl _ _⟩
      | false =>
        go_wp2
        go_roundg (n - (k + 1))
        case rel => exact ⟨k + 1, rfl, by omega, by go_num, HA'.out, rfl⟩
        case measure => omega
    · have hkk : k = n := by omega
      subst hkk
      have hA : A = false := by rw [← HA, List.drop_eq_nil_of_le (by rw [HN.out]; exact Nat.le_refl _)]; rfl
      subst hA
      clear HA HI HN
      go_wp2
      go_ret
      exact ⟨⟨_, rfl, rfl⟩, Kept.refl _ _⟩

set_option maxRecDepth 20000 in
set_option maxHeartbeats 1000000 in
theorem contains_any (l : List (List UInt8)) (la : Option Addr) (cap : Nat) (s : ByteArray) (hn : l.length ≤ 1000000) (K K' : Nat → Prop) (w : World) (ha : StrsIn K' w la l) :
    Calls Try.prog 85 #[.slice la l.length cap, .string s] w fun e w' => e = .returned (.bool (isIn l s.toList)) ∧ Kept K w w' := by
  have h := index_any l la cap s hn K K' w ha
  obtain ⟨A, hA⟩ : ∃ A, isIn l s.toList = A := ⟨_, rfl⟩
  rw [hA] at h ⊢
  clear hA ha
  go_enter Try.func85, Try.ntmps85
  go_wp2_with fail
  refine h.mono ?_
  rintro e w1 ⟨⟨z, rfl, hz⟩, k1⟩
  clear h
  go_wp2
  go_ret
  subst hz
  exact ⟨rfl, k1⟩

set_option maxRecDepth 20000 in
set_option maxHeartbeats 1000000 in
/-- The closure that oneOf makes: its box holds the slice. -/
theorem oneOf1_any (l : List (List UInt8)) (la : Option Addr) (cap : Nat) (s : ByteArray) (hn : l.length ≤ 1000000) (K K' : Nat → Prop) (b : Nat) (w : World) (hb : w.cell? ⟨b, 0, none⟩ = some (.slice la l.length cap)) (ha : StrsIn K' w la l) :
    Calls Try.prog 84 #[.string s, .pointer (some ⟨b, 0, none⟩)] w fun e w' => e = .returned (.bool (isIn l s.toList)) ∧ Kept K w w' := by
  have h := contains_any l la cap s hn K K' w ha
  obtain ⟨A, hA⟩ : ∃ A, isIn l s.toList = A := ⟨_, rfl⟩
  rw [hA] at h ⊢
  obtain ⟨n, hne⟩ : ∃ n, l.length = n := ⟨_, rfl⟩
  rw [hne] at h hb
  clear hA ha hne hn
  go_enter Try.func84, Try.ntmps84
  go_wp2_with fail
  refine h.mono ?_
  rintro e w1 ⟨rfl, k1⟩
  clear h hb
  go_wp2
  go_ret
  exact ⟨rfl, k1⟩
end Go.Proofs.Ytffllhohlfblnaa

namespace Go.Proofs.Ytffllhohlfblnaa
open Go.RowKit

set_option maxRecDepth 20000 in
set_option maxHeartbeats 1000000 in
theorem oneOf_any (la : Option Addr) (n cap : Nat) (w : World) :
    Calls Try.prog 60 #[.slice la n cap] w fun e w' => e = .returned (.func (.func 84) #[] #[.pointer (some ⟨w.heap.size, 0, none⟩)]) ∧ w' = w.alloc (.cells #[.slice la n cap] 46) := by
  go_enter Try.func60, Try.ntmps60
  go_wp2
  go_ret
  exact ⟨rfl, rfl⟩

set_option maxRecDepth 20000 in
theorem anything_any (s : ByteArray) (w : World) :
    Calls Try.prog 99 #[.string s] w fun e w' => e = .returned (.bool true) ∧ w' = w := by
  go_enter Try.func99, Try.ntmps99
  go_wp2
  go_ret
  exact ⟨rfl, rfl⟩
end Go.Proofs.Ytffllhohlfblnaa

namespace Go.Proofs.Ytffllhohlfblnaa
open Go.RowKit

/-- A func value that oneOf made: it seeks one of L. -/
def OneOf (w : World) (v : Value) (L : List (List UInt8)) : Prop :=
  L.length ≤ 1000000 ∧ ∃ b la cap, v = .func (.func 84) #[] #[.pointer (some ⟨b, 0, none⟩)] ∧ b < w.heap.size ∧ w.cell? ⟨b, 0, none⟩ = some (.slice la L.length cap) ∧ StrsIn (fun k => k < w.heap.size) w la L
theorem OneOf.kept {w w' : World} {v : Value} {L : List (List UInt8)} (h : OneOf w v L) (hk : Kept (fun k => k < w.heap.size) w w') : OneOf w' v L := by
  obtain ⟨h0, b, la, cap, h1, h2, h3, h4⟩ := h
  exact ⟨h0, b, la, cap, h1, Nat.lt_of_lt_of_le h2 hk.size, by rw [hk.cell (p := ⟨b, 0, none⟩) h2]; exact h3, h4.kept hk fun k hk' => Nat.lt_of_lt_of_le hk' hk.size⟩

set_option maxRecDepth 20000 in
set_option maxHeartbeats 1000000 in
theorem bounds1_any (L1 L2 : List (List UInt8)) (s : ByteArray) (v1 v2 : Value) (b1 b2 : Nat) (w : World) (c1 : w.cell? ⟨b1, 0, none⟩ = some v1) (c2 : w.cell? ⟨b2, 0, none⟩ = some v2) (hb2 : b2 < w.heap.size) (h1 : OneOf w v1 L1) (h2 : OneOf w v2 L2) :
    Calls Try.prog 86 #[.string s, .pointer (some ⟨b1, 0, none⟩), .pointer (some ⟨b2, 0, none⟩)] w fun e w' => e = .returned (.bool (isIn L1 s.toList || isIn L2 s.toList)) ∧ Kept (fun k => k < w.heap.size) w w' := by
  obtain ⟨n1, d1, la1, cap1, rfl, x1, y1, z1⟩ := h1
  obtain ⟨n2, d2, la2, cap2, rfl, x2, y2, z2⟩ := h2
  have r1 := oneOf1_any L1 la1 cap1 s n1 (fun k => k < w.heap.size) _ d1 w y1 z1
  have r2 := fun X (k : Kept (fun k => k < w.heap.size) w X) => oneOf1_any L2 la2 cap2 s n2 (fun k => k < w.heap.size) (fun k => k < w.heap.size) d2 X (by rw [k.cell (p := ⟨d2, 0, none⟩) x2]; exact y2) (z2.kept k fun _ h => h)
  have HC : Hid (∀ X, Kept (fun k => k < w.heap.size) w X → X.cell? ⟨b2, 0, none⟩ = some (.func (.func 84) #[] #[.pointer (some ⟨d2, 0, none⟩)])) := fun X k => by rw [k.cell (p := ⟨b2, 0, none⟩) hb2]; exact c2
  obtain ⟨q1, hq1⟩ : ∃ q, isIn L1 s.toList = q := ⟨_, rfl⟩
  obtain ⟨q2, hq2⟩ : ∃ q, isIn L2 s.toList = q := ⟨_, rfl⟩
  rw [hq1] at r1 ⊢
  simp only [hq2] at r2 ⊢
  have HK2 : Hid (∀ X Y : World, Kept (fun k => k < w.heap.size) w X → Kept (fun k => k < w.heap.size) X Y → Kept (fun k => k < w.heap.size) w Y) := fun X Y h1 h2 => h1.trans h2
  clear y1 z1 y2 z2 hq1 hq2 n1 n2 x1 x2 c2 hb2
  cases q1 with
  | true =>
    go_enter Try.func86, Try.ntmps86
    go_wp2_with fail
    refine r1.mono ?_
    rintro e w1 ⟨rfl, k1⟩
    clear r1 r2 HC
    go_wp2
    go_ret
    exact ⟨rfl, k1⟩
  | false =>
    go_enter Try.func86, Try.ntmps86
    go_wp2_with fail
    refine r1.mono ?_
    rintro e w1 ⟨rfl, k1⟩
    have c3 := HC.out w1 k1
    replace r2 := r2 w1 k1
    clear r1 HC c1
    go_wp2_with fail
    refine r2.mono ?_
    rintro e w2 ⟨rfl, k2⟩
    have hk := HK2.out w1 w2 k1 k2
    clear r2 c3 HK2 k1 k2
    go_wp2
    go_ret
    exact ⟨rfl, hk⟩
end Go.Proofs.Ytffllhohlfblnaa
