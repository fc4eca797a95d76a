/-
  Parts that are put on a page, one behind the other.
-/
import Derived.Test.YteccdijjpmeeaaaPg
import Derived.Test.YteccdijjpmeeaaaSp
import Derived.Test.YteccdijjpmeeaaaP04
import Derived.Deep.LoopGhost
namespace Go.Proofs.Yteccdijjpmeeaaa
open Go.RowKit
set_option linter.unusedVariables false
set_option maxRecDepth 20000
set_option maxHeartbeats 2000000
def cat (l : List ByteArray) : List UInt8 := l.flatMap fun s => s.data.toList
def Strs (K : Nat → Prop) (w : World) (g : Nat) (l : List ByteArray) : Prop := K g ∧ ∀ j (h : j < l.length), w.cell? ⟨g, j, none⟩ = some (.string l[j])
theorem cat_take (l : List ByteArray) (j : Nat) (h : j < l.length) : cat (l.take (j + 1)) = cat (l.take j) ++ l[j].data.toList := by
  unfold cat; rw [List.take_succ_eq_append_getElem h, List.flatMap_append, List.flatMap_singleton]
theorem cat_le (l : List ByteArray) (j : Nat) : (cat (l.take j)).length ≤ (cat l).length := by
  have : cat l = cat (l.take j) ++ cat (l.drop j) := by unfold cat; rw [← List.flatMap_append, List.take_append_drop]
  rw [this, List.length_append]; omega
theorem put_any (K : Nat → Prop) (c : Cf) (g n cap : Nat) (ps : List ByteArray) (hn : ps.length = n) (hnn : n ≤ 1000) (l : List UInt8) (w : World) (h : Pg K w c l) (hs : Strs K w g ps) (hl : l.length + (cat ps).length ≤ 1099511627776) :
    Calls Try.prog 52 #[.pointer (some ⟨c.b, 0, none⟩), .slice (some ⟨g, 0, none⟩) n cap] w fun e w' => e = .returned (.tuple #[]) ∧ Pg K w' c (l ++ cat ps) ∧ Kept K w w' := by
  obtain ⟨A, hA⟩ : ∃ A, l ++ cat ps = A := ⟨_, rfl⟩
  rw [hA]
  have HA : Hid (l ++ cat ps = A) := hA
  have HP : Hid (Pg K w c l) := h
  have HS : Hid (Strs K w g ps) := hs
  have HL : Hid (l.length + (cat ps).length ≤ 1099511627776) := hl
  clear hA h hs hl
  go_enter Try.func52, Try.ntmps52
  go_wp2_with fail
  go_loopg [8] n (fun gm i wr => ∃ j : Nat, gm = n - j ∧ j ≤ n ∧ i = .int .i64 j ∧ Pg K wr c (l ++ cat (ps.take j)) ∧ Kept K w wr)
  case atStart => exact ⟨0, rfl, Nat.zero_le _, rfl, by rw [List.take_zero]; show Pg K w c (l ++ []); rw [List.append_nil]; exact HP.out, Kept.refl _ _⟩
  case round =>
    obtain ⟨j, hg, hj, rfl, hP, hK⟩ := hrel
    clear HP
    by_cases hlt : j < n
    · have hc : wr.cell? ⟨g, j, none⟩ = some (.string (ps[j]'(by omega))) := (hK.cell (p := ⟨g, j, none⟩) HS.out.1).trans (HS.out.2 j (by omega))
      have e1 := cat_take ps j (by omega)
      have hle := cat_le ps (j + 1)
      have hz : (ps[j]'(by omega)).data.toList.length = (ps[j]'(by omega)).size := rfl
      have r := writeG K c (l ++ cat (ps.take j)) (ps[j]'(by omega)) wr hP (by
        have := HL.out
        have e2 := congrArg List.length e1
        rw [List.length_append] at e2 ⊢
        omega)
      rw [List.append_assoc, ← e1] at r
      obtain ⟨s, hs⟩ : ∃ s, ps[j]'(by omega) = s := ⟨_, rfl⟩
      rw [hs] at hc r
      have HK : Hid (Kept K w wr) := hK
      clear hP hK e1 hle hz hs
      go_wp2_with fail
      refine r.mono ?_
      rintro e w1 ⟨rfl, hP1, hK1⟩
      have HP1 : Hid (Pg K w1 c (l ++ cat (ps.take (j + 1)))) := hP1
      have HK1 : Hid (Kept K w w1) := HK.out.trans hK1
      clear r hP1 hK1 hc HK
      go_wp2
      go_roundg (n - (j + 1))
      case rel => exact ⟨j + 1, rfl, by omega, by go_num, HP1.out, HK1.out⟩
      case measure => omega
    · have hjn : j = n := by omega
      have et : ps.take j = ps := by rw [hjn, ← hn, List.take_length]
      rw [et, HA.out] at hP
      have HP1 : Hid (Pg K wr c A) := hP
      have HK : Hid (Kept K w wr) := hK
      clear hP hK et hjn
      go_wp2
      go_end0
      exact ⟨rfl, HP1.out, HK.out⟩
end Go.Proofs.Yteccdijjpmeeaaa
