/-
  What the program's Take answers; both tables in memory.
-/
import Derived.Test.YtncfgahnjakeiaaDoorNumber
namespace Go.Proofs.YtncfgahnjakeiaaDoor
open Go.RowKit

/-- Both tables. -/
structure Tab (w : World) : Prop where
  tabs : Tabs w
  refs : ∃ tt, w.heap[0]? = some (.cells refCells.toArray tt (0, 0))
theorem Tab.kept {K : Nat → Prop} {w w' : World} (h : Tab w) (k : Kept K w w') (h0 : K 0) (h1 : K 1) : Tab w' :=
  ⟨⟨fun i hi => by rw [k.cell (p := ⟨1, i, none⟩) h1]; exact h.tabs.ctrl i hi⟩, by rw [k.block 0 h0]; exact h.refs⟩

abbrev refV (R : Ref) : Value := .tuple #[.string R.text, .int .i64 R.n, .int .u8 R.fault]

set_option maxRecDepth 20000 in
set_option maxHeartbeats 1000000 in
theorem take_any (s : ByteArray) (i : Int) (attr : Bool) (K : Nat → Prop) (w : World) (hK : ∀ k, K k → k < w.heap.size) (hs : s.size < 1000000) (hT : Tab w) :
    Calls Tryd.prog 54 #[.string s, .int .i64 i, .bool attr] w fun e w' => e = .returned (refV (takeS s i attr)) ∧ Kept K w w' := by
  obtain ⟨R, hR⟩ : ∃ R, takeS s i attr = R := ⟨_, rfl⟩
  rw [hR]
  by_cases h0 : i < 0
  · have e0 : decide (i < 0) = true := by simpa using h0
    have HR : Hid (R = none0) := hR.symm.trans (if_neg (by omega))
    clear hR
    go_enter Tryd.func54, Tryd.ntmps54
    go_wp2
    go_ret3
    exact ⟨tup3 (fields HR.out), Kept.refl _ _⟩
  · have e0 : decide (i < 0) = false := by simpa using h0
    obtain ⟨k, rfl⟩ : ∃ k : Nat, i = (k : Int) := ⟨i.toNat, by omega⟩
    by_cases h1 : k < s.size
    · have e1 : decide ((k : Int) ≥ (s.size : Int)) = false := by simp; omega
      have hR1 : takeL (s.data.toList.drop k) attr = R := by
        rw [← hR]
        unfold takeS
        rw [if_pos (by omega), Int.toNat_natCast]
      rw [drop_cons h1] at hR1
      by_cases h2 : s[k] = 38
      · have e2 : ((s[k].toNat : Int) == 38) = true := by rw [h2]; rfl
        have e2' : ((s[k].toNat : Int) != 38) = false := by rw [h2]; rfl
        have hR2 : refL (s.data.toList.drop (k + 1)) attr = R := by
          rw [← hR1]
          unfold takeL
          rw [if_pos (by rw [h2]; rfl)]
          rfl
        obtain ⟨r, hr⟩ : ∃ r, s.extract (k + 1) s.size = r := ⟨_, rfl⟩
        have hrl : r.data.toList = s.data.toList.drop (k + 1) := by
          rw [← hr, extract_list]
          have e1 : s.data.toList.take s.size = s.data.toList := List.take_length
          rw [e1]
        have hrs : r.size = s.size - (k + 1) := by
          have := congrArg List.length hrl
          rw [List.length_drop] at this
          exact this
        have hpre := fun X => pre_any r ⟨#[35]⟩ X
        have hh : preS ⟨#[35]⟩ r = hash r.data.toList := by
          unfold preS
          show [35].isPrefixOf r.data.toList = _
          cases r.data.toList with
          | nil => rfl
          | cons c t =>
            show ((35 : UInt8) == c && true) = decide (c = 35)
            rw [Bool.and_true]
            by_cases hc : c = 35
            · subst hc; rfl
            · rw [decide_eq_false hc]
              simpa using fun h => hc h.symm
        rw [hh] at hpre
        rw [← hrl] at hR2
        unfold refL at hR2
        cases hb : hash r.data.toList with
        | true =>
          have hr0 : 0 < r.size := by
            cases hl : r.data.toList with
            | nil => rw [hl] at hb; cases hb
            | cons c t =>
              have : r.data.toList.length = r.size := rfl
              rw [hl] at this
              simp at this
              omega
          rw [hb] at hpre hR2
          rw [if_pos rfl] at hR2
          have hnum := fun X hX hXT => takeNumber_any r hr0 K X hX (by omega) hXT
          rw [hR2] at hnum
          have hrs2 : r.size < 1000000 := by omega
          clear hR hR1 hR2 hrl hh hb h2
          go_enter Tryd.func54, Tryd.ntmps54
          go_wp2_with fail
          refine (hpre _).mono ?_
          rintro e w1 ⟨rfl, rfl⟩
          go_wp2_with fail
          refine (hnum _ hK hT.tabs).mono ?_
          rintro e w1 ⟨rfl, rfl⟩
          go_wp2
          go_ret3
          exact ⟨rfl, Kept.refl _ _⟩
        | false =>
          rw [hb] at hpre hR2
          rw [if_neg (by decide)] at hR2
          obtain ⟨tt, hg⟩ := hT.refs
          have hnam := takeName_any r attr K w hK (by omega) tt hg
          rw [hR2] at hnam
          clear hR hR1 hR2 hrl hh hb h2 hg
          go_enter Tryd.func54, Tryd.ntmps54
          go_wp2_with fail
          refine (hpre _).mono ?_
          rintro e w1 ⟨rfl, rfl⟩
          go_wp2_with fail
          refine hnam.mono ?_
          rintro e w1 ⟨rfl, hk1⟩
          go_wp2
          go_ret3
          exact ⟨rfl, hk1⟩
      · have e2 : ((s[k].toNat : Int) == 38) = false := by
          simp
          intro h
          exact h2 (UInt8.toNat_inj.1 (by show s[k].toNat = 38; omega))
        have e2' : ((s[k].toNat : Int) != 38) = true := by
          simp only [bne, e2]
          rfl
        have HR : Hid (R = none0) := by
          show R = none0
          rw [← hR1]
          unfold takeL
          rw [if_neg]
          show ¬ decide (s[k] = 38) = true
          simpa using h2
        clear hR hR1 h2
        go_enter Tryd.func54, Tryd.ntmps54
        go_wp2
        go_ret3
        exact ⟨tup3 (fields HR.out), Kept.refl _ _⟩
    · have e1 : decide ((k : Int) ≥ (s.size : Int)) = true := by simp; omega
      have HR : Hid (R = none0) := hR.symm.trans (if_neg (by omega))
      clear hR
      go_enter Tryd.func54, Tryd.ntmps54
      go_wp2
      go_ret3
      exact ⟨tup3 (fields HR.out), Kept.refl _ _⟩
end Go.Proofs.YtncfgahnjakeiaaDoor
