/-
  Leaves of the document that only read: room, Len, isElement, isContent, mayHold, mayMove, within, fits.
-/
import Derived.Test.YtmplhphcdgpigaaCG
import Derived.Test.YtmplhphcdgpigaaBK
namespace Go.Proofs.Ytmplhphcdgpigaa
open Go.RowKit
set_option linter.unusedVariables false


set_option maxRecDepth 20000 in
theorem room_any (p n cap L c : Nat) (ga : Option Addr) (w : World) (h0 : w.cell? ⟨p, 0, none⟩ = some (.int .i64 (L : Int))) (hc : w.cell? ⟨p, 1, none⟩ = some (.slice ga n cap)) (hL : L ≤ 1000000) (hn : n ≤ 1000000) :
    Calls Try.prog 17 #[.pointer (some ⟨p, 0, none⟩), .int .i64 (c : Int)] w fun e w' => e = .returned (.bool (decide (n + c ≤ L))) ∧ Kept (fun k => k < w.heap.size) w w' := by
  by_cases hd : n + c ≤ L
  · have e : decide ((L : Int) - (n : Int) ≥ (c : Int)) = true := decide_eq_true (by omega)
    rw [decide_eq_true hd]
    clear hd
    go_enter Try.func17, Try.ntmps17
    go_upto_region 1 with fail
    go_quiet (fail)
    go_wp2
    go_ret
    exact ⟨rfl, (Kept.refl _ w).drewN _⟩
  · have e : decide ((L : Int) - (n : Int) ≥ (c : Int)) = false := decide_eq_false (by omega)
    rw [decide_eq_false hd]
    clear hd
    go_enter Try.func17, Try.ntmps17
    go_upto_region 1 with fail
    go_quiet (fail)
    go_wp2
    go_ret
    exact ⟨rfl, (Kept.refl _ w).drewN _⟩
set_option maxRecDepth 20000 in
theorem isElement_any (b o kd : Nat) (S T : ByteArray) (w : World) (h0 : w.cell? ⟨b, o, none⟩ = some (.int .u8 (kd : Int))) (h1 : w.cell? ⟨b, o + 1, none⟩ = some (.string S)) :
    Calls Try.prog 15 #[.pointer (some ⟨b, o, none⟩), .string T] w fun e w' => e = .returned (.bool (decide (kd = 1) && S.toList == T.toList)) ∧ w' = w := by
  by_cases c : kd = 1
  · subst c
    obtain ⟨q, hq⟩ : ∃ q, (S.toList == T.toList) = q := ⟨_, rfl⟩
    rw [hq]
    cases q
    all_goals
      go_enter Try.func15, Try.ntmps15
      go_wp2
      go_ret
      exact ⟨rfl, rfl⟩
  · have e : ((kd : Int) == 1) = false := by
      have : (kd : Int) ≠ 1 := by omega
      simpa using this
    rw [decide_eq_false c]
    clear c
    go_enter Try.func15, Try.ntmps15
    go_wp2
    go_ret
    exact ⟨rfl, rfl⟩
set_option maxRecDepth 20000 in
theorem isContent_any (b o kd : Nat) (z : Int) (w : World) (h0 : w.cell? ⟨b, o, none⟩ = some (.int .u8 (kd : Int))) (h1 : w.cell? ⟨b, o + 10, none⟩ = some (.int .i64 z)) :
    Calls Try.prog 42 #[.pointer (some ⟨b, o, none⟩)] w fun e w' => e = .returned (.bool (decide (kd = 4) && decide (z ≠ -1))) ∧ w' = w := by
  by_cases c : kd = 4
  · subst c
    by_cases c2 : z = -1
    · subst c2
      go_enter Try.func42, Try.ntmps42
      go_wp2
      go_ret
      exact ⟨rfl, rfl⟩
    · have e : (z != -1) = true := by simpa using c2
      rw [decide_eq_true c2]
      clear c2
      go_enter Try.func42, Try.ntmps42
      go_wp2
      go_ret
      exact ⟨rfl, rfl⟩
  · have e : ((kd : Int) == 4) = false := by
      have : (kd : Int) ≠ 4 := by omega
      simpa using this
    rw [decide_eq_false c]
    clear c
    go_enter Try.func42, Try.ntmps42
    go_wp2
    go_ret
    exact ⟨rfl, rfl⟩
def holdB (x : Nd) : Bool := if x.kind = 1 then !voidP x.name else decide (x.kind = 4) || decide (x.kind = 5)
set_option maxRecDepth 20000 in
theorem mayHold_any (b o : Nat) (x : Nd) (w : World) (h0 : w.cell? ⟨b, o, none⟩ = some (.int .u8 (x.kind : Int))) (h1 : w.cell? ⟨b, o + 1, none⟩ = some (sv x.name)) :
    Calls Try.prog 32 #[.pointer (some ⟨b, o, none⟩)] w fun e w' => e = .returned (.bool (holdB x)) ∧ Kept (fun k => k < w.heap.size) w w' := by
  obtain ⟨kd, hk⟩ : ∃ k, x.kind = k := ⟨_, rfl⟩
  unfold holdB
  rw [hk] at h0 ⊢
  obtain ⟨S, hS⟩ : ∃ S : ByteArray, (⟨x.name.toArray⟩ : ByteArray) = S := ⟨_, rfl⟩
  have hl : x.name = S.toList := by rw [ByteArray.toList_eq, ← hS]
  rw [hl]
  replace h1 : w.cell? ⟨b, o + 1, none⟩ = some (.string S) := by rw [← hS]; exact h1
  have rv := void_any S (fun k => k < w.heap.size) w
  obtain ⟨v, hv⟩ : ∃ v, voidP S.toList = v := ⟨_, rfl⟩
  rw [hv] at rv ⊢
  clear hl hS hv hk
  by_cases c1 : kd = 1
  · subst c1
    cases v
    all_goals
      go_enter Try.func32, Try.ntmps32
      go_wp2_with fail
      refine rv.mono ?_
      rintro e w1 ⟨rfl, k1⟩
      clear rv
      go_wp2
      go_ret
      exact ⟨rfl, k1⟩
  · have e1 : ((kd : Int) == 1) = false := by
      have : (kd : Int) ≠ 1 := by omega
      simpa using this
    rw [if_neg c1]
    clear rv
    by_cases c4 : kd = 4
    · subst c4
      go_enter Try.func32, Try.ntmps32
      go_wp2
      go_ret
      exact ⟨rfl, Kept.refl _ _⟩
    · have e4 : ((kd : Int) == 4) = false := by
        have : (kd : Int) ≠ 4 := by omega
        simpa using this
      by_cases c5 : kd = 5
      · subst c5
        go_enter Try.func32, Try.ntmps32
        go_wp2
        go_ret
        exact ⟨rfl, Kept.refl _ _⟩
      · have e5 : ((kd : Int) == 5) = false := by
          have : (kd : Int) ≠ 5 := by omega
          simpa using this
        rw [decide_eq_false c4, decide_eq_false c5]
        clear c1 c4 c5
        go_enter Try.func32, Try.ntmps32
        go_wp2
        go_ret
        exact ⟨rfl, Kept.refl _ _⟩
def moveB (S : Dm) (i : Nat) : Bool := (decide (i ≠ 0) && decide ((S.nd i).kind ≠ 5)) && !(decide ((S.nd i).kind = 4) && decide ((S.nd i).host ≠ -1))
set_option maxRecDepth 20000 in
theorem mayMove_any (K : Nat → Prop) (p g cap i : Nat) (S : Dm) (w : World) (h : DY K w p S (some ⟨g, 0, none⟩) cap) (hi : i < S.n) (hn : S.n ≤ 1000000000) :
    Calls Try.prog 33 #[.pointer (some ⟨p, 0, none⟩), .int .i64 (i : Int)] w fun e w' => e = .returned (.bool (moveB S i)) ∧ w' = w := by
  obtain ⟨aa, ac, hc, -⟩ := h.cell hi
  have c0 : w.cell? ⟨g, i * 22, none⟩ = some (.int .u8 ((S.nd i).kind : Int)) := hc 0 _ rfl
  have c10 : w.cell? ⟨g, i * 22 + 10, none⟩ = some (.int .i64 (S.nd i).host) := hc 10 _ rfl
  have c1 := h.c1
  have r := isContent_any g (i * 22) (S.nd i).kind (S.nd i).host w c0 c10
  unfold moveB
  obtain ⟨kd, hk⟩ : ∃ k, (S.nd i).kind = k := ⟨_, rfl⟩
  obtain ⟨z, hz⟩ : ∃ k, (S.nd i).host = k := ⟨_, rfl⟩
  obtain ⟨n, hne⟩ : ∃ n, S.n = n := ⟨_, rfl⟩
  rw [hk, hz] at r
  rw [hk] at c0
  rw [hne] at c1 hi hn
  rw [hk, hz]
  obtain ⟨q, hq⟩ : ∃ q, (decide (kd = 4) && decide (z ≠ -1)) = q := ⟨_, rfl⟩
  rw [hq] at r ⊢
  clear h hc c10 hk hz hne hq
  by_cases ci : i = 0
  · subst ci
    clear r
    go_enter Try.func33, Try.ntmps33
    go_wp2
    go_ret
    exact ⟨rfl, rfl⟩
  · have e1 : ((i : Int) != 0) = true := by simp; omega
    rw [decide_eq_true (show i ≠ 0 from ci)]
    by_cases c5 : kd = 5
    · subst c5
      clear r ci
      go_enter Try.func33, Try.ntmps33
      go_wp2
      go_ret
      exact ⟨rfl, rfl⟩
    · have e5 : ((kd : Int) != 5) = true := by
        have : (kd : Int) ≠ 5 := by omega
        simpa using this
      rw [decide_eq_true (show kd ≠ 5 from c5)]
      clear ci c5
      go_enter Try.func33, Try.ntmps33
      go_wp2_with (go_at_call 42; refine r.mono ?_; rintro e w2 ⟨rfl, rfl⟩)
      go_ret
      exact ⟨rfl, rfl⟩
end Go.Proofs.Ytmplhphcdgpigaa
