/-
  What the document's answer for layer 1 does as a Go text: more, follows, right.
-/
import Derived.Test.YtnfallgpnoofiaaDecode
import Derived.Test.YtnfallgpnoofiaaRefPure
namespace Go.Proofs.Ytnfallgpnoofiaa
open Go.RowKit
set_option linter.unusedVariables false

theorem more1 (n : Int) (w : World) (h1 : n < 128) :
    Calls Try.prog 18 #[.int .u8 n] w fun e w' => e = .returned (.int .i64 0) ∧ w' = w := by
  go_enter Try.func18, Try.ntmps18
  go_wp2
  all_goals go_ret
  all_goals exact ⟨rfl, rfl⟩

theorem more2 (n : Int) (w : World) (h0 : ¬ n < 128) (h1 : 194 ≤ n) (h2 : n ≤ 223) :
    Calls Try.prog 18 #[.int .u8 n] w fun e w' => e = .returned (.int .i64 1) ∧ w' = w := by
  go_enter Try.func18, Try.ntmps18
  go_wp2
  all_goals go_ret
  all_goals exact ⟨rfl, rfl⟩

theorem more3 (n : Int) (w : World) (h0 : ¬ n < 128) (h1 : 224 ≤ n) (h2 : n ≤ 239) :
    Calls Try.prog 18 #[.int .u8 n] w fun e w' => e = .returned (.int .i64 2) ∧ w' = w := by
  go_enter Try.func18, Try.ntmps18
  go_wp2
  all_goals go_ret
  all_goals exact ⟨rfl, rfl⟩

theorem more4 (n : Int) (w : World) (h0 : ¬ n < 128) (h1 : 240 ≤ n) (h2 : n ≤ 244) :
    Calls Try.prog 18 #[.int .u8 n] w fun e w' => e = .returned (.int .i64 3) ∧ w' = w := by
  go_enter Try.func18, Try.ntmps18
  go_wp2
  all_goals go_ret
  all_goals exact ⟨rfl, rfl⟩

theorem more5 (n : Int) (w : World) (h0 : ¬ n < 128) (h1 : n < 194) :
    Calls Try.prog 18 #[.int .u8 n] w fun e w' => e = .returned (.int .i64 (-1)) ∧ w' = w := by
  go_enter Try.func18, Try.ntmps18
  go_wp2
  all_goals go_ret
  all_goals exact ⟨rfl, rfl⟩

theorem more6 (n : Int) (w : World) (h0 : ¬ n < 128) (h1 : 244 < n) :
    Calls Try.prog 18 #[.int .u8 n] w fun e w' => e = .returned (.int .i64 (-1)) ∧ w' = w := by
  go_enter Try.func18, Try.ntmps18
  go_wp2
  all_goals go_ret
  all_goals exact ⟨rfl, rfl⟩

theorem more_any (c : UInt8) (w : World) : Calls Try.prog 18 #[.int .u8 c.toNat] w fun e w' => e = .returned (.int .i64 (moreZ c)) ∧ w' = w := by
  unfold moreZ
  by_cases c1 : c.toNat < 128
  · rw [if_pos c1]; exact more1 _ w (by omega)
  rw [if_neg c1]
  by_cases c2 : 194 ≤ c.toNat ∧ c.toNat ≤ 223
  · rw [if_pos c2]; exact more2 _ w (by omega) (by omega) (by omega)
  rw [if_neg c2]
  by_cases c3 : 224 ≤ c.toNat ∧ c.toNat ≤ 239
  · rw [if_pos c3]; exact more3 _ w (by omega) (by omega) (by omega)
  rw [if_neg c3]
  by_cases c4 : 240 ≤ c.toNat ∧ c.toNat ≤ 244
  · rw [if_pos c4]; exact more4 _ w (by omega) (by omega) (by omega)
  rw [if_neg c4]
  by_cases c5 : c.toNat < 194
  · exact more5 _ w (by omega) (by omega)
  · exact more6 _ w (by omega) (by omega)

theorem fol1 (f c k : Int) (w : World) (h0 : (k == 1) = false) :
    Calls Try.prog 23 #[.int .u8 f, .int .u8 c, .int .i64 k] w fun e w' => e = .returned (.bool (decide (128 ≤ c ∧ c ≤ 191))) ∧ w' = w := by
  by_cases g1 : 128 ≤ c
  · by_cases g2 : c ≤ 191
    · rw [show decide (128 ≤ c ∧ c ≤ 191) = true by simp [g1, g2]]
      go_enter Try.func23, Try.ntmps23
      go_wp2
      go_ret
      exact ⟨rfl, rfl⟩
    · rw [show decide (128 ≤ c ∧ c ≤ 191) = false by simp [g1, g2]]
      have g2' : decide (c ≤ 191) = false := by simpa using g2
      go_enter Try.func23, Try.ntmps23
      go_wp2
      go_ret
      exact ⟨rfl, rfl⟩
  · rw [show decide (128 ≤ c ∧ c ≤ 191) = false by simp [g1]]
    have g1' : decide (128 ≤ c) = false := by simpa using g1
    go_enter Try.func23, Try.ntmps23
    go_wp2
    go_ret
    exact ⟨rfl, rfl⟩

theorem fol2 (f c k : Int) (w : World) (h0 : k = 1) (h1 : f = 224) :
    Calls Try.prog 23 #[.int .u8 f, .int .u8 c, .int .i64 k] w fun e w' => e = .returned (.bool (decide (160 ≤ c ∧ c ≤ 191))) ∧ w' = w := by
  subst h0
  subst h1
  by_cases g1 : 160 ≤ c
  · by_cases g2 : c ≤ 191
    · rw [show decide (160 ≤ c ∧ c ≤ 191) = true by simp [g1, g2]]
      go_enter Try.func23, Try.ntmps23
      go_wp2
      go_ret
      exact ⟨rfl, rfl⟩
    · rw [show decide (160 ≤ c ∧ c ≤ 191) = false by simp [g1, g2]]
      have g2' : decide (c ≤ 191) = false := by simpa using g2
      go_enter Try.func23, Try.ntmps23
      go_wp2
      go_ret
      exact ⟨rfl, rfl⟩
  · rw [show decide (160 ≤ c ∧ c ≤ 191) = false by simp [g1]]
    have g1' : decide (160 ≤ c) = false := by simpa using g1
    go_enter Try.func23, Try.ntmps23
    go_wp2
    go_ret
    exact ⟨rfl, rfl⟩

theorem fol3 (f c k : Int) (w : World) (h0 : k = 1) (h1 : f = 237) :
    Calls Try.prog 23 #[.int .u8 f, .int .u8 c, .int .i64 k] w fun e w' => e = .returned (.bool (decide (128 ≤ c ∧ c ≤ 159))) ∧ w' = w := by
  subst h0
  subst h1
  by_cases g1 : 128 ≤ c
  · by_cases g2 : c ≤ 159
    · rw [show decide (128 ≤ c ∧ c ≤ 159) = true by simp [g1, g2]]
      go_enter Try.func23, Try.ntmps23
      go_wp2
      go_ret
      exact ⟨rfl, rfl⟩
    · rw [show decide (128 ≤ c ∧ c ≤ 159) = false by simp [g1, g2]]
      have g2' : decide (c ≤ 159) = false := by simpa using g2
      go_enter Try.func23, Try.ntmps23
      go_wp2
      go_ret
      exact ⟨rfl, rfl⟩
  · rw [show decide (128 ≤ c ∧ c ≤ 159) = false by simp [g1]]
    have g1' : decide (128 ≤ c) = false := by simpa using g1
    go_enter Try.func23, Try.ntmps23
    go_wp2
    go_ret
    exact ⟨rfl, rfl⟩

theorem fol4 (f c k : Int) (w : World) (h0 : k = 1) (h1 : f = 240) :
    Calls Try.prog 23 #[.int .u8 f, .int .u8 c, .int .i64 k] w fun e w' => e = .returned (.bool (decide (144 ≤ c ∧ c ≤ 191))) ∧ w' = w := by
  subst h0
  subst h1
  by_cases g1 : 144 ≤ c
  · by_cases g2 : c ≤ 191
    · rw [show decide (144 ≤ c ∧ c ≤ 191) = true by simp [g1, g2]]
      go_enter Try.func23, Try.ntmps23
      go_wp2
      go_ret
      exact ⟨rfl, rfl⟩
    · rw [show decide (144 ≤ c ∧ c ≤ 191) = false by simp [g1, g2]]
      have g2' : decide (c ≤ 191) = false := by simpa using g2
      go_enter Try.func23, Try.ntmps23
      go_wp2
      go_ret
      exact ⟨rfl, rfl⟩
  · rw [show decide (144 ≤ c ∧ c ≤ 191) = false by simp [g1]]
    have g1' : decide (144 ≤ c) = false := by simpa using g1
    go_enter Try.func23, Try.ntmps23
    go_wp2
    go_ret
    exact ⟨rfl, rfl⟩

theorem fol5 (f c k : Int) (w : World) (h0 : k = 1) (h1 : f = 244) :
    Calls Try.prog 23 #[.int .u8 f, .int .u8 c, .int .i64 k] w fun e w' => e = .returned (.bool (decide (128 ≤ c ∧ c ≤ 143))) ∧ w' = w := by
  subst h0
  subst h1
  by_cases g1 : 128 ≤ c
  · by_cases g2 : c ≤ 143
    · rw [show decide (128 ≤ c ∧ c ≤ 143) = true by simp [g1, g2]]
      go_enter Try.func23, Try.ntmps23
      go_wp2
      go_ret
      exact ⟨rfl, rfl⟩
    · rw [show decide (128 ≤ c ∧ c ≤ 143) = false by simp [g1, g2]]
      have g2' : decide (c ≤ 143) = false := by simpa using g2
      go_enter Try.func23, Try.ntmps23
      go_wp2
      go_ret
      exact ⟨rfl, rfl⟩
  · rw [show decide (128 ≤ c ∧ c ≤ 143) = false by simp [g1]]
    have g1' : decide (128 ≤ c) = false := by simpa using g1
    go_enter Try.func23, Try.ntmps23
    go_wp2
    go_ret
    exact ⟨rfl, rfl⟩

theorem fol6 (f c k : Int) (w : World) (h0 : k = 1) (h1 : (f == 224) = false) (h2 : (f == 237) = false) (h3 : (f == 240) = false) (h4 : (f == 244) = false) :
    Calls Try.prog 23 #[.int .u8 f, .int .u8 c, .int .i64 k] w fun e w' => e = .returned (.bool (decide (128 ≤ c ∧ c ≤ 191))) ∧ w' = w := by
  subst h0
  by_cases g1 : 128 ≤ c
  · by_cases g2 : c ≤ 191
    · rw [show decide (128 ≤ c ∧ c ≤ 191) = true by simp [g1, g2]]
      go_enter Try.func23, Try.ntmps23
      go_wp2
      go_ret
      exact ⟨rfl, rfl⟩
    · rw [show decide (128 ≤ c ∧ c ≤ 191) = false by simp [g1, g2]]
      have g2' : decide (c ≤ 191) = false := by simpa using g2
      go_enter Try.func23, Try.ntmps23
      go_wp2
      go_ret
      exact ⟨rfl, rfl⟩
  · rw [show decide (128 ≤ c ∧ c ≤ 191) = false by simp [g1]]
    have g1' : decide (128 ≤ c) = false := by simpa using g1
    go_enter Try.func23, Try.ntmps23
    go_wp2
    go_ret
    exact ⟨rfl, rfl⟩

theorem fol_any (f c : UInt8) (k : Nat) (w : World) :
    Calls Try.prog 23 #[.int .u8 f.toNat, .int .u8 c.toNat, .int .i64 k] w fun e w' => e = .returned (.bool (folB f c k)) ∧ w' = w := by
  have key : ∀ lo hi : Nat, loN f k = lo → hiN f k = hi → folB f c k = decide ((lo : Int) ≤ (c.toNat : Int) ∧ (c.toNat : Int) ≤ (hi : Int)) := by
    intro lo hi h1 h2
    unfold folB
    rw [h1, h2]
    congr 1
    apply propext
    omega
  by_cases hk : k = 1
  · subst hk
    by_cases f1 : f.toNat = 224
    · rw [key 160 191 (by simp [loN, f1]) (by simp [hiN, f1])]; exact fol2 _ _ _ w rfl (by omega)
    by_cases f2 : f.toNat = 237
    · rw [key 128 159 (by simp [loN, f2]) (by simp [hiN, f2])]; exact fol3 _ _ _ w rfl (by omega)
    by_cases f3 : f.toNat = 240
    · rw [key 144 191 (by simp [loN, f3]) (by simp [hiN, f3])]; exact fol4 _ _ _ w rfl (by omega)
    by_cases f4 : f.toNat = 244
    · rw [key 128 143 (by simp [loN, f4]) (by simp [hiN, f4])]; exact fol5 _ _ _ w rfl (by omega)
    rw [key 128 191 (by simp [loN, f1, f3]) (by simp [hiN, f2, f4])]
    exact fol6 _ _ _ w rfl (by simp; omega) (by simp; omega) (by simp; omega) (by simp; omega)
  · rw [key 128 191 (loN_2 f hk) (hiN_2 f hk)]; exact fol1 _ _ _ w (by simp; omega)
end Go.Proofs.Ytnfallgpnoofiaa
