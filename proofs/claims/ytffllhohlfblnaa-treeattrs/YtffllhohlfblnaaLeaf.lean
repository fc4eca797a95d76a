/-
  What the small functions answer: a prefix, the document's own digit.
-/
import Derived.Test.YtffllhohlfblnaaProg
import Derived.Test.YtffllhohlfblnaaBase
import Derived.Test.YtffllhohlfblnaaPure
namespace Go.Proofs.Ytffllhohlfblnaa
open Go.RowKit

theorem extract_list (s : ByteArray) (a b : Nat) : (s.extract a b).data.toList = (s.data.toList.take b).drop a := by
  rw [ByteArray.data_extract, Array.toList_extract, List.extract_eq_take_drop, List.drop_take]
theorem beq_data (a b : ByteArray) : (a.toList == b.toList) = (a.data.toList == b.data.toList) := by rw [ByteArray.toList_eq, ByteArray.toList_eq]
theorem pre_take : ∀ (p l : List UInt8), (l.take p.length == p) = p.isPrefixOf l
  | [], l => by simp
  | a :: p, [] => by simp
  | a :: p, c :: l => by
    have := pre_take p l
    simp only [List.length_cons, List.take_succ_cons, List.isPrefixOf]
    rw [← this, List.cons_beq_cons, Bool.beq_comm]
theorem pre_short (p l : List UInt8) (h : l.length < p.length) : p.isPrefixOf l = false := by
  rw [Bool.eq_false_iff]
  intro h'
  have := prefix_length p l h'
  omega

def preS (p s : ByteArray) : Bool := p.data.toList.isPrefixOf s.data.toList




/-- The document's digit: -1: none. -/
def rdig (b : Nat) (c : UInt8) : Int := if digV c < b then (digV c : Int) else -1
theorem rdigit10_any (c : UInt8) (w : World) :
    Calls Try.prog 56 #[.int .u8 c.toNat, .int .i64 10] w fun e w' => e = .returned (.int .i64 (rdig 10 c)) ∧ w' = w := by
  have h256 : c.toNat < 256 := c.toNat_lt
  have cls : c.toNat ≤ 47 ∨ (48 ≤ c.toNat ∧ c.toNat ≤ 57) ∨ (58 ≤ c.toNat ∧ c.toNat ≤ 64) ∨ (65 ≤ c.toNat ∧ c.toNat ≤ 70) ∨ (71 ≤ c.toNat ∧ c.toNat ≤ 96) ∨ (97 ≤ c.toNat ∧ c.toNat ≤ 102) ∨ 103 ≤ c.toNat := by omega
  rcases cls with g | g | g | g | g | g | g
  · have e0 : decide ((c.toNat : Int) ≥ 48) = false := by simp; omega
    have e1 : decide ((c.toNat : Int) ≤ 57) = true := by simp; omega
    have e2 : decide ((c.toNat : Int) ≥ 97) = false := by simp; omega
    have e3 : decide ((c.toNat : Int) ≤ 102) = true := by simp; omega
    have e4 : decide ((c.toNat : Int) ≥ 65) = false := by simp; omega
    have e5 : decide ((c.toNat : Int) ≤ 70) = true := by simp; omega
    have hd : digV c = 16 := by unfold digV; rw [if_neg (by omega), if_neg (by omega), if_neg (by omega)]
    have hr : rdig 10 c = -1 := by unfold rdig; rw [hd]; rw [if_neg (by omega)]
    rw [hr]
    clear hd hr
    have g0 := g
    go_enter Try.func56, Try.ntmps56
    go_wp2
    go_ret
    exact ⟨by first | rfl | (apply congrArg Ending.returned; apply congrArg (Value.int .i64); omega), rfl⟩
  · have e0 : decide ((c.toNat : Int) ≥ 48) = true := by simp; omega
    have e1 : decide ((c.toNat : Int) ≤ 57) = true := by simp; omega
    have e2 : decide ((c.toNat : Int) ≥ 97) = false := by simp; omega
    have e3 : decide ((c.toNat : Int) ≤ 102) = true := by simp; omega
    have e4 : decide ((c.toNat : Int) ≥ 65) = false := by simp; omega
    have e5 : decide ((c.toNat : Int) ≤ 70) = true := by simp; omega
    have hd : digV c = c.toNat - 48 := by unfold digV; rw [if_pos (by omega)]
    have hr : rdig 10 c = (c.toNat : Int) - 48 := by unfold rdig; rw [hd]; rw [if_pos (by omega)]; omega
    rw [hr]
    clear hd hr
    have g0 := g
    go_enter Try.func56, Try.ntmps56
    go_wp2
    go_ret
    exact ⟨by first | rfl | (apply congrArg Ending.returned; apply congrArg (Value.int .i64); omega), rfl⟩
  · have e0 : decide ((c.toNat : Int) ≥ 48) = true := by simp; omega
    have e1 : decide ((c.toNat : Int) ≤ 57) = false := by simp; omega
    have e2 : decide ((c.toNat : Int) ≥ 97) = false := by simp; omega
    have e3 : decide ((c.toNat : Int) ≤ 102) = true := by simp; omega
    have e4 : decide ((c.toNat : Int) ≥ 65) = false := by simp; omega
    have e5 : decide ((c.toNat : Int) ≤ 70) = true := by simp; omega
    have hd : digV c = 16 := by unfold digV; rw [if_neg (by omega), if_neg (by omega), if_neg (by omega)]
    have hr : rdig 10 c = -1 := by unfold rdig; rw [hd]; rw [if_neg (by omega)]
    rw [hr]
    clear hd hr
    have g0 := g
    go_enter Try.func56, Try.ntmps56
    go_wp2
    go_ret
    exact ⟨by first | rfl | (apply congrArg Ending.returned; apply congrArg (Value.int .i64); omega), rfl⟩
  · have e0 : decide ((c.toNat : Int) ≥ 48) = true := by simp; omega
    have e1 : decide ((c.toNat : Int) ≤ 57) = false := by simp; omega
    have e2 : decide ((c.toNat : Int) ≥ 97) = false := by simp; omega
    have e3 : decide ((c.toNat : Int) ≤ 102) = true := by simp; omega
    have e4 : decide ((c.toNat : Int) ≥ 65) = true := by simp; omega
    have e5 : decide ((c.toNat : Int) ≤ 70) = true := by simp; omega
    have hd : digV c = c.toNat - 55 := by unfold digV; rw [if_neg (by omega), if_neg (by omega), if_pos (by omega)]
    have hr : rdig 10 c = -1 := by unfold rdig; rw [hd]; rw [if_neg (by omega)]
    rw [hr]
    clear hd hr
    have g0 := g
    go_enter Try.func56, Try.ntmps56
    go_wp2
    go_ret
    exact ⟨by first | rfl | (apply congrArg Ending.returned; apply congrArg (Value.int .i64); omega), rfl⟩
  · have e0 : decide ((c.toNat : Int) ≥ 48) = true := by simp; omega
    have e1 : decide ((c.toNat : Int) ≤ 57) = false := by simp; omega
    have e2 : decide ((c.toNat : Int) ≥ 97) = false := by simp; omega
    have e3 : decide ((c.toNat : Int) ≤ 102) = true := by simp; omega
    have e4 : decide ((c.toNat : Int) ≥ 65) = true := by simp; omega
    have e5 : decide ((c.toNat : Int) ≤ 70) = false := by simp; omega
    have hd : digV c = 16 := by unfold digV; rw [if_neg (by omega), if_neg (by omega), if_neg (by omega)]
    have hr : rdig 10 c = -1 := by unfold rdig; rw [hd]; rw [if_neg (by omega)]
    rw [hr]
    clear hd hr
    have g0 := g
    go_enter Try.func56, Try.ntmps56
    go_wp2
    go_ret
    exact ⟨by first | rfl | (apply congrArg Ending.returned; apply congrArg (Value.int .i64); omega), rfl⟩
  · have e0 : decide ((c.toNat : Int) ≥ 48) = true := by simp; omega
    have e1 : decide ((c.toNat : Int) ≤ 57) = false := by simp; omega
    have e2 : decide ((c.toNat : Int) ≥ 97) = true := by simp; omega
    have e3 : decide ((c.toNat : Int) ≤ 102) = true := by simp; omega
    have e4 : decide ((c.toNat : Int) ≥ 65) = true := by simp; omega
    have e5 : decide ((c.toNat : Int) ≤ 70) = false := by simp; omega
    have hd : digV c = c.toNat - 87 := by unfold digV; rw [if_neg (by omega), if_pos (by omega)]
    have hr : rdig 10 c = -1 := by unfold rdig; rw [hd]; rw [if_neg (by omega)]
    rw [hr]
    clear hd hr
    have g0 := g
    go_enter Try.func56, Try.ntmps56
    go_wp2
    go_ret
    exact ⟨by first | rfl | (apply congrArg Ending.returned; apply congrArg (Value.int .i64); omega), rfl⟩
  · have e0 : decide ((c.toNat : Int) ≥ 48) = true := by simp; omega
    have e1 : decide ((c.toNat : Int) ≤ 57) = false := by simp; omega
    have e2 : decide ((c.toNat : Int) ≥ 97) = true := by simp; omega
    have e3 : decide ((c.toNat : Int) ≤ 102) = false := by simp; omega
    have e4 : decide ((c.toNat : Int) ≥ 65) = true := by simp; omega
    have e5 : decide ((c.toNat : Int) ≤ 70) = false := by simp; omega
    have hd : digV c = 16 := by unfold digV; rw [if_neg (by omega), if_neg (by omega), if_neg (by omega)]
    have hr : rdig 10 c = -1 := by unfold rdig; rw [hd]; rw [if_neg (by omega)]
    rw [hr]
    clear hd hr
    have g0 := g
    go_enter Try.func56, Try.ntmps56
    go_wp2
    go_ret
    exact ⟨by first | rfl | (apply congrArg Ending.returned; apply congrArg (Value.int .i64); omega), rfl⟩
theorem rdigit16_any (c : UInt8) (w : World) :
    Calls Try.prog 56 #[.int .u8 c.toNat, .int .i64 16] w fun e w' => e = .returned (.int .i64 (rdig 16 c)) ∧ w' = w := by
  have h256 : c.toNat < 256 := c.toNat_lt
  have cls : c.toNat ≤ 47 ∨ (48 ≤ c.toNat ∧ c.toNat ≤ 57) ∨ (58 ≤ c.toNat ∧ c.toNat ≤ 64) ∨ (65 ≤ c.toNat ∧ c.toNat ≤ 70) ∨ (71 ≤ c.toNat ∧ c.toNat ≤ 96) ∨ (97 ≤ c.toNat ∧ c.toNat ≤ 102) ∨ 103 ≤ c.toNat := by omega
  rcases cls with g | g | g | g | g | g | g
  · have e0 : decide ((c.toNat : Int) ≥ 48) = false := by simp; omega
    have e1 : decide ((c.toNat : Int) ≤ 57) = true := by simp; omega
    have e2 : decide ((c.toNat : Int) ≥ 97) = false := by simp; omega
    have e3 : decide ((c.toNat : Int) ≤ 102) = true := by simp; omega
    have e4 : decide ((c.toNat : Int) ≥ 65) = false := by simp; omega
    have e5 : decide ((c.toNat : Int) ≤ 70) = true := by simp; omega
    have hd : digV c = 16 := by unfold digV; rw [if_neg (by omega), if_neg (by omega), if_neg (by omega)]
    have hr : rdig 16 c = -1 := by unfold rdig; rw [hd]; rw [if_neg (by omega)]
    rw [hr]
    clear hd hr
    have g0 := g
    go_enter Try.func56, Try.ntmps56
    go_wp2
    go_ret
    exact ⟨by first | rfl | (apply congrArg Ending.returned; apply congrArg (Value.int .i64); omega), rfl⟩
  · have e0 : decide ((c.toNat : Int) ≥ 48) = true := by simp; omega
    have e1 : decide ((c.toNat : Int) ≤ 57) = true := by simp; omega
    have e2 : decide ((c.toNat : Int) ≥ 97) = false := by simp; omega
    have e3 : decide ((c.toNat : Int) ≤ 102) = true := by simp; omega
    have e4 : decide ((c.toNat : Int) ≥ 65) = false := by simp; omega
    have e5 : decide ((c.toNat : Int) ≤ 70) = true := by simp; omega
    have hd : digV c = c.toNat - 48 := by unfold digV; rw [if_pos (by omega)]
    have hr : rdig 16 c = (c.toNat : Int) - 48 := by unfold rdig; rw [hd]; rw [if_pos (by omega)]; omega
    rw [hr]
    clear hd hr
    have g0 := g
    go_enter Try.func56, Try.ntmps56
    go_wp2
    go_ret
    exact ⟨by first | rfl | (apply congrArg Ending.returned; apply congrArg (Value.int .i64); omega), rfl⟩
  · have e0 : decide ((c.toNat : Int) ≥ 48) = true := by simp; omega
    have e1 : decide ((c.toNat : Int) ≤ 57) = false := by simp; omega
    have e2 : decide ((c.toNat : Int) ≥ 97) = false := by simp; omega
    have e3 : decide ((c.toNat : Int) ≤ 102) = true := by simp; omega
    have e4 : decide ((c.toNat : Int) ≥ 65) = false := by simp; omega
    have e5 : decide ((c.toNat : Int) ≤ 70) = true := by simp; omega
    have hd : digV c = 16 := by unfold digV; rw [if_neg (by omega), if_neg (by omega), if_neg (by omega)]
    have hr : rdig 16 c = -1 := by unfold rdig; rw [hd]; rw [if_neg (by omega)]
    rw [hr]
    clear hd hr
    have g0 := g
    go_enter Try.func56, Try.ntmps56
    go_wp2
    go_ret
    exact ⟨by first | rfl | (apply congrArg Ending.returned; apply congrArg (Value.int .i64); omega), rfl⟩
  · have e0 : decide ((c.toNat : Int) ≥ 48) = true := by simp; omega
    have e1 : decide ((c.toNat : Int) ≤ 57) = false := by simp; omega
    have e2 : decide ((c.toNat : Int) ≥ 97) = false := by simp; omega
    have e3 : decide ((c.toNat : Int) ≤ 102) = true := by simp; omega
    have e4 : decide ((c.toNat : Int) ≥ 65) = true := by simp; omega
    have e5 : decide ((c.toNat : Int) ≤ 70) = true := by simp; omega
    have hd : digV c = c.toNat - 55 := by unfold digV; rw [if_neg (by omega), if_neg (by omega), if_pos (by omega)]
    have hr : rdig 16 c = (c.toNat : Int) - 65 + 10 := by unfold rdig; rw [hd]; rw [if_pos (by omega)]; omega
    rw [hr]
    clear hd hr
    have g0 := g
    go_enter Try.func56, Try.ntmps56
    go_wp2
    go_ret
    exact ⟨by first | rfl | (apply congrArg Ending.returned; apply congrArg (Value.int .i64); omega), rfl⟩
  · have e0 : decide ((c.toNat : Int) ≥ 48) = true := by simp; omega
    have e1 : decide ((c.toNat : Int) ≤ 57) = false := by simp; omega
    have e2 : decide ((c.toNat : Int) ≥ 97) = false := by simp; omega
    have e3 : decide ((c.toNat : Int) ≤ 102) = true := by simp; omega
    have e4 : decide ((c.toNat : Int) ≥ 65) = true := by simp; omega
    have e5 : decide ((c.toNat : Int) ≤ 70) = false := by simp; omega
    have hd : digV c = 16 := by unfold digV; rw [if_neg (by omega), if_neg (by omega), if_neg (by omega)]
    have hr : rdig 16 c = -1 := by unfold rdig; rw [hd]; rw [if_neg (by omega)]
    rw [hr]
    clear hd hr
    have g0 := g
    go_enter Try.func56, Try.ntmps56
    go_wp2
    go_ret
    exact ⟨by first | rfl | (apply congrArg Ending.returned; apply congrArg (Value.int .i64); omega), rfl⟩
  · have e0 : decide ((c.toNat : Int) ≥ 48) = true := by simp; omega
    have e1 : decide ((c.toNat : Int) ≤ 57) = false := by simp; omega
    have e2 : decide ((c.toNat : Int) ≥ 97) = true := by simp; omega
    have e3 : decide ((c.toNat : Int) ≤ 102) = true := by simp; omega
    have e4 : decide ((c.toNat : Int) ≥ 65) = true := by simp; omega
    have e5 : decide ((c.toNat : Int) ≤ 70) = false := by simp; omega
    have hd : digV c = c.toNat - 87 := by unfold digV; rw [if_neg (by omega), if_pos (by omega)]
    have hr : rdig 16 c = (c.toNat : Int) - 97 + 10 := by unfold rdig; rw [hd]; rw [if_pos (by omega)]; omega
    rw [hr]
    clear hd hr
    have g0 := g
    go_enter Try.func56, Try.ntmps56
    go_wp2
    go_ret
    exact ⟨by first | rfl | (apply congrArg Ending.returned; apply congrArg (Value.int .i64); omega), rfl⟩
  · have e0 : decide ((c.toNat : Int) ≥ 48) = true := by simp; omega
    have e1 : decide ((c.toNat : Int) ≤ 57) = false := by simp; omega
    have e2 : decide ((c.toNat : Int) ≥ 97) = true := by simp; omega
    have e3 : decide ((c.toNat : Int) ≤ 102) = false := by simp; omega
    have e4 : decide ((c.toNat : Int) ≥ 65) = true := by simp; omega
    have e5 : decide ((c.toNat : Int) ≤ 70) = false := by simp; omega
    have hd : digV c = 16 := by unfold digV; rw [if_neg (by omega), if_neg (by omega), if_neg (by omega)]
    have hr : rdig 16 c = -1 := by unfold rdig; rw [hd]; rw [if_neg (by omega)]
    rw [hr]
    clear hd hr
    have g0 := g
    go_enter Try.func56, Try.ntmps56
    go_wp2
    go_ret
    exact ⟨by first | rfl | (apply congrArg Ending.returned; apply congrArg (Value.int .i64); omega), rfl⟩
end Go.Proofs.Ytffllhohlfblnaa
