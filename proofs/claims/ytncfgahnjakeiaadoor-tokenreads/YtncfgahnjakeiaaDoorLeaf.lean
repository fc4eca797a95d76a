/-
  What the small functions answer: a prefix, a digit, a byte that goes on, the document's own digit and start.
-/
import Derived.Test.YtncfgahnjakeiaaDoorProg
import Derived.Test.YtncfgahnjakeiaaDoorBase
import Derived.Test.YtncfgahnjakeiaaDoorPure
namespace Go.Proofs.YtncfgahnjakeiaaDoor
open Go.RowKit

theorem extract_list (s : ByteArray) (a b : Nat) : (s.extract a b).data.toList = (s.data.toList.take b).drop a := by
  rw [ByteArray.data_extract, Array.toList_extract, List.extract_eq_take_drop, List.drop_take]
theorem beq_data (a b : ByteArray) : (a.toList == b.toList) = (a.data.toList == b.data.toList) := by rw [ByteArray.toList_eq, ByteArray.toList_eq]
theorem pre_take : ∀ (p l : List UInt8), (l.take p.length == p) = p.isPrefixOf l
  | [], l => by simp
  | a :: p, [] => by simp
  | a :: p, c :: l => by
    have := pre_take p l
    simp only [List.length_cons, List.take_succ_cons, List.isPrefixOf]
    rw [← this, List.cons_beq_cons, Bool.beq_comm]
theorem pre_short (p l : List UInt8) (h : l.length < p.length) : p.isPrefixOf l = false := by
  rw [Bool.eq_false_iff]
  intro h'
  have := prefix_length p l h'
  omega

def preS (p s : ByteArray) : Bool := p.data.toList.isPrefixOf s.data.toList

theorem slpre_any (s p : ByteArray) (w : World) :
    Calls Tryd.prog 78 #[.string s, .string p] w fun e w' => e = .returned (.bool (preS p s)) ∧ w' = w := by
  by_cases h : p.size ≤ s.size
  · have e1 : decide ((s.size : Int) ≥ (p.size : Int)) = true := by simp; omega
    have HP : Hid (((s.extract 0 p.size).toList == p.toList) = preS p s) := by
      show (_ == _) = _
      rw [beq_data, extract_list, List.drop_zero]
      exact pre_take p.data.toList s.data.toList
    go_enter Tryd.func78, Tryd.ntmps78
    go_wp2
    go_ret
    exact ⟨by rw [HP.out]; rfl, rfl⟩
  · have e1 : decide ((s.size : Int) ≥ (p.size : Int)) = false := by simp; omega
    have hp : preS p s = false := pre_short _ _ (by show s.size < p.size; omega)
    rw [hp]
    clear hp
    go_enter Tryd.func78, Tryd.ntmps78
    go_wp2
    go_ret
    exact ⟨rfl, rfl⟩
theorem pre_any (s p : ByteArray) (w : World) :
    Calls Tryd.prog 52 #[.string s, .string p] w fun e w' => e = .returned (.bool (preS p s)) ∧ w' = w := by
  have h1 := slpre_any s p w
  go_enter Tryd.func52, Tryd.ntmps52
  go_wp2_with fail
  refine h1.mono ?_
  rintro e w1 ⟨rfl, rfl⟩
  go_wp2
  go_ret
  exact ⟨rfl, rfl⟩

theorem digit_any (c : UInt8) (w : World) :
    Calls Tryd.prog 96 #[.int .u8 c.toNat] w fun e w' => e = .returned (.int .i32 (digV c)) ∧ w' = w := by
  have h256 : c.toNat < 256 := c.toNat_lt
  have cls : c.toNat ≤ 47 ∨ (48 ≤ c.toNat ∧ c.toNat ≤ 57) ∨ (58 ≤ c.toNat ∧ c.toNat ≤ 64) ∨ (65 ≤ c.toNat ∧ c.toNat ≤ 70) ∨ (71 ≤ c.toNat ∧ c.toNat ≤ 96) ∨ (97 ≤ c.toNat ∧ c.toNat ≤ 102) ∨ 103 ≤ c.toNat := by omega
  rcases cls with g | g | g | g | g | g | g
  · have e0 : decide ((48 : Int) ≤ (c.toNat : Int)) = false := by simp; omega
    have e1 : decide ((c.toNat : Int) ≤ 57) = true := by simp; omega
    have e2 : decide ((97 : Int) ≤ (c.toNat : Int)) = false := by simp; omega
    have e3 : decide ((c.toNat : Int) ≤ 102) = true := by simp; omega
    have e4 : decide ((65 : Int) ≤ (c.toNat : Int)) = false := by simp; omega
    have e5 : decide ((c.toNat : Int) ≤ 70) = true := by simp; omega
    have hd : digV c = 16 := by unfold digV; rw [if_neg (by omega), if_neg (by omega), if_neg (by omega)]
    have HD : Hid (digV c = 16) := hd
    have g0 := g
    clear hd
    go_enter Tryd.func96, Tryd.ntmps96
    go_wp2
    go_ret
    exact ⟨by rw [HD.out]; first | rfl | (apply congrArg Ending.returned; apply congrArg (Value.int .i32); omega), rfl⟩
  · have e0 : decide ((48 : Int) ≤ (c.toNat : Int)) = true := by simp; omega
    have e1 : decide ((c.toNat : Int) ≤ 57) = true := by simp; omega
    have e2 : decide ((97 : Int) ≤ (c.toNat : Int)) = false := by simp; omega
    have e3 : decide ((c.toNat : Int) ≤ 102) = true := by simp; omega
    have e4 : decide ((65 : Int) ≤ (c.toNat : Int)) = false := by simp; omega
    have e5 : decide ((c.toNat : Int) ≤ 70) = true := by simp; omega
    have hd : digV c = c.toNat - 48 := by unfold digV; rw [if_pos (by omega)]
    have HD : Hid (digV c = c.toNat - 48) := hd
    have g0 := g
    clear hd
    go_enter Tryd.func96, Tryd.ntmps96
    go_wp2
    go_ret
    exact ⟨by rw [HD.out]; first | rfl | (apply congrArg Ending.returned; apply congrArg (Value.int .i32); omega), rfl⟩
  · have e0 : decide ((48 : Int) ≤ (c.toNat : Int)) = true := by simp; omega
    have e1 : decide ((c.toNat : Int) ≤ 57) = false := by simp; omega
    have e2 : decide ((97 : Int) ≤ (c.toNat : Int)) = false := by simp; omega
    have e3 : decide ((c.toNat : Int) ≤ 102) = true := by simp; omega
    have e4 : decide ((65 : Int) ≤ (c.toNat : Int)) = false := by simp; omega
    have e5 : decide ((c.toNat : Int) ≤ 70) = true := by simp; omega
    have hd : digV c = 16 := by unfold digV; rw [if_neg (by omega), if_neg (by omega), if_neg (by omega)]
    have HD : Hid (digV c = 16) := hd
    have g0 := g
    clear hd
    go_enter Tryd.func96, Tryd.ntmps96
    go_wp2
    go_ret
    exact ⟨by rw [HD.out]; first | rfl | (apply congrArg Ending.returned; apply congrArg (Value.int .i32); omega), rfl⟩
  · have e0 : decide ((48 : Int) ≤ (c.toNat : Int)) = true := by simp; omega
    have e1 : decide ((c.toNat : Int) ≤ 57) = false := by simp; omega
    have e2 : decide ((97 : Int) ≤ (c.toNat : Int)) = false := by simp; omega
    have e3 : decide ((c.toNat : Int) ≤ 102) = true := by simp; omega
    have e4 : decide ((65 : Int) ≤ (c.toNat : Int)) = true := by simp; omega
    have e5 : decide ((c.toNat : Int) ≤ 70) = true := by simp; omega
    have hd : digV c = c.toNat - 55 := by unfold digV; rw [if_neg (by omega), if_neg (by omega), if_pos (by omega)]
    have HD : Hid (digV c = c.toNat - 55) := hd
    have g0 := g
    clear hd
    go_enter Tryd.func96, Tryd.ntmps96
    go_wp2
    go_ret
    exact ⟨by rw [HD.out]; first | rfl | (apply congrArg Ending.returned; apply congrArg (Value.int .i32); omega), rfl⟩
  · have e0 : decide ((48 : Int) ≤ (c.toNat : Int)) = true := by simp; omega
    have e1 : decide ((c.toNat : Int) ≤ 57) = false := by simp; omega
    have e2 : decide ((97 : Int) ≤ (c.toNat : Int)) = false := by simp; omega
    have e3 : decide ((c.toNat : Int) ≤ 102) = true := by simp; omega
    have e4 : decide ((65 : Int) ≤ (c.toNat : Int)) = true := by simp; omega
    have e5 : decide ((c.toNat : Int) ≤ 70) = false := by simp; omega
    have hd : digV c = 16 := by unfold digV; rw [if_neg (by omega), if_neg (by omega), if_neg (by omega)]
    have HD : Hid (digV c = 16) := hd
    have g0 := g
    clear hd
    go_enter Tryd.func96, Tryd.ntmps96
    go_wp2
    go_ret
    exact ⟨by rw [HD.out]; first | rfl | (apply congrArg Ending.returned; apply congrArg (Value.int .i32); omega), rfl⟩
  · have e0 : decide ((48 : Int) ≤ (c.toNat : Int)) = true := by simp; omega
    have e1 : decide ((c.toNat : Int) ≤ 57) = false := by simp; omega
    have e2 : decide ((97 : Int) ≤ (c.toNat : Int)) = true := by simp; omega
    have e3 : decide ((c.toNat : Int) ≤ 102) = true := by simp; omega
    have e4 : decide ((65 : Int) ≤ (c.toNat : Int)) = true := by simp; omega
    have e5 : decide ((c.toNat : Int) ≤ 70) = false := by simp; omega
    have hd : digV c = c.toNat - 87 := by unfold digV; rw [if_neg (by omega), if_pos (by omega)]
    have HD : Hid (digV c = c.toNat - 87) := hd
    have g0 := g
    clear hd
    go_enter Tryd.func96, Tryd.ntmps96
    go_wp2
    go_ret
    exact ⟨by rw [HD.out]; first | rfl | (apply congrArg Ending.returned; apply congrArg (Value.int .i32); omega), rfl⟩
  · have e0 : decide ((48 : Int) ≤ (c.toNat : Int)) = true := by simp; omega
    have e1 : decide ((c.toNat : Int) ≤ 57) = false := by simp; omega
    have e2 : decide ((97 : Int) ≤ (c.toNat : Int)) = true := by simp; omega
    have e3 : decide ((c.toNat : Int) ≤ 102) = false := by simp; omega
    have e4 : decide ((65 : Int) ≤ (c.toNat : Int)) = true := by simp; omega
    have e5 : decide ((c.toNat : Int) ≤ 70) = false := by simp; omega
    have hd : digV c = 16 := by unfold digV; rw [if_neg (by omega), if_neg (by omega), if_neg (by omega)]
    have HD : Hid (digV c = 16) := hd
    have g0 := g
    clear hd
    go_enter Tryd.func96, Tryd.ntmps96
    go_wp2
    go_ret
    exact ⟨by rw [HD.out]; first | rfl | (apply congrArg Ending.returned; apply congrArg (Value.int .i32); omega), rfl⟩
theorem goes_any (c : UInt8) (w : World) :
    Calls Tryd.prog 99 #[.int .u8 c.toNat] w fun e w' => e = .returned (.bool (goesOn c)) ∧ w' = w := by
  have h256 : c.toNat < 256 := c.toNat_lt
  have cls : c.toNat ≤ 47 ∨ (48 ≤ c.toNat ∧ c.toNat ≤ 57) ∨ (58 ≤ c.toNat ∧ c.toNat ≤ 60) ∨ c.toNat = 61 ∨ (62 ≤ c.toNat ∧ c.toNat ≤ 64) ∨ (65 ≤ c.toNat ∧ c.toNat ≤ 90) ∨ (91 ≤ c.toNat ∧ c.toNat ≤ 96) ∨ (97 ≤ c.toNat ∧ c.toNat ≤ 122) ∨ 123 ≤ c.toNat := by omega
  rcases cls with g | g | g | g | g | g | g | g | g
  · have e0 : ((c.toNat : Int) == 61) = false := by simp; omega
    have e1 : decide ((48 : Int) ≤ (c.toNat : Int)) = false := by simp; omega
    have e2 : decide ((c.toNat : Int) ≤ 57) = true := by simp; omega
    have e3 : decide ((97 : Int) ≤ (c.toNat : Int)) = false := by simp; omega
    have e4 : decide ((c.toNat : Int) ≤ 122) = true := by simp; omega
    have e5 : decide ((65 : Int) ≤ (c.toNat : Int)) = false := by simp; omega
    have e6 : decide ((c.toNat : Int) ≤ 90) = true := by simp; omega
    have hd : goesOn c = false := by unfold goesOn; simp; omega
    rw [hd]
    clear hd
    go_enter Tryd.func99, Tryd.ntmps99
    go_wp2
    go_ret
    exact ⟨rfl, rfl⟩
  · have e0 : ((c.toNat : Int) == 61) = false := by simp; omega
    have e1 : decide ((48 : Int) ≤ (c.toNat : Int)) = true := by simp; omega
    have e2 : decide ((c.toNat : Int) ≤ 57) = true := by simp; omega
    have e3 : decide ((97 : Int) ≤ (c.toNat : Int)) = false := by simp; omega
    have e4 : decide ((c.toNat : Int) ≤ 122) = true := by simp; omega
    have e5 : decide ((65 : Int) ≤ (c.toNat : Int)) = false := by simp; omega
    have e6 : decide ((c.toNat : Int) ≤ 90) = true := by simp; omega
    have hd : goesOn c = true := by unfold goesOn; simp; omega
    rw [hd]
    clear hd
    go_enter Tryd.func99, Tryd.ntmps99
    go_wp2
    go_ret
    exact ⟨rfl, rfl⟩
  · have e0 : ((c.toNat : Int) == 61) = false := by simp; omega
    have e1 : decide ((48 : Int) ≤ (c.toNat : Int)) = true := by simp; omega
    have e2 : decide ((c.toNat : Int) ≤ 57) = false := by simp; omega
    have e3 : decide ((97 : Int) ≤ (c.toNat : Int)) = false := by simp; omega
    have e4 : decide ((c.toNat : Int) ≤ 122) = true := by simp; omega
    have e5 : decide ((65 : Int) ≤ (c.toNat : Int)) = false := by simp; omega
    have e6 : decide ((c.toNat : Int) ≤ 90) = true := by simp; omega
    have hd : goesOn c = false := by unfold goesOn; simp; omega
    rw [hd]
    clear hd
    go_enter Tryd.func99, Tryd.ntmps99
    go_wp2
    go_ret
    exact ⟨rfl, rfl⟩
  · have e0 : ((c.toNat : Int) == 61) = true := by simp; omega
    have e1 : decide ((48 : Int) ≤ (c.toNat : Int)) = true := by simp; omega
    have e2 : decide ((c.toNat : Int) ≤ 57) = false := by simp; omega
    have e3 : decide ((97 : Int) ≤ (c.toNat : Int)) = false := by simp; omega
    have e4 : decide ((c.toNat : Int) ≤ 122) = true := by simp; omega
    have e5 : decide ((65 : Int) ≤ (c.toNat : Int)) = false := by simp; omega
    have e6 : decide ((c.toNat : Int) ≤ 90) = true := by simp; omega
    have hd : goesOn c = true := by unfold goesOn; simp; omega
    rw [hd]
    clear hd
    go_enter Tryd.func99, Tryd.ntmps99
    go_wp2
    go_ret
    exact ⟨rfl, rfl⟩
  · have e0 : ((c.toNat : Int) == 61) = false := by simp; omega
    have e1 : decide ((48 : Int) ≤ (c.toNat : Int)) = true := by simp; omega
    have e2 : decide ((c.toNat : Int) ≤ 57) = false := by simp; omega
    have e3 : decide ((97 : Int) ≤ (c.toNat : Int)) = false := by simp; omega
    have e4 : decide ((c.toNat : Int) ≤ 122) = true := by simp; omega
    have e5 : decide ((65 : Int) ≤ (c.toNat : Int)) = false := by simp; omega
    have e6 : decide ((c.toNat : Int) ≤ 90) = true := by simp; omega
    have hd : goesOn c = false := by unfold goesOn; simp; omega
    rw [hd]
    clear hd
    go_enter Tryd.func99, Tryd.ntmps99
    go_wp2
    go_ret
    exact ⟨rfl, rfl⟩
  · have e0 : ((c.toNat : Int) == 61) = false := by simp; omega
    have e1 : decide ((48 : Int) ≤ (c.toNat : Int)) = true := by simp; omega
    have e2 : decide ((c.toNat : Int) ≤ 57) = false := by simp; omega
    have e3 : decide ((97 : Int) ≤ (c.toNat : Int)) = false := by simp; omega
    have e4 : decide ((c.toNat : Int) ≤ 122) = true := by simp; omega
    have e5 : decide ((65 : Int) ≤ (c.toNat : Int)) = true := by simp; omega
    have e6 : decide ((c.toNat : Int) ≤ 90) = true := by simp; omega
    have hd : goesOn c = true := by unfold goesOn; simp; omega
    rw [hd]
    clear hd
    go_enter Tryd.func99, Tryd.ntmps99
    go_wp2
    go_ret
    exact ⟨rfl, rfl⟩
  · have e0 : ((c.toNat : Int) == 61) = false := by simp; omega
    have e1 : decide ((48 : Int) ≤ (c.toNat : Int)) = true := by simp; omega
    have e2 : decide ((c.toNat : Int) ≤ 57) = false := by simp; omega
    have e3 : decide ((97 : Int) ≤ (c.toNat : Int)) = false := by simp; omega
    have e4 : decide ((c.toNat : Int) ≤ 122) = true := by simp; omega
    have e5 : decide ((65 : Int) ≤ (c.toNat : Int)) = true := by simp; omega
    have e6 : decide ((c.toNat : Int) ≤ 90) = false := by simp; omega
    have hd : goesOn c = false := by unfold goesOn; simp; omega
    rw [hd]
    clear hd
    go_enter Tryd.func99, Tryd.ntmps99
    go_wp2
    go_ret
    exact ⟨rfl, rfl⟩
  · have e0 : ((c.toNat : Int) == 61) = false := by simp; omega
    have e1 : decide ((48 : Int) ≤ (c.toNat : Int)) = true := by simp; omega
    have e2 : decide ((c.toNat : Int) ≤ 57) = false := by simp; omega
    have e3 : decide ((97 : Int) ≤ (c.toNat : Int)) = true := by simp; omega
    have e4 : decide ((c.toNat : Int) ≤ 122) = true := by simp; omega
    have e5 : decide ((65 : Int) ≤ (c.toNat : Int)) = true := by simp; omega
    have e6 : decide ((c.toNat : Int) ≤ 90) = false := by simp; omega
    have hd : goesOn c = true := by unfold goesOn; simp; omega
    rw [hd]
    clear hd
    go_enter Tryd.func99, Tryd.ntmps99
    go_wp2
    go_ret
    exact ⟨rfl, rfl⟩
  · have e0 : ((c.toNat : Int) == 61) = false := by simp; omega
    have e1 : decide ((48 : Int) ≤ (c.toNat : Int)) = true := by simp; omega
    have e2 : decide ((c.toNat : Int) ≤ 57) = false := by simp; omega
    have e3 : decide ((97 : Int) ≤ (c.toNat : Int)) = true := by simp; omega
    have e4 : decide ((c.toNat : Int) ≤ 122) = false := by simp; omega
    have e5 : decide ((65 : Int) ≤ (c.toNat : Int)) = true := by simp; omega
    have e6 : decide ((c.toNat : Int) ≤ 90) = false := by simp; omega
    have hd : goesOn c = false := by unfold goesOn; simp; omega
    rw [hd]
    clear hd
    go_enter Tryd.func99, Tryd.ntmps99
    go_wp2
    go_ret
    exact ⟨rfl, rfl⟩
/-- The document's digit: -1: none. -/
def rdig (b : Nat) (c : UInt8) : Int := if digV c < b then (digV c : Int) else -1
theorem rdigit10_any (c : UInt8) (w : World) :
    Calls Tryd.prog 68 #[.int .u8 c.toNat, .int .i64 10] w fun e w' => e = .returned (.int .i64 (rdig 10 c)) ∧ w' = w := by
  have h256 : c.toNat < 256 := c.toNat_lt
  have cls : c.toNat ≤ 47 ∨ (48 ≤ c.toNat ∧ c.toNat ≤ 57) ∨ (58 ≤ c.toNat ∧ c.toNat ≤ 64) ∨ (65 ≤ c.toNat ∧ c.toNat ≤ 70) ∨ (71 ≤ c.toNat ∧ c.toNat ≤ 96) ∨ (97 ≤ c.toNat ∧ c.toNat ≤ 102) ∨ 103 ≤ c.toNat := by omega
  rcases cls with g | g | g | g | g | g | g
  · have e0 : decide ((c.toNat : Int) ≥ 48) = false := by simp; omega
    have e1 : decide ((c.toNat : Int) ≤ 57) = true := by simp; omega
    have e2 : decide ((c.toNat : Int) ≥ 97) = false := by simp; omega
    have e3 : decide ((c.toNat : Int) ≤ 102) = true := by simp; omega
    have e4 : decide ((c.toNat : Int) ≥ 65) = false := by simp; omega
    have e5 : decide ((c.toNat : Int) ≤ 70) = true := by simp; omega
    have hd : digV c = 16 := by unfold digV; rw [if_neg (by omega), if_neg (by omega), if_neg (by omega)]
    have hr : rdig 10 c = -1 := by unfold rdig; rw [hd]; rw [if_neg (by omega)]
    rw [hr]
    clear hd hr
    have g0 := g
    go_enter Tryd.func68, Tryd.ntmps68
    go_wp2
    go_ret
    exact ⟨by first | rfl | (apply congrArg Ending.returned; apply congrArg (Value.int .i64); omega), rfl⟩
  · have e0 : decide ((c.toNat : Int) ≥ 48) = true := by simp; omega
    have e1 : decide ((c.toNat : Int) ≤ 57) = true := by simp; omega
    have e2 : decide ((c.toNat : Int) ≥ 97) = false := by simp; omega
    have e3 : decide ((c.toNat : Int) ≤ 102) = true := by simp; omega
    have e4 : decide ((c.toNat : Int) ≥ 65) = false := by simp; omega
    have e5 : decide ((c.toNat : Int) ≤ 70) = true := by simp; omega
    have hd : digV c = c.toNat - 48 := by unfold digV; rw [if_pos (by omega)]
    have hr : rdig 10 c = (c.toNat : Int) - 48 := by unfold rdig; rw [hd]; rw [if_pos (by omega)]; omega
    rw [hr]
    clear hd hr
    have g0 := g
    go_enter Tryd.func68, Tryd.ntmps68
    go_wp2
    go_ret
    exact ⟨by first | rfl | (apply congrArg Ending.returned; apply congrArg (Value.int .i64); omega), rfl⟩
  · have e0 : decide ((c.toNat : Int) ≥ 48) = true := by simp; omega
    have e1 : decide ((c.toNat : Int) ≤ 57) = false := by simp; omega
    have e2 : decide ((c.toNat : Int) ≥ 97) = false := by simp; omega
    have e3 : decide ((c.toNat : Int) ≤ 102) = true := by simp; omega
    have e4 : decide ((c.toNat : Int) ≥ 65) = false := by simp; omega
    have e5 : decide ((c.toNat : Int) ≤ 70) = true := by simp; omega
    have hd : digV c = 16 := by unfold digV; rw [if_neg (by omega), if_neg (by omega), if_neg (by omega)]
    have hr : rdig 10 c = -1 := by unfold rdig; rw [hd]; rw [if_neg (by omega)]
    rw [hr]
    clear hd hr
    have g0 := g
    go_enter Tryd.func68, Tryd.ntmps68
    go_wp2
    go_ret
    exact ⟨by first | rfl | (apply congrArg Ending.returned; apply congrArg (Value.int .i64); omega), rfl⟩
  · have e0 : decide ((c.toNat : Int) ≥ 48) = true := by simp; omega
    have e1 : decide ((c.toNat : Int) ≤ 57) = false := by simp; omega
    have e2 : decide ((c.toNat : Int) ≥ 97) = false := by simp; omega
    have e3 : decide ((c.toNat : Int) ≤ 102) = true := by simp; omega
    have e4 : decide ((c.toNat : Int) ≥ 65) = true := by simp; omega
    have e5 : decide ((c.toNat : Int) ≤ 70) = true := by simp; omega
    have hd : digV c = c.toNat - 55 := by unfold digV; rw [if_neg (by omega), if_neg (by omega), if_pos (by omega)]
    have hr : rdig 10 c = -1 := by unfold rdig; rw [hd]; rw [if_neg (by omega)]
    rw [hr]
    clear hd hr
    have g0 := g
    go_enter Tryd.func68, Tryd.ntmps68
    go_wp2
    go_ret
    exact ⟨by first | rfl | (apply congrArg Ending.returned; apply congrArg (Value.int .i64); omega), rfl⟩
  · have e0 : decide ((c.toNat : Int) ≥ 48) = true := by simp; omega
    have e1 : decide ((c.toNat : Int) ≤ 57) = false := by simp; omega
    have e2 : decide ((c.toNat : Int) ≥ 97) = false := by simp; omega
    have e3 : decide ((c.toNat : Int) ≤ 102) = true := by simp; omega
    have e4 : decide ((c.toNat : Int) ≥ 65) = true := by simp; omega
    have e5 : decide ((c.toNat : Int) ≤ 70) = false := by simp; omega
    have hd : digV c = 16 := by unfold digV; rw [if_neg (by omega), if_neg (by omega), if_neg (by omega)]
    have hr : rdig 10 c = -1 := by unfold rdig; rw [hd]; rw [if_neg (by omega)]
    rw [hr]
    clear hd hr
    have g0 := g
    go_enter Tryd.func68, Tryd.ntmps68
    go_wp2
    go_ret
    exact ⟨by first | rfl | (apply congrArg Ending.returned; apply congrArg (Value.int .i64); omega), rfl⟩
  · have e0 : decide ((c.toNat : Int) ≥ 48) = true := by simp; omega
    have e1 : decide ((c.toNat : Int) ≤ 57) = false := by simp; omega
    have e2 : decide ((c.toNat : Int) ≥ 97) = true := by simp; omega
    have e3 : decide ((c.toNat : Int) ≤ 102) = true := by simp; omega
    have e4 : decide ((c.toNat : Int) ≥ 65) = true := by simp; omega
    have e5 : decide ((c.toNat : Int) ≤ 70) = false := by simp; omega
    have hd : digV c = c.toNat - 87 := by unfold digV; rw [if_neg (by omega), if_pos (by omega)]
    have hr : rdig 10 c = -1 := by unfold rdig; rw [hd]; rw [if_neg (by omega)]
    rw [hr]
    clear hd hr
    have g0 := g
    go_enter Tryd.func68, Tryd.ntmps68
    go_wp2
    go_ret
    exact ⟨by first | rfl | (apply congrArg Ending.returned; apply congrArg (Value.int .i64); omega), rfl⟩
  · have e0 : decide ((c.toNat : Int) ≥ 48) = true := by simp; omega
    have e1 : decide ((c.toNat : Int) ≤ 57) = false := by simp; omega
    have e2 : decide ((c.toNat : Int) ≥ 97) = true := by simp; omega
    have e3 : decide ((c.toNat : Int) ≤ 102) = false := by simp; omega
    have e4 : decide ((c.toNat : Int) ≥ 65) = true := by simp; omega
    have e5 : decide ((c.toNat : Int) ≤ 70) = false := by simp; omega
    have hd : digV c = 16 := by unfold digV; rw [if_neg (by omega), if_neg (by omega), if_neg (by omega)]
    have hr : rdig 10 c = -1 := by unfold rdig; rw [hd]; rw [if_neg (by omega)]
    rw [hr]
    clear hd hr
    have g0 := g
    go_enter Tryd.func68, Tryd.ntmps68
    go_wp2
    go_ret
    exact ⟨by first | rfl | (apply congrArg Ending.returned; apply congrArg (Value.int .i64); omega), rfl⟩
theorem rdigit16_any (c : UInt8) (w : World) :
    Calls Tryd.prog 68 #[.int .u8 c.toNat, .int .i64 16] w fun e w' => e = .returned (.int .i64 (rdig 16 c)) ∧ w' = w := by
  have h256 : c.toNat < 256 := c.toNat_lt
  have cls : c.toNat ≤ 47 ∨ (48 ≤ c.toNat ∧ c.toNat ≤ 57) ∨ (58 ≤ c.toNat ∧ c.toNat ≤ 64) ∨ (65 ≤ c.toNat ∧ c.toNat ≤ 70) ∨ (71 ≤ c.toNat ∧ c.toNat ≤ 96) ∨ (97 ≤ c.toNat ∧ c.toNat ≤ 102) ∨ 103 ≤ c.toNat := by omega
  rcases cls with g | g | g | g | g | g | g
  · have e0 : decide ((c.toNat : Int) ≥ 48) = false := by simp; omega
    have e1 : decide ((c.toNat : Int) ≤ 57) = true := by simp; omega
    have e2 : decide ((c.toNat : Int) ≥ 97) = false := by simp; omega
    have e3 : decide ((c.toNat : Int) ≤ 102) = true := by simp; omega
    have e4 : decide ((c.toNat : Int) ≥ 65) = false := by simp; omega
    have e5 : decide ((c.toNat : Int) ≤ 70) = true := by simp; omega
    have hd : digV c = 16 := by unfold digV; rw [if_neg (by omega), if_neg (by omega), if_neg (by omega)]
    have hr : rdig 16 c = -1 := by unfold rdig; rw [hd]; rw [if_neg (by omega)]
    rw [hr]
    clear hd hr
    have g0 := g
    go_enter Tryd.func68, Tryd.ntmps68
    go_wp2
    go_ret
    exact ⟨by first | rfl | (apply congrArg Ending.returned; apply congrArg (Value.int .i64); omega), rfl⟩
  · have e0 : decide ((c.toNat : Int) ≥ 48) = true := by simp; omega
    have e1 : decide ((c.toNat : Int) ≤ 57) = true := by simp; omega
    have e2 : decide ((c.toNat : Int) ≥ 97) = false := by simp; omega
    have e3 : decide ((c.toNat : Int) ≤ 102) = true := by simp; omega
    have e4 : decide ((c.toNat : Int) ≥ 65) = false := by simp; omega
    have e5 : decide ((c.toNat : Int) ≤ 70) = true := by simp; omega
    have hd : digV c = c.toNat - 48 := by unfold digV; rw [if_pos (by omega)]
    have hr : rdig 16 c = (c.toNat : Int) - 48 := by unfold rdig; rw [hd]; rw [if_pos (by omega)]; omega
    rw [hr]
    clear hd hr
    have g0 := g
    go_enter Tryd.func68, Tryd.ntmps68
    go_wp2
    go_ret
    exact ⟨by first | rfl | (apply congrArg Ending.returned; apply congrArg (Value.int .i64); omega), rfl⟩
  · have e0 : decide ((c.toNat : Int) ≥ 48) = true := by simp; omega
    have e1 : decide ((c.toNat : Int) ≤ 57) = false := by simp; omega
    have e2 : decide ((c.toNat : Int) ≥ 97) = false := by simp; omega
    have e3 : decide ((c.toNat : Int) ≤ 102) = true := by simp; omega
    have e4 : decide ((c.toNat : Int) ≥ 65) = false := by simp; omega
    have e5 : decide ((c.toNat : Int) ≤ 70) = true := by simp; omega
    have hd : digV c = 16 := by unfold digV; rw [if_neg (by omega), if_neg (by omega), if_neg (by omega)]
    have hr : rdig 16 c = -1 := by unfold rdig; rw [hd]; rw [if_neg (by omega)]
    rw [hr]
    clear hd hr
    have g0 := g
    go_enter Tryd.func68, Tryd.ntmps68
    go_wp2
    go_ret
    exact ⟨by first | rfl | (apply congrArg Ending.returned; apply congrArg (Value.int .i64); omega), rfl⟩
  · have e0 : decide ((c.toNat : Int) ≥ 48) = true := by simp; omega
    have e1 : decide ((c.toNat : Int) ≤ 57) = false := by simp; omega
    have e2 : decide ((c.toNat : Int) ≥ 97) = false := by simp; omega
    have e3 : decide ((c.toNat : Int) ≤ 102) = true := by simp; omega
    have e4 : decide ((c.toNat : Int) ≥ 65) = true := by simp; omega
    have e5 : decide ((c.toNat : Int) ≤ 70) = true := by simp; omega
    have hd : digV c = c.toNat - 55 := by unfold digV; rw [if_neg (by omega), if_neg (by omega), if_pos (by omega)]
    have hr : rdig 16 c = (c.toNat : Int) - 65 + 10 := by unfold rdig; rw [hd]; rw [if_pos (by omega)]; omega
    rw [hr]
    clear hd hr
    have g0 := g
    go_enter Tryd.func68, Tryd.ntmps68
    go_wp2
    go_ret
    exact ⟨by first | rfl | (apply congrArg Ending.returned; apply congrArg (Value.int .i64); omega), rfl⟩
  · have e0 : decide ((c.toNat : Int) ≥ 48) = true := by simp; omega
    have e1 : decide ((c.toNat : Int) ≤ 57) = false := by simp; omega
    have e2 : decide ((c.toNat : Int) ≥ 97) = false := by simp; omega
    have e3 : decide ((c.toNat : Int) ≤ 102) = true := by simp; omega
    have e4 : decide ((c.toNat : Int) ≥ 65) = true := by simp; omega
    have e5 : decide ((c.toNat : Int) ≤ 70) = false := by simp; omega
    have hd : digV c = 16 := by unfold digV; rw [if_neg (by omega), if_neg (by omega), if_neg (by omega)]
    have hr : rdig 16 c = -1 := by unfold rdig; rw [hd]; rw [if_neg (by omega)]
    rw [hr]
    clear hd hr
    have g0 := g
    go_enter Tryd.func68, Tryd.ntmps68
    go_wp2
    go_ret
    exact ⟨by first | rfl | (apply congrArg Ending.returned; apply congrArg (Value.int .i64); omega), rfl⟩
  · have e0 : decide ((c.toNat : Int) ≥ 48) = true := by simp; omega
    have e1 : decide ((c.toNat : Int) ≤ 57) = false := by simp; omega
    have e2 : decide ((c.toNat : Int) ≥ 97) = true := by simp; omega
    have e3 : decide ((c.toNat : Int) ≤ 102) = true := by simp; omega
    have e4 : decide ((c.toNat : Int) ≥ 65) = true := by simp; omega
    have e5 : decide ((c.toNat : Int) ≤ 70) = false := by simp; omega
    have hd : digV c = c.toNat - 87 := by unfold digV; rw [if_neg (by omega), if_pos (by omega)]
    have hr : rdig 16 c = (c.toNat : Int) - 97 + 10 := by unfold rdig; rw [hd]; rw [if_pos (by omega)]; omega
    rw [hr]
    clear hd hr
    have g0 := g
    go_enter Tryd.func68, Tryd.ntmps68
    go_wp2
    go_ret
    exact ⟨by first | rfl | (apply congrArg Ending.returned; apply congrArg (Value.int .i64); omega), rfl⟩
  · have e0 : decide ((c.toNat : Int) ≥ 48) = true := by simp; omega
    have e1 : decide ((c.toNat : Int) ≤ 57) = false := by simp; omega
    have e2 : decide ((c.toNat : Int) ≥ 97) = true := by simp; omega
    have e3 : decide ((c.toNat : Int) ≤ 102) = false := by simp; omega
    have e4 : decide ((c.toNat : Int) ≥ 65) = true := by simp; omega
    have e5 : decide ((c.toNat : Int) ≤ 70) = false := by simp; omega
    have hd : digV c = 16 := by unfold digV; rw [if_neg (by omega), if_neg (by omega), if_neg (by omega)]
    have hr : rdig 16 c = -1 := by unfold rdig; rw [hd]; rw [if_neg (by omega)]
    rw [hr]
    clear hd hr
    have g0 := g
    go_enter Tryd.func68, Tryd.ntmps68
    go_wp2
    go_ret
    exact ⟨by first | rfl | (apply congrArg Ending.returned; apply congrArg (Value.int .i64); omega), rfl⟩
end Go.Proofs.YtncfgahnjakeiaaDoor
