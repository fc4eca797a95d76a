/-
  What the document's own Text and Value answer.
-/
import Derived.Test.YtikaheenjhdpmaaGreatVX1
import Derived.Deep.LoopGhost
namespace Go.Proofs.YtikaheenjhdpmaaGreat
open Go.RowKit
set_option linter.unusedVariables false
set_option maxRecDepth 100000
set_option maxHeartbeats 4000000
theorem zcd (o : List UInt8) (t : ByteArray) : (⟨o.toArray⟩ : ByteArray) ++ t = ⟨(o ++ t.data.toList).toArray⟩ := by
 apply ByteArray.ext
 rw [ByteArray.data_append]
 simp
theorem zul {s : ByteArray} {k : Nat} (h : k + 1 < s.size) (h1 : s[k] = 194) (h2 : s[k + 1] = 160) (q : Bool) : esc q (s.data.toList.drop k) = nbsp ++ esc q (s.data.toList.drop (k + 2)) := by
 rw [zbl (show k < s.size by omega), zbl h, h1, h2]
 rfl
theorem zt1 {s : ByteArray} {k : Nat} (h : k < s.size) (h1 : ¬ (s[k] = 194 /\ ∃ h : k + 1 < s.size, s[k + 1] = 160)) (q : Bool) : esc q (s.data.toList.drop k) = one q s[k] ++ esc q (s.data.toList.drop (k + 1)) := by
 rw [zbl h]
 refine zmh ?_
 rw [Bool.eq_false_iff]
 intro hh
 obtain ⟨r, hr⟩ := zep.1 hh
 injection hr with e1 e2
 have hk : k + 1 < s.size := by
  have := congrArg List.length e2
  rw [List.length_drop] at this
  simp at this
  have hl0 : s.data.toList.length = s.size := rfl
  simp at hl0
  omega
 rw [zbl hk] at e2
 injection e2 with e3 _
 exact h1 ⟨e1, hk, e3⟩
theorem eqb {c d : UInt8} (h : ¬ c = d) : ((c.toNat : Int) == (d.toNat : Int)) = false := by
 simp
 intro e
 exact h (UInt8.toNat_inj.1 (by omega))
theorem zfa (s : ByteArray) (q : Bool) (w : World) (hs : s.size < 1000000) :
  Calls Tryz.prog 113 #[.string s, .bool q] w fun e w' => e = .returned (.string ⟨(esc q s.data.toList).toArray⟩) /\ w' = w := by
 obtain ⟨A, hA⟩ : ∃ A, esc q s.data.toList = A := ⟨_, rfl⟩
 rw [hA]
 have HA : Hid ([] ++ esc q (s.data.toList.drop 0) = A) := hA
 clear hA
 go_enter Tryz.func113, Tryz.ntmps113
 go_wp2_with fail
 go_loopg [5, 6] s.size (fun g o i wr => ∃ (k : Nat) (out : List UInt8), g = s.size - k /\ k <= s.size /\ i = .int .i64 k /\ o = .string ⟨out.toArray⟩ /\ out ++ esc q (s.data.toList.drop k) = A /\ out.length <= 6 * k /\ wr = w)
 case atStart => exact ⟨0, [], rfl, Nat.zero_le _, rfl, rfl, HA.out, Nat.zero_le _, rfl⟩
 case round =>
  clear HA
  obtain ⟨k, out, hgk, hk, rfl, rfl, HO, hol, rfl⟩ := hrel
  have HO : Hid (out ++ esc q (s.data.toList.drop k) = A) := HO
  by_cases hlt : k < s.size
  ·have hos : (⟨out.toArray⟩ : ByteArray).size = out.length := by show out.toArray.size = _; simp
   have HM : Hid (∀ t : ByteArray, (⟨out.toArray⟩ : ByteArray) ++ t = ⟨(out ++ t.data.toList).toArray⟩) := fun t => zcd out t
   obtain ⟨O, hO⟩ : ∃ O, (⟨out.toArray⟩ : ByteArray) = O := ⟨_, rfl⟩
   rw [hO] at hos HM ⊢
   clear hO
   by_cases hnb : s[k] = 194 /\ ∃ h : k + 1 < s.size, s[k + 1] = 160
   ·obtain ⟨h1, h2, h3⟩ := hnb
    have HE : Hid ((out ++ nbsp) ++ esc q (s.data.toList.drop (k + 2)) = A) := by
     have := HO.out
     rw [zul h2 h1 h3] at this
     show (out ++ nbsp) ++ _ = A
     simpa using this
    have HM2 : Hid (O ++ ⟨#[38, 110, 98, 115, 112, 59]⟩ = ⟨(out ++ nbsp).toArray⟩) := HM.out _
    have e1 : ((s[k].toNat : Int) == 38) = false := by rw [h1]; rfl
    have e2 : ((s[k].toNat : Int) == 60) = false := by rw [h1]; rfl
    have e3 : ((s[k].toNat : Int) == 62) = false := by rw [h1]; rfl
    have e4 : ((s[k].toNat : Int) == 34) = false := by rw [h1]; rfl
    have e5 : ((s[k].toNat : Int) == 194) = true := by rw [h1]; rfl
    have e6 : ((s[k + 1].toNat : Int) == 160) = true := by rw [h3]; rfl
    have e7 : decide ((k : Int) + 1 < (s.size : Int)) = true := by simp; omega
    clear HO HM h1 h3
    go_wp2
    go_roundg (s.size - (k + 2))
    case rel => exact ⟨k + 2, out ++ nbsp, rfl, by omega, by go_num, by rw [HM2.out], HE.out, by rw [List.length_append]; simp [nbsp]; omega, rfl⟩
    case measure => omega
   ·have HE : Hid ((out ++ one q s[k]) ++ esc q (s.data.toList.drop (k + 1)) = A) := by
     have := HO.out
     rw [zt1 hlt hnb] at this
     show (out ++ one q s[k]) ++ _ = A
     simpa using this
    have hone : (s.extract k (k + 1)).data.toList = [s[k]] := by
     rw [zca, List.drop_take, Nat.add_sub_cancel_left, zbl hlt]
     rfl
    have hosz : (s.extract k (k + 1)).size = 1 := congrArg List.length hone
    have hol6 := (znv q s[k]).2
    have HL : Hid ((out ++ one q s[k]).length <= 6 * (k + 1)) := by
     show (out ++ one q s[k]).length <= 6 * (k + 1)
     rw [List.length_append]
     omega
    by_cases h38 : s[k] = 38
    ·have hh : one q s[k] = [38, 97, 109, 112, 59] := by rw [h38]; rfl
     rw [hh] at HE HL
     have e38 : ((s[k].toNat : Int) == 38) = true := by rw [h38]; rfl
     have e60 : ((s[k].toNat : Int) == 60) = false := by rw [h38]; rfl
     have e62 : ((s[k].toNat : Int) == 62) = false := by rw [h38]; rfl
     have e34 : ((s[k].toNat : Int) == 34) = false := by rw [h38]; rfl
     have e194 : ((s[k].toNat : Int) == 194) = false := by rw [h38]; rfl
     have HM2 : Hid (O ++ ⟨#[38, 97, 109, 112, 59]⟩ = ⟨(out ++ [38, 97, 109, 112, 59]).toArray⟩) := HM.out _
     clear HO HM hone hnb hol6 hh
     go_wp2
     go_roundg (s.size - (k + 1))
     case rel => exact ⟨k + 1, out ++ [38, 97, 109, 112, 59], rfl, by omega, by go_num, by rw [HM2.out], HE.out, HL.out, rfl⟩
     case measure => omega
    ·by_cases h60 : s[k] = 60
     ·have hh : one q s[k] = [38, 108, 116, 59] := by rw [h60]; rfl
      rw [hh] at HE HL
      have e38 : ((s[k].toNat : Int) == 38) = false := by rw [h60]; rfl
      have e60 : ((s[k].toNat : Int) == 60) = true := by rw [h60]; rfl
      have e62 : ((s[k].toNat : Int) == 62) = false := by rw [h60]; rfl
      have e34 : ((s[k].toNat : Int) == 34) = false := by rw [h60]; rfl
      have e194 : ((s[k].toNat : Int) == 194) = false := by rw [h60]; rfl
      have HM2 : Hid (O ++ ⟨#[38, 108, 116, 59]⟩ = ⟨(out ++ [38, 108, 116, 59]).toArray⟩) := HM.out _
      clear HO HM hone hnb hol6 hh
      go_wp2
      go_roundg (s.size - (k + 1))
      case rel => exact ⟨k + 1, out ++ [38, 108, 116, 59], rfl, by omega, by go_num, by rw [HM2.out], HE.out, HL.out, rfl⟩
      case measure => omega
     ·by_cases h62 : s[k] = 62
      ·have hh : one q s[k] = [38, 103, 116, 59] := by rw [h62]; rfl
       rw [hh] at HE HL
       have e38 : ((s[k].toNat : Int) == 38) = false := by rw [h62]; rfl
       have e60 : ((s[k].toNat : Int) == 60) = false := by rw [h62]; rfl
       have e62 : ((s[k].toNat : Int) == 62) = true := by rw [h62]; rfl
       have e34 : ((s[k].toNat : Int) == 34) = false := by rw [h62]; rfl
       have e194 : ((s[k].toNat : Int) == 194) = false := by rw [h62]; rfl
       have HM2 : Hid (O ++ ⟨#[38, 103, 116, 59]⟩ = ⟨(out ++ [38, 103, 116, 59]).toArray⟩) := HM.out _
       clear HO HM hone hnb hol6 hh
       go_wp2
       go_roundg (s.size - (k + 1))
       case rel => exact ⟨k + 1, out ++ [38, 103, 116, 59], rfl, by omega, by go_num, by rw [HM2.out], HE.out, HL.out, rfl⟩
       case measure => omega
      ·by_cases h34 : s[k] = 34
       ·cases q with
        | false =>
         have hh : one false s[k] = [s[k]] := by rw [h34]; rfl
         rw [hh] at HE HL
         have e38 : ((s[k].toNat : Int) == 38) = false := by rw [h34]; rfl
         have e60 : ((s[k].toNat : Int) == 60) = false := by rw [h34]; rfl
         have e62 : ((s[k].toNat : Int) == 62) = false := by rw [h34]; rfl
         have e34 : ((s[k].toNat : Int) == 34) = true := by rw [h34]; rfl
         have e194 : ((s[k].toNat : Int) == 194) = false := by rw [h34]; rfl
         have HM2 : Hid (O ++ s.extract k (k + 1) = ⟨(out ++ [s[k]]).toArray⟩) := by rw [<- hone]; exact HM.out _
         clear HO HM hone hnb hol6 hh
         go_wp2
         go_roundg (s.size - (k + 1))
         case rel => exact ⟨k + 1, out ++ [s[k]], rfl, by omega, by go_num, by rw [HM2.out], HE.out, HL.out, rfl⟩
         case measure => omega
        | true =>
         have hh : one true s[k] = [38, 113, 117, 111, 116, 59] := by rw [h34]; rfl
         rw [hh] at HE HL
         have e38 : ((s[k].toNat : Int) == 38) = false := by rw [h34]; rfl
         have e60 : ((s[k].toNat : Int) == 60) = false := by rw [h34]; rfl
         have e62 : ((s[k].toNat : Int) == 62) = false := by rw [h34]; rfl
         have e34 : ((s[k].toNat : Int) == 34) = true := by rw [h34]; rfl
         have e194 : ((s[k].toNat : Int) == 194) = false := by rw [h34]; rfl
         have HM2 : Hid (O ++ ⟨#[38, 113, 117, 111, 116, 59]⟩ = ⟨(out ++ [38, 113, 117, 111, 116, 59]).toArray⟩) := HM.out _
         clear HO HM hone hnb hol6 hh
         go_wp2
         go_roundg (s.size - (k + 1))
         case rel => exact ⟨k + 1, out ++ [38, 113, 117, 111, 116, 59], rfl, by omega, by go_num, by rw [HM2.out], HE.out, HL.out, rfl⟩
         case measure => omega
       ·have hh : one q s[k] = [s[k]] := by unfold one; rw [if_neg h38, if_neg h60, if_neg h62, if_neg (fun e => h34 e.2)]
        rw [hh] at HE HL
        have e38 : ((s[k].toNat : Int) == 38) = false := eqb (d := 38) h38
        have e60 : ((s[k].toNat : Int) == 60) = false := eqb (d := 60) h60
        have e62 : ((s[k].toNat : Int) == 62) = false := eqb (d := 62) h62
        have e34 : ((s[k].toNat : Int) == 34) = false := eqb (d := 34) h34
        have HM2 : Hid (O ++ s.extract k (k + 1) = ⟨(out ++ [s[k]]).toArray⟩) := by rw [<- hone]; exact HM.out _
        by_cases h194 : s[k] = 194
        ·have e194 : ((s[k].toNat : Int) == 194) = true := by rw [h194]; rfl
         by_cases hk1 : k + 1 < s.size
         ·have e160 : ((s[k + 1].toNat : Int) == 160) = false := eqb (d := 160) fun h => hnb ⟨h194, hk1, h⟩
          have ek : decide ((k : Int) + 1 < (s.size : Int)) = true := by simp; omega
          clear h194
          clear HO HM hone hnb hol6 hh
          go_wp2
          go_roundg (s.size - (k + 1))
          case rel => exact ⟨k + 1, out ++ [s[k]], rfl, by omega, by go_num, by rw [HM2.out], HE.out, HL.out, rfl⟩
          case measure => omega
         ·have ek : decide ((k : Int) + 1 < (s.size : Int)) = false := by simp; omega
          clear h194
          clear HO HM hone hnb hol6 hh
          go_wp2
          go_roundg (s.size - (k + 1))
          case rel => exact ⟨k + 1, out ++ [s[k]], rfl, by omega, by go_num, by rw [HM2.out], HE.out, HL.out, rfl⟩
          case measure => omega
        ·have e194 : ((s[k].toNat : Int) == 194) = false := eqb (d := 194) h194
         clear HO HM hone hnb hol6 hh
         go_wp2
         go_roundg (s.size - (k + 1))
         case rel => exact ⟨k + 1, out ++ [s[k]], rfl, by omega, by go_num, by rw [HM2.out], HE.out, HL.out, rfl⟩
         case measure => omega
  ·have hAe : out = A := by
    have := HO.out
    rw [List.drop_eq_nil_of_le (show s.data.toList.length <= k by show s.size <= k; omega), zni, List.append_nil] at this
    exact this
   subst hAe
   clear HO hol
   go_wp2
   go_ret
   exact ⟨rfl, rfl⟩
theorem zfy (s : ByteArray) (w : World) (hs : s.size < 1000000) :
  Calls Tryz.prog 55 #[.string s] w fun e w' => e = .returned (.string ⟨(esc false s.data.toList).toArray⟩) /\ w' = w := by
 have h1 := zfa s false w hs
 go_enter Tryz.func55, Tryz.ntmps55
 go_wp2_with fail
 refine h1.mono ?_
 rintro e w1 ⟨rfl, rfl⟩
 go_wp2
 go_ret
 exact ⟨rfl, rfl⟩
theorem zgw (s : ByteArray) (w : World) (hs : s.size < 1000000) :
  Calls Tryz.prog 52 #[.string s] w fun e w' => e = .returned (.string ⟨(esc true s.data.toList).toArray⟩) /\ w' = w := by
 have h1 := zfa s true w hs
 go_enter Tryz.func52, Tryz.ntmps52
 go_wp2_with fail
 refine h1.mono ?_
 rintro e w1 ⟨rfl, rfl⟩
 go_wp2
 go_ret
 exact ⟨rfl, rfl⟩
end Go.Proofs.YtikaheenjhdpmaaGreat
