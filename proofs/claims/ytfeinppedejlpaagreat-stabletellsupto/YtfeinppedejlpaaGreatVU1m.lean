/-
  The document's own Custom. The document's own Stable: a byte in a text, a name, how far up.
-/
import Derived.Test.YtfeinppedejlpaaGreatVX2m
import Derived.Test.YtfeinppedejlpaaGreatVCum
import Derived.Test.YtfeinppedejlpaaGreatVYbm
import Derived.Test.YtfeinppedejlpaaGreatVYd
import Derived.Test.YtfeinppedejlpaaGreatVNam
namespace Go.Proofs.YtfeinppedejlpaaGreat
section
set_option maxHeartbeats 8000000
set_option maxRecDepth 100000
open Go.RowKit
def zqq : ByteArray := ⟨#[97, 110, 110, 111, 116, 97, 116, 105, 111, 110, 45, 120, 109, 108, 32, 99, 111, 108, 111, 114, 45, 112, 114, 111, 102, 105, 108, 101, 32, 102, 111, 110, 116, 45, 102, 97, 99, 101, 32, 102, 111, 110, 116, 45, 102, 97, 99, 101, 45, 115, 114, 99, 32, 102, 111, 110, 116, 45, 102, 97, 99, 101, 45, 117, 114, 105, 32, 102, 111, 110, 116, 45, 102, 97, 99, 101, 45, 102, 111, 114, 109, 97, 116, 32, 102, 111, 110, 116, 45, 102, 97, 99, 101, 45, 110, 97, 109, 101, 32, 109, 105, 115, 115, 105, 110, 103, 45, 103, 108, 121, 112, 104]⟩
theorem zi8 (l : List UInt8) : zfp zqq.data.toList l = zfg l := zj8 (L := zn0) (by decide +kernel) (by decide +kernel)
theorem znb {s : ByteArray} {k : Nat} (hk : k < s.size) : (s.data.toList.take (k + 1)).any (· == 45) = ((s.data.toList.take k).any (· == 45) || s[k].toNat == 45) := by
 have h : k < s.data.toList.length := hk
 rw [List.take_succ_eq_append_getElem h, List.any_append]
 have : (s.data.toList[k] == (45 : UInt8)) = (s[k].toNat == 45) := by
  rw [Bool.eq_iff_iff]
  simp
  exact ⟨fun e => congrArg UInt8.toNat e, fun e => UInt8.toNat_inj.1 e⟩
 rw [List.any_cons, List.any_nil, Bool.or_false, this]
theorem zli (l : List UInt8) : zbt l = (zg1 l && zaz l && !zfg l) := by
 unfold zbt
 cases zaz l <;> cases zg1 l <;> rfl
theorem zi1 (s : ByteArray) (K : Nat -> Prop) (w : World) (h300 : s.size < 1000) :
  Calls Tryz.prog 257 #[.string s] w fun e w' => e = .returned (.bool (zbt s.toList)) /\ Kept K w w' := by
 have h1 := fun X => zf5 s K X (by omega)
 have h2 := fun X => zhh zqq s K X (by decide +kernel)
 rw [zi8] at h2
 rw [zli]
 have hd : zg1 s.toList = (s.data.toList.take s.size).any (· == 45) := by
  rw [ByteArray.toList_eq]
  unfold zg1
  have : s.data.toList.take s.size = s.data.toList := List.take_length
  rw [this]
 rw [hd]
 clear hd
 obtain ⟨v, hv⟩ : ∃ v, zaz s.toList = v := ⟨_, rfl⟩
 obtain ⟨t, ht⟩ : ∃ v, zfg s.toList = v := ⟨_, rfl⟩
 rw [hv] at h1 ⊢
 rw [ht] at h2 ⊢
 clear hv ht
 go_enter Tryz.func257, Tryz.ntmps257
 go_wp2_with fail
 go_loopw [3, 4, 5, 6, 7, 8, 9, 10, 11, 12, 13, 14, 15, 16, 17] (fun b i _ _ _ _ _ _ _ _ _ _ _ _ _ wr => ∃ k : Nat, k <= s.size /\ i = .int .i64 k /\ b = .bool ((s.data.toList.take k).any (· == 45)) /\ wr = w) (fun _ i _ _ _ _ _ _ _ _ _ _ _ _ _ _ => s.size - (intOf i).toNat)
 case atStart => exact ⟨0, Nat.zero_le _, rfl, rfl, rfl⟩
 case round =>
  obtain ⟨k, hk, rfl, rfl, rfl⟩ := hrel
  by_cases hlt : k < s.size
  ·have hs := znb hlt
   obtain ⟨b, hb⟩ : ∃ b, (s.data.toList.take k).any (· == 45) = b := ⟨_, rfl⟩
   rw [hb] at hs ⊢
   have HS : Hid ((s.data.toList.take (k + 1)).any (· == 45) = (b || s[k].toNat == 45)) := hs
   clear hb hs
   cases b with
   | true =>
    go_wp2
    go_roundw
    case rel => exact ⟨k + 1, by omega, by go_num, by rw [HS.out]; rfl, trivial⟩
    case measure => simp [intOf]; omega
   | false =>
    go_wp2
    go_roundw
    case rel =>
     refine ⟨k + 1, by omega, by go_num, congrArg Value.bool ?_, trivial⟩
     rw [HS.out, Bool.false_or, Bool.eq_iff_iff]
     simp
     omega
    case measure => simp [intOf]; omega
  ·obtain rfl : k = s.size := by omega
   obtain ⟨b, hb⟩ : ∃ b, (s.data.toList.take s.size).any (· == 45) = b := ⟨_, rfl⟩
   rw [hb]
   have HB : Hid ((s.data.toList.take s.size).any (· == 45) = b) := hb
   clear hb
   cases b with
   | false =>
    go_wp2
    go_ret
    exact ⟨by rw [HB.out]; rfl, Kept.refl _ _⟩
   | true =>
    cases v with
    | false =>
     go_wp2_with fail
     refine (h1 _).mono ?_
     rintro e w1 ⟨rfl, hk1⟩
     go_wp2
     go_ret
     exact ⟨by rw [HB.out]; rfl, hk1⟩
    | true =>
     go_wp2_with fail
     refine (h1 _).mono ?_
     rintro e w1 ⟨rfl, hk1⟩
     go_wp2_with fail
     refine (h2 _).mono ?_
     rintro e w2 ⟨rfl, hk2⟩
     go_wp2
     go_ret
     exact ⟨by rw [HB.out]; rfl, hk1.trans hk2⟩
end
section
open Go.RowKit Go.Sort
set_option linter.unusedVariables false
set_option maxRecDepth 100000
set_option maxHeartbeats 8000000
theorem zrk {s : ByteArray} {k : UInt8} {j : Nat} (hj : j < s.size) (h : s[j].toNat = k.toNat) : s.data.toList.any (· == k) = true := by
 have h1 : j < s.data.toList.length := hj
 refine List.any_eq_true.2 ⟨s.data.toList[j], List.getElem_mem h1, ?_⟩
 rw [beq_iff_eq]
 exact UInt8.toNat_inj.1 h
theorem zpm {s : ByteArray} {k : UInt8} {j : Nat} (hj : j < s.size) (h : s[j].toNat ≠ k.toNat) (ha : (s.data.toList.take j).any (· == k) = false) : (s.data.toList.take (j + 1)).any (· == k) = false := by
 have h1 : j < s.data.toList.length := hj
 rw [List.take_succ_eq_append_getElem h1, List.any_append, ha, List.any_cons, List.any_nil, Bool.or_false, Bool.false_or, beq_eq_false_iff_ne]
 exact fun e => h (congrArg UInt8.toNat e)
theorem zfi (s : ByteArray) (k : UInt8) (hs : s.size <= 4000000000) (w : World) : Calls Tryz.prog 219 #[.string s, .int .u8 (k.toNat : Int)] w fun e w' => e = .returned (.bool (s.data.toList.any (· == k))) /\ w' = w := by
 obtain ⟨kn, hkn⟩ : ∃ n, k.toNat = n := ⟨_, rfl⟩
 have HKN : Hid (k.toNat = kn) := hkn
 rw [hkn]
 clear hkn
 go_enter Tryz.func219, Tryz.ntmps219
 go_wp2_with fail
 go_loopg [5] s.size (fun gm vi wr => ∃ j : Nat, gm = s.size - j /\ j <= s.size /\ vi = .int .i64 j /\ (s.data.toList.take j).any (· == k) = false /\ wr = w)
 case atStart => exact ⟨0, rfl, Nat.zero_le _, rfl, rfl, rfl⟩
 case round =>
  obtain ⟨j, hg, hj, rfl, ha, rfl⟩ := hrel
  have HA : Hid ((s.data.toList.take j).any (· == k) = false) := ha
  clear ha
  by_cases hlt : j < s.size
  ·by_cases hc : s[j].toNat = kn
   ·have HC : Hid (s.data.toList.any (· == k) = true) := zrk hlt (hc.trans HKN.out.symm)
    have e1 : ((s[j].toNat : Int) == (kn : Int)) = true := by rw [hc, beq_self_eq_true]
    go_wp2
    go_ret
    exact ⟨by rw [HC.out]; rfl, rfl⟩
   ·have HC : Hid ((s.data.toList.take (j + 1)).any (· == k) = false) := zpm hlt (fun e => hc (e.trans HKN.out)) HA.out
    have e1 : ((s[j].toNat : Int) == (kn : Int)) = false := by rw [beq_eq_false_iff_ne]; omega
    go_wp2
    go_roundg (s.size - (j + 1))
    case rel => exact ⟨j + 1, rfl, by omega, by go_num, HC.out, rfl⟩
    case measure => omega
  ·obtain rfl : j = s.size := by omega
   have HB : Hid (s.data.toList.any (· == k) = false) := by
    have := HA.out
    rw [show s.size = s.data.toList.length from rfl, List.take_length] at this
    exact this
   go_wp2
   go_ret
   exact ⟨by rw [HB.out]; rfl, rfl⟩
theorem znf (s : ByteArray) (h300 : s.size < 1000) (w : World) : Calls Tryz.prog 220 #[.string s] w fun e w' => e = .returned (.bool (zfn s.toList)) /\ Kept (fun k => k < w.heap.size) w w' := by
 have r := zi1 s (fun k => k < w.heap.size) w h300
 have RC : Hid (Calls Tryz.prog 257 #[.string s] w fun e w' => e = .returned (.bool (zbt s.toList)) /\ Kept (fun k => k < w.heap.size) w w') := r
 obtain ⟨c, hc⟩ : ∃ c, zbt s.toList = c := ⟨_, rfl⟩
 rw [hc] at RC
 have HC : Hid (zbt s.toList = c) := hc
 clear r hc
 go_enter Tryz.func220, Tryz.ntmps220
 go_wp2_with (go_at_call 257; refine RC.out.mono ?_; rintro e1 w3 ⟨rfl, hw3⟩)
 all_goals first | (simp_all; done) | (go_ret; exact ⟨by simp [zfn, HC.out, *], by first | assumption | exact Kept.refl _ _⟩)
structure Zsr (M : Dm) (k i m : Nat) (c : Nat -> Nat) : Prop where
 at0 : c 0 = k
 atm : c m = i
 off : ∀ t, t < m -> c t ≠ i /\ c t < M.n /\ abv M (c t) = (c (t + 1) : Int)
theorem zmg {w0 : World} {r : Nat} {M : Dm} {R : Nat -> List Nat} {g nc : Nat} (hE : RE w0 r M R g nc) (hn : M.n <= 100000) {k i m : Nat} (hm1 : m <= 100000) (c : Nat -> Nat) (hU : Zsr M k i m c) (X : World) (hX : Kept (fun k => k < w0.heap.size) w0 X) :
  Calls Tryz.prog 144 #[.pointer (some ⟨r, 0, none⟩), .int .i64 (k : Int), .int .i64 (i : Int)] X fun e w' => e = .returned (.int .i64 (m : Int)) /\ w' = X := by
 have HE : Hid (RE w0 r M R g nc) := hE
 have HU : Hid (Zsr M k i m c) := hU
 have HX : Hid (Kept (fun k => k < w0.heap.size) w0 X) := hX
 have HN : Hid (M.n <= 100000) := hn
 obtain rfl : c 0 = k := hU.at0
 clear hE hU hX hn
 go_enter Tryz.func144, Tryz.ntmps144
 go_wp2_with fail
 go_loopg [1, 7] m (fun gm vk vn wr => ∃ t : Nat, gm = m - t /\ t <= m /\ vk = .int .i64 (c t) /\ vn = .int .i64 t /\ wr = X)
 case atStart => exact ⟨0, rfl, Nat.zero_le _, rfl, rfl, rfl⟩
 case round =>
  obtain ⟨t, hg, hj, rfl, rfl, rfl⟩ := hrel
  by_cases hlt : t < m
  ·obtain ⟨hne, hin, hup⟩ := HU.out.off t hlt
   obtain ⟨aa, ac, ka, kc, hA⟩ := HE.out (c t) hin
   have hat := hA wr HX.out
   have c1 := hat.c1
   have c0 : wr.cell? ⟨g, c t * 14, none⟩ = some (.int .u8 ((M.nd (c t)).kind : Int)) := hat.c 0 _ rfl
   have c4 : wr.cell? ⟨g, c t * 14 + 4, none⟩ = some (.int .i64 (M.pl (c t)).up) := hat.c 4 _ rfl
   have c7 : wr.cell? ⟨g, c t * 14 + 7, none⟩ = some (.int .i64 (M.nd (c t)).host) := hat.c 7 _ rfl
   have hnn := HN.out
   obtain ⟨x, hx⟩ : ∃ x, c t = x := ⟨_, rfl⟩
   obtain ⟨y, hy⟩ : ∃ y, c (t + 1) = y := ⟨_, rfl⟩
   have HY : Hid (c (t + 1) = y) := hy
   have HAB : Hid (abv M x = (y : Int)) := by rw [<- hx, <- hy]; exact hup
   rw [hx] at hne hin c0 c4 c7 ⊢
   obtain ⟨kd, hkd⟩ : ∃ q, (M.nd x).kind = q := ⟨_, rfl⟩
   obtain ⟨u, hu⟩ : ∃ q, (M.pl x).up = q := ⟨_, rfl⟩
   obtain ⟨hh, hhh⟩ : ∃ q, (M.nd x).host = q := ⟨_, rfl⟩
   obtain ⟨mn, hmn⟩ : ∃ q, M.n = q := ⟨_, rfl⟩
   rw [hkd] at c0
   rw [hu] at c4
   rw [hhh] at c7
   rw [hmn] at c1 hin hnn
   have hne2 : ((x : Int) == (i : Int)) = false := by rw [beq_eq_false_iff_ne]; omega
   have hne3 : ((x : Int) != (i : Int)) = true := by rw [bne, hne2]; rfl
   by_cases h5 : kd = 5
   ·have e5 : hh = (y : Int) := by
     have := HAB.out
     unfold abv at this
     rw [if_pos (hkd.trans h5), hhh] at this
     exact this
    subst h5
    subst e5
    clear hA hat hup hx hy hkd hu hhh hmn c4
    go_wp2
    go_roundg (m - (t + 1))
    case rel => exact ⟨t + 1, rfl, by omega, by rw [HY.out], by go_num, rfl⟩
    case measure => omega
   ·have e5 : u = (y : Int) := by
     have := HAB.out
     unfold abv at this
     rw [if_neg (fun e => h5 (hkd.symm.trans e)), hu] at this
     exact this
    subst e5
    have q5 : ((kd : Int) == 5) = false := by rw [beq_eq_false_iff_ne]; omega
    clear hA hat hup hx hy hkd hu hhh hmn c7
    go_wp2
    go_roundg (m - (t + 1))
    case rel => exact ⟨t + 1, rfl, by omega, by rw [HY.out], by go_num, rfl⟩
    case measure => omega
  ·obtain rfl : t = m := by omega
   rw [HU.out.atm]
   have e1 : ((i : Int) != (i : Int)) = false := by simp
   go_wp2
   go_ret
   exact ⟨rfl, rfl⟩
end
end Go.Proofs.YtfeinppedejlpaaGreat
