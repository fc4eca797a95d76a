/-
  The document's own Stable.
-/
import Derived.Test.YtfeinppedejlpaaGreatVU4
import Derived.Test.YtfeinppedejlpaaGreatVU5
namespace Go.Proofs.YtfeinppedejlpaaGreat
open Go.RowKit Go.Sort
set_option linter.unusedVariables false
set_option maxRecDepth 100000
set_option maxHeartbeats 4000000
section
variable {w0 : World} {r : Nat} {M : Dm} {R : Nat -> List Nat} {g nc k : Nat}
theorem zl0 (hE : RE w0 r M R g nc) (hn : M.n <= 100000) (hi : k < M.n) (hS : SzN (M.nd k)) {ln : Bool} (hl : (M.nd k).kind = 2 -> ∀ Y, Kept (fun k => k < w0.heap.size) w0 Y -> Calls Tryz.prog 221 #[.pointer (some ⟨r, 0, none⟩), .int .i64 (k : Int)] Y fun e w' => e = .returned (.bool ln) /\ Kept (fun k => k < Y.heap.size) Y w') (X : World) (hX : Kept (fun k => k < w0.heap.size) w0 X) :
  Calls Tryz.prog 143 #[.pointer (some ⟨r, 0, none⟩), .int .i64 (k : Int)] X fun e w' => e = .returned (.bool (zbc (M.nd k) && (!decide ((M.nd k).kind = 2) || ln))) /\ Kept (fun k => k < X.heap.size) X w' := by
 by_cases k1 : (M.nd k).kind = 1
 ·have := zft hE hn hi hS k1 X hX
  have e : (zbc (M.nd k) && (!decide ((M.nd k).kind = 2) || ln)) = (zfn (M.nd k).name && !zbe (M.nd k).attrs) := by
   unfold zbc; rw [if_pos k1, k1]; simp
  rw [e]; exact this
 by_cases k2 : (M.nd k).kind = 2
 ·have := zi2 hE hn hi hS k2 (hl k2) X hX
  have e : (zbc (M.nd k) && (!decide ((M.nd k).kind = 2) || ln)) = ((M.nd k).data != [] && (!(M.nd k).data.any (· == 0) && ln)) := by
   unfold zbc zbw; rw [if_neg k1, if_pos k2, k2]; simp [Bool.and_assoc]
  rw [e]; exact this
 by_cases k3 : (M.nd k).kind = 3
 ·have := zfs hE hn hi hS k3 X hX
  have e : (zbc (M.nd k) && (!decide ((M.nd k).kind = 2) || ln)) = (!(M.nd k).data.any s3B) := by
   unfold zbc; rw [if_neg k1, if_neg k2, if_pos k3, k3]; simp
  rw [e]; exact this
 by_cases k5 : (M.nd k).kind = 5
 ·have := zgu hE hn hi hS k5 X hX
  have e : (zbc (M.nd k) && (!decide ((M.nd k).kind = 2) || ln)) = (!(M.nd k).fl.b) := by
   unfold zbc; rw [if_neg k1, if_neg k2, if_neg k3, if_pos k5, k5]; simp
  rw [e]; exact this
 ·have := zil hE hn hi hS k1 k2 k3 k5 X hX
  have e : (zbc (M.nd k) && (!decide ((M.nd k).kind = 2) || ln)) = false := by
   unfold zbc; rw [if_neg k1, if_neg k2, if_neg k3, if_neg k5]; rfl
  rw [e]; exact this
end
def zqp (f : Nat -> Bool) (n : Nat) : Bool := (List.range n).all fun t => t == 0 || f t
theorem zhq {f : Nat -> Bool} {n : Nat} (h : ∀ t, 0 < t -> t < n -> f t = true) : zqp f n = true := by
 refine List.all_eq_true.2 fun t ht => ?_
 have h1 := List.mem_range.1 ht
 by_cases c : t = 0
 ·subst c; rfl
 ·rw [h t (by omega) h1, Bool.or_true]
theorem zee {f : Nat -> Bool} {n t : Nat} (h0 : 0 < t) (h1 : t < n) (h : f t = false) : zqp f n = false := by
 refine List.all_eq_false.2 ⟨t, List.mem_range.2 h1, ?_⟩
 have : (t == 0) = false := by rw [beq_eq_false_iff_ne]; omega
 rw [this, h]
 decide
theorem zlr {w0 : World} {r : Nat} {M : Dm} {R G : Nat -> List Nat} {rk : Nat -> Nat} {g nc i : Nat} (hE : RE w0 r M R g nc) (h : RX (fun _ => False) TT w0 r M R G) (hI : Inv M R G rk) (hn : M.n <= 100000) (hi : i < M.n) (hS : SzN (M.nd i)) (f : Nat -> Bool) (dp : Nat -> Nat) (hdp : ∀ t, dp t <= 100000)
  (hP : ∀ t (ht : t < (tr M.n (fwd M R) i).length), 0 < t -> ∀ Y, Kept (fun k => k < w0.heap.size) w0 Y -> Calls Tryz.prog 143 #[.pointer (some ⟨r, 0, none⟩), .int .i64 ((tr M.n (fwd M R) i)[t] : Int)] Y fun e w' => e = .returned (.bool (f t)) /\ Kept (fun k => k < Y.heap.size) Y w')
  (hD : ∀ t (ht : t < (tr M.n (fwd M R) i).length), 0 < t -> ∀ Y, Kept (fun k => k < w0.heap.size) w0 Y -> Calls Tryz.prog 144 #[.pointer (some ⟨r, 0, none⟩), .int .i64 ((tr M.n (fwd M R) i)[t] : Int), .int .i64 (i : Int)] Y fun e w' => e = .returned (.int .i64 (dp t : Int)) /\ w' = Y)
  (hb : zdd (M.nd i) = true) (X : World) (hX : Kept (fun k => k < w0.heap.size) w0 X) :
  Calls Tryz.prog 66 #[.pointer (some ⟨r, 0, none⟩), .int .i64 (i : Int)] X fun e w' => e = .returned (.bool (zqp (fun t => f t && decide (dp t <= 40)) (tr M.n (fwd M R) i).length)) /\ Kept (fun k => k < X.heap.size) X w' := by
 have rA := zro (fun _ => False) r M R G rk w0 h hI hn (dn M.n rk i + 1) i (Nat.lt_succ_self _) hi X hX
 have hlen : (tr M.n (fwd M R) i).length <= 100000 := Nat.le_trans (zhn hI.only hi) hn
 obtain ⟨l, hl⟩ : ∃ l, tr M.n (fwd M R) i = l := ⟨_, rfl⟩
 rw [hl] at rA hlen ⊢
 have HP : Hid (∀ t (ht : t < l.length), 0 < t -> ∀ Y, Kept (fun k => k < w0.heap.size) w0 Y -> Calls Tryz.prog 143 #[.pointer (some ⟨r, 0, none⟩), .int .i64 (l[t] : Int)] Y fun e w' => e = .returned (.bool (f t)) /\ Kept (fun k => k < Y.heap.size) Y w') := by subst hl; exact hP
 have HD : Hid (∀ t (ht : t < l.length), 0 < t -> ∀ Y, Kept (fun k => k < w0.heap.size) w0 Y -> Calls Tryz.prog 144 #[.pointer (some ⟨r, 0, none⟩), .int .i64 (l[t] : Int), .int .i64 (i : Int)] Y fun e w' => e = .returned (.int .i64 (dp t : Int)) /\ w' = Y) := by subst hl; exact hD
 have hl0 : 0 < l.length := by rw [<- hl, zcr hI.only.falls hi]; exact Nat.succ_pos _
 obtain ⟨aa, ac, ka, kc, hA⟩ := hE i hi
 have hat := hA X hX
 have c1 := hat.c1
 have hk1 : (M.nd i).kind = 1 /\ (M.nd i).name = [100, 105, 118] /\ (M.nd i).shadow = -1 := by
  unfold zdd at hb
  rw [Bool.and_eq_true, Bool.and_eq_true, decide_eq_true_eq, decide_eq_true_eq, beq_iff_eq] at hb
  exact ⟨hb.1.1, hb.1.2, hb.2⟩
 have c0 : X.cell? ⟨g, i * 14, none⟩ = some (.int .u8 1) := by have := hat.c 0 _ rfl; rw [hk1.1] at this; exact this
 have cn : X.cell? ⟨g, i * 14 + 1, none⟩ = some (.string ⟨#[100, 105, 118]⟩) := by have := hat.c 1 (sv (M.nd i).name) rfl; rw [hk1.2.1] at this; exact this
 have c6 : X.cell? ⟨g, i * 14 + 6, none⟩ = some (.int .i64 (-1)) := by have := hat.c 6 _ rfl; rw [hk1.2.2] at this; exact this
 obtain ⟨m, hm⟩ : ∃ m, M.n = m := ⟨_, rfl⟩
 rw [hm] at c1
 have him : i < m := by rw [<- hm]; exact hi
 have hm5 : m <= 100000 := by rw [<- hm]; exact hn
 have HX : Hid (Kept (fun k => k < w0.heap.size) w0 X) := hX
 have HDP : Hid (∀ t, dp t <= 100000) := hdp
 obtain ⟨ln, hln⟩ : ∃ n, l.length = n := ⟨_, rfl⟩
 have HLN : Hid (l.length = ln) := hln
 have RA : Hid (Calls Tryz.prog 142 #[.pointer (some ⟨r, 0, none⟩), .int .i64 (i : Int)] X (Lst X l)) := rA
 rw [hln] at hlen hl0 ⊢
 have i1 : decide ((i : Int) < 0) = false := decide_eq_false (by omega)
 have i2 : decide ((m : Int) <= (i : Int)) = false := decide_eq_false (by omega)
 clear hE h hI hn hi hS hdp hP hD hb hX rA hl hA hat hk1 hm hln
 go_enter Tryz.func66, Tryz.ntmps66
 go_wp2_with fail
 refine RA.out.mono ?_
 rintro e w2 ⟨ao, c, rfl, hO, hK2⟩
 have hint : Zae (fun q => q < w2.heap.size) w2 ao l := hO.intsAt fun q hq => (hO.out hq).2
 have HI2 : Hid (Zae (fun q => q < w2.heap.size) w2 ao l) := hint
 have HK2 : Hid (Kept (fun k => k < X.heap.size) X w2) := hK2
 rw [HLN.out]
 clear hint hO hK2 RA i1 i2 c0 cn c6 c1
 go_wp2_with fail
 go_loopg [6] ln (fun gm vi wr => ∃ j : Nat, gm = ln - j /\ j + 1 <= ln /\ vi = .int .i64 ((j : Int) + 1) /\ (∀ t, 0 < t -> t < j + 1 -> (f t && decide (dp t <= 40)) = true) /\ Kept (fun k => k < w2.heap.size) w2 wr)
 case atStart => exact ⟨0, rfl, by omega, rfl, fun t h1 h2 => by omega, Kept.refl _ _⟩
 case round =>
  obtain ⟨j, hg, hj, rfl, hok, hKr⟩ := hrel
  have HOK : Hid (∀ t, 0 < t -> t < j + 1 -> (f t && decide (dp t <= 40)) = true) := hok
  have HKr : Hid (Kept (fun k => k < w2.heap.size) w2 wr) := hKr
  have HXr : Hid (Kept (fun k => k < X.heap.size) X wr) := kt HK2.out hKr
  have H0r : Hid (Kept (fun k => k < w0.heap.size) w0 wr) := kt HX.out HXr.out
  clear hok
  by_cases hlt : j + 1 < ln
  ·have hjl : j + 1 < l.length := by rw [HLN.out]; exact hlt
   obtain ⟨q, o, hao, hq, d1⟩ := HI2.out (j + 1) hjl
   obtain ⟨x, hx⟩ : ∃ x, l[j + 1] = x := ⟨_, rfl⟩
   have rp := HP.out (j + 1) hjl (Nat.succ_pos _) wr H0r.out
   have RD : Hid (∀ Y, Kept (fun k => k < w0.heap.size) w0 Y -> Calls Tryz.prog 144 #[.pointer (some ⟨r, 0, none⟩), .int .i64 (x : Int), .int .i64 (i : Int)] Y fun e w' => e = .returned (.int .i64 (dp (j + 1) : Int)) /\ w' = Y) := fun Y hY => by
    have := HD.out (j + 1) hjl (Nat.succ_pos _) Y hY
    rw [hx] at this
    exact this
   rw [hx] at d1 rp
   have D1 : Hid (∀ Y, Kept (fun k => k < w2.heap.size) w2 Y -> Y.cell? ⟨q, o + (j + 1), none⟩ = some (.int .i64 (x : Int))) := fun Y hY => (hY.cell (p := ⟨q, o + (j + 1), none⟩) hq).trans d1
   have d1' := D1.out wr hKr
   subst hao
   obtain ⟨ft, hft⟩ : ∃ b, f (j + 1) = b := ⟨_, rfl⟩
   obtain ⟨dt, hdt⟩ : ∃ b, dp (j + 1) = b := ⟨_, rfl⟩
   have HFT : Hid (f (j + 1) = ft) := hft
   have HDT : Hid (dp (j + 1) = dt) := hdt
   have hd5 : dt <= 100000 := by rw [<- hdt]; exact HDP.out _
   rw [hft] at rp
   rw [hdt] at RD
   clear hx hjl d1 hKr hft hdt hq
   go_upto_region 7 with fail
   go_wp2_with fail
   refine rp.mono ?_
   rintro e w4 ⟨rfl, hK4⟩
   have HK4 : Hid (Kept (fun k => k < w2.heap.size) w2 w4) := kt HKr.out hK4
   have HX4 : Hid (Kept (fun k => k < X.heap.size) X w4) := kt HK2.out HK4.out
   have rd := RD.out w4 (kt HX.out HX4.out)
   have d2 := D1.out w4 HK4.out
   clear rp hK4 d1' RD D1 HXr H0r HKr
   cases ft
   ·have HF : Hid (zqp (fun t => f t && decide (dp t <= 40)) ln = false) := zee (t := j + 1) (Nat.succ_pos _) hlt (by show (f (j + 1) && _) = false; rw [HFT.out]; rfl)
    clear rd d2
    go_wp2
    go_ret
    exact ⟨by rw [HF.out]; rfl, HX4.out⟩
   ·go_wp2_with fail
    refine rd.mono ?_
    rintro e w5 ⟨rfl, hw5⟩
    replace hw5 := hw5.symm
    subst hw5
    clear rd d2
    by_cases h40 : dt <= 40
    ·have e1 : decide ((dt : Int) > 40) = false := decide_eq_false (by omega)
     have HN : Hid ((f (j + 1) && decide (dp (j + 1) <= 40)) = true) := by
      refine (show Hid _ from ?_)
      rw [HFT.out, HDT.out, decide_eq_true h40]; rfl
     go_wp2
     go_roundg (ln - (j + 1))
     case rel => exact ⟨j + 1, rfl, by omega, by go_num, fun t h1 h2 => by
      rcases Nat.lt_or_ge t (j + 1) with h3 | h3
      ·exact HOK.out t h1 h3
      ·obtain rfl : t = j + 1 := by omega
       exact HN.out, HK4.out⟩
     case measure => omega
    ·have e1 : decide ((dt : Int) > 40) = true := decide_eq_true (by omega)
     have HF : Hid (zqp (fun t => f t && decide (dp t <= 40)) ln = false) := zee (t := j + 1) (Nat.succ_pos _) hlt (by show (f (j + 1) && decide (dp (j + 1) <= 40)) = false; rw [HDT.out, decide_eq_false h40, Bool.and_false])
     go_wp2
     go_ret
     exact ⟨by rw [HF.out]; rfl, HX4.out⟩
  ·obtain rfl : ln = j + 1 := by omega
   have HF : Hid (zqp (fun t => f t && decide (dp t <= 40)) (j + 1) = true) := zhq HOK.out
   clear hKr
   go_wp2
   go_ret
   exact ⟨by rw [HF.out]; rfl, HXr.out⟩
end Go.Proofs.YtfeinppedejlpaaGreat
