/-
  What the document's own Inner and Outer answer, at any node.
-/
import Derived.Test.YtikaheenjhdpmaaGreatVRi
import Derived.Test.YtikaheenjhdpmaaGreatVRg
namespace Go.Proofs.YtikaheenjhdpmaaGreat
open Go.RowKit Go.Sort
set_option linter.unusedVariables false
set_option maxRecDepth 100000
set_option maxHeartbeats 4000000
section
variable {w0 : World} {r : Nat} {M : Dm} {R G : Nat -> List Nat} {rk : Nat -> Nat} {g nc : Nat} {sr : Bool} {la : Option Addr} {rn rc : Nat} {rl : List Int}
theorem zf9 (h : Inv M R G rk) (hE : RE w0 r M R g nc) (hn : M.n <= 100000) (hO : Op0 w0 sr la rn rl) : ∀ (f i : Nat), i < M.n -> dn M.n rk i < f -> Zq1 w0 r i (.agg #[.bool sr, .slice la rn rc]) (zb0 ⟨sr, zbv rl⟩ M R f i)
 | 0, _, _, hd => absurd hd (Nat.not_lt_zero _)
 | f + 1, i, hi, hd => by
  have ih := zf9 h hE hn hO f
  have hlen := (zd3 (o := ⟨sr, zbv rl⟩) h hn (f + 1) hi false).1
  show Zq1 w0 r i _ (zq2 ⟨sr, zbv rl⟩ M R (zb0 ⟨sr, zbv rl⟩ M R f) i)
  have hlen : (zq2 ⟨sr, zbv rl⟩ M R (zb0 ⟨sr, zbv rl⟩ M R f) i).length <= 1000000000000 := hlen
  unfold zq2 at hlen ⊢
  by_cases hv : isV (M.nd i) = true
  ·rw [if_pos hv]
   unfold isV at hv
   simp only [Bool.and_eq_true, decide_eq_true_eq] at hv
   exact zja hE hn hi hv.1 hv.2
  ·rw [if_neg hv] at hlen ⊢
   have hsrc : zfd (M.nd i) i < M.n /\ dn M.n rk (zfd (M.nd i) i) <= dn M.n rk i := by
    unfold zfd
    by_cases cc : (M.nd i).content = -1
    ·rw [if_pos cc]; exact ⟨hi, Nat.le_refl _⟩
    ·rw [if_neg cc]
     have hm : (M.nd i).content.toNat ∈ fwc M R i := by unfold fwc; rw [if_neg cc]; simp
     obtain ⟨a, b, -⟩ := h.parC hi hm
     exact ⟨a, Nat.le_of_lt (zfx a b)⟩
   have hco : ((M.nd i).content = -1 /\ zfd (M.nd i) i = i) \/ (M.nd i).content = (zfd (M.nd i) i : Int) := by
    unfold zfd
    by_cases cc : (M.nd i).content = -1
    ·exact .inl ⟨cc, if_pos cc⟩
    ·rcases h.core.cont i hi with e | ⟨k, hk, e, -, h4, -⟩
     ·exact absurd e cc
     ·right; rw [if_neg cc, e, Int.toNat_natCast]
   obtain ⟨u, hu⟩ : ∃ u, zfd (M.nd i) i = u := ⟨_, rfl⟩
   rw [hu] at hlen hsrc hco ⊢
   have hq : (R u).length <= 100000 := Nat.le_trans (zhp M.n _ (h.good.wf.nodup u hsrc.1) (fun x hx => h.good.wf.lt u hsrc.1 x hx)) hn
   have kids : ∀ k ∈ R u, k < M.n /\ Zki w0 r k (.agg #[.bool sr, .slice la rn rc]) (zq0 (zb0 ⟨sr, zbv rl⟩ M R f) (M.nd k) k (isR (M.nd u))) := fun k hk => by
    have hk0 := h.good.kid hsrc.1 hk
    have hk1 := h.good.falls _ hsrc.1 k hk
    have hd2 := zfx (rk := rk) hk1.1 hk1.2
    have hup : (M.pl k).up = (u : Int) := h.good.wf.up hsrc.1 hk
    have er : zg4 M k = isR (M.nd u) := by unfold zg4; rw [if_neg (by rw [hup]; omega), hup, Int.toNat_natCast]
    refine ⟨hk1.1, ?_⟩
    have := zgr (rc := rc) h hE hn hk1.1 (zd3 (o := ⟨sr, zbv rl⟩) h hn f hk1.1 false).1 (ih k hk1.1 (by omega))
    rw [er, <- zn4] at this
    exact this
   have hlen : (zff ⟨sr, zbv rl⟩ M (zb0 ⟨sr, zbv rl⟩ M R f) (M.nd i)).length + ((R u).flatMap fun k => zq0 (zb0 ⟨sr, zbv rl⟩ M R f) (M.nd k) k (isR (M.nd u))).length <= 1000000000000 := by
    rw [List.length_append] at hlen; exact hlen
   have hvv : (M.nd i).kind = 1 -> za7 (M.nd i).name = false := fun k1 => by
    unfold isV at hv
    rw [decide_eq_true k1, Bool.true_and] at hv
    simpa using hv
   by_cases cs : (M.nd i).shadow = -1
   ·have e : zff ⟨sr, zbv rl⟩ M (zb0 ⟨sr, zbv rl⟩ M R f) (M.nd i) = [] := if_pos cs
    rw [e] at hlen ⊢
    exact zg0 hE hn hi hvv [] false (.inl ⟨cs, rfl⟩) (fun _ => rfl) u hsrc.1 hco _ kids hq hlen
   ·obtain ⟨q, e, hq2, -, -, -, hr⟩ := h.shadowQ hi cs
    have hd2 := zfx (rk := rk) hq2 hr
    have es : zff ⟨sr, zbv rl⟩ M (zb0 ⟨sr, zbv rl⟩ M R f) (M.nd i) = zln ⟨sr, zbv rl⟩ M (zb0 ⟨sr, zbv rl⟩ M R f) q := by
     unfold zff; rw [if_neg cs, e, Int.toNat_natCast]
    rw [es] at hlen ⊢
    refine zg0 hE hn hi hvv _ (zmy ⟨sr, zbv rl⟩ M q) (.inr ⟨q, hq2, e, fun Y hY => zjb hE hn hO hq2 Y hY, fun hc => ?_⟩) (fun hc => by unfold zln; rw [hc]; rfl) u hsrc.1 hco _ kids hq hlen
    have er : zln ⟨sr, zbv rl⟩ M (zb0 ⟨sr, zbv rl⟩ M R f) q = zdi zbp (flA (M.nd q).fl) ++ (zb0 ⟨sr, zbv rl⟩ M R f q ++ zdm zbp) := by unfold zln; rw [if_pos hc]
    rw [er]
    exact fun Y hY => zm1 hE hn hq2 _ (zd3 (o := ⟨sr, zbv rl⟩) h hn f hq2 false).1 Y hY (ih q hq2 (by omega))
theorem zml (h : Inv M R G rk) (hE : RE w0 r M R g nc) (hn : M.n <= 100000) (hO : Op0 w0 sr la rn rl) (f i : Nat) (hi : i < M.n) (hd : dn M.n rk i < f) : Zki w0 r i (.agg #[.bool sr, .slice la rn rc]) (zb1 (zb0 ⟨sr, zbv rl⟩ M R f i) (M.nd i) (zg4 M i)) :=
 zgr h hE hn hi (zd3 (o := ⟨sr, zbv rl⟩) h hn f hi false).1 (zf9 h hE hn hO f i hi hd)
theorem zji (hE : RE w0 r M R g nc) (hp : 0 < M.n) (hn : M.n <= 100000) {z : Int} (hz : z < 0 \/ (M.n : Int) <= z) (X : World) (hX : Kept (fun k => k < w0.heap.size) w0 X) :
  Calls Tryz.prog 22 #[.pointer (some ⟨r, 0, none⟩), .int .i64 z, .agg #[.bool sr, .slice la rn rc]] X fun e w' => e = .returned (.string ⟨#[]⟩) /\ Kept (fun k => k < X.heap.size) X w' := by
 obtain ⟨aa, ac, ka, kc, hA⟩ := hE 0 hp
 obtain ⟨W, N, hW, hN, hb, hkW, hz9⟩ := zae X #[.bool sr, .slice la rn rc] 41
 have hwW : Kept (fun k => k < w0.heap.size) w0 W := hX.trans (hkW.mono fun k h => ltl h hX.size)
 have c1 := (hA W hwW).c1
 obtain ⟨m, hm⟩ : ∃ m, M.n = m := ⟨_, rfl⟩
 rw [hm] at c1 hz hn
 have HW : Hid (X.alloc (.cells #[.bool sr, .slice la rn rc] 41) = W) := hW
 have HN : Hid (X.heap.size = N) := hN
 have HKW : Hid (Kept (fun k => k < X.heap.size) X W) := hkW
 clear hE hX hA hW hN hb hkW hz9 hwW hm hp
 go_enter Tryz.func22, Tryz.ntmps22
 go_upto_region 1 with fail
 rw [HW.out, HN.out]
 clear HW HN
 by_cases h0 : z < 0
 ·have i1 : decide (z < 0) = true := decide_eq_true h0
  go_wp2
  go_ret
  exact ⟨rfl, HKW.out⟩
 ·have i1 : decide (z < 0) = false := decide_eq_false h0
  have h2 : (m : Int) <= z := by omega
  have i2 : decide ((m : Int) <= z) = true := decide_eq_true h2
  go_wp2
  go_ret
  exact ⟨rfl, HKW.out⟩
theorem zjo (hE : RE w0 r M R g nc) (hp : 0 < M.n) (hn : M.n <= 100000) {z : Int} (hz : z < 0 \/ (M.n : Int) <= z) (X : World) (hX : Kept (fun k => k < w0.heap.size) w0 X) :
  Calls Tryz.prog 19 #[.pointer (some ⟨r, 0, none⟩), .int .i64 z, .agg #[.bool sr, .slice la rn rc]] X fun e w' => e = .returned (.string ⟨#[]⟩) /\ Kept (fun k => k < X.heap.size) X w' := by
 obtain ⟨aa, ac, ka, kc, hA⟩ := hE 0 hp
 obtain ⟨W, N, hW, hN, hb, hkW, hz9⟩ := zae X #[.bool sr, .slice la rn rc] 41
 have hwW : Kept (fun k => k < w0.heap.size) w0 W := hX.trans (hkW.mono fun k h => ltl h hX.size)
 have c1 := (hA W hwW).c1
 obtain ⟨m, hm⟩ : ∃ m, M.n = m := ⟨_, rfl⟩
 rw [hm] at c1 hz hn
 have HW : Hid (X.alloc (.cells #[.bool sr, .slice la rn rc] 41) = W) := hW
 have HN : Hid (X.heap.size = N) := hN
 have HKW : Hid (Kept (fun k => k < X.heap.size) X W) := hkW
 clear hE hX hA hW hN hb hkW hz9 hwW hm hp
 go_enter Tryz.func19, Tryz.ntmps19
 go_upto_region 1 with fail
 rw [HW.out, HN.out]
 clear HW HN
 by_cases h0 : z < 0
 ·have i1 : decide (z < 0) = true := decide_eq_true h0
  go_wp2
  go_ret
  exact ⟨rfl, HKW.out⟩
 ·have i1 : decide (z < 0) = false := decide_eq_false h0
  have h2 : (m : Int) <= z := by omega
  have i2 : decide ((m : Int) <= z) = true := decide_eq_true h2
  go_wp2
  go_ret
  exact ⟨rfl, HKW.out⟩
end
end Go.Proofs.YtikaheenjhdpmaaGreat
