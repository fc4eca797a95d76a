/-
  The Board: See.
-/
import Derived.Test.YtfeinppedejlpaaGreatKZc
namespace Go.Proofs.YtfeinppedejlpaaGreat
set_option maxHeartbeats 8000000
set_option maxRecDepth 100000
open Go.RowKit
set_option linter.unusedVariables false
theorem DY.grow {K K' : Nat -> Prop} {w w' : World} {p : Nat} {S : Dm} {ga : Option Addr} {cap : Nat} (h : DY K w p S ga cap) (hk : Kept (fun k => k < w.heap.size /\ ¬ K k) w w') (hs : ∀ k, K' k -> K k \/ w.heap.size <= k) (hl : ∀ k, K' k -> k < w'.heap.size) : DY K' w' p S ga cap := by
 obtain ⟨h1, h2, h3, xs, aa, ac, ho, hx, ha, hS⟩ := h
 have hp := zai h3
 refine ⟨hl, fun hh => ?_, by rw [hk.block p ⟨hp, h2⟩]; exact h3, xs, aa, ac, Zac.to ho (fun g hg hh => ?_) (fun g hg => hk.block g ⟨(ho.out hg).2, fun hh => (ho.out hg).1 (.inl hh)⟩), hx,
  fun i hi => Zac.to (ha i hi) (fun g hg hh => ?_) (fun g hg => hk.block g ⟨((ha i hi).out hg).2, fun hh => ((ha i hi).out hg).1 (.inl hh)⟩), hS⟩
 ·rcases hs p hh with h | h
  ·exact h2 h
  ·omega
 ·rcases hh with hh | hh
  ·rcases hs g hh with h | h
   ·exact (ho.out hg).1 (.inl h)
   ·have := (ho.out hg).2; omega
  ·exact (ho.out hg).1 (.inr hh)
 ·rcases hh with hh | hh
  ·rcases hs g hh with h | h
   ·exact ((ha i hi).out hg).1 (.inl h)
   ·have := ((ha i hi).out hg).2; omega
  ·exact ((ha i hi).out hg).1 (.inr hh)
theorem Rd.grow {K K' : Nat -> Prop} {w w' : World} {p : Nat} {M : Dm} {R G : Nat -> List Nat} {rk : Nat -> Nat} (h : Rd K w p M R G rk) (hk : Kept (fun k => k < w.heap.size /\ ¬ K k) w w') (hs : ∀ k, K' k -> K k \/ w.heap.size <= k) (hl : ∀ k, K' k -> k < w'.heap.size) : Rd K' w' p M R G rk := by
 obtain ⟨⟨ga, cap, hY⟩, h2, h3⟩ := h
 exact ⟨⟨ga, cap, hY.grow hk hs hl⟩, h2, h3⟩
def seeP (asg kn : Nat -> List Nat) (pd : List Nat) : Nat -> List Nat
 | 0 => pd
 | m + 1 => if asg m = kn m then seeP asg kn pd m else mkP (seeP asg kn pd m) m
def zck (asg kn : Nat -> List Nat) (m : Nat) : Nat -> List Nat := fun j => if j < m then asg j else kn j
theorem zsp (pd : List Nat) (i : Nat) : (mkP pd i).length <= pd.length + 1 := by
 unfold mkP; split
 ·omega
 ·rw [List.length_append]; exact Nat.le_refl _
theorem zif (asg kn : Nat -> List Nat) (pd : List Nat) : ∀ m, (seeP asg kn pd m).length <= pd.length + m
 | 0 => Nat.le_refl _
 | m + 1 => by
  have := zif asg kn pd m
  unfold seeP; split
  ·omega
  ·have := zsp (seeP asg kn pd m) m; omega
theorem zjf {asg kn : Nat -> List Nat} {m : Nat} (h : asg m = kn m) : zck asg kn (m + 1) = zck asg kn m := by
 funext j
 unfold zck
 by_cases c : j < m
 ·rw [if_pos c, if_pos (by omega)]
 ·by_cases c2 : j = m
  ·subst c2; rw [if_pos (by omega), if_neg c, h]
  ·rw [if_neg c, if_neg (by omega)]
theorem zlw (asg kn : Nat -> List Nat) (m : Nat) : zaw (zck asg kn m) m (asg m) = zck asg kn (m + 1) := by
 funext j
 unfold zaw zck
 by_cases c2 : j = m
 ·subst c2; rw [if_pos rfl, if_pos (by omega)]
 ·rw [if_neg c2]
  by_cases c : j < m
  ·rw [if_pos c, if_pos (by omega)]
  ·rw [if_neg c, if_neg (by omega)]
theorem Gr.refl (E : Nat -> Prop) (w : World) : Gr E E w w := ⟨fun _ h => h, fun _ h => .inl h, Kept.refl _ _⟩
theorem Gr.trans {E E' E'' : Nat -> Prop} {w w' w'' : World} (h : Gr E E' w w') (h' : Gr E' E'' w' w'') : Gr E E'' w w'' :=
 ⟨fun k hk => h'.sub k (h.sub k hk), fun k hk => by
  rcases h'.new k hk with h1 | h1
  ·exact h.new k h1
  ·exact .inr (Nat.le_trans h.kept.size h1),
  h.kept.trans (h'.kept.mono fun k hk => ⟨ltl hk.1 h.kept.size, fun hE => by
  rcases h.new k hE with h1 | h1
  ·exact hk.2 h1
  ·omega⟩)⟩
theorem Gr.any {E : Nat -> Prop} {w w' : World} (hk : Kept (fun k => k < w.heap.size) w w') : Gr E E w w' := ⟨fun _ h => h, fun _ h => .inl h, hk.mono fun k h => h.1⟩
theorem zkn {E K : Nat -> Prop} {w : World} {b n p : Nat} {kn : Nat -> List Nat} {pd : List Nat} {M : Dm} {R G : Nat -> List Nat} {rk : Nat -> Nat} (h : Bo E w b n kn pd) (hd : Rd K w p M R G rk) (hEK : ∀ k, E k -> K k) (hn : n + M.n <= 900000) (hp : pd.length + M.n <= 90000) (hkn : ∀ i, (kn i).length <= 1000000) :
  Calls Tryz.prog 32 #[.pointer (some ⟨b, 0, none⟩), .pointer (some ⟨p, 0, none⟩)] w fun e w' => e = .returned (.tuple #[]) /\ ∃ E' n', Bo E' w' b n' (zck (za8 M R G) kn M.n) (seeP (za8 M R G) kn pd M.n) /\ n' <= n + M.n /\ Gr E E' w w' := by
 have rl : Calls Tryz.prog 15 #[.pointer (some ⟨p, 0, none⟩)] w fun e w' => e = .returned (.int .i64 (M.n : Int)) /\ w' = w := by
  obtain ⟨⟨ga, cap, hY⟩, -, -⟩ := hd
  exact zn7 p M.n cap ga w hY.c1
 obtain ⟨mn, hmn⟩ : ∃ mn, M.n = mn := ⟨_, rfl⟩
 have HMN : Hid (M.n = mn) := hmn
 rw [hmn] at rl hn hp
 obtain ⟨asg, hasg⟩ : ∃ asg, za8 M R G = asg := ⟨_, rfl⟩
 rw [hmn, hasg]
 have HB : Hid (Bo E w b n kn pd) := h
 have HD : Hid (Rd K w p M R G rk) := hd
 have HEK : Hid (∀ k, E k -> K k) := hEK
 have HASG : Hid (za8 M R G = asg) := hasg
 have HKN : Hid (∀ i, (kn i).length <= 1000000) := hkn
 clear h hd hEK hmn hasg hkn
 have hmb : mn <= 90000 := by omega
 go_enter Tryz.func32, Tryz.ntmps32
 go_wp2_with fail
 refine rl.mono ?_
 rintro e w0 ⟨rfl, hw⟩
 replace hw := hw.symm
 subst hw
 clear rl
 go_upto_region 1 with fail
 go_loopg [8] mn (fun gh v wr => ∃ (i n' : Nat) (E' : Nat -> Prop), gh = mn - i /\ i <= mn /\ v = .int .i64 (i : Int) /\ Bo E' wr b n' (zck asg kn i) (seeP asg kn pd i) /\ n' <= n + i /\ Gr E E' w wr)
 case atStart => exact ⟨0, n, E, rfl, Nat.zero_le _, rfl, HB.out, Nat.le_refl _, Gr.refl _ _⟩
 case round =>
  obtain ⟨i, n', E', hgi, hi, rfl, hb, hn', hg⟩ := hrel
  have HBI : Hid (Bo E' wr b n' (zck asg kn i) (seeP asg kn pd i)) := hb
  have HG : Hid (Gr E E' w wr) := hg
  have HPL : Hid ((seeP asg kn pd i).length <= 90000) := by
   have := zif asg kn pd i
   have h : (seeP asg kn pd i).length <= 90000 := by omega
   exact h
  clear hb hg
  by_cases hlt : i < mn
  ·have hR : Rd K wr p M R G rk := HD.out.grow (HG.out.kept.mono fun k hk => ⟨hk.1, fun he => hk.2 (HEK.out k he)⟩) (fun k hk => .inl hk) (fun k hk => ltl (HD.out.d.lt k hk) HG.out.kept.size)
   have ra := hR.assigned (i : Int)
   rw [zdk (by rw [HMN.out]; exact hlt), HASG.out] at ra
   have hal : (asg i).length <= 90000 := by
    rw [<- HASG.out]
    have := hR.inv.asg_nd (i := i) (by rw [HMN.out]; exact hlt)
    have h2 := za4 (n := M.n) _ this (fun x hx => hR.inv.asg_lt (by rw [HMN.out]; exact hlt) hx)
    rw [HMN.out] at h2; omega
   clear hR
   go_wp2_with fail
   refine ra.mono ?_
   rintro e v1 ⟨a, ac, rfl, hO, k1⟩
   have hb1 := HBI.out.keptA k1
   have HB1 : Hid (Bo E' v1 b n' (zck asg kn i) (seeP asg kn pd i)) := hb1
   have hrow : ∀ g, zaf a g -> ¬ E' g /\ g < v1.heap.size := fun g hg => ⟨fun he => (hO.out hg).1 (HBI.out.lt g he), (hO.out hg).2⟩
   have HROW : Hid (∀ g, zaf a g -> ¬ E' g /\ g < v1.heap.size) := hrow
   have HNEW : Hid (∀ g, zaf a g -> w.heap.size <= g) := fun g hg => Nat.le_trans HG.out.kept.size (Nat.le_of_not_lt (hO.out hg).1)
   have HINT : Hid (Zad (fun g => zaf a g) v1 a (asg i)) := hO.intsAt fun g hg => hg
   obtain ⟨h1, h2, mb, ap, c0, F, h3, h4, h5, h6, h7, h8⟩ := hb1
   obtain ⟨ka, kc, eF, hKI⟩ := h7 i (by omega)
   have hlk := h6.look (i := i) (by omega)
   rw [eF] at hlk
   have hki : zck asg kn i i = kn i := by unfold zck; rw [if_neg (Nat.lt_irrefl _)]
   rw [hki] at hlk hKI
   have hc0 : v1.cell? ⟨b, 0, none⟩ = some (.map (some mb)) := by rw [zaa h5]; rfl
   obtain ⟨q, hq⟩ : ∃ q, (asg i).length = q := ⟨_, rfl⟩
   obtain ⟨q2, hq2⟩ : ∃ q2, (kn i).length = q2 := ⟨_, rfl⟩
   have hq2b : q2 <= 1000000 := by rw [<- hq2]; exact HKN.out i
   have re := zpe (asg i) (kn i) a ka q q2 ac kc hq hq2 (by omega) hq2b v1 ((hO.intsAt fun g hg => (hO.out hg).2)) (hKI.to (fun g hg => h1 g hg.1) (fun _ _ => rfl))
   rw [hq2] at hlk
   rw [hq]
   have HG1 : Hid (Gr E E' w v1) := HG.out.trans (Gr.any k1)
   have HQ : Hid ((asg i).length = q) := hq
   have hqb : q <= 90000 := by omega
   clear ra hO k1 hrow h1 h2 h3 h4 h5 h6 h7 h8 eF hKI hki hq hq2 HBI HG
   go_wp2_with fail
   refine re.mono ?_
   rintro e v2 ⟨rfl, k2⟩
   have HB2 : Hid (Bo E' v2 b n' (zck asg kn i) (seeP asg kn pd i)) := HB1.out.keptA k2
   have HG2 : Hid (Gr E E' w v2) := HG1.out.trans (Gr.any k2)
   by_cases heq : asg i = kn i
   ·rw [decide_eq_true heq]
    have HS : Hid (zck asg kn (i + 1) = zck asg kn i /\ seeP asg kn pd (i + 1) = seeP asg kn pd i) := ⟨zjf heq, by show (if asg i = kn i then _ else _) = _; rw [if_pos heq]⟩
    clear re k2 heq hlk hc0 HB1 HG1 HROW HINT
    go_wp2
    go_roundg (mn - (i + 1))
    case rel => exact ⟨i + 1, n', E', rfl, by omega, by go_num, by rw [HS.out.1, HS.out.2]; exact HB2.out, by omega, HG2.out⟩
    case measure => omega
   ·rw [decide_eq_false heq]
    have HS : Hid (seeP asg kn pd (i + 1) = mkP (seeP asg kn pd i) i) := by
     have h : seeP asg kn pd (i + 1) = mkP (seeP asg kn pd i) i := by show (if asg i = kn i then _ else _) = _; rw [if_neg heq]
     exact h
    have rle := znk HB2.out (by omega) (i := i) (by omega) (asg i) a q ac HQ.out (by omega) (fun g hg => ⟨(HROW.out g hg).1, ltl (HROW.out g hg).2 k2.size⟩) (HINT.out.to (fun g hg => hg) (fun g hg => k2.block g (HROW.out g hg).2))
    rw [zlw] at rle
    have HNW : Hid (∀ k, E' k \/ zaf a k -> E k \/ w.heap.size <= k) := fun k hk => by
     rcases hk with hk | hk
     ·exact HG2.out.new k hk
     ·exact .inr (HNEW.out k hk)
    clear re k2 heq hlk hc0 HB1 HG1 HROW HINT
    go_wp2_with fail
    refine rle.mono ?_
    rintro e v3 ⟨rfl, hb3, k3⟩
    have HG3 : Hid (Gr E (fun k => E' k \/ zaf a k) w v3) := ⟨fun k hk => .inl (HG2.out.sub k hk), HNW.out, HG2.out.kept.trans (k3.mono fun k hk => ⟨ltl hk.1 HG2.out.kept.size, fun he => by
     rcases HG2.out.new k he with h | h
     ·exact hk.2 h
     ·omega⟩)⟩
    have rm := zrk hb3 (by have := HPL.out; omega) i (by omega)
    clear rle hb3 k3 HG2 HB2
    go_wp2_with fail
    refine rm.mono ?_
    rintro e v4 ⟨rfl, E4, hb4, hg4⟩
    have HB4 : Hid (Bo E4 v4 b (n' + 1) (zck asg kn (i + 1)) (mkP (seeP asg kn pd i) i)) := hb4
    have HG4 : Hid (Gr E E4 w v4) := HG3.out.trans hg4
    clear rm hb4 hg4 HG3
    go_wp2
    go_roundg (mn - (i + 1))
    case rel => exact ⟨i + 1, n' + 1, E4, rfl, by omega, by go_num, by rw [HS.out]; exact HB4.out, by omega, HG4.out⟩
    case measure => omega
  ·have hin : i = mn := by omega
   have HE : Hid (∃ E' n', Bo E' wr b n' (zck asg kn mn) (seeP asg kn pd mn) /\ n' <= n + mn /\ Gr E E' w wr) := by
    rw [hin] at HBI hn'
    exact ⟨E', n', HBI.out, hn', HG.out⟩
   clear hin hn'
   go_wp2
   go_end0
   exact ⟨rfl, HE.out⟩
end Go.Proofs.YtfeinppedejlpaaGreat
