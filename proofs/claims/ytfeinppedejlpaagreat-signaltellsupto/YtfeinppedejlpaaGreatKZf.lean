/-
  portierelaw12: known.
-/
import Derived.Test.YtfeinppedejlpaaGreatKZd
namespace Go.Proofs.YtfeinppedejlpaaGreat
set_option maxHeartbeats 8000000
set_option maxRecDepth 100000
open Go.RowKit
set_option linter.unusedVariables false
theorem zc4 (asg kn : Nat -> List Nat) : ∀ m, seeP asg kn [] m = (List.range m).filter fun i => decide (asg i ≠ kn i)
 | 0 => rfl
 | m + 1 => by
  rw [List.range_succ, List.filter_append, <- zc4 asg kn m]
  show (if asg m = kn m then _ else mkP (seeP asg kn [] m) m) = _
  by_cases h : asg m = kn m
  ·rw [if_pos h, List.filter_cons, if_neg (by simp [h])]; simp
  ·rw [if_neg h, List.filter_cons, if_pos (by simp [h])]
   unfold mkP
   rw [if_neg (fun hm => by
    rw [zc4] at hm
    have := List.mem_range.1 (List.mem_filter.1 hm).1
    omega)]
   rfl
theorem Kn.grow {K K' : Nat -> Prop} {w w' : World} {p : Nat} {M : Dm} {R G : Nat -> List Nat} (h : Kn K w p M R G) (hk : Kept (fun k => k < w.heap.size /\ ¬ K k) w w') (hs : ∀ k, K' k -> K k \/ w.heap.size <= k) (hl : ∀ k, K' k -> k < w'.heap.size) : Kn K' w' p M R G := by
 obtain ⟨⟨ga, cap, hY⟩, h2, h3, h4⟩ := h
 exact ⟨⟨ga, cap, hY.grow hk hs hl⟩, h2, h3, h4⟩
abbrev KE (B : Nat) (E : Nat -> Prop) (k : Nat) : Prop := k < B \/ E k
def q4z : Dm := ((((Dm.new 9).add zvh).add txN).add slN).addR 1 fg0
def zu1 : Nat -> List Nat := zaw (zaw (zaw (zaw (fun _ => []) 1 []) 2 []) 3 []) 4 []
def u5 : Dm := q4z.setP (zea q4z zu1 4 3 (-1))
def u5R : Nat -> List Nat := zc6 q4z zu1 4 3 (-1)
def u6 : Dm := u5.setP (zea u5 u5R 1 2 (-1))
def u6R : Nat -> List Nat := zc6 u5 u5R 1 2 (-1)
theorem uF4 : Fits q4z 4 3 (-1) := ⟨by kernel_rfl, by kernel_rfl, zh4 (m := 1) (by kernel_rfl) (by decide) (zgx (by kernel_rfl) (by decide)), .inl rfl⟩
theorem uF5 : Fits u5 1 2 (-1) := ⟨by kernel_rfl, by kernel_rfl, zgx (by kernel_rfl) (by decide), .inl rfl⟩
section
variable {G : Nat -> List Nat}
theorem zml {M : Dm} {R : Nat -> List Nat} {i : Nat} (h : za9 (M.nd i) = false) : za8 M R G i = [] := by
 unfold za8
 rw [if_pos (.inl h)]
theorem zsg : ∀ i, i < 5 -> za8 u5 u5R G i = [] := fun i hi => by
 rcases (show i = 0 \/ i = 1 \/ i = 2 \/ i = 3 \/ i = 4 by omega) with rfl | rfl | rfl | rfl | rfl
 ·exact zml (by kernel_rfl)
 ·exact zml (by kernel_rfl)
 ·exact zml (by kernel_rfl)
 ·have ho : ofZ u5 ((3 : Nat) : Int) = 4 := zcr (M := u5) (i := 3) (z := 4) (by decide +kernel) (.yes (t := 4) (.up (m := 4) (by kernel_rfl) (.here (by kernel_rfl))) (by kernel_rfl))
  unfold za8
  have h1 : za9 (u5.nd 3) = true := by kernel_rfl
  rw [h1, ho, if_neg (by simp)]
  show zd7 u5 u5R G 3 4 = []
  unfold zd7
  have hb : (u5.nd 4).fl.b = false := by kernel_rfl
  rw [hb, if_neg (by simp)]
  have hr : (u5R (u5.nd 4).host.toNat).filter (fun k => zca (atV zbp (u5.nd 3).attrs) (u5.nd k)) = [] := by kernel_rfl
  split
  ·exact hr
  ·rfl
 ·exact zml (by kernel_rfl)
theorem zue : za8 u6 u6R G 3 = [2] := by
 have ho : ofZ u6 ((3 : Nat) : Int) = 4 := zcr (M := u6) (i := 3) (z := 4) (by decide +kernel) (.yes (t := 4) (.up (m := 4) (by kernel_rfl) (.here (by kernel_rfl))) (by kernel_rfl))
 unfold za8
 have h1 : za9 (u6.nd 3) = true := by kernel_rfl
 rw [h1, ho, if_neg (by simp)]
 show zd7 u6 u6R G 3 4 = [2]
 unfold zd7
 have hb : (u6.nd 4).fl.b = false := by kernel_rfl
 rw [hb, if_neg (by simp)]
 have hf : zkf u6 u6R (atV zbp (u6.nd 3).attrs) 4 = ((3 : Nat) : Int) := by kernel_rfl
 rw [if_pos hf]
 have hr : (u6R (u6.nd 4).host.toNat).filter (fun k => zca (atV zbp (u6.nd 3).attrs) (u6.nd k)) = [2] := by kernel_rfl
 exact hr
theorem zux (i : Nat) (hi : i < 5) (h3 : i ≠ 3) : za8 u6 u6R G i = [] := by
 rcases (show i = 0 \/ i = 1 \/ i = 2 \/ i = 4 by omega) with rfl | rfl | rfl | rfl <;> exact zml (by kernel_rfl)
theorem zu0 : seeP (za8 u5 u5R G) (fun _ => []) [] 5 = [] := by
 rw [zc4]
 refine List.filter_eq_nil_iff.2 fun i hi => ?_
 rw [zsg i (List.mem_range.1 hi)]
 simp
theorem zvd : seeP (za8 u6 u6R G) (zck (za8 u5 u5R G) (fun _ => []) 5) [] 5 = [3] := by
 rw [zc4]
 have hk : ∀ i, zck (za8 u5 u5R G) (fun _ => []) 5 i = [] := fun i => by
  unfold zck; split
  ·exact zsg i (by assumption)
  ·rfl
 have e : (List.range 5).filter (fun i => decide (za8 u6 u6R G i ≠ zck (za8 u5 u5R G) (fun _ => []) 5 i)) = (List.range 5).filter (fun i => decide (i = 3)) := by
  refine List.filter_congr fun i hi => ?_
  rw [hk i]
  by_cases c : i = 3
  ·subst c; rw [zue]; simp
  ·rw [zux i (List.mem_range.1 hi) c]; simp [c]
 rw [e]
 decide
end
theorem zd4 (w : World) : Calls Tryz.prog 26 #[] w fun e w' => e = .returned (.bool true) /\ Kept (fun k => k < w.heap.size) w w' := by
 have r0 := zej 9 w (by decide) (by decide)
 go_enter Tryz.func26, Tryz.ntmps26
 go_wp2_with fail
 refine r0.mono ?_
 rintro e w1 ⟨p, rfl, hp, hX1, hK1⟩
 have k1 : Kn (fun k => k < w.heap.size) w1 p (Dm.new 9) (fun _ => []) (fun _ => []) := Kn.new (w0 := w) hX1 (by decide) (by decide)
 have rb := zlg w1
 have H1 : Hid (Kn (fun k => k < w.heap.size) w1 p (Dm.new 9) (fun _ => []) (fun _ => [])) := k1
 have HK1 : Hid (Kept (fun k => k < w.heap.size) w w1) := hK1
 clear r0 hX1 hK1 k1 hp
 go_wp2_with fail
 refine rb.mono ?_
 rintro e w2 ⟨b, rfl, hb, hk2⟩
 obtain ⟨E, hE⟩ : ∃ E : Nat -> Prop, E = fun k => k = w1.heap.size \/ k = w1.heap.size + 1 := ⟨_, rfl⟩
 rw [<- hE] at hb
 have hEn : ∀ k, E k -> w1.heap.size <= k := fun k hk => by rw [hE] at hk; rcases hk with h | h <;> omega
 have hk2' : Kn (KE w.heap.size E) w2 p (Dm.new 9) (fun _ => []) (fun _ => []) := H1.out.grow (hk2.mono fun k h => h.1) (fun k hk => by
  rcases hk with h | h
  ·exact .inl h
  ·exact .inr (hEn k h)) (fun k hk => by
  rcases hk with h | h
  ·exact ltl h (Nat.le_trans HK1.out.size hk2.size)
  ·exact hb.lt k h)
 have HB : Hid (Bo E w2 b 0 (fun _ => []) []) := hb
 have HEN : Hid (∀ k, E k -> w.heap.size <= k) := fun k hk => Nat.le_trans HK1.out.size (hEn k hk)
 have HK2 : Hid (Kept (fun k => k < w.heap.size) w w2) := kt HK1.out hk2
 have r1 := hk2'.make 1 1 zuv ⟨#[]⟩ [100, 105, 118] [] rfl zgf zbs zgk (by decide) (by decide)
 clear rb hb hk2 hE hEn hk2' H1 HK1
 go_wp2_with fail
 refine r1.mono ?_
 rintro e w3 ⟨rfl, n3, hK3⟩
 have r2 := n3.make 2 2 ⟨#[]⟩ ⟨#[120]⟩ [] [120] rfl zbs zko zgt (by decide) (by decide)
 have HB3 : Hid (Bo E w3 b 0 (fun _ => []) []) := HB.out.kept (hK3.mono fun k h => .inr h)
 have HK3 : Hid (Kept (fun k => k < w.heap.size) w w3) := HK2.out.trans (hK3.mono fun k h => .inl h)
 clear r1 n3 hK3 HB HK2
 go_wp2_with fail
 refine r2.mono ?_
 rintro e w4 ⟨rfl, n4, hK4⟩
 have r3 := n4.make 1 1 zjb ⟨#[]⟩ [115, 108, 111, 116] [] rfl zc1 zbs zf7 (by decide) (by decide)
 have HB4 : Hid (Bo E w4 b 0 (fun _ => []) []) := HB3.out.kept (hK4.mono fun k h => .inr h)
 have HK4 : Hid (Kept (fun k => k < w.heap.size) w w4) := HK3.out.trans (hK4.mono fun k h => .inl h)
 clear r2 n4 hK4 HB3 HK3
 go_wp2_with fail
 refine r3.mono ?_
 rintro e w5 ⟨rfl, n5, hK5⟩
 have r4 := n5.root (host := 1) fg0 (by decide) (by kernel_rfl) (by kernel_rfl) (by decide)
 have HB5 : Hid (Bo E w5 b 0 (fun _ => []) []) := HB4.out.kept (hK5.mono fun k h => .inr h)
 have HK5 : Hid (Kept (fun k => k < w.heap.size) w w5) := HK4.out.trans (hK5.mono fun k h => .inl h)
 clear r3 n5 hK5 HB4 HK4
 go_wp2_with fail
 refine r4.mono ?_
 rintro e w6 ⟨rfl, n6, hK6⟩
 have n6' : ∃ G, Kn (KE w.heap.size E) w6 p q4z zu1 G := ⟨_, n6⟩
 obtain ⟨G, n6⟩ := n6'
 have r5 := n6.ins (up := 4) (i := 3) (-1) (by decide +kernel) (by decide +kernel) (.inl rfl) uF4
 have HB6 : Hid (Bo E w6 b 0 (fun _ => []) []) := HB5.out.kept (hK6.mono fun k h => .inr h)
 have HK6 : Hid (Kept (fun k => k < w.heap.size) w w6) := HK5.out.trans (hK6.mono fun k h => .inl h)
 clear r4 n6 hK6 HB5 HK5
 go_wp2_with fail
 refine r5.mono ?_
 rintro e w7 ⟨rfl, n7, hK7⟩
 have n7' : Kn (KE w.heap.size E) w7 p u5 u5R G := n7
 obtain ⟨rk, hR⟩ := n7'.rd
 have hb7 : Bo E w7 b 0 (fun _ => []) [] := HB6.out.kept (hK7.mono fun k h => .inr h)
 have rs := zkn hb7 hR (fun k h => .inr h) (by decide +kernel) (by decide +kernel) (fun _ => Nat.zero_le _)
 rw [show u5.n = 5 by kernel_rfl, zu0] at rs
 have H7 : Hid (Kn (KE w.heap.size E) w7 p u5 u5R G) := n7'
 have HK7 : Hid (Kept (fun k => k < w.heap.size) w w7) := HK6.out.trans (hK7.mono fun k h => .inl h)
 clear r5 n7 hK7 n7' hR hb7 HB6 HK6
 go_wp2_with fail
 refine rs.mono ?_
 rintro e w8 ⟨rfl, E8, n8, hb8, hn8, hg8⟩
 have rp := zc2 hb8 (by decide)
 have HB8 : Hid (Bo E8 w8 b n8 (zck (za8 u5 u5R G) (fun _ => []) 5) []) := hb8
 have H8 : Hid (Kn (KE w.heap.size E8) w8 p u5 u5R G) := H7.out.grow (hg8.kept.mono fun k hk => ⟨hk.1, fun he => hk.2 (.inr he)⟩) (fun k hk => by
  rcases hk with h | h
  ·exact .inl (.inl h)
  ·rcases hg8.new k h with h | h
   ·exact .inl (.inr h)
   ·exact .inr h) (fun k hk => by
  rcases hk with h | h
  ·exact ltl h (Nat.le_trans HK7.out.size hg8.kept.size)
  ·exact hb8.lt k h)
 have HK8 : Hid (Kept (fun k => k < w.heap.size) w w8) := HK7.out.trans (hg8.kept.mono fun k h => ⟨ltl h HK7.out.size, fun he => by have := HEN.out k he; omega⟩)
 have HE8 : Hid (∀ k, E8 k -> w.heap.size <= k) := fun k hk => by
  rcases hg8.new k hk with h | h
  ·exact HEN.out k h
  ·exact Nat.le_trans HK7.out.size h
 have hn8' : n8 <= 5 := by omega
 have HN8 : Hid (n8 <= 5) := hn8'
 clear hn8'
 clear rs hb8 hn8 hg8 H7 HK7 HEN
 go_wp2_with fail
 refine rp.mono ?_
 rintro e w9 ⟨pa, pc, rfl, -, hk9⟩
 have n9 := H8.out.kept hk9
 have HB9 : Hid (Bo E8 w9 b n8 (zck (za8 u5 u5R G) (fun _ => []) 5) []) := HB8.out.keptA hk9
 have HK9 : Hid (Kept (fun k => k < w.heap.size) w w9) := kt HK8.out hk9
 have r6 := n9.ins (up := 1) (i := 2) (-1) (by decide +kernel) (by decide +kernel) (.inl rfl) uF5
 clear rp hk9 n9 H8 HB8 HK8
 go_wp2_with fail
 refine r6.mono ?_
 rintro e wA ⟨rfl, nA, hKA⟩
 have nA' : Kn (KE w.heap.size E8) wA p u6 u6R G := nA
 obtain ⟨rk, hR⟩ := nA'.rd
 have hbA : Bo E8 wA b n8 (zck (za8 u5 u5R G) (fun _ => []) 5) [] := HB9.out.kept (hKA.mono fun k h => .inr h)
 have un : u6.n = 5 := by kernel_rfl
 have rs := zkn hbA hR (fun k h => .inr h) (by rw [un]; have := HN8.out; omega) (by decide +kernel) (fun i => by
  unfold zck; split
  ·rw [zsg i (by assumption)]; exact Nat.zero_le _
  ·exact Nat.zero_le _)
 rw [un, zvd] at rs
 clear un
 have HKA : Hid (Kept (fun k => k < w.heap.size) w wA) := HK9.out.trans (hKA.mono fun k h => .inl h)
 clear r6 nA hKA nA' hR hbA HB9 HK9
 go_wp2_with fail
 refine rs.mono ?_
 rintro e wB ⟨rfl, EB, nB, hbB, hnB, hgB⟩
 have rt := zll hbB (by decide)
 have HKB : Hid (Kept (fun k => k < w.heap.size) w wB) := HKA.out.trans (hgB.kept.mono fun k h => ⟨ltl h HKA.out.size, fun he => by have := HE8.out k he; omega⟩)
 have HEB : Hid (∀ k, EB k -> w.heap.size <= k) := fun k hk => by
  rcases hgB.new k hk with h | h
  ·exact HE8.out k h
  ·exact Nat.le_trans HKA.out.size h
 clear rs hbB hnB hgB HKA HE8
 go_wp2_with fail
 refine rt.mono ?_
 rintro e wC ⟨ta, tc, rfl, hOt, hbC, hkC⟩
 obtain ⟨g, rfl, hcg⟩ := hOt.cell (j := 0) (u := .int .i64 3) rfl
 have rp := zc2 hbC (by decide)
 have HKC : Hid (Kept (fun k => k < w.heap.size) w wC) := HKB.out.trans (hkC.mono fun k h => ⟨ltl h HKB.out.size, fun he => by have := HEB.out k he; omega⟩)
 clear rt hOt hbC hkC HKB HEB
 go_wp2_with fail
 refine rp.mono ?_
 rintro e wD ⟨pa2, pc2, rfl, -, hkD⟩
 have HKD : Hid (Kept (fun k => k < w.heap.size) w wD) := kt HKC.out hkD
 clear rp hkD hcg
 go_wp2
 go_ret
 exact ⟨rfl, HKD.out⟩
end Go.Proofs.YtfeinppedejlpaaGreat
