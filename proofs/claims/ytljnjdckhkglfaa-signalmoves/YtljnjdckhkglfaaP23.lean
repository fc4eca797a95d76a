/-
 flat: Kids, Up.; A list that grows behind a closure; flat.Walk.
-/
import Derived.Test.YtljnjdckhkglfaaP22
namespace Go.Proofs.Ytljnjdckhkglfaa
set_option linter.unusedVariables false
set_option maxRecDepth 100000
set_option maxHeartbeats 8000000
section
open Go.RowKit
noncomputable def fKI (M : Dm) (R G : Nat -> List Nat) (i : Int) : List Nat := if i < 0 \/ (M.n : Int) <= i then [] else fK M R G i.toNat
noncomputable def upI (M : Dm) (R G : Nat -> List Nat) (i : Int) : Int := if i < 0 \/ (M.n : Int) <= i then -1 else upZ M R G i.toNat
theorem fKI_in {M : Dm} {R G : Nat -> List Nat} {i : Nat} (hi : i < M.n) : fKI M R G (i : Int) = fK M R G i := by
 unfold fKI
 rw [if_neg (by omega), Int.toNat_natCast]
theorem upI_in {M : Dm} {R G : Nat -> List Nat} {i : Nat} (hi : i < M.n) : upI M R G (i : Int) = upZ M R G i := by
 unfold upI
 rw [if_neg (by omega), Int.toNat_natCast]
section
variable {K : Nat -> Prop} {w : World} {p : Nat} {M : Dm} {R G : Nat -> List Nat} {rk : Nat -> Nat}
theorem Rd.kids (h : Rd K w p M R G rk) (i : Int) : Calls Try.prog 30 #[.pointer (some ⟨p, 0, none⟩), .int .i64 i] w (Lst w (fKI M R G i)) := by
 obtain ⟨L, hL⟩ : ∃ L, fKI M R G i = L := ⟨_, rfl⟩
 rw [hL]
 by_cases cI : i < 0 \/ (M.n : Int) <= i
 ·have HE : Hid (L = []) := by rw [<- hL]; unfold fKI; rw [if_pos cI]; exact rfl
  have rn := h.noNode cI
  clear h hL cI
  go_enter Try.func30, Try.ntmps30
  go_wp2_with fail
  refine rn.mono ?_
  rintro e v1 ⟨rfl, hK1⟩
  obtain ⟨V1, N1, hV1, hN1, hb1, hk1, -⟩ := alloc_box v1 zero14  42
  have HK : Hid (Kept (fun k => k < w.heap.size) w V1) := hK1.trans (hk1.mono fun k h => Nat.lt_of_lt_of_le h hK1.size)
  have HV1 : Hid (v1.alloc (.cells zero14 42) = V1) := hV1
  have HN1 : Hid (v1.heap.size = N1) := hN1
  clear rn hV1 hN1 hk1 hK1 hb1
  go_upto_region 2 with fail
  rw [HV1.out, HN1.out]
  clear HV1 HN1
  go_wp2
  go_ret
  rw [HE.out]
  exact Lst.nil w _ HK.out
 ·obtain ⟨k, rfl⟩ : ∃ k : Nat, i = (k : Int) := ⟨i.toNat, by omega⟩
  have hk : k < M.n := by omega
  rw [fKI_in hk] at hL
  have HL : Hid (fK M R G k = L) := hL
  have rn := h.node hk
  have HR : Hid (Rd K w p M R G rk) := h
  have HKL : Hid (k < M.n) := hk
  clear h hL cI hk
  go_enter Try.func30, Try.ntmps30
  go_wp2_with fail
  refine rn.mono ?_
  rintro e v1 ⟨ao1, ac1, ko1, kc1, rfl, hO1, hQ1, hK1⟩
  obtain ⟨V1, N1, hV1, hN1, hB1⟩ := BoxN.of (up := (M.pl k).up) hO1 hQ1 hK1
  have HV1 : Hid (v1.alloc (.cells (nV (M.nd k) ao1 ac1 ((M.pl k).up) ko1 (R k).length kc1) 42) = V1) := hV1
  have HN1 : Hid (v1.heap.size = N1) := hN1
  have HB1 : Hid (BoxN w V1 N1 (M.nd k) ((M.pl k).up) (R k) ao1 ac1 ko1 kc1) := hB1
  have c6 := hB1.c6
  have HK1 : Hid (Kept (fun k => k < w.heap.size) w V1) := hB1.kept
  have HSH : Hid ((M.nd k).shadow = -1 \/ ∃ s : Nat, s < M.n /\ (M.nd k).shadow = (s : Int)) := (HR.out.inv.core.shad k HKL.out).imp id fun ⟨s, h1, h2, _⟩ => ⟨s, h1, h2⟩
  clear rn hO1 hQ1 hK1 hV1 hN1 hB1
  go_upto_region 2 with fail
  rw [HV1.out, HN1.out]
  clear HV1 HN1
  rcases HSH.out with hs | ⟨s, hsn, hs⟩
  ·rw [hs] at c6
   have HS : Hid ((M.nd k).shadow = -1) := hs
   have ra := (HR.out.kept HK1.out).assigned (k : Int)
   rw [asgI_in HKL.out] at ra
   obtain ⟨A, hA⟩ : ∃ A, asgL M R G k = A := ⟨_, rfl⟩
   have HA : Hid (asgL M R G k = A) := hA
   rw [hA] at ra
   clear hs hA
   go_wp2_with fail
   refine ra.mono ?_
   rintro e w2 hl2
   obtain ⟨pa, pc, rfl, hPO, hk2⟩ := hl2
   have HPO : Hid (OwnZ (fun k => k < V1.heap.size) w2 3 1 pa A.length pc (ivs A)) := hPO
   have HK2 : Hid (Kept (fun k => k < V1.heap.size) V1 w2) := hk2
   have hB2 := HB1.out.later hk2
   have c5 := hB2.c5
   have HB2 : Hid (BoxN w w2 N1 (M.nd k) (M.pl k).up (R k) ao1 ac1 ko1 kc1) := hB2
   clear ra hPO hk2 c6 hB2
   by_cases ca : A = []
   ·subst ca
    have HE : Hid (L = R k) := by rw [<- HL.out]; unfold fK; rw [if_neg (by rw [HS.out]; simp), if_pos HA.out]; exact rfl
    have e0 : decide (((0 : Nat) : Int) > 0) = false := by decide
    obtain ⟨kl, hkl⟩ : ∃ kl, (R k).length = kl := ⟨_, rfl⟩
    have HKK : Hid ((R k).length = kl) := hkl
    rw [hkl] at c5
    clear hkl
    go_wp2
    go_ret
    rw [HE.out]
    exact ⟨ko1, kc1, by rw [HKK.out]; rfl, HB2.out.own, HB2.out.kept⟩
   ·have HE : Hid (L = A) := by rw [<- HL.out]; unfold fK; rw [if_neg (by rw [HS.out]; simp), if_neg (by rw [HA.out]; exact ca), HA.out]; exact rfl
    obtain ⟨al, hal⟩ : ∃ al, A.length = al := ⟨_, rfl⟩
    have h0 : 0 < al := by rw [<- hal]; exact List.length_pos_iff.2 ca
    have HAL : Hid (A.length = al) := hal
    have e0 : decide ((al : Int) > 0) = true := decide_eq_true (by omega)
    rw [hal]
    clear ca hal c5
    go_wp2
    go_ret
    rw [HE.out]
    exact Lst.on (X := V1) ⟨pa, pc, by rw [HAL.out]; rfl, HPO.out, HK2.out⟩ HK1.out
  ·rw [hs] at c6
   have HE : Hid (L = R s) := by rw [<- HL.out]; unfold fK; rw [if_pos (by rw [hs]; omega), hs, Int.toNat_natCast]; exact rfl
   have rn2 := (HR.out.kept HK1.out).node hsn
   have e6 : ((s : Int) == -1) = false := by simp
   have e6' : ¬ (s : Int) = -1 := by omega
   have e6n : ((s : Int) != -1) = true := by simp
   clear hs
   go_wp2_with fail
   refine rn2.mono ?_
   rintro e v2 ⟨ao2, ac2, ko2, kc2, rfl, hO2, hQ2, hK2⟩
   obtain ⟨V2, N2, hV2, hN2, hB2⟩ := BoxN.of (up := (M.pl s).up) hO2 hQ2 hK2
   have HV2 : Hid (v2.alloc (.cells (nV (M.nd s) ao2 ac2 ((M.pl s).up) ko2 (R s).length kc2) 42) = V2) := hV2
   have HN2 : Hid (v2.heap.size = N2) := hN2
   have HB2 : Hid (BoxN V1 V2 N2 (M.nd s) ((M.pl s).up) (R s) ao2 ac2 ko2 kc2) := hB2
   have d5 := hB2.c5
   obtain ⟨kl, hkl⟩ : ∃ kl, (R s).length = kl := ⟨_, rfl⟩
   have HKK : Hid ((R s).length = kl) := hkl
   rw [hkl] at d5
   clear rn2 hO2 hQ2 hK2 hV2 hN2 hB2 c6 hkl
   go_upto_region 6 with fail
   rw [HV2.out, HN2.out]
   clear HV2 HN2
   go_wp2
   go_ret
   rw [HE.out]
   exact Lst.on (X := V1) ⟨ko2, kc2, by rw [HKK.out]; rfl, HB2.out.own, HB2.out.kept⟩ HK1.out
theorem Rd.up (h : Rd K w p M R G rk) (i : Int) : Calls Try.prog 31 #[.pointer (some ⟨p, 0, none⟩), .int .i64 i] w fun e w' => e = .returned (.int .i64 (upI M R G i)) /\ Kept (fun k => k < w.heap.size) w w' := by
 obtain ⟨Z, hZ⟩ : ∃ Z, upI M R G i = Z := ⟨_, rfl⟩
 rw [hZ]
 by_cases cI : i < 0 \/ (M.n : Int) <= i
 ·have HE : Hid (Z = -1) := by rw [<- hZ]; unfold upI; rw [if_pos cI]; exact rfl
  have rn := h.noNode cI
  clear h hZ cI
  go_enter Try.func31, Try.ntmps31
  go_wp2_with fail
  refine rn.mono ?_
  rintro e v1 ⟨rfl, hK1⟩
  obtain ⟨V1, N1, hV1, hN1, hb1, hk1, -⟩ := alloc_box v1 zero14  42
  have HK : Hid (Kept (fun k => k < w.heap.size) w V1) := hK1.trans (hk1.mono fun k h => Nat.lt_of_lt_of_le h hK1.size)
  have HV1 : Hid (v1.alloc (.cells zero14 42) = V1) := hV1
  have HN1 : Hid (v1.heap.size = N1) := hN1
  clear rn hV1 hN1 hk1 hK1 hb1
  go_upto_region 2 with fail
  rw [HV1.out, HN1.out]
  clear HV1 HN1
  go_wp2
  go_ret
  exact ⟨by rw [HE.out]; rfl, HK.out⟩
 ·obtain ⟨k, rfl⟩ : ∃ k : Nat, i = (k : Int) := ⟨i.toNat, by omega⟩
  have hk : k < M.n := by omega
  rw [upI_in hk] at hZ
  have HZ : Hid (upZ M R G k = Z) := hZ
  have rn := h.node hk
  have HR : Hid (Rd K w p M R G rk) := h
  have HKL : Hid (k < M.n) := hk
  have HUPS : Hid ((M.pl k).up = -1 \/ ∃ u : Nat, u < M.n /\ (M.pl k).up = (u : Int)) := h.inv.ups' hk
  clear h hZ cI hk
  go_enter Try.func31, Try.ntmps31
  go_wp2_with fail
  refine rn.mono ?_
  rintro e v1 ⟨ao1, ac1, ko1, kc1, rfl, hO1, hQ1, hK1⟩
  obtain ⟨V1, N1, hV1, hN1, hB1⟩ := BoxN.of (up := (M.pl k).up) hO1 hQ1 hK1
  have HV1 : Hid (v1.alloc (.cells (nV (M.nd k) ao1 ac1 ((M.pl k).up) ko1 (R k).length kc1) 42) = V1) := hV1
  have HN1 : Hid (v1.heap.size = N1) := hN1
  have HB1 : Hid (BoxN w V1 N1 (M.nd k) ((M.pl k).up) (R k) ao1 ac1 ko1 kc1) := hB1
  have c4 := hB1.c4
  have HK1 : Hid (Kept (fun k => k < w.heap.size) w V1) := hB1.kept
  clear rn hO1 hQ1 hK1 hV1 hN1 hB1
  go_upto_region 2 with fail
  rw [HV1.out, HN1.out]
  clear HV1 HN1
  rcases HUPS.out with hu | ⟨u, hun, hu⟩
  ·have HE : Hid (Z = -1) := by rw [<- HZ.out]; unfold upZ; rw [if_pos hu]; exact rfl
   rw [hu] at c4
   clear hu
   go_wp2
   go_ret
   exact ⟨by rw [HE.out]; rfl, HK1.out⟩
  ·rw [hu] at c4
   have HU : Hid ((M.pl k).up = (u : Int)) := hu
   have HUN : Hid (u < M.n) := hun
   have rn2 := (HR.out.kept HK1.out).node hun
   have e4 : ((u : Int) == -1) = false := by simp
   have e4' : ¬ (u : Int) = -1 := by omega
   have HZ2 : Hid (Z = if (M.nd u).kind = 5 then (M.nd u).host else if (M.nd u).shadow ≠ -1 then findZ M R k else if asgL M R G u = [] then (u : Int) else -1) := by rw [<- HZ.out]; unfold upZ; rw [hu, if_neg e4', Int.toNat_natCast]; exact rfl
   clear hu hun
   go_wp2_with fail
   refine rn2.mono ?_
   rintro e v2 ⟨ao2, ac2, ko2, kc2, rfl, hO2, hQ2, hK2⟩
   obtain ⟨V2, N2, hV2, hN2, hB2⟩ := BoxN.of (up := (M.pl u).up) hO2 hQ2 hK2
   have HV2 : Hid (v2.alloc (.cells (nV (M.nd u) ao2 ac2 ((M.pl u).up) ko2 (R u).length kc2) 42) = V2) := hV2
   have HN2 : Hid (v2.heap.size = N2) := hN2
   have HB2 : Hid (BoxN V1 V2 N2 (M.nd u) ((M.pl u).up) (R u) ao2 ac2 ko2 kc2) := hB2
   have d0 := hB2.c0
   have d6 := hB2.c6
   have d7 := hB2.c7
   have HB1b : Hid (BoxN w V2 N1 (M.nd k) (M.pl k).up (R k) ao1 ac1 ko1 kc1) := HB1.out.later hB2.kept
   have HK2 : Hid (Kept (fun k => k < w.heap.size) w V2) := HB1b.out.kept
   have c4' := HB1b.out.c4
   rw [HU.out] at c4'
   obtain ⟨kd, hkd⟩ : ∃ kd, (M.nd u).kind = kd := ⟨_, rfl⟩
   have HKD : Hid ((M.nd u).kind = kd) := hkd
   rw [hkd] at d0
   clear rn2 hO2 hQ2 hK2 hV2 hN2 hB2 c4 hkd
   go_upto_region 5 with fail
   rw [HV2.out, HN2.out]
   clear HV2 HN2
   by_cases c5 : kd = 5
   ·subst c5
    have HE : Hid (Z = (M.nd u).host) := by rw [HZ2.out, if_pos HKD.out]; exact rfl
    obtain ⟨ho, hho⟩ : ∃ ho, (M.nd u).host = ho := ⟨_, rfl⟩
    rw [hho] at d7 HE
    clear hho
    go_wp2
    go_ret
    exact ⟨by rw [HE.out]; rfl, HK2.out⟩
   ·have e5 : ((kd : Int) == 5) = false := by simp; omega
    have e5' : ¬ (kd : Int) = 5 := by omega
    have HZ3 : Hid (Z = if (M.nd u).shadow ≠ -1 then findZ M R k else if asgL M R G u = [] then (u : Int) else -1) := by rw [HZ2.out, if_neg (by rw [HKD.out]; exact c5)]; exact rfl
    have HSH : Hid ((M.nd u).shadow = -1 \/ ∃ s : Nat, s < M.n /\ (M.nd u).shadow = (s : Int)) := (HR.out.inv.core.shad u HUN.out).imp id fun ⟨s, h1, h2, _⟩ => ⟨s, h1, h2⟩
    clear c5 d7
    rcases HSH.out with hs | ⟨s, hsn, hs⟩
    ·rw [hs] at d6
     have ra := (HR.out.kept HK2.out).assigned (u : Int)
     rw [asgI_in HUN.out] at ra
     obtain ⟨A, hA⟩ : ∃ A, asgL M R G u = A := ⟨_, rfl⟩
     rw [hA] at ra
     have HE : Hid (Z = if A = [] then (u : Int) else -1) := by rw [HZ3.out, if_neg (by rw [hs]; simp), hA]; exact rfl
     have HNV : Hid (N1 < V2.heap.size) := World.block_lt_of_cell? V2 _ c4'
     clear hs hA
     go_wp2_with fail
     refine ra.mono ?_
     rintro e w2 hl2
     obtain ⟨pa, pc, rfl, -, hk2⟩ := hl2
     have c4w : w2.cell? ⟨N1, 4, none⟩ = some (.int .i64 (u : Int)) := (hk2.cell (p := ⟨N1, 4, none⟩) HNV.out).trans c4'
     have HK3 : Hid (Kept (fun k => k < w.heap.size) w w2) := HK2.out.trans (hk2.mono fun k h => Nat.lt_of_lt_of_le h HK2.out.size)
     clear ra hk2 d6 d0 c4'
     by_cases ca : A = []
     ·have HE2 : Hid (Z = (u : Int)) := by rw [HE.out, if_pos ca]; exact rfl
      subst ca
      have e0 : decide (((0 : Nat) : Int) > 0) = false := by decide
      clear HE
      go_wp2
      go_ret
      exact ⟨by rw [HE2.out]; rfl, HK3.out⟩
     ·have HE2 : Hid (Z = -1) := by rw [HE.out, if_neg ca]; exact rfl
      obtain ⟨al, hal⟩ : ∃ al, A.length = al := ⟨_, rfl⟩
      have h0 : 0 < al := by rw [<- hal]; exact List.length_pos_iff.2 ca
      have e0 : decide ((al : Int) > 0) = true := decide_eq_true (by omega)
      rw [hal]
      clear ca hal HE
      go_wp2
      go_ret
      exact ⟨by rw [HE2.out]; rfl, HK3.out⟩
    ·rw [hs] at d6
     have rf := (HR.out.kept HK2.out).find (k : Int)
     rw [findI_in HKL.out] at rf
     have HE : Hid (Z = findZ M R k) := by rw [HZ3.out, if_pos (by rw [hs]; omega)]; exact rfl
     rw [<- HE.out] at rf
     have e6 : ((s : Int) == -1) = false := by simp
     have e6' : ¬ (s : Int) = -1 := by omega
     have e6n : ((s : Int) != -1) = true := by simp
     clear hs c4'
     go_wp2_with fail
     refine rf.mono ?_
     rintro e w2 ⟨rfl, hk2⟩
     clear rf
     go_wp2
     go_ret
     exact ⟨rfl, HK2.out.trans (hk2.mono fun k h => Nat.lt_of_lt_of_le h HK2.out.size)⟩
end
end
section
open Go.RowKit
def OutX (K : Nat -> Prop) (X : World) (bo : Nat) (l : List Nat) : Prop :=
 ¬ K bo /\ (∀ k, K k -> k < X.heap.size) /\ ∃ ao c, X.heap[bo]? = some (.cells #[.slice ao l.length c] 34 (0, 0)) /\ OwnZ (fun k => K k \/ k = bo) X 3 1 ao l.length c (ivs l)
theorem OutX.kept {K K' : Nat -> Prop} {X Y : World} {bo : Nat} {l : List Nat} (h : OutX K X bo l) (hk : Kept (fun k => k < X.heap.size) X Y) (hs : ∀ k, K' k -> K k \/ X.heap.size <= k) (hl : ∀ k, K' k -> k < Y.heap.size) : OutX K' Y bo l := by
 obtain ⟨h1, h2, ao, c, h3, h4⟩ := h
 have hb := lt_block h3
 refine ⟨fun hh => (hs bo hh).elim h1 (fun hh => by omega), hl, ao, c, by rw [hk.block bo hb]; exact h3, h4.to (fun g hg hh => ?_) (fun g hg => hk.block g (h4.out hg).2)⟩
 have := h4.out hg
 rcases hh with hh | hh
 ·rcases hs g hh with hh | hh
  ·exact this.1 (.inl hh)
  ·omega
 ·exact this.1 (.inr hh)
theorem OutX.less {K K' : Nat -> Prop} {X : World} {bo : Nat} {l : List Nat} (h : OutX K X bo l) (hs : ∀ k, K' k -> K k) : OutX K' X bo l :=
 h.kept (Kept.refl _ _) (fun k hk => .inl (hs k hk)) (fun k hk => h.2.1 k (hs k hk))
theorem OutX.app {K : Nat -> Prop} {X : World} {bo : Nat} {l : List Nat} (h : OutX K X bo l) (hl : l.length <= 100000000) (x : Nat) :
  ∃ ao c ao' c' W, X.cell? ⟨bo, 0, none⟩ = some (.slice ao l.length c) /\ (Builtin.append_ #[34, 34] 34 #[.slice ao l.length c, .slice (some ⟨X.heap.size, 0, none⟩) 1 1]).run Try.prog (X.alloc (.cells #[.int .i64 (x : Int)] 3)) = .ok (.slice ao' (l.length + 1) c') W /\
   W.frozen? ⟨bo, 0, none⟩ = false /\ (∃ u, W.cell? ⟨bo, 0, none⟩ = some u) /\ OutX K (W.setCell ⟨bo, 0, none⟩ (.slice ao' (l.length + 1) c')) bo (l ++ [x]) /\ Kept K X (W.setCell ⟨bo, 0, none⟩ (.slice ao' (l.length + 1) c')) := by
 obtain ⟨h1, h2, ao, c, h3, h4⟩ := h
 have hb := lt_block h3
 obtain ⟨ao', c', W, hr, hO, hK⟩ := appI h4 (fun k hk => by rcases hk with hk | hk; exact h2 k hk; rw [hk]; exact hb) (by omega) (x : Int)
 have hbW : W.heap[bo]? = some (.cells #[.slice ao l.length c] 34 (0, 0)) := by rw [hK.block bo (.inr rfl)]; exact h3
 have hS : (W.setCell ⟨bo, 0, none⟩ (.slice ao' (l.length + 1) c')).heap[bo]? = some (.cells #[.slice ao' (l.length + 1) c'] 34 (0, 0)) := heap_setCell_at hbW 0 _
 have kS : Kept (fun k => k ≠ bo) W (W.setCell ⟨bo, 0, none⟩ (.slice ao' (l.length + 1) c')) := (Kept.refl _ W).setCell (p := ⟨bo, 0, none⟩) (fun hh => hh rfl) _
 have kK : Kept K X (W.setCell ⟨bo, 0, none⟩ (.slice ao' (l.length + 1) c')) := (hK.mono fun k hk => .inl hk).trans ((Kept.refl K W).setCell (p := ⟨bo, 0, none⟩) h1 _)
 refine ⟨ao, c, ao', c', W, by rw [cell_block h3]; rfl, hr, frozen_block hbW 0, ⟨_, by rw [cell_block hbW]; rfl⟩, ⟨h1, fun k hk => Nat.lt_of_lt_of_le (h2 k hk) kK.size, ao', c', ?_, ?_⟩, kK⟩
 ·rw [List.length_append]; exact hS
 ·rw [List.length_append]
  have e : ivs (l ++ [x]) = ivs l ++ [.int .i64 (x : Int)] := List.map_append
  rw [e]
  exact hO.to (fun g hg => (hO.out hg).1) (fun g hg => kS.block g fun e => (hO.out hg).1 (.inr e))
section
variable {K0 : Nat -> Prop} {w0 : World} {p : Nat} {M : Dm} {R G : Nat -> List Nat} {rk : Nat -> Nat}
theorem enter96 (args : Array Value) (X : World) : (callFunc 96 args).run Try.prog X = .ok (.enter 96 args) X := entersE Try.func96 (by kernel_rfl) (c := _) rfl args X
abbrev walkF (bo b2 b3 : Nat) : Value := .func (.func 96) #[] #[.pointer (some ⟨bo, 0, none⟩), .pointer (some ⟨b2, 0, none⟩), .pointer (some ⟨b3, 0, none⟩)]
theorem walk_in (h : Rd K0 w0 p M R G rk) (bo b2 b3 : Nat) :
  ∀ (d i : Nat), dn M.n (rkA M R) i < d -> i < M.n -> ∀ (K : Nat -> Prop) (X : World) (l : List Nat), (∀ k, k < w0.heap.size -> K k) -> K b2 -> K b3 -> Kept (fun k => k < w0.heap.size) w0 X -> X.cell? ⟨b2, 0, none⟩ = some (.pointer (some ⟨p, 0, none⟩)) -> X.cell? ⟨b3, 0, none⟩ = some (walkF bo b2 b3) ->
   OutX K X bo l -> l.length + (tr M.n (fK M R G) i).length <= 10000000 ->
   Calls Try.prog 96 #[.int .i64 (i : Int), .pointer (some ⟨bo, 0, none⟩), .pointer (some ⟨b2, 0, none⟩), .pointer (some ⟨b3, 0, none⟩)] X fun e X' => e = .returned (.tuple #[]) /\ OutX K X' bo (l ++ tr M.n (fK M R G) i) /\ Kept K X X' := by
 intro d
 induction d with
 | zero => exact fun i h => absurd h (Nat.not_lt_zero _)
 | succ d ih =>
  intro i hdi hi K X l hw0 hK2 hK3 hX c2 c3 hO hlen
  have HF := h.inv.fK_falls (G := G)
  have HIH : Hid (∀ k, k ∈ fK M R G i -> ∀ (K : Nat -> Prop) (X : World) (l : List Nat), (∀ k, k < w0.heap.size -> K k) -> K b2 -> K b3 -> Kept (fun k => k < w0.heap.size) w0 X -> X.cell? ⟨b2, 0, none⟩ = some (.pointer (some ⟨p, 0, none⟩)) -> X.cell? ⟨b3, 0, none⟩ = some (walkF bo b2 b3) ->
    OutX K X bo l -> l.length + (tr M.n (fK M R G) k).length <= 10000000 ->
    Calls Try.prog 96 #[.int .i64 (k : Int), .pointer (some ⟨bo, 0, none⟩), .pointer (some ⟨b2, 0, none⟩), .pointer (some ⟨b3, 0, none⟩)] X fun e X' => e = .returned (.tuple #[]) /\ OutX K X' bo (l ++ tr M.n (fK M R G) k) /\ Kept K X X') := fun k hk => by
   obtain ⟨h1, h2⟩ := HF i hi k hk
   have := dn_lt h1 h2
   exact ih k (by omega) h1
  have HTR : Hid (tr M.n (fK M R G) i = i :: (fK M R G i).flatMap (tr M.n (fK M R G))) := tr_eq HF hi
  obtain ⟨ao, c, ao', c', W, co, hrun, hfz, ⟨u, hcu⟩, hO2, hKX⟩ := hO.app (by omega) i
  obtain ⟨Z, hZ⟩ : ∃ Z, W.setCell ⟨bo, 0, none⟩ (.slice ao' (l.length + 1) c') = Z := ⟨_, rfl⟩
  rw [hZ] at hO2 hKX
  have c2' : Z.cell? ⟨b2, 0, none⟩ = some (.pointer (some ⟨p, 0, none⟩)) := (hKX.cell (p := ⟨b2, 0, none⟩) hK2).trans c2
  have c3' : Z.cell? ⟨b3, 0, none⟩ = some (walkF bo b2 b3) := (hKX.cell (p := ⟨b3, 0, none⟩) hK3).trans c3
  have hXZ : Kept (fun k => k < w0.heap.size) w0 Z := hX.trans (hKX.mono hw0)
  have rk1 := (h.kept hXZ).kids (i : Int)
  rw [fKI_in hi] at rk1
  have HO2 : Hid (OutX K Z bo (l ++ [i])) := hO2
  have HKX : Hid (Kept K X Z) := hKX
  have HXZ : Hid (Kept (fun k => k < w0.heap.size) w0 Z) := hXZ
  have HZ : Hid (W.setCell ⟨bo, 0, none⟩ (.slice ao' (l.length + 1) c') = Z) := hZ
  have HW0 : Hid (∀ k, k < w0.heap.size -> K k) := hw0
  have HKB : Hid (K b2 /\ K b3) := ⟨hK2, hK3⟩
  have HLEN : Hid (l.length + (tr M.n (fK M R G) i).length <= 10000000) := hlen
  have HFL : Hid ((fK M R G i).length <= 100000) := by
   have h1 := nodup_le M.n _ (h.inv.fK_nd hi) (fun x hx => (HF i hi x hx).1)
   exact (show Hid _ from Nat.le_trans h1 h.le)
  obtain ⟨ln, hln⟩ : ∃ ln, l.length = ln := ⟨_, rfl⟩
  have HLN : Hid (l.length = ln) := hln
  have hln9 : ln <= 10000000 := by omega
  rw [hln] at co hrun HZ
  clear ih hdi hw0 hK2 hK3 hX c2 c3 hO hlen HF hO2 hKX hXZ hZ hi hln
  go_enter Try.func96, Try.ntmps96
  go_upto_region 1 with (at_builtin; refine wpList_appR (w' := W) rfl (.tmp 7) (.tmp 9) 34 34 rfl _ _ (.slice ao' (ln + 1) c') rfl rfl hrun ?_)
  rw [HZ.out]
  clear hrun hfz hcu co HZ
  go_wp2_with fail
  refine rk1.mono ?_
  rintro e w1 ⟨fa, fc, rfl, hFO, hk1⟩
  have HROW : Hid (IntsAt (fun g => Z.heap.size <= g /\ g < w1.heap.size) w1 fa (fK M R G i)) := hFO.intsAt fun g hg => ⟨Nat.le_of_not_lt (hFO.out hg).1, (hFO.out hg).2⟩
  have HK1 : Hid (Kept (fun k => k < Z.heap.size) Z w1) := hk1
  have hz2 := World.block_lt_of_cell? Z _ c2'
  have hz3 := World.block_lt_of_cell? Z _ c3'
  have HO3 : Hid (OutX (fun k => K k \/ (Z.heap.size <= k /\ k < w1.heap.size)) w1 bo (l ++ [i])) := HO2.out.kept hk1 (fun k hk => hk.imp id fun h => h.1) (fun k hk => hk.elim (fun h => Nat.lt_of_lt_of_le (HO2.out.2.1 k h) hk1.size) (fun h => h.2))
  have d2 : w1.cell? ⟨b2, 0, none⟩ = some (.pointer (some ⟨p, 0, none⟩)) := (hk1.cell (p := ⟨b2, 0, none⟩) hz2).trans c2'
  have d3 : w1.cell? ⟨b3, 0, none⟩ = some (walkF bo b2 b3) := (hk1.cell (p := ⟨b3, 0, none⟩) hz3).trans c3'
  have HD : Hid (w1.cell? ⟨b2, 0, none⟩ = some (.pointer (some ⟨p, 0, none⟩)) /\ w1.cell? ⟨b3, 0, none⟩ = some (walkF bo b2 b3)) := ⟨d2, d3⟩
  obtain ⟨fl, hfl⟩ : ∃ fl, (fK M R G i).length = fl := ⟨_, rfl⟩
  have HFLN : Hid ((fK M R G i).length = fl) := hfl
  have hfl9 : fl <= 100000 := by rw [<- hfl]; exact HFL.out
  rw [hfl]
  clear rk1 hFO hk1 c2' c3' d2 d3 hfl hz2 hz3
  go_upto_region 2 with fail
  have HK1X : Hid (Kept K X w1) := HKX.out.trans (HK1.out.mono fun k hk => HO2.out.2.1 k hk)
  have HK1w : Hid (Kept (fun k => k < w0.heap.size) w0 w1) := HXZ.out.trans (HK1.out.mono fun k hk => Nat.lt_of_lt_of_le hk HXZ.out.size)
  go_loopg [15] fl (fun gh v15 wr => ∃ j : Nat, gh = fl - j /\ j <= fl /\ v15 = .int .i64 (j : Int) /\ OutX (fun k => K k \/ (Z.heap.size <= k /\ k < w1.heap.size)) wr bo (l ++ i :: ((fK M R G i).take j).flatMap (tr M.n (fK M R G))) /\ Kept (fun k => K k \/ (Z.heap.size <= k /\ k < w1.heap.size)) w1 wr)
  case atStart => exact ⟨0, rfl, Nat.zero_le _, rfl, HO3.out, Kept.refl _ _⟩
  case round =>
   obtain ⟨j, hgj, hj, rfl, hOj, hKj⟩ := hrel
   have e2 : wr.cell? ⟨b2, 0, none⟩ = some (.pointer (some ⟨p, 0, none⟩)) := (hKj.cell (p := ⟨b2, 0, none⟩) (.inl HKB.out.1)).trans HD.out.1
   have e3 : wr.cell? ⟨b3, 0, none⟩ = some (walkF bo b2 b3) := (hKj.cell (p := ⟨b3, 0, none⟩) (.inl HKB.out.2)).trans HD.out.2
   by_cases hlt : j < fl
   ·have hjl : j < (fK M R G i).length := by rw [HFLN.out]; exact hlt
    obtain ⟨g, o, rfl, hg, dd⟩ := HROW.out j hjl
    have d' : wr.cell? ⟨g, o + j, none⟩ = some (.int .i64 ((fK M R G i)[j] : Int)) := (hKj.cell (p := ⟨g, o + j, none⟩) (.inr hg)).trans dd
    have hs := fm_split (tr M.n (fK M R G)) (fK M R G i) j hjl
    have hs2 := fm_succ (tr M.n (fK M R G)) (fK M R G i) j hjl
    have hmem := List.getElem_mem hjl
    obtain ⟨x, hx⟩ : ∃ x, (fK M R G i)[j] = x := ⟨_, rfl⟩
    rw [hx] at d' hs hs2 hmem
    have kwr : Kept (fun k => k < w0.heap.size) w0 wr := HK1w.out.trans (hKj.mono fun k hk => .inl (HW0.out k hk))
    have r := HIH.out x hmem _ wr _ (fun k hk => .inl (HW0.out k hk)) (.inl HKB.out.1) (.inl HKB.out.2) kwr e2 e3 hOj (by
     have := HLEN.out
     rw [HTR.out, hs] at this
     simp only [List.length_append, List.length_cons] at this ⊢
     omega)
    have hs3 : l ++ i :: ((fK M R G i).take (j + 1)).flatMap (tr M.n (fK M R G)) = (l ++ i :: ((fK M R G i).take j).flatMap (tr M.n (fK M R G))) ++ tr M.n (fK M R G) x := by rw [hs2]; simp
    have HS2 : Hid (l ++ i :: ((fK M R G i).take (j + 1)).flatMap (tr M.n (fK M R G)) = (l ++ i :: ((fK M R G i).take j).flatMap (tr M.n (fK M R G))) ++ tr M.n (fK M R G) x) := hs3
    have HKJ : Hid (Kept (fun k => K k \/ (Z.heap.size <= k /\ k < w1.heap.size)) w1 wr) := hKj
    have he := enter96
    clear dd hs hs2 hs3 hx hmem hOj hKj kwr e2
    go_wp2_with fail
    refine r.mono ?_
    rintro e w3 ⟨rfl, hO3, hk3⟩
    have HO4 : Hid (OutX (fun k => K k \/ (Z.heap.size <= k /\ k < w1.heap.size)) w3 bo (l ++ i :: ((fK M R G i).take (j + 1)).flatMap (tr M.n (fK M R G)))) := by rw [HS2.out]; exact hO3
    have HK4 : Hid (Kept (fun k => K k \/ (Z.heap.size <= k /\ k < w1.heap.size)) w1 w3) := HKJ.out.trans hk3
    clear r hO3 hk3 d' e3 he
    go_wp2
    go_roundg (fl - (j + 1))
    case rel => exact ⟨j + 1, rfl, by omega, by go_num, HO4.out, HK4.out⟩
    case measure => omega
   ·have hjn : fl = j := by omega
    subst hjn
    have hall : (fK M R G i).take fl = fK M R G i := List.take_of_length_le (by rw [HFLN.out]; exact Nat.le_refl _)
    rw [hall, <- HTR.out] at hOj
    have HO4 : Hid (OutX K wr bo (l ++ tr M.n (fK M R G) i)) := hOj.less fun k hk => .inl hk
    have HK4 : Hid (Kept K X wr) := HK1X.out.trans (hKj.mono fun k hk => .inl hk)
    clear hOj hKj e2 e3 hall
    go_wp2
    first
     | (go_end0; exact ⟨rfl, HO4.out, HK4.out⟩)
     | (refine bodyPost_ret (results_none rfl _ _ _) rfl ?_; exact ⟨rfl, HO4.out, HK4.out⟩)
theorem vars3 (w : World) (p : Nat) (tf : TypeId) (f : Nat -> Nat -> Nat -> Value) : ∃ V1 V2 V3 V4 N0 N1 N2, w.alloc (.cells #[.pointer (some ⟨p, 0, none⟩)] 24) = V1 /\ V1.alloc (.cells #[.slice none 0 0] 34) = V2 /\ V2.alloc (.cells #[.nilFunc] tf) = V3 /\ V3.setCell ⟨N2, 0, none⟩ (f N0 N1 N2) = V4 /\ w.heap.size = N0 /\ N0 + 1 = N1 /\ N1 + 1 = N2 /\
  V3.cell? ⟨N2, 0, none⟩ = some .nilFunc /\ V3.frozen? ⟨N2, 0, none⟩ = false /\ V4.cell? ⟨N0, 0, none⟩ = some (.pointer (some ⟨p, 0, none⟩)) /\ V4.cell? ⟨N2, 0, none⟩ = some (f N0 N1 N2) /\ Kept (fun k => k < w.heap.size) w V4 /\ V4.heap.size = N2 + 1 /\ OutX (fun k => k < w.heap.size \/ k = N0 \/ k = N2) V4 N1 [] /\ V4.cell? ⟨N1, 0, none⟩ = some (.slice none 0 0) := by
 obtain ⟨V1, N0, e1, n0, b1, k1, s1⟩ := alloc_box w #[.pointer (some ⟨p, 0, none⟩)]  24
 obtain ⟨V2, N1, e2, n1, b2, k2, s2⟩ := alloc_box V1 #[.slice none 0 0]  34
 obtain ⟨V3, N2, e3, n2, b3, k3, s3⟩ := alloc_box V2 #[.nilFunc] tf
 have h1 : N0 + 1 = N1 := by omega
 have h2 : N1 + 1 = N2 := by omega
 have kS : Kept (fun k => k ≠ N2) V3 (V3.setCell ⟨N2, 0, none⟩ (f N0 N1 N2)) := (Kept.refl _ V3).setCell (p := ⟨N2, 0, none⟩) (fun hh => hh rfl) _
 have hS : (V3.setCell ⟨N2, 0, none⟩ (f N0 N1 N2)).heap[N2]? = some (.cells #[f N0 N1 N2] tf (0, 0)) := heap_setCell_at b3 0 _
 have sz : (V3.setCell ⟨N2, 0, none⟩ (f N0 N1 N2)).heap.size = N2 + 1 := by
  have := kS.size
  have h3 : (V3.setCell ⟨N2, 0, none⟩ (f N0 N1 N2)).heap.size = V3.heap.size := by simp [World.setCell]
  omega
 have bO : (V3.setCell ⟨N2, 0, none⟩ (f N0 N1 N2)).heap[N1]? = some (.cells #[.slice none 0 0] 34 (0, 0)) := by rw [kS.block N1 (by omega), k3.block N1 (by omega)]; exact b2
 have b0 : (V3.setCell ⟨N2, 0, none⟩ (f N0 N1 N2)).heap[N0]? = some (.cells #[.pointer (some ⟨p, 0, none⟩)] 24 (0, 0)) := by rw [kS.block N0 (by omega), k3.block N0 (by omega), k2.block N0 (by omega)]; exact b1
 refine ⟨V1, V2, V3, _, N0, N1, N2, e1, e2, e3, rfl, n0, h1, h2, by rw [cell_block b3]; rfl, frozen_block b3 0, by rw [cell_block b0]; rfl, by rw [cell_block hS]; rfl, ?_, sz, ⟨by omega, fun k hk => by omega, none, 0, bO, OwnZ.nil _ _ _ _⟩, by rw [cell_block bO]; rfl⟩
 exact (k1.trans (k2.mono fun k h => by omega)).trans ((k3.mono fun k h => by omega).trans (kS.mono fun k h => by omega))
theorem Rd.walk (h : Rd K0 w0 p M R G rk) (i : Int) : Calls Try.prog 68 #[.pointer (some ⟨p, 0, none⟩), .int .i64 i] w0 (Lst w0 (trI M.n (fK M R G) i)) := by
 obtain ⟨V1, V2, V3, V4, N0, N1, N2, e1, e2, e3, e4, n0, n1, n2, cn, fn, c0, c2, hK4, hs4, hO, c1⟩ := vars3 w0 p 105 (fun a b c => walkF b a c)
 have HR : Hid (Rd K0 w0 p M R G rk) := h
 have HO : Hid (OutX (fun k => k < w0.heap.size \/ k = N0 \/ k = N2) V4 N1 []) := hO
 have HK4 : Hid (Kept (fun k => k < w0.heap.size) w0 V4) := hK4
 have HE1 : Hid (w0.alloc (.cells #[.pointer (some ⟨p, 0, none⟩)] 24) = V1) := e1
 have HE2 : Hid (V1.alloc (.cells #[.slice none 0 0] 34) = V2) := e2
 have HE3 : Hid (V2.alloc (.cells #[.nilFunc] 105) = V3) := e3
 have HE4 : Hid (V3.setCell ⟨N2, 0, none⟩ (walkF N1 N0 N2) = V4) := e4
 have HN0 : Hid (w0.heap.size = N0) := n0
 have HN1 : Hid (N0 + 1 = N1) := n1
 have HN2 : Hid (N1 + 1 = N2) := n2
 have HC : Hid (V4.cell? ⟨N0, 0, none⟩ = some (.pointer (some ⟨p, 0, none⟩)) /\ V4.cell? ⟨N2, 0, none⟩ = some (walkF N1 N0 N2)) := ⟨c0, c2⟩
 have HLT : Hid (N0 < V4.heap.size /\ N2 < V4.heap.size) := ⟨by rw [hs4]; omega, by rw [hs4]; omega⟩
 obtain ⟨L, hL⟩ : ∃ L, trI M.n (fK M R G) i = L := ⟨_, rfl⟩
 rw [hL]
 clear hO hK4 e1 e2 e3 e4 n0 n1 n2 hs4
 by_cases cI : i < 0 \/ (M.n : Int) <= i
 ·have HE : Hid (L = []) := by rw [<- hL, trI_no cI]; exact rfl
  have rn := (h.kept HK4.out).noNode cI
  have HC1 : Hid (V4.cell? ⟨N1, 0, none⟩ = some (.slice none 0 0)) := c1
  have HL1 : Hid (N1 < V4.heap.size) := World.block_lt_of_cell? V4 _ c1
  clear h hL cI c1
  go_enter Try.func68, Try.ntmps68
  go_upto_region 3 with fail
  rw [HE1.out, HN0.out, HE2.out, HN1.out, HE3.out, HN2.out]
  go_upto_region 4 with fail
  rw [HE4.out]
  clear HE1 HE2 HE3 HE4 HN0 HN1 HN2 cn fn
  go_wp2_with fail
  refine rn.mono ?_
  rintro e v1 ⟨rfl, hK1⟩
  obtain ⟨V5, N5, hV5, hN5, hb5, hk5, -⟩ := alloc_box v1 zero14  42
  have k45 : Kept (fun k => k < V4.heap.size) V4 V5 := hK1.trans (hk5.mono fun k h => Nat.lt_of_lt_of_le h hK1.size)
  have d1 : V5.cell? ⟨N1, 0, none⟩ = some (.slice none 0 0) := (k45.cell (p := ⟨N1, 0, none⟩) HL1.out).trans HC1.out
  have HK : Hid (Kept (fun k => k < w0.heap.size) w0 V5) := HK4.out.trans (k45.mono fun k h => Nat.lt_of_lt_of_le h HK4.out.size)
  have HV5 : Hid (v1.alloc (.cells zero14 42) = V5) := hV5
  have HN5 : Hid (v1.heap.size = N5) := hN5
  clear rn hV5 hN5 hk5 hK1 hb5 k45 c0 c2
  go_upto_region 5 with fail
  rw [HV5.out, HN5.out]
  clear HV5 HN5
  go_wp2
  go_ret
  rw [HE.out]
  exact Lst.nil w0 _ HK.out
 ·obtain ⟨k, rfl⟩ : ∃ k : Nat, i = (k : Int) := ⟨i.toNat, by omega⟩
  have hk : k < M.n := by omega
  have HL : Hid (tr M.n (fK M R G) k = L) := by rw [<- hL, trI_in hk]; exact rfl
  have rn := (h.kept HK4.out).node hk
  have HKN : Hid (k < M.n) := hk
  have HWL : Hid ((tr M.n (fK M R G) k).length <= 100000) := Nat.le_trans (h.inv.walk_len hk) h.le
  clear h hL cI c1 hk
  go_enter Try.func68, Try.ntmps68
  go_upto_region 3 with fail
  rw [HE1.out, HN0.out, HE2.out, HN1.out, HE3.out, HN2.out]
  go_upto_region 4 with fail
  rw [HE4.out]
  clear HE1 HE2 HE3 HE4 HN1 HN2 cn fn
  go_wp2_with fail
  refine rn.mono ?_
  rintro e v1 ⟨ao1, ac1, ko1, kc1, rfl, hO1, hQ1, hK1⟩
  obtain ⟨V5, N5, hV5, hN5, hB5⟩ := BoxN.of (up := (M.pl k).up) hO1 hQ1 hK1
  have HV5 : Hid (v1.alloc (.cells (nV (M.nd k) ao1 ac1 ((M.pl k).up) ko1 (R k).length kc1) 42) = V5) := hV5
  have HN5 : Hid (v1.heap.size = N5) := hN5
  have HB5 : Hid (BoxN V4 V5 N5 (M.nd k) ((M.pl k).up) (R k) ao1 ac1 ko1 kc1) := hB5
  have d0 : V5.cell? ⟨N0, 0, none⟩ = some (.pointer (some ⟨p, 0, none⟩)) := (hB5.kept.cell (p := ⟨N0, 0, none⟩) HLT.out.1).trans HC.out.1
  have d2 : V5.cell? ⟨N2, 0, none⟩ = some (walkF N1 N0 N2) := (hB5.kept.cell (p := ⟨N2, 0, none⟩) HLT.out.2).trans HC.out.2
  have hK5 : Kept (fun k => k < w0.heap.size) w0 V5 := HK4.out.trans (hB5.kept.mono fun k h => Nat.lt_of_lt_of_le h HK4.out.size)
  have HK5 : Hid (Kept (fun k => k < w0.heap.size) w0 V5) := hK5
  have hO5 := HO.out.kept (K' := fun k => k < w0.heap.size \/ k = N0 \/ k = N2) hB5.kept (fun k hk => .inl hk) (fun k hk => Nat.lt_of_lt_of_le (HO.out.2.1 k hk) hB5.kept.size)
  have r := walk_in HR.out N1 N0 N2 _ k (Nat.lt_succ_self _) HKN.out _ V5 [] (fun k hk => .inl hk) (.inr (.inl rfl)) (.inr (.inr rfl)) hK5 d0 d2 hO5 (by have := HWL.out; simp only [List.length_nil]; omega)
  rw [HL.out, List.nil_append] at r
  have he := enter96
  clear rn hO1 hQ1 hK1 hV5 hN5 hB5 c0 c2 hO5 hK5 d0
  go_upto_region 5 with fail
  rw [HV5.out, HN5.out]
  clear HV5 HN5
  go_wp2_with fail
  refine r.mono ?_
  rintro e w2 ⟨rfl, hO2, hk2⟩
  obtain ⟨-, -, ao, c, hb, hOZ⟩ := hO2
  have cb : w2.cell? ⟨N1, 0, none⟩ = some (.slice ao L.length c) := by rw [cell_block hb]; rfl
  have HOZ : Hid (OwnZ (fun k => k < w0.heap.size) w2 3 1 ao L.length c (ivs L)) := hOZ.to (fun g hg hh => (hOZ.out hg).1 (.inl (.inl hh))) (fun _ _ => rfl)
  have HK6 : Hid (Kept (fun k => k < w0.heap.size) w0 w2) := HK5.out.trans (hk2.mono fun k hk => .inl hk)
  obtain ⟨ll, hll⟩ : ∃ ll, L.length = ll := ⟨_, rfl⟩
  have HLL : Hid (L.length = ll) := hll
  rw [hll] at cb
  clear r hb hOZ hk2 he d2 hll
  go_wp2
  go_ret
  exact ⟨ao, c, by rw [HLL.out]; rfl, by rw [HLL.out]; rw [HLL.out] at HOZ; exact HOZ.out, HK6.out⟩
end
end
end Go.Proofs.Ytljnjdckhkglfaa
