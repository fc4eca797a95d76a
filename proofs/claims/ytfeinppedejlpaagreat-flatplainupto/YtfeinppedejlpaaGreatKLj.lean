/-
  flat: Kids, Up.
-/
import Derived.Test.YtfeinppedejlpaaGreatKE01
namespace Go.Proofs.YtfeinppedejlpaaGreat
set_option maxHeartbeats 8000000
set_option maxRecDepth 100000
open Go.RowKit
set_option linter.unusedVariables false
noncomputable def fKI (M : Dm) (R G : Nat -> List Nat) (i : Int) : List Nat := if i < 0 \/ (M.n : Int) <= i then [] else fK M R G i.toNat
noncomputable def upI (M : Dm) (R G : Nat -> List Nat) (i : Int) : Int := if i < 0 \/ (M.n : Int) <= i then -1 else upZ M R G i.toNat
theorem zex {M : Dm} {R G : Nat -> List Nat} {i : Nat} (hi : i < M.n) : fKI M R G (i : Int) = fK M R G i := by
 unfold fKI
 rw [if_neg (by omega), Int.toNat_natCast]
theorem zj3 {M : Dm} {R G : Nat -> List Nat} {i : Nat} (hi : i < M.n) : upI M R G (i : Int) = upZ M R G i := by
 unfold upI
 rw [if_neg (by omega), Int.toNat_natCast]
section
variable {K : Nat -> Prop} {w : World} {p : Nat} {M : Dm} {R G : Nat -> List Nat} {rk : Nat -> Nat}
theorem Rd.kids (h : Rd K w p M R G rk) (i : Int) : Calls Tryz.prog 45 #[.pointer (some ⟨p, 0, none⟩), .int .i64 i] w (Lst w (fKI M R G i)) := by
 obtain ⟨L, hL⟩ : ∃ L, fKI M R G i = L := ⟨_, rfl⟩
 rw [hL]
 by_cases cI : i < 0 \/ (M.n : Int) <= i
 ·have HE : Hid (L = []) := by rw [<- hL]; unfold fKI; rw [if_pos cI]; exact rfl
  have rn := h.noNode cI
  clear h hL cI
  go_enter Tryz.func45, Tryz.ntmps45
  go_wp2_with fail
  refine rn.mono ?_
  rintro e v1 ⟨rfl, hK1⟩
  obtain ⟨V1, N1, hV1, hN1, hb1, hk1, -⟩ := zar v1 za2  58
  have HK : Hid (Kept (fun k => k < w.heap.size) w V1) := kt hK1 hk1
  have HV1 : Hid (v1.alloc (.cells za2 58) = V1) := hV1
  have HN1 : Hid (v1.heap.size = N1) := hN1
  clear rn hV1 hN1 hk1 hK1 hb1
  go_upto_region 2 with fail
  rw [HV1.out, HN1.out]
  clear HV1 HN1
  go_wp2
  go_ret
  rw [HE.out]
  exact Lst.nil w _ HK.out
 ·obtain ⟨k, rfl⟩ : ∃ k : Nat, i = (k : Int) := ⟨i.toNat, by omega⟩
  have hk : k < M.n := by omega
  rw [zex hk] at hL
  have HL : Hid (fK M R G k = L) := hL
  have rn := h.node hk
  have HR : Hid (Rd K w p M R G rk) := h
  have HKL : Hid (k < M.n) := hk
  clear h hL cI hk
  go_enter Tryz.func45, Tryz.ntmps45
  go_wp2_with fail
  refine rn.mono ?_
  rintro e v1 ⟨ao1, ac1, ko1, kc1, rfl, hO1, hQ1, hK1⟩
  obtain ⟨V1, N1, hV1, hN1, hB1⟩ := Zb1.of (up := (M.pl k).up) hO1 hQ1 hK1
  have HV1 : Hid (v1.alloc (.cells (nV (M.nd k) ao1 ac1 ((M.pl k).up) ko1 (R k).length kc1) 58) = V1) := hV1
  have HN1 : Hid (v1.heap.size = N1) := hN1
  have HB1 : Hid (Zb1 w V1 N1 (M.nd k) ((M.pl k).up) (R k) ao1 ac1 ko1 kc1) := hB1
  have c6 := hB1.c6
  have HK1 : Hid (Kept (fun k => k < w.heap.size) w V1) := hB1.kept
  have HSH : Hid ((M.nd k).shadow = -1 \/ ∃ s : Nat, s < M.n /\ (M.nd k).shadow = (s : Int)) := (HR.out.inv.core.shad k HKL.out).imp id fun ⟨s, h1, h2, _⟩ => ⟨s, h1, h2⟩
  clear rn hO1 hQ1 hK1 hV1 hN1 hB1
  go_upto_region 2 with fail
  rw [HV1.out, HN1.out]
  clear HV1 HN1
  rcases HSH.out with hs | ⟨s, hsn, hs⟩
  ·rw [hs] at c6
   have HS : Hid ((M.nd k).shadow = -1) := hs
   have ra := (HR.out.kept HK1.out).assigned (k : Int)
   rw [zdk HKL.out] at ra
   obtain ⟨A, hA⟩ : ∃ A, za8 M R G k = A := ⟨_, rfl⟩
   have HA : Hid (za8 M R G k = A) := hA
   rw [hA] at ra
   clear hs hA
   go_wp2_with fail
   refine ra.mono ?_
   rintro e w2 hl2
   obtain ⟨pa, pc, rfl, hPO, hk2⟩ := hl2
   have HPO : Hid (Zac (fun k => k < V1.heap.size) w2 3 1 pa A.length pc (ivs A)) := hPO
   have HK2 : Hid (Kept (fun k => k < V1.heap.size) V1 w2) := hk2
   have hB2 := HB1.out.later hk2
   have c5 := hB2.c5
   have HB2 : Hid (Zb1 w w2 N1 (M.nd k) (M.pl k).up (R k) ao1 ac1 ko1 kc1) := hB2
   clear ra hPO hk2 c6 hB2
   by_cases ca : A = []
   ·subst ca
    have HE : Hid (L = R k) := by rw [<- HL.out]; unfold fK; rw [if_neg (by rw [HS.out]; simp), if_pos HA.out]; exact rfl
    have e0 : decide (((0 : Nat) : Int) > 0) = false := by decide
    obtain ⟨kl, hkl⟩ : ∃ kl, (R k).length = kl := ⟨_, rfl⟩
    have HKK : Hid ((R k).length = kl) := hkl
    rw [hkl] at c5
    clear hkl
    go_wp2
    go_ret
    rw [HE.out]
    exact ⟨ko1, kc1, by rw [HKK.out]; rfl, HB2.out.own, HB2.out.kept⟩
   ·have HE : Hid (L = A) := by rw [<- HL.out]; unfold fK; rw [if_neg (by rw [HS.out]; simp), if_neg (by rw [HA.out]; exact ca), HA.out]; exact rfl
    obtain ⟨al, hal⟩ : ∃ al, A.length = al := ⟨_, rfl⟩
    have h0 : 0 < al := by rw [<- hal]; exact List.length_pos_iff.2 ca
    have HAL : Hid (A.length = al) := hal
    have e0 : decide ((al : Int) > 0) = true := decide_eq_true (by omega)
    rw [hal]
    clear ca hal c5
    go_wp2
    go_ret
    rw [HE.out]
    exact Lst.on (X := V1) ⟨pa, pc, by rw [HAL.out]; rfl, HPO.out, HK2.out⟩ HK1.out
  ·rw [hs] at c6
   have HE : Hid (L = R s) := by rw [<- HL.out]; unfold fK; rw [if_pos (by rw [hs]; omega), hs, Int.toNat_natCast]; exact rfl
   have rn2 := (HR.out.kept HK1.out).node hsn
   have e6 : ((s : Int) == -1) = false := by simp
   have e6' : ¬ (s : Int) = -1 := by omega
   have e6n : ((s : Int) != -1) = true := by simp
   clear hs
   go_wp2_with fail
   refine rn2.mono ?_
   rintro e v2 ⟨ao2, ac2, ko2, kc2, rfl, hO2, hQ2, hK2⟩
   obtain ⟨V2, N2, hV2, hN2, hB2⟩ := Zb1.of (up := (M.pl s).up) hO2 hQ2 hK2
   have HV2 : Hid (v2.alloc (.cells (nV (M.nd s) ao2 ac2 ((M.pl s).up) ko2 (R s).length kc2) 58) = V2) := hV2
   have HN2 : Hid (v2.heap.size = N2) := hN2
   have HB2 : Hid (Zb1 V1 V2 N2 (M.nd s) ((M.pl s).up) (R s) ao2 ac2 ko2 kc2) := hB2
   have d5 := hB2.c5
   obtain ⟨kl, hkl⟩ : ∃ kl, (R s).length = kl := ⟨_, rfl⟩
   have HKK : Hid ((R s).length = kl) := hkl
   rw [hkl] at d5
   clear rn2 hO2 hQ2 hK2 hV2 hN2 hB2 c6 hkl
   go_upto_region 6 with fail
   rw [HV2.out, HN2.out]
   clear HV2 HN2
   go_wp2
   go_ret
   rw [HE.out]
   exact Lst.on (X := V1) ⟨ko2, kc2, by rw [HKK.out]; rfl, HB2.out.own, HB2.out.kept⟩ HK1.out
theorem Rd.up (h : Rd K w p M R G rk) (i : Int) : Calls Tryz.prog 44 #[.pointer (some ⟨p, 0, none⟩), .int .i64 i] w fun e w' => e = .returned (.int .i64 (upI M R G i)) /\ Kept (fun k => k < w.heap.size) w w' := by
 obtain ⟨Z, hZ⟩ : ∃ Z, upI M R G i = Z := ⟨_, rfl⟩
 rw [hZ]
 by_cases cI : i < 0 \/ (M.n : Int) <= i
 ·have HE : Hid (Z = -1) := by rw [<- hZ]; unfold upI; rw [if_pos cI]; exact rfl
  have rn := h.noNode cI
  clear h hZ cI
  go_enter Tryz.func44, Tryz.ntmps44
  go_wp2_with fail
  refine rn.mono ?_
  rintro e v1 ⟨rfl, hK1⟩
  obtain ⟨V1, N1, hV1, hN1, hb1, hk1, -⟩ := zar v1 za2  58
  have HK : Hid (Kept (fun k => k < w.heap.size) w V1) := kt hK1 hk1
  have HV1 : Hid (v1.alloc (.cells za2 58) = V1) := hV1
  have HN1 : Hid (v1.heap.size = N1) := hN1
  clear rn hV1 hN1 hk1 hK1 hb1
  go_upto_region 2 with fail
  rw [HV1.out, HN1.out]
  clear HV1 HN1
  go_wp2
  go_ret
  exact ⟨by rw [HE.out]; rfl, HK.out⟩
 ·obtain ⟨k, rfl⟩ : ∃ k : Nat, i = (k : Int) := ⟨i.toNat, by omega⟩
  have hk : k < M.n := by omega
  rw [zj3 hk] at hZ
  have HZ : Hid (upZ M R G k = Z) := hZ
  have rn := h.node hk
  have HR : Hid (Rd K w p M R G rk) := h
  have HKL : Hid (k < M.n) := hk
  have HUPS : Hid ((M.pl k).up = -1 \/ ∃ u : Nat, u < M.n /\ (M.pl k).up = (u : Int)) := h.inv.ups' hk
  clear h hZ cI hk
  go_enter Tryz.func44, Tryz.ntmps44
  go_wp2_with fail
  refine rn.mono ?_
  rintro e v1 ⟨ao1, ac1, ko1, kc1, rfl, hO1, hQ1, hK1⟩
  obtain ⟨V1, N1, hV1, hN1, hB1⟩ := Zb1.of (up := (M.pl k).up) hO1 hQ1 hK1
  have HV1 : Hid (v1.alloc (.cells (nV (M.nd k) ao1 ac1 ((M.pl k).up) ko1 (R k).length kc1) 58) = V1) := hV1
  have HN1 : Hid (v1.heap.size = N1) := hN1
  have HB1 : Hid (Zb1 w V1 N1 (M.nd k) ((M.pl k).up) (R k) ao1 ac1 ko1 kc1) := hB1
  have c4 := hB1.c4
  have HK1 : Hid (Kept (fun k => k < w.heap.size) w V1) := hB1.kept
  clear rn hO1 hQ1 hK1 hV1 hN1 hB1
  go_upto_region 2 with fail
  rw [HV1.out, HN1.out]
  clear HV1 HN1
  rcases HUPS.out with hu | ⟨u, hun, hu⟩
  ·have HE : Hid (Z = -1) := by rw [<- HZ.out]; unfold upZ; rw [if_pos hu]; exact rfl
   rw [hu] at c4
   clear hu
   go_wp2
   go_ret
   exact ⟨by rw [HE.out]; rfl, HK1.out⟩
  ·rw [hu] at c4
   have HU : Hid ((M.pl k).up = (u : Int)) := hu
   have HUN : Hid (u < M.n) := hun
   have rn2 := (HR.out.kept HK1.out).node hun
   have e4 : ((u : Int) == -1) = false := by simp
   have e4' : ¬ (u : Int) = -1 := by omega
   have HZ2 : Hid (Z = if (M.nd u).kind = 5 then (M.nd u).host else if (M.nd u).shadow ≠ -1 then zbi M R k else if za8 M R G u = [] then (u : Int) else -1) := by rw [<- HZ.out]; unfold upZ; rw [hu, if_neg e4', Int.toNat_natCast]; exact rfl
   clear hu hun
   go_wp2_with fail
   refine rn2.mono ?_
   rintro e v2 ⟨ao2, ac2, ko2, kc2, rfl, hO2, hQ2, hK2⟩
   obtain ⟨V2, N2, hV2, hN2, hB2⟩ := Zb1.of (up := (M.pl u).up) hO2 hQ2 hK2
   have HV2 : Hid (v2.alloc (.cells (nV (M.nd u) ao2 ac2 ((M.pl u).up) ko2 (R u).length kc2) 58) = V2) := hV2
   have HN2 : Hid (v2.heap.size = N2) := hN2
   have HB2 : Hid (Zb1 V1 V2 N2 (M.nd u) ((M.pl u).up) (R u) ao2 ac2 ko2 kc2) := hB2
   have d0 := hB2.c0
   have d6 := hB2.c6
   have d7 := hB2.c7
   have HB1b : Hid (Zb1 w V2 N1 (M.nd k) (M.pl k).up (R k) ao1 ac1 ko1 kc1) := HB1.out.later hB2.kept
   have HK2 : Hid (Kept (fun k => k < w.heap.size) w V2) := HB1b.out.kept
   have c4' := HB1b.out.c4
   rw [HU.out] at c4'
   obtain ⟨kd, hkd⟩ : ∃ kd, (M.nd u).kind = kd := ⟨_, rfl⟩
   have HKD : Hid ((M.nd u).kind = kd) := hkd
   rw [hkd] at d0
   clear rn2 hO2 hQ2 hK2 hV2 hN2 hB2 c4 hkd
   go_upto_region 5 with fail
   rw [HV2.out, HN2.out]
   clear HV2 HN2
   by_cases c5 : kd = 5
   ·subst c5
    have HE : Hid (Z = (M.nd u).host) := by rw [HZ2.out, if_pos HKD.out]; exact rfl
    obtain ⟨ho, hho⟩ : ∃ ho, (M.nd u).host = ho := ⟨_, rfl⟩
    rw [hho] at d7 HE
    clear hho
    go_wp2
    go_ret
    exact ⟨by rw [HE.out]; rfl, HK2.out⟩
   ·have e5 : ((kd : Int) == 5) = false := by simp; omega
    have e5' : ¬ (kd : Int) = 5 := by omega
    have HZ3 : Hid (Z = if (M.nd u).shadow ≠ -1 then zbi M R k else if za8 M R G u = [] then (u : Int) else -1) := by rw [HZ2.out, if_neg (by rw [HKD.out]; exact c5)]; exact rfl
    have HSH : Hid ((M.nd u).shadow = -1 \/ ∃ s : Nat, s < M.n /\ (M.nd u).shadow = (s : Int)) := (HR.out.inv.core.shad u HUN.out).imp id fun ⟨s, h1, h2, _⟩ => ⟨s, h1, h2⟩
    clear c5 d7
    rcases HSH.out with hs | ⟨s, hsn, hs⟩
    ·rw [hs] at d6
     have ra := (HR.out.kept HK2.out).assigned (u : Int)
     rw [zdk HUN.out] at ra
     obtain ⟨A, hA⟩ : ∃ A, za8 M R G u = A := ⟨_, rfl⟩
     rw [hA] at ra
     have HE : Hid (Z = if A = [] then (u : Int) else -1) := by rw [HZ3.out, if_neg (by rw [hs]; simp), hA]; exact rfl
     have HNV : Hid (N1 < V2.heap.size) := World.block_lt_of_cell? V2 _ c4'
     clear hs hA
     go_wp2_with fail
     refine ra.mono ?_
     rintro e w2 hl2
     obtain ⟨pa, pc, rfl, -, hk2⟩ := hl2
     have c4w : w2.cell? ⟨N1, 4, none⟩ = some (.int .i64 (u : Int)) := (hk2.cell (p := ⟨N1, 4, none⟩) HNV.out).trans c4'
     have HK3 : Hid (Kept (fun k => k < w.heap.size) w w2) := kt HK2.out hk2
     clear ra hk2 d6 d0 c4'
     by_cases ca : A = []
     ·have HE2 : Hid (Z = (u : Int)) := by rw [HE.out, if_pos ca]; exact rfl
      subst ca
      have e0 : decide (((0 : Nat) : Int) > 0) = false := by decide
      clear HE
      go_wp2
      go_ret
      exact ⟨by rw [HE2.out]; rfl, HK3.out⟩
     ·have HE2 : Hid (Z = -1) := by rw [HE.out, if_neg ca]; exact rfl
      obtain ⟨al, hal⟩ : ∃ al, A.length = al := ⟨_, rfl⟩
      have h0 : 0 < al := by rw [<- hal]; exact List.length_pos_iff.2 ca
      have e0 : decide ((al : Int) > 0) = true := decide_eq_true (by omega)
      rw [hal]
      clear ca hal HE
      go_wp2
      go_ret
      exact ⟨by rw [HE2.out]; rfl, HK3.out⟩
    ·rw [hs] at d6
     have rf := (HR.out.kept HK2.out).find (k : Int)
     rw [zga HKL.out] at rf
     have HE : Hid (Z = zbi M R k) := by rw [HZ3.out, if_pos (by rw [hs]; omega)]; exact rfl
     rw [<- HE.out] at rf
     have e6 : ((s : Int) == -1) = false := by simp
     have e6' : ¬ (s : Int) = -1 := by omega
     have e6n : ((s : Int) != -1) = true := by simp
     clear hs c4'
     go_wp2_with fail
     refine rf.mono ?_
     rintro e w2 ⟨rfl, hk2⟩
     clear rf
     go_wp2
     go_ret
     exact ⟨rfl, kt HK2.out hk2⟩
end
end Go.Proofs.YtfeinppedejlpaaGreat
