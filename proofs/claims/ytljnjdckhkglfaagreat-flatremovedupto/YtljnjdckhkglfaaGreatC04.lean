/-
 slots: rootOf, shown, Assigned, Slots.; flat: Kids, Up.; A list that grows behind a closure; flat.Walk.; A document that is made call by call.; portierelaw13: known.
-/
import Derived.Test.YtljnjdckhkglfaaGreatC03
import Derived.Test.YtljnjdckhkglfaaGreatB06
import Derived.Test.YtljnjdckhkglfaaGreatB15
import Derived.Test.YtljnjdckhkglfaaGreatB16
namespace Go.Proofs.YtljnjdckhkglfaaGreat
set_option linter.unusedVariables false
set_option maxRecDepth 100000
set_option maxHeartbeats 8000000
section
open Go.RowKit
theorem Lst.nil (w w' : World) (hk : Kept (fun k => k < w.heap.size) w w') : Lst w [] (.returned (.slice none 0 0)) w' := ⟨none, 0, rfl, OwnZ.nil _ _ _ _, hk⟩
theorem Lst.on {w X w' : World} {l : List Nat} {e : Ending} (h : Lst X l e w') (hk : Kept (fun k => k < w.heap.size) w X) : Lst w l e w' := by
 obtain ⟨ao, c, e1, hO, hK⟩ := h
 exact ⟨ao, c, e1, hO.to (fun g hg hh => (hO.out hg).1 (Nat.lt_of_lt_of_le hh hk.size)) (fun _ _ => rfl), hk.trans (hK.mono fun k h => Nat.lt_of_lt_of_le h hk.size)⟩
noncomputable def rootI (M : Dm) (i : Int) : Int := if (i < 0 \/ (M.n : Int) <= i) \/ isSl (M.nd i.toNat) = false then -1 else ofZ M i
section
variable {K : Nat -> Prop} {w : World} {p : Nat} {M : Dm} {R G : Nat -> List Nat} {rk : Nat -> Nat}
theorem Rd.given (h : Rd K w p M R G rk) {i : Nat} (hi : i < M.n) : Calls Tryz.prog 118 #[.pointer (some ⟨p, 0, none⟩), .int .i64 (i : Int)] w (Lst w (G i)) :=
 given_in K p i M G w h.d h.inv.gw hi (by have := h.le; omega)
theorem Rd.rootOf (h : Rd K w p M R G rk) (i : Int) :
  Calls Tryz.prog 69 #[.pointer (some ⟨p, 0, none⟩), .int .i64 i] w fun e w' => e = .returned (.int .i64 (rootI M i)) /\ Kept (fun k => k < w.heap.size) w w' := by
 obtain ⟨Z, hZ⟩ : ∃ Z, rootI M i = Z := ⟨_, rfl⟩
 have HZ : Hid (rootI M i = Z) := hZ
 rw [hZ]
 by_cases cI : i < 0 \/ (M.n : Int) <= i
 ·have rn := h.noNode cI
  have HE : Hid (Z = -1) := by rw [<- hZ]; unfold rootI; rw [if_pos (.inl cI)]; exact rfl
  clear h hZ cI
  go_enter Tryz.func69, Tryz.ntmps69
  go_wp2_with fail
  refine rn.mono ?_
  rintro e v1 ⟨rfl, hK1⟩
  obtain ⟨V1, N1, hV1, hN1, hb1, hk1, -⟩ := alloc_box v1 zero14 41
  have rs := isSl_any zeroNd none 0 0 none 0 0 V1
  rw [<- zero_nV] at rs
  have HK : Hid (Kept (fun k => k < w.heap.size) w V1) := hK1.trans (hk1.mono fun k h => Nat.lt_of_lt_of_le h hK1.size)
  have HV1 : Hid (v1.alloc (.cells zero14 41) = V1) := hV1
  have HN1 : Hid (v1.heap.size = N1) := hN1
  have hs0 : isSl zeroNd = false := rfl
  rw [hs0] at rs
  clear rn hV1 hN1 hk1 hK1
  go_upto_region 2 with fail
  rw [HV1.out, HN1.out]
  clear HV1 HN1
  go_wp2_with (refine wpList_load_row rfl 41 _ rfl N1 rfl 41 zero14 (0, 0) _ hb1 Tryz.underlying41 rfl (size41 zero14 rfl) ?_)
  refine rs.mono ?_
  rintro e w2 ⟨rfl, hk2⟩
  clear rs
  go_wp2
  go_ret
  exact ⟨by rw [HE.out]; rfl, HK.out.trans (hk2.mono fun k h => Nat.lt_of_lt_of_le h HK.out.size)⟩
 ·obtain ⟨k, rfl⟩ : ∃ k : Nat, i = (k : Int) := ⟨i.toNat, by omega⟩
  have hk : k < M.n := by omega
  have HE : Hid (Z = if isSl (M.nd k) = false then -1 else ofZ M (k : Int)) := by
   rw [<- hZ]
   unfold rootI
   rw [Int.toNat_natCast]
   by_cases c : isSl (M.nd k) = false
   ·rw [if_pos (.inr c), if_pos c]; exact rfl
   ·rw [if_neg (fun hh => hh.elim cI c), if_neg c]; exact rfl
  have rn := h.node hk
  have HR : Hid (Rd K w p M R G rk) := h
  clear h hZ cI hk
  go_enter Tryz.func69, Tryz.ntmps69
  go_wp2_with fail
  refine rn.mono ?_
  rintro e v1 ⟨ao1, ac1, ko1, kc1, rfl, hO1, hQ1, hK1⟩
  obtain ⟨V1, N1, hV1, hN1, hB1⟩ := BoxN.of (up := (M.pl k).up) hO1 hQ1 hK1
  have HV1 : Hid (v1.alloc (.cells (nV (M.nd k) ao1 ac1 ((M.pl k).up) ko1 (R k).length kc1) 41) = V1) := hV1
  have HN1 : Hid (v1.heap.size = N1) := hN1
  have HB1 : Hid (BoxN w V1 N1 (M.nd k) ((M.pl k).up) (R k) ao1 ac1 ko1 kc1) := hB1
  have rs := isSl_any (M.nd k) ao1 ac1 (M.pl k).up ko1 (R k).length kc1 V1
  have hb1 := hB1.blk
  obtain ⟨cs, hcs⟩ : ∃ cs, nV (M.nd k) ao1 ac1 (M.pl k).up ko1 (R k).length kc1 = cs := ⟨_, rfl⟩
  have hcz : cs.size = 14 := by rw [<- hcs]; rfl
  rw [hcs] at rs hb1
  obtain ⟨q, hq⟩ : ∃ q, isSl (M.nd k) = q := ⟨_, rfl⟩
  rw [hq] at rs HE
  clear rn hO1 hQ1 hK1 hV1 hN1 hB1 hcs hq
  go_upto_region 2 with fail
  rw [HV1.out, HN1.out]
  clear HV1 HN1
  go_wp2_with (refine wpList_load_row rfl 41 _ rfl N1 rfl 41 cs (0, 0) _ hb1 Tryz.underlying41 rfl (size41 cs hcz) ?_)
  refine rs.mono ?_
  rintro e w2 ⟨rfl, hk2⟩
  have HK2 : Hid (Kept (fun k => k < w.heap.size) w w2) := (HB1.out.later hk2).kept
  clear rs hk2 hb1 HB1
  cases q with
  | false =>
   have h0 : Z = -1 := by simpa using HE.out
   have HE0 : Hid (Z = -1) := h0
   clear HE h0
   go_wp2
   go_ret
   exact ⟨by rw [HE0.out]; rfl, HK2.out⟩
  | true =>
   have ro := (HR.out.kept HK2.out).of (k : Int)
   rw [if_neg (by simp)] at HE
   rw [<- HE.out] at ro
   go_wp2_with fail
   refine ro.mono ?_
   rintro e w3 ⟨rfl, hk3⟩
   clear ro
   go_wp2
   go_ret
   exact ⟨rfl, HK2.out.trans (hk3.mono fun k h => Nat.lt_of_lt_of_le h HK2.out.size)⟩
theorem Rd.shown (h : Rd K w p M R G rk) {i s : Nat} (hi : i < M.n) (hs : s < M.n) (h5 : (M.nd s).kind = 5) :
  Calls Tryz.prog 70 #[.pointer (some ⟨p, 0, none⟩), .int .i64 (i : Int), .int .i64 (s : Int)] w (Lst w (shwL M R G i s)) := by
 obtain ⟨o, ho, eo, -⟩ := h.inv.host hs h5
 have rn := h.node hs
 have HR : Hid (Rd K w p M R G rk) := h
 have HI : Hid (i < M.n) := hi
 have HS : Hid (s < M.n) := hs
 have HO : Hid (o < M.n) := ho
 have HEO : Hid ((M.nd s).host = (o : Int)) := eo
 obtain ⟨L, hL⟩ : ∃ L, shwL M R G i s = L := ⟨_, rfl⟩
 have HL : Hid (shwL M R G i s = L) := hL
 rw [hL]
 clear h hi hs h5 ho eo hL
 go_enter Tryz.func70, Tryz.ntmps70
 go_wp2_with fail
 refine rn.mono ?_
 rintro e v1 ⟨ao1, ac1, ko1, kc1, rfl, hO1, hQ1, hK1⟩
 obtain ⟨V1, N1, hV1, hN1, hB1⟩ := BoxN.of (up := (M.pl s).up) hO1 hQ1 hK1
 have HV1 : Hid (v1.alloc (.cells (nV (M.nd s) ao1 ac1 ((M.pl s).up) ko1 (R s).length kc1) 41) = V1) := hV1
 have HN1 : Hid (v1.heap.size = N1) := hN1
 have HB1 : Hid (BoxN w V1 N1 (M.nd s) ((M.pl s).up) (R s) ao1 ac1 ko1 kc1) := hB1
 have c10 := hB1.c10
 have c7 := hB1.c7
 rw [HEO.out] at c7
 obtain ⟨mb, hmb⟩ : ∃ b, (M.nd s).fl.b = b := ⟨_, rfl⟩
 have HMB : Hid ((M.nd s).fl.b = mb) := hmb
 rw [hmb] at c10
 have HK1 : Hid (Kept (fun k => k < w.heap.size) w V1) := hB1.kept
 clear rn hO1 hQ1 hK1 hV1 hN1 hB1 hmb
 go_upto_region 2 with fail
 rw [HV1.out, HN1.out]
 clear HV1 HN1
 cases mb with
 | true =>
  have HE : Hid (L = (G i).filter fun k => decide ((M.pl k).up = (o : Int))) := by rw [<- HL.out]; unfold shwL; rw [HMB.out, if_pos rfl, HEO.out]; exact rfl
  have HC7 : Hid (∀ Y, Kept (fun k => k < V1.heap.size) V1 Y -> Y.cell? ⟨N1, 7, none⟩ = some (.int .i64 (o : Int))) := fun Y hY => (hY.cell (p := ⟨N1, 7, none⟩) (World.block_lt_of_cell? V1 _ c7)).trans c7
  have RR : Hid (∀ Y, Kept (fun k => k < V1.heap.size) V1 Y -> Rd K Y p M R G rk) := fun Y hY => (HR.out.kept HK1.out).kept hY
  have HGL : Hid ((G i).length <= 1000000 /\ ∀ k ∈ G i, k < M.n) := ⟨by have h1 := HR.out.inv.gw.len_le HI.out; have h2 := HR.out.le; omega, HR.out.inv.gw.lt i HI.out⟩
  go_upto_region 3 with fail
  clear c7 c10
  refine wp_region_held_drew (S := fun Y => Kept (fun k => k < V1.heap.size) V1 Y) (by kernel_rfl) ((Kept.refl _ V1).drew) (fun hHeld => ?_)
  refine tkH 0 24 (.pointer (some ⟨p, 0, none⟩)) rfl rfl (by kernel_rfl) (by rfl) (by intro Y hY; go_simp; try with_reducible rfl) (fun _ _ _ h => h) hHeld ?_
  try simp only [Act.put, sA, s0, s1]
  refine tkH 1 25 (.int .i64 (i : Int)) rfl rfl (by kernel_rfl) (by rfl) (by intro Y hY; go_simp; try with_reducible rfl) (fun _ _ _ h => h) hHeld ?_
  try simp only [Act.put, sA, s0, s1]
  refine tkH 3 27 (.pointer (some ⟨p, 0, none⟩)) rfl rfl (by kernel_rfl) (by rfl) (by intro Y hY; go_simp; try with_reducible rfl) (fun _ _ _ h => h) hHeld ?_
  try simp only [Act.put, sA, s0, s1]
  refine tkH 4 28 (.pointer (some ⟨N1, 7, none⟩)) rfl rfl (by kernel_rfl) (by rfl) (by intro Y hY; go_simp; try with_reducible rfl) (fun _ _ _ h => h) hHeld ?_
  try simp only [Act.put, sA, s0, s1]
  refine tkH 5 29 (.int .i64 (o : Int)) rfl rfl (by kernel_rfl) (by rfl) (by intro Y hY; have hc := HC7.out Y hY; go_simp; try with_reducible rfl) (fun _ _ _ h => h) hHeld ?_
  try simp only [Act.put, sA, s0, s1]
  refine clH 2 26 118 #[.pointer (some ⟨p, 0, none⟩), .int .i64 (i : Int)] rfl rfl (by kernel_rfl) (by rfl) rfl (by first | rfl | (simp [Act.eval]; done) | (simp [Act.eval, Act.put]; done)) (enter118 _ _) ((RR.out _ hHeld).given HI.out) ?_
  rintro e Y ⟨ga, gc, rfl, hGO, hk9⟩
  refine ⟨_, rfl, hHeld.trans (hk9.mono fun k h => Nat.lt_of_lt_of_le h hHeld.size), fun hHeld2 => ?_⟩
  replace hHeld := hHeld2
  clear hHeld2
  try simp only [Act.put, sA, s0, s1]
  have hrow : IntsAt (fun g => g < Y.heap.size) Y ga (G i) := hGO.intsAt fun g hg => (hGO.out hg).2
  refine clH 6 30 119 #[.int .i64 (o : Int)] rfl rfl (by kernel_rfl) (by rfl) rfl (by first | rfl | (simp [Act.eval]; done) | (simp [Act.eval, Act.put]; done)) (enter119 _ _) (isIn_any _ _) ?_
  rintro e Y2 ⟨rfl, rfl⟩
  refine ⟨_, rfl, hHeld.trans (((Kept.refl (fun k => k < Y.heap.size) Y).alloc (fun _ h => h) (.cells #[.int .i64 (o : Int)] 3)).mono fun k h => Nat.lt_of_lt_of_le h hHeld.size), fun hHeld2 => ?_⟩
  replace hHeld := hHeld2
  clear hHeld2
  try simp only [Act.put, sA, s0, s1]
  have hask : AskN (Y.alloc (.cells #[.int .i64 (o : Int)] 3)) (.func (.func 155) #[] #[.pointer (some ⟨Y.heap.size, 0, none⟩)]) fun _ up => decide (up = (o : Int)) := ask_isIn (by rw [cell_block (heap_alloc_new Y _)]; rfl)
  have hkY2 : Kept (fun k => k < Y.heap.size) Y (Y.alloc (.cells #[.int .i64 (o : Int)] 3)) := (Kept.refl _ Y).alloc (fun _ h => h) _
  obtain ⟨W2, hW2⟩ : ∃ W2, Y.alloc (.cells #[.int .i64 (o : Int)] 3) = W2 := ⟨_, rfl⟩
  rw [hW2] at hask hkY2 hHeld ⊢
  refine clH 7 31 77 #[.pointer (some ⟨p, 0, none⟩), .func (.func 155) #[] #[.pointer (some ⟨Y.heap.size, 0, none⟩)]] rfl rfl (by kernel_rfl) (by rfl) rfl (by first | rfl | (simp [Act.eval]; done) | (simp [Act.eval, Act.put]; done)) (enter77 _ _) ((RR.out _ hHeld).byNumber hask) ?_
  rintro e Y3 ⟨u, rfl, hT, hk9⟩
  refine ⟨_, rfl, hHeld.trans (hk9.mono fun k h => Nat.lt_of_lt_of_le h hHeld.size), fun hHeld2 => ?_⟩
  replace hHeld := hHeld2
  clear hHeld2
  try simp only [Act.put, sA, s0, s1]
  have kY3 : Kept (fun k => k < Y.heap.size) Y Y3 := hkY2.trans (hk9.mono fun k h => Nat.lt_of_lt_of_le h hkY2.size)
  have HKV3 : Hid (Kept (fun k => k < V1.heap.size) V1 Y3) := hHeld
  have rp := pick_any (G i) (G i).length M.n rfl HGL.out.1 HGL.out.2 ga gc u _ Y3 (hrow.to (fun g hg => Nat.lt_of_lt_of_le hg kY3.size) (fun g hg => kY3.block g hg)) hT
  refine clH 8 32 75 #[.slice ga (G i).length gc, u] rfl rfl (by kernel_rfl) (by rfl) rfl (by first | rfl | (simp [Act.eval]; done) | (simp [Act.eval, Act.put]; done)) (enter75 _ _) (rp) ?_
  rintro e Y4 ⟨pa, pc, rfl, hPO, hk9⟩
  refine ⟨_, rfl, hHeld.trans (hk9.mono fun k h => Nat.lt_of_lt_of_le h hHeld.size), fun hHeld2 => ?_⟩
  replace hHeld := hHeld2
  clear hHeld2
  try simp only [Act.put, sA, s0, s1]
  obtain ⟨pl, hpl⟩ : ∃ pl, ((G i).filter fun k => decide ((M.pl k).up = (o : Int))).length = pl := ⟨_, rfl⟩
  rw [hpl] at hPO ⊢
  have HK9 : Hid (Kept (fun k => k < Y3.heap.size) Y3 Y4) := hk9
  have HPL : Hid (((G i).filter fun k => decide ((M.pl k).up = (o : Int))).length = pl) := hpl
  have HPO : Hid (OwnZ (fun k => k < Y3.heap.size) Y4 3 1 pa pl pc (ivs ((G i).filter fun k => decide ((M.pl k).up = (o : Int))))) := hPO
  refine tkH 9 6 (.slice pa pl pc) rfl rfl (by kernel_rfl) (by rfl) (by intro Y hY; go_simp; try with_reducible rfl) (fun _ _ _ h => h) hHeld ?_
  try simp only [Act.put, sA, s0, s1]
  refine wpAnyH_done (by kernel_rfl) ?_ _
  clear hrow hask hkY2 kY3 hT hPO rp hpl hk9
  go_wp2
  go_ret
  exact Lst.on (X := Y3) ⟨pa, pc, by rw [HE.out, HPL.out]; rfl, by rw [HE.out, HPL.out]; exact HPO.out, HK9.out⟩ (HK1.out.trans (HKV3.out.mono fun k h => Nat.lt_of_lt_of_le h HK1.out.size))
 | false =>
  have rn2 := (HR.out.kept HK1.out).node HI.out
  go_wp2_with fail
  refine rn2.mono ?_
  rintro e v2 ⟨ao2, ac2, ko2, kc2, rfl, hO2, hQ2, hK2⟩
  obtain ⟨V2, N2, hV2, hN2, hB2⟩ := BoxN.of (up := (M.pl i).up) hO2 hQ2 hK2
  have HV2 : Hid (v2.alloc (.cells (nV (M.nd i) ao2 ac2 ((M.pl i).up) ko2 (R i).length kc2) 41) = V2) := hV2
  have HN2 : Hid (v2.heap.size = N2) := hN2
  have HB2 : Hid (BoxN V1 V2 N2 (M.nd i) ((M.pl i).up) (R i) ao2 ac2 ko2 kc2) := hB2
  have c7' := (HB1.out.later hB2.kept).c7
  rw [HEO.out] at c7'
  have HK2 : Hid (Kept (fun k => k < w.heap.size) w V2) := (HB1.out.later hB2.kept).kept
  have rn3 := (HR.out.kept HK2.out).node HO.out
  clear rn2 hO2 hQ2 hK2 hV2 hN2 hB2 c7
  go_upto_region 5 with fail
  rw [HV2.out, HN2.out]
  clear HV2 HN2
  go_wp2_with fail
  refine rn3.mono ?_
  rintro e v3 ⟨ao3, ac3, ko3, kc3, rfl, hO3, hQ3, hK3⟩
  obtain ⟨V3, N3, hV3, hN3, hB3⟩ := BoxN.of (up := (M.pl o).up) hO3 hQ3 hK3
  have HV3 : Hid (v3.alloc (.cells (nV (M.nd o) ao3 ac3 ((M.pl o).up) ko3 (R o).length kc3) 41) = V3) := hV3
  have HN3 : Hid (v3.heap.size = N3) := hN3
  have HB3 : Hid (BoxN V2 V3 N3 (M.nd o) ((M.pl o).up) (R o) ao3 ac3 ko3 kc3) := hB3
  have HB2b : Hid (BoxN V1 V3 N2 (M.nd i) (M.pl i).up (R i) ao2 ac2 ko2 kc2) := HB2.out.later hB3.kept
  have HK3 : Hid (Kept (fun k => k < w.heap.size) w V3) := HK2.out.trans (hB3.kept.mono fun k h => Nat.lt_of_lt_of_le h HK2.out.size)
  obtain ⟨nm, hnm⟩ : ∃ nm, atV nameN (M.nd i).attrs = nm := ⟨_, rfl⟩
  have ra := attr_any (M.nd i) ao2 ac2 (M.pl i).up ko2 (R i).length kc2 ⟨#[110, 97, 109, 101]⟩ V3 (HR.out.few HI.out) HB2b.out.ats
  rw [ByteArray.toList_eq] at ra
  replace ra : Calls Tryz.prog 65 #[.agg (nV (M.nd i) ao2 ac2 (M.pl i).up ko2 (R i).length kc2), .string ⟨#[110, 97, 109, 101]⟩] V3 fun e w' => e = .returned (sv nm) /\ Kept (fun k => k < V3.heap.size) V3 w' := by rw [<- hnm]; exact ra
  have hb2 := HB2b.out.blk
  obtain ⟨cs, hcs⟩ : ∃ cs, nV (M.nd i) ao2 ac2 (M.pl i).up ko2 (R i).length kc2 = cs := ⟨_, rfl⟩
  have hcz : cs.size = 14 := by rw [<- hcs]; rfl
  rw [hcs] at ra hb2
  have HE : Hid (L = if fstS M R nm s = (i : Int) then (R o).filter (fun k => asksB nm (M.nd k)) else []) := by rw [<- HL.out]; unfold shwL; rw [HMB.out, if_neg (by simp), HEO.out, Int.toNat_natCast, hnm]; exact rfl
  clear rn3 hO3 hQ3 hK3 hV3 hN3 hB3 c7' hcs hnm
  go_upto_region 6 with fail
  rw [HV3.out, HN3.out]
  clear HV3 HN3
  go_upto_region 7 with (first | (refine wpList_load_row rfl 41 _ rfl N2 rfl 41 cs (0, 0) _ hb2 Tryz.underlying41 rfl (size41 cs hcz) ?_) | (go_at_call 65; refine ra.mono ?_; rintro e w4 ⟨rfl, hk4⟩))
  have HB4 : Hid (BoxN V2 w4 N3 (M.nd o) (M.pl o).up (R o) ao3 ac3 ko3 kc3) := HB3.out.later hk4
  have HK4 : Hid (Kept (fun k => k < w.heap.size) w w4) := HK3.out.trans (hk4.mono fun k h => Nat.lt_of_lt_of_le h HK3.out.size)
  obtain ⟨V5, N5, hV5, hN5, hb5, hk5, -⟩ := alloc_box w4 #[sv nm] 9
  have rq := asksFor_any ⟨nm.toArray⟩ w4
  have hask : AskN V5 (.func (.func 156) #[] #[.pointer (some ⟨N5, 0, none⟩)]) fun x _ => asksB nm x := by
   have := ask_asks (s := ⟨nm.toArray⟩) (b := N5) (w := V5) (by rw [cell_block hb5]; rfl)
   rw [ByteArray.toList_eq] at this
   exact this
  have HK5 : Hid (Kept (fun k => k < w.heap.size) w V5) := HK4.out.trans (hk5.mono fun k h => Nat.lt_of_lt_of_le h HK4.out.size)
  have HB5 : Hid (BoxN V2 V5 N3 (M.nd o) (M.pl o).up (R o) ao3 ac3 ko3 kc3) := HB4.out.later hk5
  have rb := (HR.out.kept HK5.out).byNumber hask
  have rq' : Calls Tryz.prog 120 #[.string ⟨nm.toArray⟩] w4 fun e w' => e = .returned (.func (.func 156) #[] #[.pointer (some ⟨N5, 0, none⟩)]) /\ w' = V5 := by rw [<- hN5, <- hV5]; exact rq
  clear ra hb2 hk4 hV5 hN5 hb5 hk5 rq hask HB3 HB2b
  go_upto_region 8 with (first | (go_at_call 120; refine rq'.mono ?_; rintro e w5 ⟨rfl, hw5⟩; subst hw5) | (go_at_call 77; refine rb.mono ?_; rintro e w6 ⟨u, rfl, hT, hk6⟩))
  have HT : Hid (TellK w6 u (fun k => asksB nm (M.nd k)) M.n) := hT
  have hB6 := HB5.out.later hk6
  have d5 := hB6.c5
  have HK6 : Hid (Kept (fun k => k < w.heap.size) w w6) := HK5.out.trans (hk6.mono fun k h => Nat.lt_of_lt_of_le h HK5.out.size)
  have HRL : Hid ((R o).length <= 1000000 /\ ∀ k ∈ R o, k < M.n) := ⟨by have h1 := HR.out.inv.good.wf.len_le HO.out; have h2 := HR.out.le; omega, HR.out.inv.good.wf.lt o HO.out⟩
  have rc := containsK_any (R o) (R o).length M.n rfl HRL.out.1 HRL.out.2 ko3 kc3 u _ w6 hB6.row hT
  have HB6 : Hid (BoxN V2 w6 N3 (M.nd o) (M.pl o).up (R o) ao3 ac3 ko3 kc3) := hB6
  obtain ⟨kl, hkl⟩ : ∃ kl, (R o).length = kl := ⟨_, rfl⟩
  have HKL : Hid ((R o).length = kl) := hkl
  rw [hkl] at rc d5
  obtain ⟨f9, caps9, hu9, he9, hc9⟩ := hT
  subst hu9
  clear hc9 rq' rb hB6 hkl hk6
  obtain ⟨an, han⟩ : ∃ an, (R o).any (fun k => asksB nm (M.nd k)) = an := ⟨_, rfl⟩
  have HAN : Hid ((R o).any (fun k => asksB nm (M.nd k)) = an) := han
  rw [han] at rc
  clear han
  go_wp2_with fail
  refine rc.mono ?_
  rintro e w7 ⟨rfl, hk7⟩
  have HK7 : Hid (Kept (fun k => k < w.heap.size) w w7) := HK6.out.trans (hk7.mono fun k h => Nat.lt_of_lt_of_le h HK6.out.size)
  have HB7 : Hid (BoxN V2 w7 N3 (M.nd o) (M.pl o).up (R o) ao3 ac3 ko3 kc3) := HB6.out.later hk7
  have HT7 : Hid (TellK w7 (.func (.func f9) #[] caps9) (fun k => asksB nm (M.nd k)) M.n) := HT.out.kept hk7
  clear rc hk7 d5 HB6
  cases an with
  | false =>
   have HN : Hid (L = []) := by
    rw [HE.out]
    have : (R o).filter (fun k => asksB nm (M.nd k)) = [] := List.filter_eq_nil_iff.2 fun x hx => by have := List.any_eq_false.1 HAN.out x hx; simpa using this
    rw [this]
    split <;> exact rfl
   clear he9
   go_wp2
   go_ret
   rw [HN.out]
   exact Lst.nil w _ HK7.out
  | true =>
   obtain ⟨V8, N8, hV8, hN8, hb8, hk8, -⟩ := alloc_box w7 #[sv nm] 9
   have rs := slotNamed_any ⟨nm.toArray⟩ w7
   have rs' : Calls Tryz.prog 64 #[.string ⟨nm.toArray⟩] w7 fun e w' => e = .returned (.func (.func 115) #[] #[.pointer (some ⟨N8, 0, none⟩)]) /\ w' = V8 := by rw [<- hN8, <- hV8]; exact rs
   have hask : AskN V8 (.func (.func 115) #[] #[.pointer (some ⟨N8, 0, none⟩)]) fun x _ => slNm nm x := by
    have := ask_named (s := ⟨nm.toArray⟩) (b := N8) (w := V8) (by rw [cell_block hb8]; rfl)
    rw [ByteArray.toList_eq] at this
    exact this
   have HK8 : Hid (Kept (fun k => k < w.heap.size) w V8) := HK7.out.trans (hk8.mono fun k h => Nat.lt_of_lt_of_le h HK7.out.size)
   have HB8 : Hid (BoxN V2 V8 N3 (M.nd o) (M.pl o).up (R o) ao3 ac3 ko3 kc3) := HB7.out.later hk8
   have HT8 : Hid (TellK V8 (.func (.func f9) #[] caps9) (fun k => asksB nm (M.nd k)) M.n) := HT7.out.kept hk8
   have rf := (HR.out.kept HK8.out).first HS.out hask
   obtain ⟨fz, hfz⟩ : ∃ fz, fstO (fun k => slNm nm (M.nd k)) (tr M.n R s) = fz := ⟨_, rfl⟩
   have HFZ : Hid (fstS M R nm s = fz) := hfz
   have rf' : Calls Tryz.prog 63 #[.pointer (some ⟨p, 0, none⟩), .int .i64 (s : Int), .func (.func 115) #[] #[.pointer (some ⟨N8, 0, none⟩)]] V8 fun e w' => e = .returned (.int .i64 fz) /\ Kept (fun k => k < V8.heap.size) V8 w' := by rw [<- hfz]; exact rf
   clear rs hV8 hN8 hb8 hk8 hask rf hfz HB7 HT7 he9
   go_wp2_with (go_at_call 64; refine rs'.mono ?_; rintro e w9 ⟨rfl, hw9⟩; subst hw9)
   refine rf'.mono ?_
   rintro e w10 ⟨rfl, hk10⟩
   have hB10 := HB8.out.later hk10
   have d5 := hB10.c5
   rw [HKL.out] at d5
   have HK10 : Hid (Kept (fun k => k < w.heap.size) w w10) := HK8.out.trans (hk10.mono fun k h => Nat.lt_of_lt_of_le h HK8.out.size)
   have rp := pick_any (R o) kl M.n HKL.out (by rw [<- HKL.out]; exact HRL.out.1) HRL.out.2 ko3 kc3 _ _ w10 hB10.row (HT8.out.kept hk10)
   clear rs' rf' hk10 hB10
   by_cases cf : fz = (i : Int)
   ·have HLE : Hid (L = (R o).filter fun k => asksB nm (M.nd k)) := by rw [HE.out, if_pos (HFZ.out.trans cf)]; exact rfl
    subst cf
    go_wp2_with fail
    refine rp.mono ?_
    rintro e w11 hl11
    obtain ⟨pa, pc, rfl, hPO, hk11⟩ := hl11
    have HPO : Hid (OwnZ (fun k => k < w10.heap.size) w11 3 1 pa ((R o).filter fun k => asksB nm (M.nd k)).length pc (ivs ((R o).filter fun k => asksB nm (M.nd k)))) := hPO
    have HK11 : Hid (Kept (fun k => k < w10.heap.size) w10 w11) := hk11
    clear rp hPO hk11 d5
    go_wp2
    go_ret
    rw [HLE.out]
    exact Lst.on (X := w10) ⟨pa, pc, rfl, HPO.out, HK11.out⟩ HK10.out
   ·have HLE : Hid (L = []) := by rw [HE.out, if_neg (fun e => cf (HFZ.out.symm.trans e))]; exact rfl
    have e1 : (fz == (i : Int)) = false := by simpa using cf
    have e2 : (fz != (i : Int)) = true := by simp [cf]
    clear cf rp d5
    go_wp2
    go_ret
    rw [HLE.out]
    exact Lst.nil w _ HK10.out
theorem Rd.assigned (h : Rd K w p M R G rk) (i : Int) : Calls Tryz.prog 23 #[.pointer (some ⟨p, 0, none⟩), .int .i64 i] w (Lst w (asgI M R G i)) := by
 have r1 := h.rootOf i
 obtain ⟨L, hL⟩ : ∃ L, asgI M R G i = L := ⟨_, rfl⟩
 have HL : Hid (asgI M R G i = L) := hL
 rw [hL]
 by_cases c : rootI M i = -1
 ·have HE : Hid (L = []) := by
   rw [<- hL]
   unfold asgI
   by_cases cI : i < 0 \/ (M.n : Int) <= i
   ·rw [if_pos cI]; exact rfl
   ·rw [if_neg cI]
    obtain ⟨k, rfl⟩ : ∃ k : Nat, i = (k : Int) := ⟨i.toNat, by omega⟩
    unfold rootI at c
    rw [Int.toNat_natCast] at c ⊢
    unfold asgL
    rw [if_pos]
    ·exact rfl
    ·by_cases cs : isSl (M.nd k) = false
     ·exact .inl cs
     ·rw [if_neg (fun hh => hh.elim cI cs)] at c
      exact .inr c
  rw [c] at r1
  clear h c hL
  go_enter Tryz.func23, Tryz.ntmps23
  go_wp2_with fail
  refine r1.mono ?_
  rintro e w1 ⟨rfl, hk⟩
  clear r1
  go_wp2
  go_ret
  rw [HE.out]
  exact Lst.nil w _ hk
 ·have hin : ∃ k : Nat, i = (k : Int) /\ k < M.n /\ isSl (M.nd k) = true /\ ofZ M (k : Int) ≠ -1 /\ rootI M i = ofZ M (k : Int) := by
   unfold rootI at c ⊢
   by_cases cc : (i < 0 \/ (M.n : Int) <= i) \/ isSl (M.nd i.toNat) = false
   ·rw [if_pos cc] at c; exact absurd rfl c
   ·rw [if_neg cc] at c ⊢
    obtain ⟨k, rfl⟩ : ∃ k : Nat, i = (k : Int) := ⟨i.toNat, by have : ¬ i < 0 := fun hh => cc (.inl (.inl hh)); omega⟩
    rw [Int.toNat_natCast] at cc
    exact ⟨k, rfl, by have : ¬ (M.n : Int) <= (k : Int) := fun hh => cc (.inl (.inr hh)); omega, by cases hh : isSl (M.nd k) with | true => rfl | false => exact absurd (.inr hh) cc, c, rfl⟩
  obtain ⟨k, rfl, hk, hsl, hof, hrt⟩ := hin
  rcases h.inv.ofz hk with ⟨t, ht, _, e, h5⟩ | ⟨t, ht, _, e, h5⟩
  ·have HE : Hid (L = shwL M R G k t) := by
    rw [<- hL, asgI_in hk]
    unfold asgL
    rw [if_neg (by rw [hsl]; rintro (hh | hh); cases hh; exact hof hh), e, Int.toNat_natCast]
    exact rfl
   rw [hrt, e] at r1
   have HR : Hid (Rd K w p M R G rk) := h
   have HKN : Hid (k < M.n /\ t < M.n /\ (M.nd t).kind = 5) := ⟨hk, ht, h5⟩
   have e1 : ((t : Int) == -1) = false := by simp
   have e2 : ¬ (t : Int) = -1 := by omega
   clear h c hL hk hsl hof hrt ht e h5
   go_enter Tryz.func23, Tryz.ntmps23
   go_wp2_with fail
   refine r1.mono ?_
   rintro e w1 ⟨rfl, hk1⟩
   have r2 := (HR.out.kept hk1).shown HKN.out.1 HKN.out.2.1 HKN.out.2.2
   have HK1 : Hid (Kept (fun k => k < w.heap.size) w w1) := hk1
   rw [<- HE.out] at r2
   clear r1 hk1
   go_wp2_with fail
   refine r2.mono ?_
   rintro e w2 hl2
   obtain ⟨pa, pc, rfl, hPO, hk2⟩ := hl2
   have HPO : Hid (OwnZ (fun k => k < w1.heap.size) w2 3 1 pa L.length pc (ivs L)) := hPO
   have HK2 : Hid (Kept (fun k => k < w1.heap.size) w1 w2) := hk2
   clear r2 hPO hk2
   go_wp2
   go_ret
   exact Lst.on (X := w1) ⟨pa, pc, rfl, HPO.out, HK2.out⟩ HK1.out
  ·exact absurd e hof
end
end
section
open Go.RowKit
noncomputable def fKI (M : Dm) (R G : Nat -> List Nat) (i : Int) : List Nat := if i < 0 \/ (M.n : Int) <= i then [] else fK M R G i.toNat
noncomputable def upI (M : Dm) (R G : Nat -> List Nat) (i : Int) : Int := if i < 0 \/ (M.n : Int) <= i then -1 else upZ M R G i.toNat
theorem fKI_in {M : Dm} {R G : Nat -> List Nat} {i : Nat} (hi : i < M.n) : fKI M R G (i : Int) = fK M R G i := by
 unfold fKI
 rw [if_neg (by omega), Int.toNat_natCast]
theorem upI_in {M : Dm} {R G : Nat -> List Nat} {i : Nat} (hi : i < M.n) : upI M R G (i : Int) = upZ M R G i := by
 unfold upI
 rw [if_neg (by omega), Int.toNat_natCast]
section
variable {K : Nat -> Prop} {w : World} {p : Nat} {M : Dm} {R G : Nat -> List Nat} {rk : Nat -> Nat}
theorem Rd.kids (h : Rd K w p M R G rk) (i : Int) : Calls Tryz.prog 52 #[.pointer (some ⟨p, 0, none⟩), .int .i64 i] w (Lst w (fKI M R G i)) := by
 obtain ⟨L, hL⟩ : ∃ L, fKI M R G i = L := ⟨_, rfl⟩
 rw [hL]
 by_cases cI : i < 0 \/ (M.n : Int) <= i
 ·have HE : Hid (L = []) := by rw [<- hL]; unfold fKI; rw [if_pos cI]; exact rfl
  have rn := h.noNode cI
  clear h hL cI
  go_enter Tryz.func52, Tryz.ntmps52
  go_wp2_with fail
  refine rn.mono ?_
  rintro e v1 ⟨rfl, hK1⟩
  obtain ⟨V1, N1, hV1, hN1, hb1, hk1, -⟩ := alloc_box v1 zero14 41
  have HK : Hid (Kept (fun k => k < w.heap.size) w V1) := hK1.trans (hk1.mono fun k h => Nat.lt_of_lt_of_le h hK1.size)
  have HV1 : Hid (v1.alloc (.cells zero14 41) = V1) := hV1
  have HN1 : Hid (v1.heap.size = N1) := hN1
  clear rn hV1 hN1 hk1 hK1 hb1
  go_upto_region 2 with fail
  rw [HV1.out, HN1.out]
  clear HV1 HN1
  go_wp2
  go_ret
  rw [HE.out]
  exact Lst.nil w _ HK.out
 ·obtain ⟨k, rfl⟩ : ∃ k : Nat, i = (k : Int) := ⟨i.toNat, by omega⟩
  have hk : k < M.n := by omega
  rw [fKI_in hk] at hL
  have HL : Hid (fK M R G k = L) := hL
  have rn := h.node hk
  have HR : Hid (Rd K w p M R G rk) := h
  have HKL : Hid (k < M.n) := hk
  clear h hL cI hk
  go_enter Tryz.func52, Tryz.ntmps52
  go_wp2_with fail
  refine rn.mono ?_
  rintro e v1 ⟨ao1, ac1, ko1, kc1, rfl, hO1, hQ1, hK1⟩
  obtain ⟨V1, N1, hV1, hN1, hB1⟩ := BoxN.of (up := (M.pl k).up) hO1 hQ1 hK1
  have HV1 : Hid (v1.alloc (.cells (nV (M.nd k) ao1 ac1 ((M.pl k).up) ko1 (R k).length kc1) 41) = V1) := hV1
  have HN1 : Hid (v1.heap.size = N1) := hN1
  have HB1 : Hid (BoxN w V1 N1 (M.nd k) ((M.pl k).up) (R k) ao1 ac1 ko1 kc1) := hB1
  have c6 := hB1.c6
  have HK1 : Hid (Kept (fun k => k < w.heap.size) w V1) := hB1.kept
  have HSH : Hid ((M.nd k).shadow = -1 \/ ∃ s : Nat, s < M.n /\ (M.nd k).shadow = (s : Int)) := (HR.out.inv.core.shad k HKL.out).imp id fun ⟨s, h1, h2, _⟩ => ⟨s, h1, h2⟩
  clear rn hO1 hQ1 hK1 hV1 hN1 hB1
  go_upto_region 2 with fail
  rw [HV1.out, HN1.out]
  clear HV1 HN1
  rcases HSH.out with hs | ⟨s, hsn, hs⟩
  ·rw [hs] at c6
   have HS : Hid ((M.nd k).shadow = -1) := hs
   have ra := (HR.out.kept HK1.out).assigned (k : Int)
   rw [asgI_in HKL.out] at ra
   obtain ⟨A, hA⟩ : ∃ A, asgL M R G k = A := ⟨_, rfl⟩
   have HA : Hid (asgL M R G k = A) := hA
   rw [hA] at ra
   clear hs hA
   go_wp2_with fail
   refine ra.mono ?_
   rintro e w2 hl2
   obtain ⟨pa, pc, rfl, hPO, hk2⟩ := hl2
   have HPO : Hid (OwnZ (fun k => k < V1.heap.size) w2 3 1 pa A.length pc (ivs A)) := hPO
   have HK2 : Hid (Kept (fun k => k < V1.heap.size) V1 w2) := hk2
   have hB2 := HB1.out.later hk2
   have c5 := hB2.c5
   have HB2 : Hid (BoxN w w2 N1 (M.nd k) (M.pl k).up (R k) ao1 ac1 ko1 kc1) := hB2
   clear ra hPO hk2 c6 hB2
   by_cases ca : A = []
   ·subst ca
    have HE : Hid (L = R k) := by rw [<- HL.out]; unfold fK; rw [if_neg (by rw [HS.out]; simp), if_pos HA.out]; exact rfl
    have e0 : decide (((0 : Nat) : Int) > 0) = false := by decide
    obtain ⟨kl, hkl⟩ : ∃ kl, (R k).length = kl := ⟨_, rfl⟩
    have HKK : Hid ((R k).length = kl) := hkl
    rw [hkl] at c5
    clear hkl
    go_wp2
    go_ret
    rw [HE.out]
    exact ⟨ko1, kc1, by rw [HKK.out]; rfl, HB2.out.own, HB2.out.kept⟩
   ·have HE : Hid (L = A) := by rw [<- HL.out]; unfold fK; rw [if_neg (by rw [HS.out]; simp), if_neg (by rw [HA.out]; exact ca), HA.out]; exact rfl
    obtain ⟨al, hal⟩ : ∃ al, A.length = al := ⟨_, rfl⟩
    have h0 : 0 < al := by rw [<- hal]; exact List.length_pos_iff.2 ca
    have HAL : Hid (A.length = al) := hal
    have e0 : decide ((al : Int) > 0) = true := decide_eq_true (by omega)
    rw [hal]
    clear ca hal c5
    go_wp2
    go_ret
    rw [HE.out]
    exact Lst.on (X := V1) ⟨pa, pc, by rw [HAL.out]; rfl, HPO.out, HK2.out⟩ HK1.out
  ·rw [hs] at c6
   have HE : Hid (L = R s) := by rw [<- HL.out]; unfold fK; rw [if_pos (by rw [hs]; omega), hs, Int.toNat_natCast]; exact rfl
   have rn2 := (HR.out.kept HK1.out).node hsn
   have e6 : ((s : Int) == -1) = false := by simp
   have e6' : ¬ (s : Int) = -1 := by omega
   have e6n : ((s : Int) != -1) = true := by simp
   clear hs
   go_wp2_with fail
   refine rn2.mono ?_
   rintro e v2 ⟨ao2, ac2, ko2, kc2, rfl, hO2, hQ2, hK2⟩
   obtain ⟨V2, N2, hV2, hN2, hB2⟩ := BoxN.of (up := (M.pl s).up) hO2 hQ2 hK2
   have HV2 : Hid (v2.alloc (.cells (nV (M.nd s) ao2 ac2 ((M.pl s).up) ko2 (R s).length kc2) 41) = V2) := hV2
   have HN2 : Hid (v2.heap.size = N2) := hN2
   have HB2 : Hid (BoxN V1 V2 N2 (M.nd s) ((M.pl s).up) (R s) ao2 ac2 ko2 kc2) := hB2
   have d5 := hB2.c5
   obtain ⟨kl, hkl⟩ : ∃ kl, (R s).length = kl := ⟨_, rfl⟩
   have HKK : Hid ((R s).length = kl) := hkl
   rw [hkl] at d5
   clear rn2 hO2 hQ2 hK2 hV2 hN2 hB2 c6 hkl
   go_upto_region 6 with fail
   rw [HV2.out, HN2.out]
   clear HV2 HN2
   go_wp2
   go_ret
   rw [HE.out]
   exact Lst.on (X := V1) ⟨ko2, kc2, by rw [HKK.out]; rfl, HB2.out.own, HB2.out.kept⟩ HK1.out
theorem Rd.up (h : Rd K w p M R G rk) (i : Int) : Calls Tryz.prog 51 #[.pointer (some ⟨p, 0, none⟩), .int .i64 i] w fun e w' => e = .returned (.int .i64 (upI M R G i)) /\ Kept (fun k => k < w.heap.size) w w' := by
 obtain ⟨Z, hZ⟩ : ∃ Z, upI M R G i = Z := ⟨_, rfl⟩
 rw [hZ]
 by_cases cI : i < 0 \/ (M.n : Int) <= i
 ·have HE : Hid (Z = -1) := by rw [<- hZ]; unfold upI; rw [if_pos cI]; exact rfl
  have rn := h.noNode cI
  clear h hZ cI
  go_enter Tryz.func51, Tryz.ntmps51
  go_wp2_with fail
  refine rn.mono ?_
  rintro e v1 ⟨rfl, hK1⟩
  obtain ⟨V1, N1, hV1, hN1, hb1, hk1, -⟩ := alloc_box v1 zero14 41
  have HK : Hid (Kept (fun k => k < w.heap.size) w V1) := hK1.trans (hk1.mono fun k h => Nat.lt_of_lt_of_le h hK1.size)
  have HV1 : Hid (v1.alloc (.cells zero14 41) = V1) := hV1
  have HN1 : Hid (v1.heap.size = N1) := hN1
  clear rn hV1 hN1 hk1 hK1 hb1
  go_upto_region 2 with fail
  rw [HV1.out, HN1.out]
  clear HV1 HN1
  go_wp2
  go_ret
  exact ⟨by rw [HE.out]; rfl, HK.out⟩
 ·obtain ⟨k, rfl⟩ : ∃ k : Nat, i = (k : Int) := ⟨i.toNat, by omega⟩
  have hk : k < M.n := by omega
  rw [upI_in hk] at hZ
  have HZ : Hid (upZ M R G k = Z) := hZ
  have rn := h.node hk
  have HR : Hid (Rd K w p M R G rk) := h
  have HKL : Hid (k < M.n) := hk
  have HUPS : Hid ((M.pl k).up = -1 \/ ∃ u : Nat, u < M.n /\ (M.pl k).up = (u : Int)) := h.inv.ups' hk
  clear h hZ cI hk
  go_enter Tryz.func51, Tryz.ntmps51
  go_wp2_with fail
  refine rn.mono ?_
  rintro e v1 ⟨ao1, ac1, ko1, kc1, rfl, hO1, hQ1, hK1⟩
  obtain ⟨V1, N1, hV1, hN1, hB1⟩ := BoxN.of (up := (M.pl k).up) hO1 hQ1 hK1
  have HV1 : Hid (v1.alloc (.cells (nV (M.nd k) ao1 ac1 ((M.pl k).up) ko1 (R k).length kc1) 41) = V1) := hV1
  have HN1 : Hid (v1.heap.size = N1) := hN1
  have HB1 : Hid (BoxN w V1 N1 (M.nd k) ((M.pl k).up) (R k) ao1 ac1 ko1 kc1) := hB1
  have c4 := hB1.c4
  have HK1 : Hid (Kept (fun k => k < w.heap.size) w V1) := hB1.kept
  clear rn hO1 hQ1 hK1 hV1 hN1 hB1
  go_upto_region 2 with fail
  rw [HV1.out, HN1.out]
  clear HV1 HN1
  rcases HUPS.out with hu | ⟨u, hun, hu⟩
  ·have HE : Hid (Z = -1) := by rw [<- HZ.out]; unfold upZ; rw [if_pos hu]; exact rfl
   rw [hu] at c4
   clear hu
   go_wp2
   go_ret
   exact ⟨by rw [HE.out]; rfl, HK1.out⟩
  ·rw [hu] at c4
   have HU : Hid ((M.pl k).up = (u : Int)) := hu
   have HUN : Hid (u < M.n) := hun
   have rn2 := (HR.out.kept HK1.out).node hun
   have e4 : ((u : Int) == -1) = false := by simp
   have e4' : ¬ (u : Int) = -1 := by omega
   have HZ2 : Hid (Z = if (M.nd u).kind = 5 then (M.nd u).host else if (M.nd u).shadow ≠ -1 then findZ M R k else if asgL M R G u = [] then (u : Int) else -1) := by rw [<- HZ.out]; unfold upZ; rw [hu, if_neg e4', Int.toNat_natCast]; exact rfl
   clear hu hun
   go_wp2_with fail
   refine rn2.mono ?_
   rintro e v2 ⟨ao2, ac2, ko2, kc2, rfl, hO2, hQ2, hK2⟩
   obtain ⟨V2, N2, hV2, hN2, hB2⟩ := BoxN.of (up := (M.pl u).up) hO2 hQ2 hK2
   have HV2 : Hid (v2.alloc (.cells (nV (M.nd u) ao2 ac2 ((M.pl u).up) ko2 (R u).length kc2) 41) = V2) := hV2
   have HN2 : Hid (v2.heap.size = N2) := hN2
   have HB2 : Hid (BoxN V1 V2 N2 (M.nd u) ((M.pl u).up) (R u) ao2 ac2 ko2 kc2) := hB2
   have d0 := hB2.c0
   have d6 := hB2.c6
   have d7 := hB2.c7
   have HB1b : Hid (BoxN w V2 N1 (M.nd k) (M.pl k).up (R k) ao1 ac1 ko1 kc1) := HB1.out.later hB2.kept
   have HK2 : Hid (Kept (fun k => k < w.heap.size) w V2) := HB1b.out.kept
   have c4' := HB1b.out.c4
   rw [HU.out] at c4'
   obtain ⟨kd, hkd⟩ : ∃ kd, (M.nd u).kind = kd := ⟨_, rfl⟩
   have HKD : Hid ((M.nd u).kind = kd) := hkd
   rw [hkd] at d0
   clear rn2 hO2 hQ2 hK2 hV2 hN2 hB2 c4 hkd
   go_upto_region 5 with fail
   rw [HV2.out, HN2.out]
   clear HV2 HN2
   by_cases c5 : kd = 5
   ·subst c5
    have HE : Hid (Z = (M.nd u).host) := by rw [HZ2.out, if_pos HKD.out]; exact rfl
    obtain ⟨ho, hho⟩ : ∃ ho, (M.nd u).host = ho := ⟨_, rfl⟩
    rw [hho] at d7 HE
    clear hho
    go_wp2
    go_ret
    exact ⟨by rw [HE.out]; rfl, HK2.out⟩
   ·have e5 : ((kd : Int) == 5) = false := by simp; omega
    have e5' : ¬ (kd : Int) = 5 := by omega
    have HZ3 : Hid (Z = if (M.nd u).shadow ≠ -1 then findZ M R k else if asgL M R G u = [] then (u : Int) else -1) := by rw [HZ2.out, if_neg (by rw [HKD.out]; exact c5)]; exact rfl
    have HSH : Hid ((M.nd u).shadow = -1 \/ ∃ s : Nat, s < M.n /\ (M.nd u).shadow = (s : Int)) := (HR.out.inv.core.shad u HUN.out).imp id fun ⟨s, h1, h2, _⟩ => ⟨s, h1, h2⟩
    clear c5 d7
    rcases HSH.out with hs | ⟨s, hsn, hs⟩
    ·rw [hs] at d6
     have ra := (HR.out.kept HK2.out).assigned (u : Int)
     rw [asgI_in HUN.out] at ra
     obtain ⟨A, hA⟩ : ∃ A, asgL M R G u = A := ⟨_, rfl⟩
     rw [hA] at ra
     have HE : Hid (Z = if A = [] then (u : Int) else -1) := by rw [HZ3.out, if_neg (by rw [hs]; simp), hA]; exact rfl
     have HNV : Hid (N1 < V2.heap.size) := World.block_lt_of_cell? V2 _ c4'
     clear hs hA
     go_wp2_with fail
     refine ra.mono ?_
     rintro e w2 hl2
     obtain ⟨pa, pc, rfl, -, hk2⟩ := hl2
     have c4w : w2.cell? ⟨N1, 4, none⟩ = some (.int .i64 (u : Int)) := (hk2.cell (p := ⟨N1, 4, none⟩) HNV.out).trans c4'
     have HK3 : Hid (Kept (fun k => k < w.heap.size) w w2) := HK2.out.trans (hk2.mono fun k h => Nat.lt_of_lt_of_le h HK2.out.size)
     clear ra hk2 d6 d0 c4'
     by_cases ca : A = []
     ·have HE2 : Hid (Z = (u : Int)) := by rw [HE.out, if_pos ca]; exact rfl
      subst ca
      have e0 : decide (((0 : Nat) : Int) > 0) = false := by decide
      clear HE
      go_wp2
      go_ret
      exact ⟨by rw [HE2.out]; rfl, HK3.out⟩
     ·have HE2 : Hid (Z = -1) := by rw [HE.out, if_neg ca]; exact rfl
      obtain ⟨al, hal⟩ : ∃ al, A.length = al := ⟨_, rfl⟩
      have h0 : 0 < al := by rw [<- hal]; exact List.length_pos_iff.2 ca
      have e0 : decide ((al : Int) > 0) = true := decide_eq_true (by omega)
      rw [hal]
      clear ca hal HE
      go_wp2
      go_ret
      exact ⟨by rw [HE2.out]; rfl, HK3.out⟩
    ·rw [hs] at d6
     have rf := (HR.out.kept HK2.out).find (k : Int)
     rw [findI_in HKL.out] at rf
     have HE : Hid (Z = findZ M R k) := by rw [HZ3.out, if_pos (by rw [hs]; omega)]; exact rfl
     rw [<- HE.out] at rf
     have e6 : ((s : Int) == -1) = false := by simp
     have e6' : ¬ (s : Int) = -1 := by omega
     have e6n : ((s : Int) != -1) = true := by simp
     clear hs c4'
     go_wp2_with fail
     refine rf.mono ?_
     rintro e w2 ⟨rfl, hk2⟩
     clear rf
     go_wp2
     go_ret
     exact ⟨rfl, HK2.out.trans (hk2.mono fun k h => Nat.lt_of_lt_of_le h HK2.out.size)⟩
end
end
section
open Go.RowKit
def OutX (K : Nat -> Prop) (X : World) (bo : Nat) (l : List Nat) : Prop :=
 ¬ K bo /\ (∀ k, K k -> k < X.heap.size) /\ ∃ ao c, X.heap[bo]? = some (.cells #[.slice ao l.length c] 33 (0, 0)) /\ OwnZ (fun k => K k \/ k = bo) X 3 1 ao l.length c (ivs l)
theorem OutX.kept {K K' : Nat -> Prop} {X Y : World} {bo : Nat} {l : List Nat} (h : OutX K X bo l) (hk : Kept (fun k => k < X.heap.size) X Y) (hs : ∀ k, K' k -> K k \/ X.heap.size <= k) (hl : ∀ k, K' k -> k < Y.heap.size) : OutX K' Y bo l := by
 obtain ⟨h1, h2, ao, c, h3, h4⟩ := h
 have hb := lt_block h3
 refine ⟨fun hh => (hs bo hh).elim h1 (fun hh => by omega), hl, ao, c, by rw [hk.block bo hb]; exact h3, h4.to (fun g hg hh => ?_) (fun g hg => hk.block g (h4.out hg).2)⟩
 have := h4.out hg
 rcases hh with hh | hh
 ·rcases hs g hh with hh | hh
  ·exact this.1 (.inl hh)
  ·omega
 ·exact this.1 (.inr hh)
theorem OutX.less {K K' : Nat -> Prop} {X : World} {bo : Nat} {l : List Nat} (h : OutX K X bo l) (hs : ∀ k, K' k -> K k) : OutX K' X bo l :=
 h.kept (Kept.refl _ _) (fun k hk => .inl (hs k hk)) (fun k hk => h.2.1 k (hs k hk))
theorem OutX.most {K : Nat -> Prop} {X : World} {bo : Nat} {l : List Nat} (h : OutX K X bo l) : ∃ K1 : Nat -> Prop, (∀ k, K k -> K1 k) /\ OutX K1 X bo l /\ ∀ ao c, X.heap[bo]? = some (.cells #[.slice ao l.length c] 33 (0, 0)) -> ∀ k, k < X.heap.size -> k ≠ bo -> ¬ blkOf ao k -> K1 k := by
 obtain ⟨h1, h2, ao, c, h3, h4⟩ := h
 refine ⟨fun k => k < X.heap.size /\ k ≠ bo /\ ¬ blkOf ao k, fun k hk => ⟨h2 k hk, fun e => h1 (e ▸ hk), fun hb => (h4.out hb).1 (.inl hk)⟩, ⟨fun hh => hh.2.1 rfl, fun k hk => hk.1, ao, c, h3, h4.to (fun g hg hh => ?_) (fun _ _ => rfl)⟩, fun ao' c' e k a b d => ⟨a, b, ?_⟩⟩
 ·rcases hh with hh | hh
  ·exact hh.2.2 hg
  ·exact (h4.out hg).1 (.inr hh)
 ·rw [h3] at e
  injection e with e
  injection e with e
  have e0 : Value.slice ao l.length c = Value.slice ao' l.length c' := by
   have := congrArg (fun a : Array Value => a[0]?) e
   simpa using this
  injection e0 with e1
  rw [e1]; exact d
theorem OutX.app {K : Nat -> Prop} {X : World} {bo : Nat} {l : List Nat} (h : OutX K X bo l) (hl : l.length <= 100000000) (x : Nat) :
  ∃ ao c ao' c' W, X.cell? ⟨bo, 0, none⟩ = some (.slice ao l.length c) /\ (Builtin.append_ #[33, 33] 33 #[.slice ao l.length c, .slice (some ⟨X.heap.size, 0, none⟩) 1 1]).run Tryz.prog (X.alloc (.cells #[.int .i64 (x : Int)] 3)) = .ok (.slice ao' (l.length + 1) c') W /\
   W.frozen? ⟨bo, 0, none⟩ = false /\ (∃ u, W.cell? ⟨bo, 0, none⟩ = some u) /\ OutX K (W.setCell ⟨bo, 0, none⟩ (.slice ao' (l.length + 1) c')) bo (l ++ [x]) /\ Kept K X (W.setCell ⟨bo, 0, none⟩ (.slice ao' (l.length + 1) c')) := by
 obtain ⟨h1, h2, ao, c, h3, h4⟩ := h
 have hb := lt_block h3
 obtain ⟨ao', c', W, hr, hO, hK⟩ := appI h4 (fun k hk => by rcases hk with hk | hk; exact h2 k hk; rw [hk]; exact hb) (by omega) (x : Int)
 have hbW : W.heap[bo]? = some (.cells #[.slice ao l.length c] 33 (0, 0)) := by rw [hK.block bo (.inr rfl)]; exact h3
 have hS : (W.setCell ⟨bo, 0, none⟩ (.slice ao' (l.length + 1) c')).heap[bo]? = some (.cells #[.slice ao' (l.length + 1) c'] 33 (0, 0)) := heap_setCell_at hbW 0 _
 have kS : Kept (fun k => k ≠ bo) W (W.setCell ⟨bo, 0, none⟩ (.slice ao' (l.length + 1) c')) := (Kept.refl _ W).setCell (p := ⟨bo, 0, none⟩) (fun hh => hh rfl) _
 have kK : Kept K X (W.setCell ⟨bo, 0, none⟩ (.slice ao' (l.length + 1) c')) := (hK.mono fun k hk => .inl hk).trans ((Kept.refl K W).setCell (p := ⟨bo, 0, none⟩) h1 _)
 refine ⟨ao, c, ao', c', W, by rw [cell_block h3]; rfl, hr, frozen_block hbW 0, ⟨_, by rw [cell_block hbW]; rfl⟩, ⟨h1, fun k hk => Nat.lt_of_lt_of_le (h2 k hk) kK.size, ao', c', ?_, ?_⟩, kK⟩
 ·rw [List.length_append]; exact hS
 ·rw [List.length_append]
  have e : ivs (l ++ [x]) = ivs l ++ [.int .i64 (x : Int)] := List.map_append
  rw [e]
  exact hO.to (fun g hg => (hO.out hg).1) (fun g hg => kS.block g fun e => (hO.out hg).1 (.inr e))
section
variable {K0 : Nat -> Prop} {w0 : World} {p : Nat} {M : Dm} {R G : Nat -> List Nat} {rk : Nat -> Nat}
theorem enter104 (args : Array Value) (X : World) : (callFunc 104 args).run Tryz.prog X = .ok (.enter 104 args) X := entersE Tryz.func104 (by kernel_rfl) (c := _) rfl args X
abbrev walkF (bo b2 b3 : Nat) : Value := .func (.func 104) #[] #[.pointer (some ⟨bo, 0, none⟩), .pointer (some ⟨b2, 0, none⟩), .pointer (some ⟨b3, 0, none⟩)]
theorem walk_in (h : Rd K0 w0 p M R G rk) (bo b2 b3 : Nat) :
  ∀ (d i : Nat), dn M.n (rkA M R) i < d -> i < M.n -> ∀ (K : Nat -> Prop) (X : World) (l : List Nat), (∀ k, k < w0.heap.size -> K k) -> K b2 -> K b3 -> Kept (fun k => k < w0.heap.size) w0 X -> X.cell? ⟨b2, 0, none⟩ = some (.pointer (some ⟨p, 0, none⟩)) -> X.cell? ⟨b3, 0, none⟩ = some (walkF bo b2 b3) ->
   OutX K X bo l -> l.length + (tr M.n (fK M R G) i).length <= 10000000 ->
   Calls Tryz.prog 104 #[.int .i64 (i : Int), .pointer (some ⟨bo, 0, none⟩), .pointer (some ⟨b2, 0, none⟩), .pointer (some ⟨b3, 0, none⟩)] X fun e X' => e = .returned (.tuple #[]) /\ OutX K X' bo (l ++ tr M.n (fK M R G) i) /\ Kept K X X' := by
 intro d
 induction d with
 | zero => exact fun i h => absurd h (Nat.not_lt_zero _)
 | succ d ih =>
  intro i hdi hi K X l hw0 hK2 hK3 hX c2 c3 hO hlen
  have HF := h.inv.fK_falls (G := G)
  have HIH : Hid (∀ k, k ∈ fK M R G i -> ∀ (K : Nat -> Prop) (X : World) (l : List Nat), (∀ k, k < w0.heap.size -> K k) -> K b2 -> K b3 -> Kept (fun k => k < w0.heap.size) w0 X -> X.cell? ⟨b2, 0, none⟩ = some (.pointer (some ⟨p, 0, none⟩)) -> X.cell? ⟨b3, 0, none⟩ = some (walkF bo b2 b3) ->
    OutX K X bo l -> l.length + (tr M.n (fK M R G) k).length <= 10000000 ->
    Calls Tryz.prog 104 #[.int .i64 (k : Int), .pointer (some ⟨bo, 0, none⟩), .pointer (some ⟨b2, 0, none⟩), .pointer (some ⟨b3, 0, none⟩)] X fun e X' => e = .returned (.tuple #[]) /\ OutX K X' bo (l ++ tr M.n (fK M R G) k) /\ Kept K X X') := fun k hk => by
   obtain ⟨h1, h2⟩ := HF i hi k hk
   have := dn_lt h1 h2
   exact ih k (by omega) h1
  have HTR : Hid (tr M.n (fK M R G) i = i :: (fK M R G i).flatMap (tr M.n (fK M R G))) := tr_eq HF hi
  obtain ⟨ao, c, ao', c', W, co, hrun, hfz, ⟨u, hcu⟩, hO2, hKX⟩ := hO.app (by omega) i
  obtain ⟨Z, hZ⟩ : ∃ Z, W.setCell ⟨bo, 0, none⟩ (.slice ao' (l.length + 1) c') = Z := ⟨_, rfl⟩
  rw [hZ] at hO2 hKX
  have c2' : Z.cell? ⟨b2, 0, none⟩ = some (.pointer (some ⟨p, 0, none⟩)) := (hKX.cell (p := ⟨b2, 0, none⟩) hK2).trans c2
  have c3' : Z.cell? ⟨b3, 0, none⟩ = some (walkF bo b2 b3) := (hKX.cell (p := ⟨b3, 0, none⟩) hK3).trans c3
  have hXZ : Kept (fun k => k < w0.heap.size) w0 Z := hX.trans (hKX.mono hw0)
  have rk1 := (h.kept hXZ).kids (i : Int)
  rw [fKI_in hi] at rk1
  have HO2 : Hid (OutX K Z bo (l ++ [i])) := hO2
  have HKX : Hid (Kept K X Z) := hKX
  have HXZ : Hid (Kept (fun k => k < w0.heap.size) w0 Z) := hXZ
  have HZ : Hid (W.setCell ⟨bo, 0, none⟩ (.slice ao' (l.length + 1) c') = Z) := hZ
  have HW0 : Hid (∀ k, k < w0.heap.size -> K k) := hw0
  have HKB : Hid (K b2 /\ K b3) := ⟨hK2, hK3⟩
  have HLEN : Hid (l.length + (tr M.n (fK M R G) i).length <= 10000000) := hlen
  have HFL : Hid ((fK M R G i).length <= 100000) := by
   have h1 := nodup_le M.n _ (h.inv.fK_nd hi) (fun x hx => (HF i hi x hx).1)
   exact (show Hid _ from Nat.le_trans h1 h.le)
  obtain ⟨ln, hln⟩ : ∃ ln, l.length = ln := ⟨_, rfl⟩
  have HLN : Hid (l.length = ln) := hln
  have hln9 : ln <= 10000000 := by omega
  rw [hln] at co hrun HZ
  clear ih hdi hw0 hK2 hK3 hX c2 c3 hO hlen HF hO2 hKX hXZ hZ hi hln
  go_enter Tryz.func104, Tryz.ntmps104
  go_upto_region 1 with (at_builtin; refine wpList_appR (w' := W) rfl (.tmp 7) (.tmp 9) 33 33 rfl _ _ (.slice ao' (ln + 1) c') rfl rfl hrun ?_)
  rw [HZ.out]
  clear hrun hfz hcu co HZ
  go_wp2_with fail
  refine rk1.mono ?_
  rintro e w1 ⟨fa, fc, rfl, hFO, hk1⟩
  have HROW : Hid (IntsAt (fun g => Z.heap.size <= g /\ g < w1.heap.size) w1 fa (fK M R G i)) := hFO.intsAt fun g hg => ⟨Nat.le_of_not_lt (hFO.out hg).1, (hFO.out hg).2⟩
  have HK1 : Hid (Kept (fun k => k < Z.heap.size) Z w1) := hk1
  have hz2 := World.block_lt_of_cell? Z _ c2'
  have hz3 := World.block_lt_of_cell? Z _ c3'
  have HO3 : Hid (OutX (fun k => K k \/ (Z.heap.size <= k /\ k < w1.heap.size)) w1 bo (l ++ [i])) := HO2.out.kept hk1 (fun k hk => hk.imp id fun h => h.1) (fun k hk => hk.elim (fun h => Nat.lt_of_lt_of_le (HO2.out.2.1 k h) hk1.size) (fun h => h.2))
  have d2 : w1.cell? ⟨b2, 0, none⟩ = some (.pointer (some ⟨p, 0, none⟩)) := (hk1.cell (p := ⟨b2, 0, none⟩) hz2).trans c2'
  have d3 : w1.cell? ⟨b3, 0, none⟩ = some (walkF bo b2 b3) := (hk1.cell (p := ⟨b3, 0, none⟩) hz3).trans c3'
  have HD : Hid (w1.cell? ⟨b2, 0, none⟩ = some (.pointer (some ⟨p, 0, none⟩)) /\ w1.cell? ⟨b3, 0, none⟩ = some (walkF bo b2 b3)) := ⟨d2, d3⟩
  obtain ⟨fl, hfl⟩ : ∃ fl, (fK M R G i).length = fl := ⟨_, rfl⟩
  have HFLN : Hid ((fK M R G i).length = fl) := hfl
  have hfl9 : fl <= 100000 := by rw [<- hfl]; exact HFL.out
  rw [hfl]
  clear rk1 hFO hk1 c2' c3' d2 d3 hfl hz2 hz3
  go_upto_region 2 with fail
  have HK1X : Hid (Kept K X w1) := HKX.out.trans (HK1.out.mono fun k hk => HO2.out.2.1 k hk)
  have HK1w : Hid (Kept (fun k => k < w0.heap.size) w0 w1) := HXZ.out.trans (HK1.out.mono fun k hk => Nat.lt_of_lt_of_le hk HXZ.out.size)
  go_loopg [15] fl (fun gh v15 wr => ∃ j : Nat, gh = fl - j /\ j <= fl /\ v15 = .int .i64 (j : Int) /\ OutX (fun k => K k \/ (Z.heap.size <= k /\ k < w1.heap.size)) wr bo (l ++ i :: ((fK M R G i).take j).flatMap (tr M.n (fK M R G))) /\ Kept (fun k => K k \/ (Z.heap.size <= k /\ k < w1.heap.size)) w1 wr)
  case atStart => exact ⟨0, rfl, Nat.zero_le _, rfl, HO3.out, Kept.refl _ _⟩
  case round =>
   obtain ⟨j, hgj, hj, rfl, hOj, hKj⟩ := hrel
   have e2 : wr.cell? ⟨b2, 0, none⟩ = some (.pointer (some ⟨p, 0, none⟩)) := (hKj.cell (p := ⟨b2, 0, none⟩) (.inl HKB.out.1)).trans HD.out.1
   have e3 : wr.cell? ⟨b3, 0, none⟩ = some (walkF bo b2 b3) := (hKj.cell (p := ⟨b3, 0, none⟩) (.inl HKB.out.2)).trans HD.out.2
   by_cases hlt : j < fl
   ·have hjl : j < (fK M R G i).length := by rw [HFLN.out]; exact hlt
    obtain ⟨g, o, rfl, hg, dd⟩ := HROW.out j hjl
    have d' : wr.cell? ⟨g, o + j, none⟩ = some (.int .i64 ((fK M R G i)[j] : Int)) := (hKj.cell (p := ⟨g, o + j, none⟩) (.inr hg)).trans dd
    have hs := fm_split (tr M.n (fK M R G)) (fK M R G i) j hjl
    have hs2 := fm_succ (tr M.n (fK M R G)) (fK M R G i) j hjl
    have hmem := List.getElem_mem hjl
    obtain ⟨x, hx⟩ : ∃ x, (fK M R G i)[j] = x := ⟨_, rfl⟩
    rw [hx] at d' hs hs2 hmem
    have kwr : Kept (fun k => k < w0.heap.size) w0 wr := HK1w.out.trans (hKj.mono fun k hk => .inl (HW0.out k hk))
    have r := HIH.out x hmem _ wr _ (fun k hk => .inl (HW0.out k hk)) (.inl HKB.out.1) (.inl HKB.out.2) kwr e2 e3 hOj (by
     have := HLEN.out
     rw [HTR.out, hs] at this
     simp only [List.length_append, List.length_cons] at this ⊢
     omega)
    have hs3 : l ++ i :: ((fK M R G i).take (j + 1)).flatMap (tr M.n (fK M R G)) = (l ++ i :: ((fK M R G i).take j).flatMap (tr M.n (fK M R G))) ++ tr M.n (fK M R G) x := by rw [hs2]; simp
    have HS2 : Hid (l ++ i :: ((fK M R G i).take (j + 1)).flatMap (tr M.n (fK M R G)) = (l ++ i :: ((fK M R G i).take j).flatMap (tr M.n (fK M R G))) ++ tr M.n (fK M R G) x) := hs3
    have HKJ : Hid (Kept (fun k => K k \/ (Z.heap.size <= k /\ k < w1.heap.size)) w1 wr) := hKj
    have he := enter104
    clear dd hs hs2 hs3 hx hmem hOj hKj kwr e2
    go_wp2_with fail
    refine r.mono ?_
    rintro e w3 ⟨rfl, hO3, hk3⟩
    have HO4 : Hid (OutX (fun k => K k \/ (Z.heap.size <= k /\ k < w1.heap.size)) w3 bo (l ++ i :: ((fK M R G i).take (j + 1)).flatMap (tr M.n (fK M R G)))) := by rw [HS2.out]; exact hO3
    have HK4 : Hid (Kept (fun k => K k \/ (Z.heap.size <= k /\ k < w1.heap.size)) w1 w3) := HKJ.out.trans hk3
    clear r hO3 hk3 d' e3 he
    go_wp2
    go_roundg (fl - (j + 1))
    case rel => exact ⟨j + 1, rfl, by omega, by go_num, HO4.out, HK4.out⟩
    case measure => omega
   ·have hjn : fl = j := by omega
    subst hjn
    have hall : (fK M R G i).take fl = fK M R G i := List.take_of_length_le (by rw [HFLN.out]; exact Nat.le_refl _)
    rw [hall, <- HTR.out] at hOj
    have HO4 : Hid (OutX K wr bo (l ++ tr M.n (fK M R G) i)) := hOj.less fun k hk => .inl hk
    have HK4 : Hid (Kept K X wr) := HK1X.out.trans (hKj.mono fun k hk => .inl hk)
    clear hOj hKj e2 e3 hall
    go_wp2
    first
     | (go_end0; exact ⟨rfl, HO4.out, HK4.out⟩)
     | (refine bodyPost_ret (results_none rfl _ _ _) rfl ?_; exact ⟨rfl, HO4.out, HK4.out⟩)
theorem vars3 (w : World) (p : Nat) (tf : TypeId) (f : Nat -> Nat -> Nat -> Value) : ∃ V1 V2 V3 V4 N0 N1 N2, w.alloc (.cells #[.pointer (some ⟨p, 0, none⟩)] 25) = V1 /\ V1.alloc (.cells #[.slice none 0 0] 33) = V2 /\ V2.alloc (.cells #[.nilFunc] tf) = V3 /\ V3.setCell ⟨N2, 0, none⟩ (f N0 N1 N2) = V4 /\ w.heap.size = N0 /\ N0 + 1 = N1 /\ N1 + 1 = N2 /\
  V3.cell? ⟨N2, 0, none⟩ = some .nilFunc /\ V3.frozen? ⟨N2, 0, none⟩ = false /\ V4.cell? ⟨N0, 0, none⟩ = some (.pointer (some ⟨p, 0, none⟩)) /\ V4.cell? ⟨N2, 0, none⟩ = some (f N0 N1 N2) /\ Kept (fun k => k < w.heap.size) w V4 /\ V4.heap.size = N2 + 1 /\ OutX (fun k => k < w.heap.size \/ k = N0 \/ k = N2) V4 N1 [] /\ V4.cell? ⟨N1, 0, none⟩ = some (.slice none 0 0) := by
 obtain ⟨V1, N0, e1, n0, b1, k1, s1⟩ := alloc_box w #[.pointer (some ⟨p, 0, none⟩)] 25
 obtain ⟨V2, N1, e2, n1, b2, k2, s2⟩ := alloc_box V1 #[.slice none 0 0] 33
 obtain ⟨V3, N2, e3, n2, b3, k3, s3⟩ := alloc_box V2 #[.nilFunc] tf
 have h1 : N0 + 1 = N1 := by omega
 have h2 : N1 + 1 = N2 := by omega
 have kS : Kept (fun k => k ≠ N2) V3 (V3.setCell ⟨N2, 0, none⟩ (f N0 N1 N2)) := (Kept.refl _ V3).setCell (p := ⟨N2, 0, none⟩) (fun hh => hh rfl) _
 have hS : (V3.setCell ⟨N2, 0, none⟩ (f N0 N1 N2)).heap[N2]? = some (.cells #[f N0 N1 N2] tf (0, 0)) := heap_setCell_at b3 0 _
 have sz : (V3.setCell ⟨N2, 0, none⟩ (f N0 N1 N2)).heap.size = N2 + 1 := by
  have := kS.size
  have h3 : (V3.setCell ⟨N2, 0, none⟩ (f N0 N1 N2)).heap.size = V3.heap.size := by simp [World.setCell]
  omega
 have bO : (V3.setCell ⟨N2, 0, none⟩ (f N0 N1 N2)).heap[N1]? = some (.cells #[.slice none 0 0] 33 (0, 0)) := by rw [kS.block N1 (by omega), k3.block N1 (by omega)]; exact b2
 have b0 : (V3.setCell ⟨N2, 0, none⟩ (f N0 N1 N2)).heap[N0]? = some (.cells #[.pointer (some ⟨p, 0, none⟩)] 25 (0, 0)) := by rw [kS.block N0 (by omega), k3.block N0 (by omega), k2.block N0 (by omega)]; exact b1
 refine ⟨V1, V2, V3, _, N0, N1, N2, e1, e2, e3, rfl, n0, h1, h2, by rw [cell_block b3]; rfl, frozen_block b3 0, by rw [cell_block b0]; rfl, by rw [cell_block hS]; rfl, ?_, sz, ⟨by omega, fun k hk => by omega, none, 0, bO, OwnZ.nil _ _ _ _⟩, by rw [cell_block bO]; rfl⟩
 exact (k1.trans (k2.mono fun k h => by omega)).trans ((k3.mono fun k h => by omega).trans (kS.mono fun k h => by omega))
theorem Rd.walk (h : Rd K0 w0 p M R G rk) (i : Int) : Calls Tryz.prog 50 #[.pointer (some ⟨p, 0, none⟩), .int .i64 i] w0 (Lst w0 (trI M.n (fK M R G) i)) := by
 obtain ⟨V1, V2, V3, V4, N0, N1, N2, e1, e2, e3, e4, n0, n1, n2, cn, fn, c0, c2, hK4, hs4, hO, c1⟩ := vars3 w0 p 123 (fun a b c => walkF b a c)
 have HR : Hid (Rd K0 w0 p M R G rk) := h
 have HO : Hid (OutX (fun k => k < w0.heap.size \/ k = N0 \/ k = N2) V4 N1 []) := hO
 have HK4 : Hid (Kept (fun k => k < w0.heap.size) w0 V4) := hK4
 have HE1 : Hid (w0.alloc (.cells #[.pointer (some ⟨p, 0, none⟩)] 25) = V1) := e1
 have HE2 : Hid (V1.alloc (.cells #[.slice none 0 0] 33) = V2) := e2
 have HE3 : Hid (V2.alloc (.cells #[.nilFunc] 123) = V3) := e3
 have HE4 : Hid (V3.setCell ⟨N2, 0, none⟩ (walkF N1 N0 N2) = V4) := e4
 have HN0 : Hid (w0.heap.size = N0) := n0
 have HN1 : Hid (N0 + 1 = N1) := n1
 have HN2 : Hid (N1 + 1 = N2) := n2
 have HC : Hid (V4.cell? ⟨N0, 0, none⟩ = some (.pointer (some ⟨p, 0, none⟩)) /\ V4.cell? ⟨N2, 0, none⟩ = some (walkF N1 N0 N2)) := ⟨c0, c2⟩
 have HLT : Hid (N0 < V4.heap.size /\ N2 < V4.heap.size) := ⟨by rw [hs4]; omega, by rw [hs4]; omega⟩
 obtain ⟨L, hL⟩ : ∃ L, trI M.n (fK M R G) i = L := ⟨_, rfl⟩
 rw [hL]
 clear hO hK4 e1 e2 e3 e4 n0 n1 n2 hs4
 by_cases cI : i < 0 \/ (M.n : Int) <= i
 ·have HE : Hid (L = []) := by rw [<- hL, trI_no cI]; exact rfl
  have rn := (h.kept HK4.out).noNode cI
  have HC1 : Hid (V4.cell? ⟨N1, 0, none⟩ = some (.slice none 0 0)) := c1
  have HL1 : Hid (N1 < V4.heap.size) := World.block_lt_of_cell? V4 _ c1
  clear h hL cI c1
  go_enter Tryz.func50, Tryz.ntmps50
  go_upto_region 3 with fail
  rw [HE1.out, HN0.out, HE2.out, HN1.out, HE3.out, HN2.out]
  go_upto_region 4 with fail
  rw [HE4.out]
  clear HE1 HE2 HE3 HE4 HN0 HN1 HN2 cn fn
  go_wp2_with fail
  refine rn.mono ?_
  rintro e v1 ⟨rfl, hK1⟩
  obtain ⟨V5, N5, hV5, hN5, hb5, hk5, -⟩ := alloc_box v1 zero14 41
  have k45 : Kept (fun k => k < V4.heap.size) V4 V5 := hK1.trans (hk5.mono fun k h => Nat.lt_of_lt_of_le h hK1.size)
  have d1 : V5.cell? ⟨N1, 0, none⟩ = some (.slice none 0 0) := (k45.cell (p := ⟨N1, 0, none⟩) HL1.out).trans HC1.out
  have HK : Hid (Kept (fun k => k < w0.heap.size) w0 V5) := HK4.out.trans (k45.mono fun k h => Nat.lt_of_lt_of_le h HK4.out.size)
  have HV5 : Hid (v1.alloc (.cells zero14 41) = V5) := hV5
  have HN5 : Hid (v1.heap.size = N5) := hN5
  clear rn hV5 hN5 hk5 hK1 hb5 k45 c0 c2
  go_upto_region 5 with fail
  rw [HV5.out, HN5.out]
  clear HV5 HN5
  go_wp2
  go_ret
  rw [HE.out]
  exact Lst.nil w0 _ HK.out
 ·obtain ⟨k, rfl⟩ : ∃ k : Nat, i = (k : Int) := ⟨i.toNat, by omega⟩
  have hk : k < M.n := by omega
  have HL : Hid (tr M.n (fK M R G) k = L) := by rw [<- hL, trI_in hk]; exact rfl
  have rn := (h.kept HK4.out).node hk
  have HKN : Hid (k < M.n) := hk
  have HWL : Hid ((tr M.n (fK M R G) k).length <= 100000) := Nat.le_trans (h.inv.walk_len hk) h.le
  clear h hL cI c1 hk
  go_enter Tryz.func50, Tryz.ntmps50
  go_upto_region 3 with fail
  rw [HE1.out, HN0.out, HE2.out, HN1.out, HE3.out, HN2.out]
  go_upto_region 4 with fail
  rw [HE4.out]
  clear HE1 HE2 HE3 HE4 HN1 HN2 cn fn
  go_wp2_with fail
  refine rn.mono ?_
  rintro e v1 ⟨ao1, ac1, ko1, kc1, rfl, hO1, hQ1, hK1⟩
  obtain ⟨V5, N5, hV5, hN5, hB5⟩ := BoxN.of (up := (M.pl k).up) hO1 hQ1 hK1
  have HV5 : Hid (v1.alloc (.cells (nV (M.nd k) ao1 ac1 ((M.pl k).up) ko1 (R k).length kc1) 41) = V5) := hV5
  have HN5 : Hid (v1.heap.size = N5) := hN5
  have HB5 : Hid (BoxN V4 V5 N5 (M.nd k) ((M.pl k).up) (R k) ao1 ac1 ko1 kc1) := hB5
  have d0 : V5.cell? ⟨N0, 0, none⟩ = some (.pointer (some ⟨p, 0, none⟩)) := (hB5.kept.cell (p := ⟨N0, 0, none⟩) HLT.out.1).trans HC.out.1
  have d2 : V5.cell? ⟨N2, 0, none⟩ = some (walkF N1 N0 N2) := (hB5.kept.cell (p := ⟨N2, 0, none⟩) HLT.out.2).trans HC.out.2
  have hK5 : Kept (fun k => k < w0.heap.size) w0 V5 := HK4.out.trans (hB5.kept.mono fun k h => Nat.lt_of_lt_of_le h HK4.out.size)
  have HK5 : Hid (Kept (fun k => k < w0.heap.size) w0 V5) := hK5
  have hO5 := HO.out.kept (K' := fun k => k < w0.heap.size \/ k = N0 \/ k = N2) hB5.kept (fun k hk => .inl hk) (fun k hk => Nat.lt_of_lt_of_le (HO.out.2.1 k hk) hB5.kept.size)
  have r := walk_in HR.out N1 N0 N2 _ k (Nat.lt_succ_self _) HKN.out _ V5 [] (fun k hk => .inl hk) (.inr (.inl rfl)) (.inr (.inr rfl)) hK5 d0 d2 hO5 (by have := HWL.out; simp only [List.length_nil]; omega)
  rw [HL.out, List.nil_append] at r
  have he := enter104
  clear rn hO1 hQ1 hK1 hV5 hN5 hB5 c0 c2 hO5 hK5 d0
  go_upto_region 5 with fail
  rw [HV5.out, HN5.out]
  clear HV5 HN5
  go_wp2_with fail
  refine r.mono ?_
  rintro e w2 ⟨rfl, hO2, hk2⟩
  obtain ⟨-, -, ao, c, hb, hOZ⟩ := hO2
  have cb : w2.cell? ⟨N1, 0, none⟩ = some (.slice ao L.length c) := by rw [cell_block hb]; rfl
  have HOZ : Hid (OwnZ (fun k => k < w0.heap.size) w2 3 1 ao L.length c (ivs L)) := hOZ.to (fun g hg hh => (hOZ.out hg).1 (.inl (.inl hh))) (fun _ _ => rfl)
  have HK6 : Hid (Kept (fun k => k < w0.heap.size) w0 w2) := HK5.out.trans (hk2.mono fun k hk => .inl hk)
  obtain ⟨ll, hll⟩ : ∃ ll, L.length = ll := ⟨_, rfl⟩
  have HLL : Hid (L.length = ll) := hll
  rw [hll] at cb
  clear r hb hOZ hk2 he d2 hll
  go_wp2
  go_ret
  exact ⟨ao, c, by rw [HLL.out]; rfl, by rw [HLL.out]; rw [HLL.out] at HOZ; exact HOZ.out, HK6.out⟩
end
end
section
open Go.RowKit
structure Kn (K : Nat -> Prop) (w : World) (p : Nat) (M : Dm) (R G : Nat -> List Nat) : Prop where
 d : DX K w p M
 inv : ∃ rk, Inv M R G rk
 lim : M.limit <= 100000
 le : M.n <= M.limit
section
variable {K : Nat -> Prop} {w w' : World} {p : Nat} {M : Dm} {R G : Nat -> List Nat}
theorem Kn.kept (h : Kn K w p M R G) (hk : Kept (fun k => k < w.heap.size) w w') : Kn K w' p M R G := ⟨h.d.kept hk, h.inv, h.lim, h.le⟩
theorem Kn.rd (h : Kn K w p M R G) : ∃ rk, Rd K w p M R G rk := by
 obtain ⟨rk, hI⟩ := h.inv
 exact ⟨rk, h.d, hI, Nat.le_trans h.le h.lim⟩
theorem Kn.new {w0 : World} {limit : Nat} (hX : DX K w p (Dm.new limit)) (h1 : 1 <= limit) (h2 : limit <= 100000) : Kn K w p (Dm.new limit) (fun _ => []) (fun _ => []) := ⟨hX, ⟨_, Inv.new limit⟩, h2, h1⟩
theorem Kn.make (h : Kn K w p M R G) (kz : Int) (kd : Nat) (S D : ByteArray) (nm dt : List UInt8) (hkz : kz = (kd : Int)) (hS : S.toList = nm) (hD : D.toList = dt) (hs : soundN ⟨kd, nm, dt, []⟩ = true) (ht : ¬ (kd = 1 /\ nm = [116, 101, 109, 112, 108, 97, 116, 101])) (hr : M.n + 1 <= M.limit) :
  Calls Tryz.prog 58 #[.pointer (some ⟨p, 0, none⟩), plainV kz S D] w fun e w' => e = .returned (.tuple #[.int .i64 (M.n : Int), .int .u16 0]) /\ Kn K w' p (M.add (Mk.nd ⟨kd, nm, dt, []⟩)) (updR R M.n []) (updR G M.n []) /\ Kept K w w' := by
 obtain ⟨rk, hI⟩ := h.inv
 refine (make1 K p M w kz kd S D nm dt hkz hS hD h.d (Nat.le_trans h.le h.lim) h.lim hs ht hr).mono ?_
 rintro e w' ⟨rfl, hX, hk⟩
 have hm := soundN_ok hs
 exact ⟨rfl, ⟨hX, ⟨rk, hI.add _ hm hm.few⟩, h.lim, hr⟩, hk⟩
theorem Kn.root (h : Kn K w p M R G) {host : Nat} (f : Fg) (hh : host < M.n) (hk : (M.nd host).kind = 1) (hs : (M.nd host).shadow = -1) (hr : M.n + 1 <= M.limit) :
  Calls Tryz.prog 59 #[.pointer (some ⟨p, 0, none⟩), .int .i64 (host : Int), fgV f] w fun e w' => e = .returned (.tuple #[.int .i64 (M.n : Int), .int .u16 0]) /\ Kn K w' p (M.addR host f) (updR R M.n []) (updR G M.n []) /\ Kept K w w' := by
 obtain ⟨rk, hI⟩ := h.inv
 refine (root_in K p host M f w h.d hh (Nat.le_trans h.le h.lim) h.lim).mono ?_
 rintro e w' ⟨hK, hR⟩
 cases hR with
 | host a _ _ => exact absurd hk a
 | twice _ a _ _ => exact absurd hs a
 | full _ _ a _ _ => omega
 | made _ _ _ e hX => exact ⟨e, ⟨hX, hI.addR f hh hk hs, h.lim, hr⟩, hK⟩
theorem Kn.ins (h : Kn K w p M R G) {up i : Nat} (bef : Int) (hu : up < M.n) (hi : i < M.n) (hb : bef = -1 \/ ∃ m : Nat, m < M.n /\ bef = (m : Int)) (hF : Fits M up i bef) :
  Calls Tryz.prog 60 #[.pointer (some ⟨p, 0, none⟩), .int .i64 (up : Int), .int .i64 (i : Int), .int .i64 bef] w fun e w' => e = .returned (.int .u16 0) /\ Kn K w' p (M.setP (putD M R up i bef)) (putDR M R up i bef) G /\ Kept K w w' := by
 obtain ⟨rk, hI⟩ := h.inv
 refine (insert_in K p up i bef M R rk w h.d hI.good.wf hI.good.acy hu hi hb (by have := h.le; have := h.lim; omega)).mono ?_
 rintro e w' ⟨hK, ⟨_, hn, _⟩ | ⟨e, _, hX⟩⟩
 ·exact absurd hF hn
 ·exact ⟨e, ⟨hX, hI.ins hu hi hF, h.lim, h.le⟩, hK⟩
end
abbrev fg0 : Fg := ⟨false, false, false, false, false⟩
abbrev slotBB : ByteArray := ⟨#[115, 108, 111, 116]⟩
theorem sound_sl : soundN ⟨1, [115, 108, 111, 116], [], []⟩ = true := by kernel_rfl
theorem slotBB_list : slotBB.toList = [115, 108, 111, 116] := by rw [ByteArray.toList_eq]
def slN : Nd := Mk.nd ⟨1, [115, 108, 111, 116], [], []⟩
def txN : Nd := Mk.nd ⟨2, [], [120], []⟩
def q4 : Dm := ((((Dm.new 9).add divN).add txN).add slN).addR 1 fg0
def q4R : Nat -> List Nat := updR (updR (updR (updR (fun _ => []) 1 []) 2 []) 3 []) 4 []
def q5 : Dm := q4.setP (putD q4 q4R 1 2 (-1))
def q5R : Nat -> List Nat := putDR q4 q4R 1 2 (-1)
def q6 : Dm := q5.setP (putD q5 q5R 4 3 (-1))
def q6R : Nat -> List Nat := putDR q5 q5R 4 3 (-1)
theorem wi_end {M : Dm} {i k : Nat} (h : parI M k = -1) (hk : k ≠ i) : ¬ Wi M i k := fun hw => by
 cases hw with
 | here => exact hk rfl
 | up e _ => omega
theorem wi_step {M : Dm} {i k m : Nat} (h : parI M k = (m : Int)) (hk : k ≠ i) (hm : ¬ Wi M i m) : ¬ Wi M i k := fun hw => by
 cases hw with
 | here => exact hk rfl
 | @up _ m' e h' =>
  have : m' = m := by omega
  exact hm (this ▸ h')
theorem qF4 : Fits q4 1 2 (-1) := ⟨by kernel_rfl, by kernel_rfl, wi_end (by kernel_rfl) (by decide), .inl rfl⟩
theorem qF5 : Fits q5 4 3 (-1) := ⟨by kernel_rfl, by kernel_rfl, wi_step (m := 1) (by kernel_rfl) (by decide) (wi_end (by kernel_rfl) (by decide)), .inl rfl⟩
section
variable {G : Nat -> List Nat} {rk : Nat -> Nat}
theorem q6of : ofZ q6 3 = 4 := ofZ_eq (M := q6) (i := 3) (z := 4) (by decide +kernel) (.yes (t := 4) (.up (m := 4) (by kernel_rfl) (.here (by kernel_rfl))) (by kernel_rfl))
theorem q6asg : asgL q6 q6R G 3 = [2] := by
 unfold asgL
 have h1 : isSl (q6.nd 3) = true := by kernel_rfl
 have e : ofZ q6 ((3 : Nat) : Int) = 4 := q6of
 rw [h1, e, if_neg (by simp)]
 show shwL q6 q6R G 3 4 = [2]
 unfold shwL
 have hb : (q6.nd 4).fl.b = false := by kernel_rfl
 rw [hb, if_neg (by simp)]
 have hf : fstS q6 q6R (atV nameN (q6.nd 3).attrs) 4 = ((3 : Nat) : Int) := by kernel_rfl
 rw [if_pos hf]
 have hr : (q6R (q6.nd 4).host.toNat).filter (fun k => asksB (atV nameN (q6.nd 3).attrs) (q6.nd k)) = [2] := by kernel_rfl
 exact hr
theorem q6asg2 : asgL q6 q6R G 2 = [] := by
 unfold asgL
 have h1 : isSl (q6.nd 2) = false := by kernel_rfl
 rw [if_pos (.inl h1)]
theorem q6K1 : fK q6 q6R G 1 = [3] := by
 have h : (q6.nd 1).shadow = 4 := by kernel_rfl
 have hr : q6R 4 = [3] := by kernel_rfl
 unfold fK
 rw [h, if_pos (by decide)]
 exact hr
theorem q6K3 : fK q6 q6R G 3 = [2] := by
 have h : (q6.nd 3).shadow = -1 := by kernel_rfl
 unfold fK
 rw [h, if_neg (by decide), q6asg, if_neg (by simp)]
theorem q6K2 : fK q6 q6R G 2 = [] := by
 have h : (q6.nd 2).shadow = -1 := by kernel_rfl
 have hr : q6R 2 = [] := by kernel_rfl
 unfold fK
 rw [h, if_neg (by decide), q6asg2, if_pos rfl]
 exact hr
theorem q6W (h : Inv q6 q6R G rk) : tr q6.n (fK q6 q6R G) 1 = [1, 3, 2] := by
 have hF := h.fK_falls
 have n5 : q6.n = 5 := by kernel_rfl
 rw [tr_eq hF (by rw [n5]; decide), q6K1, List.flatMap_singleton, tr_eq hF (by rw [n5]; decide), q6K3, List.flatMap_singleton, tr_eq hF (by rw [n5]; decide), q6K2, List.flatMap_nil]
theorem q6U2 (h : Inv q6 q6R G rk) : upZ q6 q6R G 2 = 3 := by
 have n5 : q6.n = 5 := by kernel_rfl
 have := (h.fK_mem (i := 3) (k := 2) (by rw [n5]; decide) (by rw [q6K3]; simp)).2.2.2.1 (by decide +kernel)
 exact this
theorem q6U3 (h : Inv q6 q6R G rk) : upZ q6 q6R G 3 = 1 := by
 have n5 : q6.n = 5 := by kernel_rfl
 have := (h.fK_mem (i := 1) (k := 3) (by rw [n5]; decide) (by rw [q6K1]; simp)).2.2.2.1 (by decide +kernel)
 exact this
end
end
section
open Go.RowKit
theorem one_cell {w : World} {l : List Nat} {K : Nat -> Prop} {ao : Option Addr} {c x n : Nat} (hO : OwnZ K w 3 1 ao n c (ivs (x :: l))) : ∃ g, ao = some ⟨g, 0, none⟩ /\ g < w.heap.size /\ w.cell? ⟨g, 0, none⟩ = some (.int .i64 (x : Int)) := by
 obtain ⟨g, e, h0⟩ := hO.cell (j := 0) (u := .int .i64 (x : Int)) rfl
 exact ⟨g, e, (hO.out (g := g) e).2, h0⟩
theorem fknown_any (w : World) : Calls Tryz.prog 48 #[] w fun e w' => e = .returned (.bool true) /\ Kept (fun k => k < w.heap.size) w w' := by
 have r0 := new_yes 9 w (by decide) (by decide)
 go_enter Tryz.func48, Tryz.ntmps48
 go_wp2_with fail
 refine r0.mono ?_
 rintro e w1 ⟨p, rfl, hp, hX1, hK1⟩
 have k1 : Kn (fun k => k < w.heap.size) w1 p (Dm.new 9) (fun _ => []) (fun _ => []) := Kn.new (w0 := w) hX1 (by decide) (by decide)
 have r1 := k1.make 1 1 divB ⟨#[]⟩ [100, 105, 118] [] rfl divB_list empB_list sound_div (by decide) (by decide)
 have HK1 : Hid (Kept (fun k => k < w.heap.size) w w1) := hK1
 clear r0 hX1 hK1 k1 hp
 go_wp2_with fail
 refine r1.mono ?_
 rintro e w2 ⟨rfl, k2, hK2⟩
 have r2 := k2.make 2 2 ⟨#[]⟩ ⟨#[120]⟩ [] [120] rfl empB_list xB_list sound_txt (by decide) (by decide)
 have HK2 : Hid (Kept (fun k => k < w.heap.size) w w2) := HK1.out.trans hK2
 clear r1 k2 hK2
 go_wp2_with fail
 refine r2.mono ?_
 rintro e w3 ⟨rfl, k3, hK3⟩
 have r3 := k3.make 1 1 slotBB ⟨#[]⟩ [115, 108, 111, 116] [] rfl slotBB_list empB_list sound_sl (by decide) (by decide)
 have HK3 : Hid (Kept (fun k => k < w.heap.size) w w3) := HK2.out.trans hK3
 clear r2 k3 hK3
 go_wp2_with fail
 refine r3.mono ?_
 rintro e w4 ⟨rfl, k4, hK4⟩
 have r4 := k4.root (host := 1) fg0 (by decide) (by kernel_rfl) (by kernel_rfl) (by decide)
 have HK4 : Hid (Kept (fun k => k < w.heap.size) w w4) := HK3.out.trans hK4
 clear r3 k4 hK4
 go_wp2_with fail
 refine r4.mono ?_
 rintro e w5 ⟨rfl, k5, hK5⟩
 have k5' : ∃ G, Kn (fun k => k < w.heap.size) w5 p q4 q4R G := ⟨_, k5⟩
 obtain ⟨G, k5⟩ := k5'
 have r5 := k5.ins (up := 1) (i := 2) (-1) (by decide +kernel) (by decide +kernel) (.inl rfl) qF4
 have HK5 : Hid (Kept (fun k => k < w.heap.size) w w5) := HK4.out.trans hK5
 clear r4 hK5 k5
 go_wp2_with fail
 refine r5.mono ?_
 rintro e w6 ⟨rfl, k6, hK6⟩
 have k6' : Kn (fun k => k < w.heap.size) w6 p q5 q5R G := k6
 have r6 := k6'.ins (up := 4) (i := 3) (-1) (by decide +kernel) (by decide +kernel) (.inl rfl) qF5
 have HK6 : Hid (Kept (fun k => k < w.heap.size) w w6) := HK5.out.trans hK6
 clear r5 hK6 k6 k6'
 go_wp2_with fail
 refine r6.mono ?_
 rintro e w7 ⟨rfl, k7, hK7⟩
 have k7' : Kn (fun k => k < w.heap.size) w7 p q6 q6R G := k7
 obtain ⟨rk, hR⟩ := k7'.rd
 have HK7 : Hid (Kept (fun k => k < w.heap.size) w w7) := HK6.out.trans hK7
 have HR : Hid (Rd (fun k => k < w.heap.size) w7 p q6 q6R G rk) := hR
 have n5 : q6.n = 5 := by kernel_rfl
 have ra := hR.kids 1
 have ea : fKI q6 q6R G 1 = [3] := (fKI_in (i := 1) (by rw [n5]; decide)).trans q6K1
 rw [ea] at ra
 have RB : Hid (∀ X, Kept (fun k => k < w7.heap.size) w7 X -> Calls Tryz.prog 52 #[.pointer (some ⟨p, 0, none⟩), .int .i64 3] X (Lst X [2])) := fun X hX => by
  have := (HR.out.kept hX).kids 3
  rw [show fKI q6 q6R G 3 = [2] from (fKI_in (i := 3) (by rw [n5]; decide)).trans q6K3] at this
  exact this
 have RW : Hid (∀ X, Kept (fun k => k < w7.heap.size) w7 X -> Calls Tryz.prog 50 #[.pointer (some ⟨p, 0, none⟩), .int .i64 1] X (Lst X [1, 3, 2])) := fun X hX => by
  have := (HR.out.kept hX).walk 1
  rw [show trI q6.n (fK q6 q6R G) 1 = [1, 3, 2] from (trI_in (i := 1) (by rw [n5]; decide)).trans (q6W HR.out.inv)] at this
  exact this
 have RU2 : Hid (∀ X, Kept (fun k => k < w7.heap.size) w7 X -> Calls Tryz.prog 51 #[.pointer (some ⟨p, 0, none⟩), .int .i64 2] X fun e w' => e = .returned (.int .i64 3) /\ Kept (fun k => k < X.heap.size) X w') := fun X hX => by
  have := (HR.out.kept hX).up 2
  rw [show upI q6 q6R G 2 = 3 from (upI_in (i := 2) (by rw [n5]; decide)).trans (q6U2 HR.out.inv)] at this
  exact this
 have RU3 : Hid (∀ X, Kept (fun k => k < w7.heap.size) w7 X -> Calls Tryz.prog 51 #[.pointer (some ⟨p, 0, none⟩), .int .i64 3] X fun e w' => e = .returned (.int .i64 1) /\ Kept (fun k => k < X.heap.size) X w') := fun X hX => by
  have := (HR.out.kept hX).up 3
  rw [show upI q6 q6R G 3 = 1 from (upI_in (i := 3) (by rw [n5]; decide)).trans (q6U3 HR.out.inv)] at this
  exact this
 clear r6 hK7 k7 k7' hR ea n5
 go_wp2_with fail
 refine ra.mono ?_
 rintro e w8 ⟨ga, ca, rfl, hO8, hk8⟩
 obtain ⟨g8, rfl, hg8, c8⟩ := one_cell hO8
 have rb := RB.out w8 hk8
 have HK8 : Hid (Kept (fun k => k < w7.heap.size) w7 w8) := hk8
 clear ra hO8 hk8
 go_wp2_with fail
 refine rb.mono ?_
 rintro e w9 ⟨gb, cb, rfl, hO9, hk9⟩
 obtain ⟨g9, rfl, hg9, c9⟩ := one_cell hO9
 have k79 : Kept (fun k => k < w7.heap.size) w7 w9 := HK8.out.trans (hk9.mono fun k h => Nat.lt_of_lt_of_le h HK8.out.size)
 have rw1 := RW.out w9 k79
 have d8 : w9.cell? ⟨g8, 0, none⟩ = some (.int .i64 3) := (hk9.cell (p := ⟨g8, 0, none⟩) hg8).trans c8
 have hg8' : g8 < w9.heap.size := Nat.lt_of_lt_of_le hg8 hk9.size
 have HK9 : Hid (Kept (fun k => k < w7.heap.size) w7 w9) := k79
 clear rb hO9 hk9 k79 c8 hg8
 go_wp2_with fail
 refine rw1.mono ?_
 rintro e w10 ⟨gc, cc, rfl, -, hk10⟩
 have k710 : Kept (fun k => k < w7.heap.size) w7 w10 := HK9.out.trans (hk10.mono fun k h => Nat.lt_of_lt_of_le h HK9.out.size)
 have e8 : w10.cell? ⟨g8, 0, none⟩ = some (.int .i64 3) := (hk10.cell (p := ⟨g8, 0, none⟩) hg8').trans d8
 have e9 : w10.cell? ⟨g9, 0, none⟩ = some (.int .i64 2) := (hk10.cell (p := ⟨g9, 0, none⟩) hg9).trans c9
 have ru2 := RU2.out w10 k710
 have HK10 : Hid (Kept (fun k => k < w7.heap.size) w7 w10) := k710
 clear rw1 hk10 k710 d8 c9 hg8' hg9
 go_wp2_with fail
 refine ru2.mono ?_
 rintro e w11 ⟨rfl, hk11⟩
 have k711 : Kept (fun k => k < w7.heap.size) w7 w11 := HK10.out.trans (hk11.mono fun k h => Nat.lt_of_lt_of_le h HK10.out.size)
 have ru3 := RU3.out w11 k711
 have HK11 : Hid (Kept (fun k => k < w7.heap.size) w7 w11) := k711
 clear ru2 hk11 k711 e8 e9
 go_wp2_with fail
 refine ru3.mono ?_
 rintro e w12 ⟨rfl, hk12⟩
 have HK12 : Hid (Kept (fun k => k < w.heap.size) w w12) := (HK7.out.trans (HK11.out.mono fun k h => Nat.lt_of_lt_of_le h HK7.out.size)).trans (hk12.mono fun k h => Nat.lt_of_lt_of_le h (Nat.le_trans HK7.out.size HK11.out.size))
 clear ru3 hk12
 go_wp2
 go_ret
 exact ⟨rfl, HK12.out⟩
end
end Go.Proofs.YtljnjdckhkglfaaGreat
