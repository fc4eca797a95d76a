/-
 slots: rootOf, shown, Assigned, Slots.; A list that grows behind a closure; flat.Walk.; A document that is made call by call.; portierelaw13: known.
-/
import Derived.Test.YtfeinppedejlpaaGreatKC03
import Derived.Test.YtfeinppedejlpaaGreatKB06
import Derived.Test.YtfeinppedejlpaaGreatKB15
import Derived.Test.YtfeinppedejlpaaGreatKB16
namespace Go.Proofs.YtfeinppedejlpaaGreat
set_option linter.unusedVariables false
set_option maxRecDepth 100000
set_option maxHeartbeats 8000000
section
open Go.RowKit
theorem Lst.nil (w w' : World) (hk : Kept (fun k => k < w.heap.size) w w') : Lst w [] (.returned (.slice none 0 0)) w' := ⟨none, 0, rfl, Zac.nil _ _ _ _, hk⟩
theorem Lst.on {w X w' : World} {l : List Nat} {e : Ending} (h : Lst X l e w') (hk : Kept (fun k => k < w.heap.size) w X) : Lst w l e w' := by
 obtain ⟨ao, c, e1, hO, hK⟩ := h
 exact ⟨ao, c, e1, hO.to (fun g hg hh => (hO.out hg).1 (ltl hh hk.size)) (fun _ _ => rfl), kt hk hK⟩
noncomputable def zfc (M : Dm) (i : Int) : Int := if (i < 0 \/ (M.n : Int) <= i) \/ za9 (M.nd i.toNat) = false then -1 else ofZ M i
section
variable {K : Nat -> Prop} {w : World} {p : Nat} {M : Dm} {R G : Nat -> List Nat} {rk : Nat -> Nat}
theorem Rd.given (h : Rd K w p M R G rk) {i : Nat} (hi : i < M.n) : Calls Tryz.prog 123 #[.pointer (some ⟨p, 0, none⟩), .int .i64 (i : Int)] w (Lst w (G i)) :=
 zre K p i M G w h.d h.inv.gw hi (by have := h.le; omega)
theorem Rd.rootOf (h : Rd K w p M R G rk) (i : Int) :
  Calls Tryz.prog 80 #[.pointer (some ⟨p, 0, none⟩), .int .i64 i] w fun e w' => e = .returned (.int .i64 (zfc M i)) /\ Kept (fun k => k < w.heap.size) w w' := by
 obtain ⟨Z, hZ⟩ : ∃ Z, zfc M i = Z := ⟨_, rfl⟩
 have HZ : Hid (zfc M i = Z) := hZ
 rw [hZ]
 by_cases cI : i < 0 \/ (M.n : Int) <= i
 ·have rn := h.noNode cI
  have HE : Hid (Z = -1) := by rw [<- hZ]; unfold zfc; rw [if_pos (.inl cI)]; exact rfl
  clear h hZ cI
  go_enter Tryz.func80, Tryz.ntmps80
  go_wp2_with fail
  refine rn.mono ?_
  rintro e v1 ⟨rfl, hK1⟩
  obtain ⟨V1, N1, hV1, hN1, hb1, hk1, -⟩ := zar v1 za2   58
  have rs := ze6 zj8 none 0 0 none 0 0 V1
  rw [<- zos] at rs
  have HK : Hid (Kept (fun k => k < w.heap.size) w V1) := kt hK1 hk1
  have HV1 : Hid (v1.alloc (.cells za2 58) = V1) := hV1
  have HN1 : Hid (v1.heap.size = N1) := hN1
  have hs0 : za9 zj8 = false := rfl
  rw [hs0] at rs
  clear rn hV1 hN1 hk1 hK1
  go_upto_region 2 with fail
  rw [HV1.out, HN1.out]
  clear HV1 HN1
  go_wp2_with (refine wpList_load_row rfl 58 _ rfl N1 rfl 58 za2 (0, 0) _ hb1 Tryz.underlying58 rfl (zez za2 rfl) ?_)
  refine rs.mono ?_
  rintro e w2 ⟨rfl, hk2⟩
  clear rs
  go_wp2
  go_ret
  exact ⟨by rw [HE.out]; rfl, kt HK.out hk2⟩
 ·obtain ⟨k, rfl⟩ : ∃ k : Nat, i = (k : Int) := ⟨i.toNat, by omega⟩
  have hk : k < M.n := by omega
  have HE : Hid (Z = if za9 (M.nd k) = false then -1 else ofZ M (k : Int)) := by
   rw [<- hZ]
   unfold zfc
   rw [Int.toNat_natCast]
   by_cases c : za9 (M.nd k) = false
   ·rw [if_pos (.inr c), if_pos c]; exact rfl
   ·rw [if_neg (fun hh => hh.elim cI c), if_neg c]; exact rfl
  have rn := h.node hk
  have HR : Hid (Rd K w p M R G rk) := h
  clear h hZ cI hk
  go_enter Tryz.func80, Tryz.ntmps80
  go_wp2_with fail
  refine rn.mono ?_
  rintro e v1 ⟨ao1, ac1, ko1, kc1, rfl, hO1, hQ1, hK1⟩
  obtain ⟨V1, N1, hV1, hN1, hB1⟩ := Zb1.of (up := (M.pl k).up) hO1 hQ1 hK1
  have HV1 : Hid (v1.alloc (.cells (nV (M.nd k) ao1 ac1 ((M.pl k).up) ko1 (R k).length kc1) 58) = V1) := hV1
  have HN1 : Hid (v1.heap.size = N1) := hN1
  have HB1 : Hid (Zb1 w V1 N1 (M.nd k) ((M.pl k).up) (R k) ao1 ac1 ko1 kc1) := hB1
  have rs := ze6 (M.nd k) ao1 ac1 (M.pl k).up ko1 (R k).length kc1 V1
  have hb1 := hB1.blk
  obtain ⟨cs, hcs⟩ : ∃ cs, nV (M.nd k) ao1 ac1 (M.pl k).up ko1 (R k).length kc1 = cs := ⟨_, rfl⟩
  have hcz : cs.size = 14 := by rw [<- hcs]; rfl
  rw [hcs] at rs hb1
  obtain ⟨q, hq⟩ : ∃ q, za9 (M.nd k) = q := ⟨_, rfl⟩
  rw [hq] at rs HE
  clear rn hO1 hQ1 hK1 hV1 hN1 hB1 hcs hq
  go_upto_region 2 with fail
  rw [HV1.out, HN1.out]
  clear HV1 HN1
  go_wp2_with (refine wpList_load_row rfl 58 _ rfl N1 rfl 58 cs (0, 0) _ hb1 Tryz.underlying58 rfl (zez cs hcz) ?_)
  refine rs.mono ?_
  rintro e w2 ⟨rfl, hk2⟩
  have HK2 : Hid (Kept (fun k => k < w.heap.size) w w2) := (HB1.out.later hk2).kept
  clear rs hk2 hb1 HB1
  cases q with
  | false =>
   have h0 : Z = -1 := by simpa using HE.out
   have HE0 : Hid (Z = -1) := h0
   clear HE h0
   go_wp2
   go_ret
   exact ⟨by rw [HE0.out]; rfl, HK2.out⟩
  | true =>
   have ro := (HR.out.kept HK2.out).of (k : Int)
   rw [if_neg (by simp)] at HE
   rw [<- HE.out] at ro
   go_wp2_with fail
   refine ro.mono ?_
   rintro e w3 ⟨rfl, hk3⟩
   clear ro
   go_wp2
   go_ret
   exact ⟨rfl, kt HK2.out hk3⟩
theorem Rd.shown (h : Rd K w p M R G rk) {i s : Nat} (hi : i < M.n) (hs : s < M.n) (h5 : (M.nd s).kind = 5) :
  Calls Tryz.prog 81 #[.pointer (some ⟨p, 0, none⟩), .int .i64 (i : Int), .int .i64 (s : Int)] w (Lst w (zd7 M R G i s)) := by
 obtain ⟨o, ho, eo, -⟩ := h.inv.host hs h5
 have rn := h.node hs
 have HR : Hid (Rd K w p M R G rk) := h
 have HI : Hid (i < M.n) := hi
 have HS : Hid (s < M.n) := hs
 have HO : Hid (o < M.n) := ho
 have HEO : Hid ((M.nd s).host = (o : Int)) := eo
 obtain ⟨L, hL⟩ : ∃ L, zd7 M R G i s = L := ⟨_, rfl⟩
 have HL : Hid (zd7 M R G i s = L) := hL
 rw [hL]
 clear h hi hs h5 ho eo hL
 go_enter Tryz.func81, Tryz.ntmps81
 go_wp2_with fail
 refine rn.mono ?_
 rintro e v1 ⟨ao1, ac1, ko1, kc1, rfl, hO1, hQ1, hK1⟩
 obtain ⟨V1, N1, hV1, hN1, hB1⟩ := Zb1.of (up := (M.pl s).up) hO1 hQ1 hK1
 have HV1 : Hid (v1.alloc (.cells (nV (M.nd s) ao1 ac1 ((M.pl s).up) ko1 (R s).length kc1) 58) = V1) := hV1
 have HN1 : Hid (v1.heap.size = N1) := hN1
 have HB1 : Hid (Zb1 w V1 N1 (M.nd s) ((M.pl s).up) (R s) ao1 ac1 ko1 kc1) := hB1
 have c10 := hB1.c10
 have c7 := hB1.c7
 rw [HEO.out] at c7
 obtain ⟨mb, hmb⟩ : ∃ b, (M.nd s).fl.b = b := ⟨_, rfl⟩
 have HMB : Hid ((M.nd s).fl.b = mb) := hmb
 rw [hmb] at c10
 have HK1 : Hid (Kept (fun k => k < w.heap.size) w V1) := hB1.kept
 clear rn hO1 hQ1 hK1 hV1 hN1 hB1 hmb
 go_upto_region 2 with fail
 rw [HV1.out, HN1.out]
 clear HV1 HN1
 cases mb with
 | true =>
  have HE : Hid (L = (G i).filter fun k => decide ((M.pl k).up = (o : Int))) := by rw [<- HL.out]; unfold zd7; rw [HMB.out, if_pos rfl, HEO.out]; exact rfl
  have HC7 : Hid (∀ Y, Kept (fun k => k < V1.heap.size) V1 Y -> Y.cell? ⟨N1, 7, none⟩ = some (.int .i64 (o : Int))) := fun Y hY => (hY.cell (p := ⟨N1, 7, none⟩) (World.block_lt_of_cell? V1 _ c7)).trans c7
  have RR : Hid (∀ Y, Kept (fun k => k < V1.heap.size) V1 Y -> Rd K Y p M R G rk) := fun Y hY => (HR.out.kept HK1.out).kept hY
  have HGL : Hid ((G i).length <= 1000000 /\ ∀ k ∈ G i, k < M.n) := ⟨by have h1 := HR.out.inv.gw.len_le HI.out; have h2 := HR.out.le; omega, HR.out.inv.gw.lt i HI.out⟩
  go_upto_region 3 with fail
  clear c7 c10
  refine wp_region_held_drew (S := fun Y => Kept (fun k => k < V1.heap.size) V1 Y) (by kernel_rfl) ((Kept.refl _ V1).drew) (fun hHeld => ?_)
  refine tkH 0 24 (.pointer (some ⟨p, 0, none⟩)) rfl rfl (by kernel_rfl) (by rfl) (by intro Y hY; go_simp; try with_reducible rfl) (fun _ _ _ h => h) hHeld ?_
  try simp only [Act.put, sA, s0, s1]
  refine tkH 1 25 (.int .i64 (i : Int)) rfl rfl (by kernel_rfl) (by rfl) (by intro Y hY; go_simp; try with_reducible rfl) (fun _ _ _ h => h) hHeld ?_
  try simp only [Act.put, sA, s0, s1]
  refine tkH 3 27 (.pointer (some ⟨p, 0, none⟩)) rfl rfl (by kernel_rfl) (by rfl) (by intro Y hY; go_simp; try with_reducible rfl) (fun _ _ _ h => h) hHeld ?_
  try simp only [Act.put, sA, s0, s1]
  refine tkH 4 28 (.pointer (some ⟨N1, 7, none⟩)) rfl rfl (by kernel_rfl) (by rfl) (by intro Y hY; go_simp; try with_reducible rfl) (fun _ _ _ h => h) hHeld ?_
  try simp only [Act.put, sA, s0, s1]
  refine tkH 5 29 (.int .i64 (o : Int)) rfl rfl (by kernel_rfl) (by rfl) (by intro Y hY; have hc := HC7.out Y hY; go_simp; try with_reducible rfl) (fun _ _ _ h => h) hHeld ?_
  try simp only [Act.put, sA, s0, s1]
  refine clH 2 26 123 #[.pointer (some ⟨p, 0, none⟩), .int .i64 (i : Int)] rfl rfl (by kernel_rfl) (by rfl) rfl (by first | rfl | (simp [Act.eval]; done) | (simp [Act.eval, Act.put]; done)) (enter123 _ _) ((RR.out _ hHeld).given HI.out) ?_
  rintro e Y ⟨ga, gc, rfl, hGO, hk9⟩
  refine ⟨_, rfl, kt hHeld hk9, fun hHeld2 => ?_⟩
  replace hHeld := hHeld2
  clear hHeld2
  try simp only [Act.put, sA, s0, s1]
  have hrow : Zad (fun g => g < Y.heap.size) Y ga (G i) := hGO.intsAt fun g hg => (hGO.out hg).2
  refine clH 6 30 157 #[.int .i64 (o : Int)] rfl rfl (by kernel_rfl) (by rfl) rfl (by first | rfl | (simp [Act.eval]; done) | (simp [Act.eval, Act.put]; done)) (enter157 _ _) (zp1 _ _) ?_
  rintro e Y2 ⟨rfl, rfl⟩
  refine ⟨_, rfl, hHeld.trans (((Kept.refl (fun k => k < Y.heap.size) Y).alloc (fun _ h => h) (.cells #[.int .i64 (o : Int)] 3)).mono fun k h => ltl h hHeld.size), fun hHeld2 => ?_⟩
  replace hHeld := hHeld2
  clear hHeld2
  try simp only [Act.put, sA, s0, s1]
  have hask : Zit (Y.alloc (.cells #[.int .i64 (o : Int)] 3)) (.func (.func 227) #[] #[.pointer (some ⟨Y.heap.size, 0, none⟩)]) fun _ up => decide (up = (o : Int)) := zqg (by rw [zaa (heap_alloc_new Y _)]; rfl)
  have hkY2 : Kept (fun k => k < Y.heap.size) Y (Y.alloc (.cells #[.int .i64 (o : Int)] 3)) := (Kept.refl _ Y).alloc (fun _ h => h) _
  obtain ⟨W2, hW2⟩ : ∃ W2, Y.alloc (.cells #[.int .i64 (o : Int)] 3) = W2 := ⟨_, rfl⟩
  rw [hW2] at hask hkY2 hHeld ⊢
  refine clH 7 31 89 #[.pointer (some ⟨p, 0, none⟩), .func (.func 227) #[] #[.pointer (some ⟨Y.heap.size, 0, none⟩)]] rfl rfl (by kernel_rfl) (by rfl) rfl (by first | rfl | (simp [Act.eval]; done) | (simp [Act.eval, Act.put]; done)) (enter89 _ _) ((RR.out _ hHeld).byNumber hask) ?_
  rintro e Y3 ⟨u, rfl, hT, hk9⟩
  refine ⟨_, rfl, kt hHeld hk9, fun hHeld2 => ?_⟩
  replace hHeld := hHeld2
  clear hHeld2
  try simp only [Act.put, sA, s0, s1]
  have kY3 : Kept (fun k => k < Y.heap.size) Y Y3 := kt hkY2 hk9
  have HKV3 : Hid (Kept (fun k => k < V1.heap.size) V1 Y3) := hHeld
  have rp := zgc (G i) (G i).length M.n rfl HGL.out.1 HGL.out.2 ga gc u _ Y3 (hrow.to (fun g hg => ltl hg kY3.size) (fun g hg => kY3.block g hg)) hT
  refine clH 8 32 87 #[.slice ga (G i).length gc, u] rfl rfl (by kernel_rfl) (by rfl) rfl (by first | rfl | (simp [Act.eval]; done) | (simp [Act.eval, Act.put]; done)) (enter87 _ _) (rp) ?_
  rintro e Y4 ⟨pa, pc, rfl, hPO, hk9⟩
  refine ⟨_, rfl, kt hHeld hk9, fun hHeld2 => ?_⟩
  replace hHeld := hHeld2
  clear hHeld2
  try simp only [Act.put, sA, s0, s1]
  obtain ⟨pl, hpl⟩ : ∃ pl, ((G i).filter fun k => decide ((M.pl k).up = (o : Int))).length = pl := ⟨_, rfl⟩
  rw [hpl] at hPO ⊢
  have HK9 : Hid (Kept (fun k => k < Y3.heap.size) Y3 Y4) := hk9
  have HPL : Hid (((G i).filter fun k => decide ((M.pl k).up = (o : Int))).length = pl) := hpl
  have HPO : Hid (Zac (fun k => k < Y3.heap.size) Y4 3 1 pa pl pc (ivs ((G i).filter fun k => decide ((M.pl k).up = (o : Int))))) := hPO
  refine tkH 9 6 (.slice pa pl pc) rfl rfl (by kernel_rfl) (by rfl) (by intro Y hY; go_simp; try with_reducible rfl) (fun _ _ _ h => h) hHeld ?_
  try simp only [Act.put, sA, s0, s1]
  refine wpAnyH_done (by kernel_rfl) ?_ _
  clear hrow hask hkY2 kY3 hT hPO rp hpl hk9
  go_wp2
  go_ret
  exact Lst.on (X := Y3) ⟨pa, pc, by rw [HE.out, HPL.out]; rfl, by rw [HE.out, HPL.out]; exact HPO.out, HK9.out⟩ (kt HK1.out HKV3.out)
 | false =>
  have rn2 := (HR.out.kept HK1.out).node HI.out
  go_wp2_with fail
  refine rn2.mono ?_
  rintro e v2 ⟨ao2, ac2, ko2, kc2, rfl, hO2, hQ2, hK2⟩
  obtain ⟨V2, N2, hV2, hN2, hB2⟩ := Zb1.of (up := (M.pl i).up) hO2 hQ2 hK2
  have HV2 : Hid (v2.alloc (.cells (nV (M.nd i) ao2 ac2 ((M.pl i).up) ko2 (R i).length kc2) 58) = V2) := hV2
  have HN2 : Hid (v2.heap.size = N2) := hN2
  have HB2 : Hid (Zb1 V1 V2 N2 (M.nd i) ((M.pl i).up) (R i) ao2 ac2 ko2 kc2) := hB2
  have c7' := (HB1.out.later hB2.kept).c7
  rw [HEO.out] at c7'
  have HK2 : Hid (Kept (fun k => k < w.heap.size) w V2) := (HB1.out.later hB2.kept).kept
  have rn3 := (HR.out.kept HK2.out).node HO.out
  clear rn2 hO2 hQ2 hK2 hV2 hN2 hB2 c7
  go_upto_region 5 with fail
  rw [HV2.out, HN2.out]
  clear HV2 HN2
  go_wp2_with fail
  refine rn3.mono ?_
  rintro e v3 ⟨ao3, ac3, ko3, kc3, rfl, hO3, hQ3, hK3⟩
  obtain ⟨V3, N3, hV3, hN3, hB3⟩ := Zb1.of (up := (M.pl o).up) hO3 hQ3 hK3
  have HV3 : Hid (v3.alloc (.cells (nV (M.nd o) ao3 ac3 ((M.pl o).up) ko3 (R o).length kc3) 58) = V3) := hV3
  have HN3 : Hid (v3.heap.size = N3) := hN3
  have HB3 : Hid (Zb1 V2 V3 N3 (M.nd o) ((M.pl o).up) (R o) ao3 ac3 ko3 kc3) := hB3
  have HB2b : Hid (Zb1 V1 V3 N2 (M.nd i) (M.pl i).up (R i) ao2 ac2 ko2 kc2) := HB2.out.later hB3.kept
  have HK3 : Hid (Kept (fun k => k < w.heap.size) w V3) := kt HK2.out hB3.kept
  obtain ⟨nm, hnm⟩ : ∃ nm, atV zbp (M.nd i).attrs = nm := ⟨_, rfl⟩
  have ra := zf9 (M.nd i) ao2 ac2 (M.pl i).up ko2 (R i).length kc2 ⟨#[110, 97, 109, 101]⟩ V3 (HR.out.few HI.out) HB2b.out.ats
  rw [ByteArray.toList_eq] at ra
  replace ra : Calls Tryz.prog 75 #[.agg (nV (M.nd i) ao2 ac2 (M.pl i).up ko2 (R i).length kc2), .string ⟨#[110, 97, 109, 101]⟩] V3 fun e w' => e = .returned (sv nm) /\ Kept (fun k => k < V3.heap.size) V3 w' := by rw [<- hnm]; exact ra
  have hb2 := HB2b.out.blk
  obtain ⟨cs, hcs⟩ : ∃ cs, nV (M.nd i) ao2 ac2 (M.pl i).up ko2 (R i).length kc2 = cs := ⟨_, rfl⟩
  have hcz : cs.size = 14 := by rw [<- hcs]; rfl
  rw [hcs] at ra hb2
  have HE : Hid (L = if zkf M R nm s = (i : Int) then (R o).filter (fun k => zca nm (M.nd k)) else []) := by rw [<- HL.out]; unfold zd7; rw [HMB.out, if_neg (by simp), HEO.out, Int.toNat_natCast, hnm]; exact rfl
  clear rn3 hO3 hQ3 hK3 hV3 hN3 hB3 c7' hcs hnm
  go_upto_region 6 with fail
  rw [HV3.out, HN3.out]
  clear HV3 HN3
  go_upto_region 7 with (first | (refine wpList_load_row rfl 58 _ rfl N2 rfl 58 cs (0, 0) _ hb2 Tryz.underlying58 rfl (zez cs hcz) ?_) | (go_at_call 75; refine ra.mono ?_; rintro e w4 ⟨rfl, hk4⟩))
  have HB4 : Hid (Zb1 V2 w4 N3 (M.nd o) (M.pl o).up (R o) ao3 ac3 ko3 kc3) := HB3.out.later hk4
  have HK4 : Hid (Kept (fun k => k < w.heap.size) w w4) := kt HK3.out hk4
  obtain ⟨V5, N5, hV5, hN5, hb5, hk5, -⟩ := zar w4 #[sv nm]   9
  have rq := zk0 ⟨nm.toArray⟩ w4
  have hask : Zit V5 (.func (.func 228) #[] #[.pointer (some ⟨N5, 0, none⟩)]) fun x _ => zca nm x := by
   have := zrg (s := ⟨nm.toArray⟩) (b := N5) (w := V5) (by rw [zaa hb5]; rfl)
   rw [ByteArray.toList_eq] at this
   exact this
  have HK5 : Hid (Kept (fun k => k < w.heap.size) w V5) := kt HK4.out hk5
  have HB5 : Hid (Zb1 V2 V5 N3 (M.nd o) (M.pl o).up (R o) ao3 ac3 ko3 kc3) := HB4.out.later hk5
  have rb := (HR.out.kept HK5.out).byNumber hask
  have rq' : Calls Tryz.prog 158 #[.string ⟨nm.toArray⟩] w4 fun e w' => e = .returned (.func (.func 228) #[] #[.pointer (some ⟨N5, 0, none⟩)]) /\ w' = V5 := by rw [<- hN5, <- hV5]; exact rq
  clear ra hb2 hk4 hV5 hN5 hb5 hk5 rq hask HB3 HB2b
  go_upto_region 8 with (first | (go_at_call 158; refine rq'.mono ?_; rintro e w5 ⟨rfl, hw5⟩; subst hw5) | (go_at_call 89; refine rb.mono ?_; rintro e w6 ⟨u, rfl, hT, hk6⟩))
  have HT : Hid (Zfx w6 u (fun k => zca nm (M.nd k)) M.n) := hT
  have hB6 := HB5.out.later hk6
  have d5 := hB6.c5
  have HK6 : Hid (Kept (fun k => k < w.heap.size) w w6) := kt HK5.out hk6
  have HRL : Hid ((R o).length <= 1000000 /\ ∀ k ∈ R o, k < M.n) := ⟨by have h1 := HR.out.inv.good.wf.len_le HO.out; have h2 := HR.out.le; omega, HR.out.inv.good.wf.lt o HO.out⟩
  have rc := zh3 (R o) (R o).length M.n rfl HRL.out.1 HRL.out.2 ko3 kc3 u _ w6 hB6.row hT
  have HB6 : Hid (Zb1 V2 w6 N3 (M.nd o) (M.pl o).up (R o) ao3 ac3 ko3 kc3) := hB6
  obtain ⟨kl, hkl⟩ : ∃ kl, (R o).length = kl := ⟨_, rfl⟩
  have HKL : Hid ((R o).length = kl) := hkl
  rw [hkl] at rc d5
  obtain ⟨f9, caps9, hu9, he9, hc9⟩ := hT
  subst hu9
  clear hc9 rq' rb hB6 hkl hk6
  obtain ⟨an, han⟩ : ∃ an, (R o).any (fun k => zca nm (M.nd k)) = an := ⟨_, rfl⟩
  have HAN : Hid ((R o).any (fun k => zca nm (M.nd k)) = an) := han
  rw [han] at rc
  clear han
  go_wp2_with fail
  refine rc.mono ?_
  rintro e w7 ⟨rfl, hk7⟩
  have HK7 : Hid (Kept (fun k => k < w.heap.size) w w7) := kt HK6.out hk7
  have HB7 : Hid (Zb1 V2 w7 N3 (M.nd o) (M.pl o).up (R o) ao3 ac3 ko3 kc3) := HB6.out.later hk7
  have HT7 : Hid (Zfx w7 (.func (.func f9) #[] caps9) (fun k => zca nm (M.nd k)) M.n) := HT.out.kept hk7
  clear rc hk7 d5 HB6
  cases an with
  | false =>
   have HN : Hid (L = []) := by
    rw [HE.out]
    have : (R o).filter (fun k => zca nm (M.nd k)) = [] := List.filter_eq_nil_iff.2 fun x hx => by have := List.any_eq_false.1 HAN.out x hx; simpa using this
    rw [this]
    split <;> exact rfl
   clear he9
   go_wp2
   go_ret
   rw [HN.out]
   exact Lst.nil w _ HK7.out
  | true =>
   obtain ⟨V8, N8, hV8, hN8, hb8, hk8, -⟩ := zar w7 #[sv nm]   9
   have rs := zev ⟨nm.toArray⟩ w7
   have rs' : Calls Tryz.prog 74 #[.string ⟨nm.toArray⟩] w7 fun e w' => e = .returned (.func (.func 153) #[] #[.pointer (some ⟨N8, 0, none⟩)]) /\ w' = V8 := by rw [<- hN8, <- hV8]; exact rs
   have hask : Zit V8 (.func (.func 153) #[] #[.pointer (some ⟨N8, 0, none⟩)]) fun x _ => zma nm x := by
    have := zjl (s := ⟨nm.toArray⟩) (b := N8) (w := V8) (by rw [zaa hb8]; rfl)
    rw [ByteArray.toList_eq] at this
    exact this
   have HK8 : Hid (Kept (fun k => k < w.heap.size) w V8) := kt HK7.out hk8
   have HB8 : Hid (Zb1 V2 V8 N3 (M.nd o) (M.pl o).up (R o) ao3 ac3 ko3 kc3) := HB7.out.later hk8
   have HT8 : Hid (Zfx V8 (.func (.func f9) #[] caps9) (fun k => zca nm (M.nd k)) M.n) := HT7.out.kept hk8
   have rf := (HR.out.kept HK8.out).first HS.out hask
   obtain ⟨fz, hfz⟩ : ∃ fz, zee (fun k => zma nm (M.nd k)) (tr M.n R s) = fz := ⟨_, rfl⟩
   have HFZ : Hid (zkf M R nm s = fz) := hfz
   have rf' : Calls Tryz.prog 73 #[.pointer (some ⟨p, 0, none⟩), .int .i64 (s : Int), .func (.func 153) #[] #[.pointer (some ⟨N8, 0, none⟩)]] V8 fun e w' => e = .returned (.int .i64 fz) /\ Kept (fun k => k < V8.heap.size) V8 w' := by rw [<- hfz]; exact rf
   clear rs hV8 hN8 hb8 hk8 hask rf hfz HB7 HT7 he9
   go_wp2_with (go_at_call 74; refine rs'.mono ?_; rintro e w9 ⟨rfl, hw9⟩; subst hw9)
   refine rf'.mono ?_
   rintro e w10 ⟨rfl, hk10⟩
   have hB10 := HB8.out.later hk10
   have d5 := hB10.c5
   rw [HKL.out] at d5
   have HK10 : Hid (Kept (fun k => k < w.heap.size) w w10) := kt HK8.out hk10
   have rp := zgc (R o) kl M.n HKL.out (by rw [<- HKL.out]; exact HRL.out.1) HRL.out.2 ko3 kc3 _ _ w10 hB10.row (HT8.out.kept hk10)
   clear rs' rf' hk10 hB10
   by_cases cf : fz = (i : Int)
   ·have HLE : Hid (L = (R o).filter fun k => zca nm (M.nd k)) := by rw [HE.out, if_pos (HFZ.out.trans cf)]; exact rfl
    subst cf
    go_wp2_with fail
    refine rp.mono ?_
    rintro e w11 hl11
    obtain ⟨pa, pc, rfl, hPO, hk11⟩ := hl11
    have HPO : Hid (Zac (fun k => k < w10.heap.size) w11 3 1 pa ((R o).filter fun k => zca nm (M.nd k)).length pc (ivs ((R o).filter fun k => zca nm (M.nd k)))) := hPO
    have HK11 : Hid (Kept (fun k => k < w10.heap.size) w10 w11) := hk11
    clear rp hPO hk11 d5
    go_wp2
    go_ret
    rw [HLE.out]
    exact Lst.on (X := w10) ⟨pa, pc, rfl, HPO.out, HK11.out⟩ HK10.out
   ·have HLE : Hid (L = []) := by rw [HE.out, if_neg (fun e => cf (HFZ.out.symm.trans e))]; exact rfl
    have e1 : (fz == (i : Int)) = false := by simpa using cf
    have e2 : (fz != (i : Int)) = true := by simp [cf]
    clear cf rp d5
    go_wp2
    go_ret
    rw [HLE.out]
    exact Lst.nil w _ HK10.out
theorem Rd.assigned (h : Rd K w p M R G rk) (i : Int) : Calls Tryz.prog 19 #[.pointer (some ⟨p, 0, none⟩), .int .i64 i] w (Lst w (zkl M R G i)) := by
 have r1 := h.rootOf i
 obtain ⟨L, hL⟩ : ∃ L, zkl M R G i = L := ⟨_, rfl⟩
 have HL : Hid (zkl M R G i = L) := hL
 rw [hL]
 by_cases c : zfc M i = -1
 ·have HE : Hid (L = []) := by
   rw [<- hL]
   unfold zkl
   by_cases cI : i < 0 \/ (M.n : Int) <= i
   ·rw [if_pos cI]; exact rfl
   ·rw [if_neg cI]
    obtain ⟨k, rfl⟩ : ∃ k : Nat, i = (k : Int) := ⟨i.toNat, by omega⟩
    unfold zfc at c
    rw [Int.toNat_natCast] at c ⊢
    unfold za8
    rw [if_pos]
    ·exact rfl
    ·by_cases cs : za9 (M.nd k) = false
     ·exact .inl cs
     ·rw [if_neg (fun hh => hh.elim cI cs)] at c
      exact .inr c
  rw [c] at r1
  clear h c hL
  go_enter Tryz.func19, Tryz.ntmps19
  go_wp2_with fail
  refine r1.mono ?_
  rintro e w1 ⟨rfl, hk⟩
  clear r1
  go_wp2
  go_ret
  rw [HE.out]
  exact Lst.nil w _ hk
 ·have hin : ∃ k : Nat, i = (k : Int) /\ k < M.n /\ za9 (M.nd k) = true /\ ofZ M (k : Int) ≠ -1 /\ zfc M i = ofZ M (k : Int) := by
   unfold zfc at c ⊢
   by_cases cc : (i < 0 \/ (M.n : Int) <= i) \/ za9 (M.nd i.toNat) = false
   ·rw [if_pos cc] at c; exact absurd rfl c
   ·rw [if_neg cc] at c ⊢
    obtain ⟨k, rfl⟩ : ∃ k : Nat, i = (k : Int) := ⟨i.toNat, by have : ¬ i < 0 := fun hh => cc (.inl (.inl hh)); omega⟩
    rw [Int.toNat_natCast] at cc
    exact ⟨k, rfl, by have : ¬ (M.n : Int) <= (k : Int) := fun hh => cc (.inl (.inr hh)); omega, by cases hh : za9 (M.nd k) with | true => rfl | false => exact absurd (.inr hh) cc, c, rfl⟩
  obtain ⟨k, rfl, hk, hsl, hof, hrt⟩ := hin
  rcases h.inv.ofz hk with ⟨t, ht, _, e, h5⟩ | ⟨t, ht, _, e, h5⟩
  ·have HE : Hid (L = zd7 M R G k t) := by
    rw [<- hL, zdk hk]
    unfold za8
    rw [if_neg (by rw [hsl]; rintro (hh | hh); cases hh; exact hof hh), e, Int.toNat_natCast]
    exact rfl
   rw [hrt, e] at r1
   have HR : Hid (Rd K w p M R G rk) := h
   have HKN : Hid (k < M.n /\ t < M.n /\ (M.nd t).kind = 5) := ⟨hk, ht, h5⟩
   have e1 : ((t : Int) == -1) = false := by simp
   have e2 : ¬ (t : Int) = -1 := by omega
   clear h c hL hk hsl hof hrt ht e h5
   go_enter Tryz.func19, Tryz.ntmps19
   go_wp2_with fail
   refine r1.mono ?_
   rintro e w1 ⟨rfl, hk1⟩
   have r2 := (HR.out.kept hk1).shown HKN.out.1 HKN.out.2.1 HKN.out.2.2
   have HK1 : Hid (Kept (fun k => k < w.heap.size) w w1) := hk1
   rw [<- HE.out] at r2
   clear r1 hk1
   go_wp2_with fail
   refine r2.mono ?_
   rintro e w2 hl2
   obtain ⟨pa, pc, rfl, hPO, hk2⟩ := hl2
   have HPO : Hid (Zac (fun k => k < w1.heap.size) w2 3 1 pa L.length pc (ivs L)) := hPO
   have HK2 : Hid (Kept (fun k => k < w1.heap.size) w1 w2) := hk2
   clear r2 hPO hk2
   go_wp2
   go_ret
   exact Lst.on (X := w1) ⟨pa, pc, rfl, HPO.out, HK2.out⟩ HK1.out
  ·exact absurd e hof
end
end
section
open Go.RowKit
def Zec (K : Nat -> Prop) (X : World) (bo : Nat) (l : List Nat) : Prop :=
 ¬ K bo /\ (∀ k, K k -> k < X.heap.size) /\ ∃ ao c, X.heap[bo]? = some (.cells #[.slice ao l.length c] 33 (0, 0)) /\ Zac (fun k => K k \/ k = bo) X 3 1 ao l.length c (ivs l)
theorem Zec.kept {K K' : Nat -> Prop} {X Y : World} {bo : Nat} {l : List Nat} (h : Zec K X bo l) (hk : Kept (fun k => k < X.heap.size) X Y) (hs : ∀ k, K' k -> K k \/ X.heap.size <= k) (hl : ∀ k, K' k -> k < Y.heap.size) : Zec K' Y bo l := by
 obtain ⟨h1, h2, ao, c, h3, h4⟩ := h
 have hb := zai h3
 refine ⟨fun hh => (hs bo hh).elim h1 (fun hh => by omega), hl, ao, c, by rw [hk.block bo hb]; exact h3, h4.to (fun g hg hh => ?_) (fun g hg => hk.block g (h4.out hg).2)⟩
 have := h4.out hg
 rcases hh with hh | hh
 ·rcases hs g hh with hh | hh
  ·exact this.1 (.inl hh)
  ·omega
 ·exact this.1 (.inr hh)
theorem Zec.less {K K' : Nat -> Prop} {X : World} {bo : Nat} {l : List Nat} (h : Zec K X bo l) (hs : ∀ k, K' k -> K k) : Zec K' X bo l :=
 h.kept (Kept.refl _ _) (fun k hk => .inl (hs k hk)) (fun k hk => h.2.1 k (hs k hk))
theorem Zec.app {K : Nat -> Prop} {X : World} {bo : Nat} {l : List Nat} (h : Zec K X bo l) (hl : l.length <= 100000000) (x : Nat) :
  ∃ ao c ao' c' W, X.cell? ⟨bo, 0, none⟩ = some (.slice ao l.length c) /\ (Builtin.append_ #[33, 33] 33 #[.slice ao l.length c, .slice (some ⟨X.heap.size, 0, none⟩) 1 1]).run Tryz.prog (X.alloc (.cells #[.int .i64 (x : Int)] 3)) = .ok (.slice ao' (l.length + 1) c') W /\
   W.frozen? ⟨bo, 0, none⟩ = false /\ (∃ u, W.cell? ⟨bo, 0, none⟩ = some u) /\ Zec K (W.setCell ⟨bo, 0, none⟩ (.slice ao' (l.length + 1) c')) bo (l ++ [x]) /\ Kept K X (W.setCell ⟨bo, 0, none⟩ (.slice ao' (l.length + 1) c')) := by
 obtain ⟨h1, h2, ao, c, h3, h4⟩ := h
 have hb := zai h3
 obtain ⟨ao', c', W, hr, hO, hK⟩ := zkx h4 (fun k hk => by rcases hk with hk | hk; exact h2 k hk; rw [hk]; exact hb) (by omega) (x : Int)
 have hbW : W.heap[bo]? = some (.cells #[.slice ao l.length c] 33 (0, 0)) := by rw [hK.block bo (.inr rfl)]; exact h3
 have hS : (W.setCell ⟨bo, 0, none⟩ (.slice ao' (l.length + 1) c')).heap[bo]? = some (.cells #[.slice ao' (l.length + 1) c'] 33 (0, 0)) := zag hbW 0 _
 have kS : Kept (fun k => k ≠ bo) W (W.setCell ⟨bo, 0, none⟩ (.slice ao' (l.length + 1) c')) := (Kept.refl _ W).setCell (p := ⟨bo, 0, none⟩) (fun hh => hh rfl) _
 have kK : Kept K X (W.setCell ⟨bo, 0, none⟩ (.slice ao' (l.length + 1) c')) := (hK.mono fun k hk => .inl hk).trans ((Kept.refl K W).setCell (p := ⟨bo, 0, none⟩) h1 _)
 refine ⟨ao, c, ao', c', W, by rw [zaa h3]; rfl, hr, zak hbW 0, ⟨_, by rw [zaa hbW]; rfl⟩, ⟨h1, fun k hk => ltl (h2 k hk) kK.size, ao', c', ?_, ?_⟩, kK⟩
 ·rw [List.length_append]; exact hS
 ·rw [List.length_append]
  have e : ivs (l ++ [x]) = ivs l ++ [.int .i64 (x : Int)] := List.map_append
  rw [e]
  exact hO.to (fun g hg => (hO.out hg).1) (fun g hg => kS.block g fun e => (hO.out hg).1 (.inr e))
section
variable {K0 : Nat -> Prop} {w0 : World} {p : Nat} {M : Dm} {R G : Nat -> List Nat} {rk : Nat -> Nat}
theorem zun (w : World) (p : Nat) (tf : TypeId) (f : Nat -> Nat -> Nat -> Value) : ∃ V1 V2 V3 V4 N0 N1 N2, w.alloc (.cells #[.pointer (some ⟨p, 0, none⟩)] 25) = V1 /\ V1.alloc (.cells #[.slice none 0 0] 33) = V2 /\ V2.alloc (.cells #[.nilFunc] tf) = V3 /\ V3.setCell ⟨N2, 0, none⟩ (f N0 N1 N2) = V4 /\ w.heap.size = N0 /\ N0 + 1 = N1 /\ N1 + 1 = N2 /\
  V3.cell? ⟨N2, 0, none⟩ = some .nilFunc /\ V3.frozen? ⟨N2, 0, none⟩ = false /\ V4.cell? ⟨N0, 0, none⟩ = some (.pointer (some ⟨p, 0, none⟩)) /\ V4.cell? ⟨N2, 0, none⟩ = some (f N0 N1 N2) /\ Kept (fun k => k < w.heap.size) w V4 /\ V4.heap.size = N2 + 1 /\ Zec (fun k => k < w.heap.size \/ k = N0 \/ k = N2) V4 N1 [] /\ V4.cell? ⟨N1, 0, none⟩ = some (.slice none 0 0) := by
 obtain ⟨V1, N0, e1, n0, b1, k1, s1⟩ := zar w #[.pointer (some ⟨p, 0, none⟩)]   25
 obtain ⟨V2, N1, e2, n1, b2, k2, s2⟩ := zar V1 #[.slice none 0 0]   33
 obtain ⟨V3, N2, e3, n2, b3, k3, s3⟩ := zar V2 #[.nilFunc] tf
 have h1 : N0 + 1 = N1 := by omega
 have h2 : N1 + 1 = N2 := by omega
 have kS : Kept (fun k => k ≠ N2) V3 (V3.setCell ⟨N2, 0, none⟩ (f N0 N1 N2)) := (Kept.refl _ V3).setCell (p := ⟨N2, 0, none⟩) (fun hh => hh rfl) _
 have hS : (V3.setCell ⟨N2, 0, none⟩ (f N0 N1 N2)).heap[N2]? = some (.cells #[f N0 N1 N2] tf (0, 0)) := zag b3 0 _
 have sz : (V3.setCell ⟨N2, 0, none⟩ (f N0 N1 N2)).heap.size = N2 + 1 := by
  have := kS.size
  have h3 : (V3.setCell ⟨N2, 0, none⟩ (f N0 N1 N2)).heap.size = V3.heap.size := by simp [World.setCell]
  omega
 have bO : (V3.setCell ⟨N2, 0, none⟩ (f N0 N1 N2)).heap[N1]? = some (.cells #[.slice none 0 0] 33 (0, 0)) := by rw [kS.block N1 (by omega), k3.block N1 (by omega)]; exact b2
 have b0 : (V3.setCell ⟨N2, 0, none⟩ (f N0 N1 N2)).heap[N0]? = some (.cells #[.pointer (some ⟨p, 0, none⟩)] 25 (0, 0)) := by rw [kS.block N0 (by omega), k3.block N0 (by omega), k2.block N0 (by omega)]; exact b1
 refine ⟨V1, V2, V3, _, N0, N1, N2, e1, e2, e3, rfl, n0, h1, h2, by rw [zaa b3]; rfl, zak b3 0, by rw [zaa b0]; rfl, by rw [zaa hS]; rfl, ?_, sz, ⟨by omega, fun k hk => by omega, none, 0, bO, Zac.nil _ _ _ _⟩, by rw [zaa bO]; rfl⟩
 exact (k1.trans (k2.mono fun k h => by omega)).trans ((k3.mono fun k h => by omega).trans (kS.mono fun k h => by omega))
end
end
section
open Go.RowKit
structure Kn (K : Nat -> Prop) (w : World) (p : Nat) (M : Dm) (R G : Nat -> List Nat) : Prop where
 d : DX K w p M
 inv : ∃ rk, Inv M R G rk
 lim : M.limit <= 100000
 le : M.n <= M.limit
section
variable {K : Nat -> Prop} {w w' : World} {p : Nat} {M : Dm} {R G : Nat -> List Nat}
theorem Kn.kept (h : Kn K w p M R G) (hk : Kept (fun k => k < w.heap.size) w w') : Kn K w' p M R G := ⟨h.d.kept hk, h.inv, h.lim, h.le⟩
theorem Kn.rd (h : Kn K w p M R G) : ∃ rk, Rd K w p M R G rk := by
 obtain ⟨rk, hI⟩ := h.inv
 exact ⟨rk, h.d, hI, Nat.le_trans h.le h.lim⟩
theorem Kn.new {w0 : World} {limit : Nat} (hX : DX K w p (Dm.new limit)) (h1 : 1 <= limit) (h2 : limit <= 100000) : Kn K w p (Dm.new limit) (fun _ => []) (fun _ => []) := ⟨hX, ⟨_, Inv.new limit⟩, h2, h1⟩
theorem Kn.make (h : Kn K w p M R G) (kz : Int) (kd : Nat) (S D : ByteArray) (nm dt : List UInt8) (hkz : kz = (kd : Int)) (hS : S.toList = nm) (hD : D.toList = dt) (hs : zav ⟨kd, nm, dt, []⟩ = true) (ht : ¬ (kd = 1 /\ nm = [116, 101, 109, 112, 108, 97, 116, 101])) (hr : M.n + 1 <= M.limit) (h6 : kd ≠ 6 := by decide) (ho : Okd (Mk.nd ⟨kd, nm, dt, []⟩) := by refine ⟨by decide, ?_, fun _ => rfl⟩; first | exact fun h => absurd h (by decide) | exact fun _ => by decide) :
  Calls Tryz.prog 68 #[.pointer (some ⟨p, 0, none⟩), zps kz S D] w fun e w' => e = .returned (.tuple #[.int .i64 (M.n : Int), .int .u16 0]) /\ Kn K w' p (M.add (Mk.nd ⟨kd, nm, dt, []⟩)) (zaw R M.n []) (zaw G M.n []) /\ Kept K w w' := by
 obtain ⟨rk, hI⟩ := h.inv
 refine (zvb K p M w kz kd S D nm dt hkz hS hD h.d (Nat.le_trans h.le h.lim) h.lim hs ht hr).mono ?_
 rintro e w' ⟨rfl, hX, hk⟩
 have hm := zi8 hs
 exact ⟨rfl, ⟨hX, ⟨rk, hI.add _ hm hm.few hs ht (fun e => absurd e h6) ho⟩, h.lim, hr⟩, hk⟩
theorem Kn.root (h : Kn K w p M R G) {host : Nat} (f : Fg) (hh : host < M.n) (hk : (M.nd host).kind = 1) (hs : (M.nd host).shadow = -1) (hr : M.n + 1 <= M.limit) :
  Calls Tryz.prog 69 #[.pointer (some ⟨p, 0, none⟩), .int .i64 (host : Int), fgV f] w fun e w' => e = .returned (.tuple #[.int .i64 (M.n : Int), .int .u16 0]) /\ Kn K w' p (M.addR host f) (zaw R M.n []) (zaw G M.n []) /\ Kept K w w' := by
 obtain ⟨rk, hI⟩ := h.inv
 refine (zoy K p host M f w h.d hh (Nat.le_trans h.le h.lim) h.lim).mono ?_
 rintro e w' ⟨hK, hR⟩
 cases hR with
 | host a _ _ => exact absurd hk a
 | twice _ a _ _ => exact absurd hs a
 | full _ _ a _ _ => omega
 | made _ _ _ e hX => exact ⟨e, ⟨hX, hI.addR f hh hk hs, h.lim, hr⟩, hK⟩
theorem Kn.ins (h : Kn K w p M R G) {up i : Nat} (bef : Int) (hu : up < M.n) (hi : i < M.n) (hb : bef = -1 \/ ∃ m : Nat, m < M.n /\ bef = (m : Int)) (hF : Fits M up i bef) :
  Calls Tryz.prog 70 #[.pointer (some ⟨p, 0, none⟩), .int .i64 (up : Int), .int .i64 (i : Int), .int .i64 bef] w fun e w' => e = .returned (.int .u16 0) /\ Kn K w' p (M.setP (zea M R up i bef)) (zc6 M R up i bef) G /\ Kept K w w' := by
 obtain ⟨rk, hI⟩ := h.inv
 refine (zgj K p up i bef M R rk w h.d hI.good.wf hI.good.acy hu hi hb (by have := h.le; have := h.lim; omega)).mono ?_
 rintro e w' ⟨hK, ⟨_, hn, _⟩ | ⟨e, _, hX⟩⟩
 ·exact absurd hF hn
 ·exact ⟨e, ⟨hX, hI.ins hu hi hF, h.lim, h.le⟩, hK⟩
end
abbrev fg0 : Fg := ⟨false, false, false, false, false⟩
abbrev zjb : ByteArray := ⟨#[115, 108, 111, 116]⟩
theorem zf7 : zav ⟨1, [115, 108, 111, 116], [], []⟩ = true := by kernel_rfl
theorem zc1 : zjb.toList = [115, 108, 111, 116] := by rw [ByteArray.toList_eq]
def slN : Nd := Mk.nd ⟨1, [115, 108, 111, 116], [], []⟩
def txN : Nd := Mk.nd ⟨2, [], [120], []⟩
theorem zgx {M : Dm} {i k : Nat} (h : zbz M k = -1) (hk : k ≠ i) : ¬ Wi M i k := fun hw => by
 cases hw with
 | here => exact hk rfl
 | up e _ => omega
theorem zh4 {M : Dm} {i k m : Nat} (h : zbz M k = (m : Int)) (hk : k ≠ i) (hm : ¬ Wi M i m) : ¬ Wi M i k := fun hw => by
 cases hw with
 | here => exact hk rfl
 | @up _ m' e h' =>
  have : m' = m := by omega
  exact hm (this ▸ h')
end
section
open Go.RowKit
theorem zh9 {w : World} {l : List Nat} {K : Nat -> Prop} {ao : Option Addr} {c x n : Nat} (hO : Zac K w 3 1 ao n c (ivs (x :: l))) : ∃ g, ao = some ⟨g, 0, none⟩ /\ g < w.heap.size /\ w.cell? ⟨g, 0, none⟩ = some (.int .i64 (x : Int)) := by
 obtain ⟨g, e, h0⟩ := hO.cell (j := 0) (u := .int .i64 (x : Int)) rfl
 exact ⟨g, e, (hO.out (g := g) e).2, h0⟩
end
end Go.Proofs.YtfeinppedejlpaaGreat
