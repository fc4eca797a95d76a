/-
 slots: Find, what is shown, Assigned.; slots: rootOf, shown, Assigned, Slots.
-/
import Derived.Test.YtljnjdckhkglfaaP20
import Derived.Test.YtljnjdckhkglfaaP21
import Derived.Test.YtljnjdckhkglfaaP16
import Derived.Test.YtljnjdckhkglfaaP15
import Derived.Test.YtljnjdckhkglfaaP04
namespace Go.Proofs.Ytljnjdckhkglfaa
set_option linter.unusedVariables false
set_option maxRecDepth 100000
set_option maxHeartbeats 8000000
section
open Go.RowKit
theorem of_none (K : Nat -> Prop) (p : Nat) (M : Dm) (i : Int) (w : World) (h : DX K w p M) (hi : i < 0 \/ (M.n : Int) <= i) (hn : M.n <= 1000000) :
  Calls Try.prog 71 #[.pointer (some ⟨p, 0, none⟩), .int .i64 i] w fun e w' => e = .returned (.int .i64 (-1)) /\ Kept (fun k => k < w.heap.size) w w' := by
 have r1 := oroot_none K p i M w h hi hn
 have HX : Hid (DX K w p M) := h
 clear h hi
 go_enter Try.func71, Try.ntmps71
 go_wp2_with fail
 refine r1.mono ?_
 rintro e w1 ⟨rfl, hK1⟩
 have r2 := node_none K p M (-1) w1 (HX.out.kept hK1) (.inl (by decide)) hn
 have HK1 : Hid (Kept (fun k => k < w.heap.size) w w1) := hK1
 clear r1 hK1
 go_upto_region 2 with fail
 go_wp2_with fail
 refine r2.mono ?_
 rintro e v1 ⟨rfl, hK2⟩
 have HK2 : Hid (∀ o, Kept (fun k => k < w.heap.size) w (v1.alloc o)) := fun o => (HK1.out.trans (hK2.mono fun k h => Nat.lt_of_lt_of_le h HK1.out.size)).alloc (fun k h => Nat.lt_of_lt_of_le h (Nat.le_trans HK1.out.size hK2.size)) o
 clear r2 hK2
 go_wp2
 go_ret
 exact ⟨rfl, HK2.out _⟩
structure Rd (K : Nat -> Prop) (w : World) (p : Nat) (M : Dm) (R G : Nat -> List Nat) (rk : Nat -> Nat) : Prop where
 d : DX K w p M
 inv : Inv M R G rk
 le : M.n <= 100000
theorem Rd.kept {K : Nat -> Prop} {w w' : World} {p : Nat} {M : Dm} {R G : Nat -> List Nat} {rk : Nat -> Nat} (h : Rd K w p M R G rk) (hk : Kept (fun k => k < w.heap.size) w w') : Rd K w' p M R G rk := ⟨h.d.kept hk, h.inv, h.le⟩
structure BoxN (w V : World) (N : Nat) (x : Nd) (up : Int) (Q : List Nat) (ao : Option Addr) (ac : Nat) (ko : Option Addr) (kc : Nat) : Prop where
 kept : Kept (fun k => k < w.heap.size) w V
 blk : V.heap[N]? = some (.cells (nV x ao ac up ko Q.length kc) 42 (0, 0))
 ats : AtsAt (fun k => k < V.heap.size) V ao x.attrs
 row : IntsAt (fun g => g < V.heap.size) V ko Q
 own : OwnZ (fun k => k < w.heap.size) V 3 1 ko Q.length kc (ivs Q)
theorem BoxN.of {w v1 : World} {x : Nd} {up : Int} {Q : List Nat} {ao ko : Option Addr} {ac kc : Nat} (hO : OwnZ (fun k => k < w.heap.size) v1 76 2 ao x.attrs.length ac (atrCells x.attrs)) (hQ : OwnZ (fun k => k < w.heap.size) v1 3 1 ko Q.length kc (ivs Q)) (hK : Kept (fun k => k < w.heap.size) w v1) :
  ∃ V N, v1.alloc (.cells (nV x ao ac up ko Q.length kc) 42) = V /\ v1.heap.size = N /\ BoxN w V N x up Q ao ac ko kc := by
 obtain ⟨V, N, hV, hN, hb, hk, -⟩ := alloc_box v1 (nV x ao ac up ko Q.length kc)  42
 exact ⟨V, N, hV, hN, hK.trans (hk.mono fun k h => Nat.lt_of_lt_of_le h hK.size), hb, (hO.atsAt (K' := fun k => k < v1.heap.size) fun g hg => (OwnZ.out hO hg).2).kept hk fun k h => Nat.lt_of_lt_of_le h hk.size,
  (hQ.intsAt (F := fun g => g < v1.heap.size) fun g hg => (hQ.out hg).2).to (fun g hg => Nat.lt_of_lt_of_le hg hk.size) (fun g hg => hk.block g hg), hQ.to (fun g hg => (hQ.out hg).1) (fun g hg => hk.block g (hQ.out hg).2)⟩
section
variable {w V V' : World} {N : Nat} {x : Nd} {up : Int} {Q : List Nat} {ao ko : Option Addr} {ac kc : Nat}
theorem BoxN.later (h : BoxN w V N x up Q ao ac ko kc) (hk : Kept (fun k => k < V.heap.size) V V') : BoxN w V' N x up Q ao ac ko kc :=
 ⟨h.kept.trans (hk.mono fun k hh => Nat.lt_of_lt_of_le hh h.kept.size), by rw [hk.block N (lt_block h.blk)]; exact h.blk, h.ats.kept hk fun k hh => Nat.lt_of_lt_of_le hh hk.size, h.row.to (fun g hg => Nat.lt_of_lt_of_le hg hk.size) (fun g hg => hk.block g hg), h.own.to (fun g hg => (h.own.out hg).1) (fun g hg => hk.block g (h.own.out hg).2)⟩
theorem BoxN.c0 (h : BoxN w V N x up Q ao ac ko kc) : V.cell? ⟨N, 0, none⟩ = some (.int .u8 (x.kind : Int)) := by rw [cell_block h.blk]; rfl
theorem BoxN.c4 (h : BoxN w V N x up Q ao ac ko kc) : V.cell? ⟨N, 4, none⟩ = some (.int .i64 up) := by rw [cell_block h.blk]; rfl
theorem BoxN.c5 (h : BoxN w V N x up Q ao ac ko kc) : V.cell? ⟨N, 5, none⟩ = some (.slice ko Q.length kc) := by rw [cell_block h.blk]; rfl
theorem BoxN.c6 (h : BoxN w V N x up Q ao ac ko kc) : V.cell? ⟨N, 6, none⟩ = some (.int .i64 x.shadow) := by rw [cell_block h.blk]; rfl
theorem BoxN.c7 (h : BoxN w V N x up Q ao ac ko kc) : V.cell? ⟨N, 7, none⟩ = some (.int .i64 x.host) := by rw [cell_block h.blk]; rfl
theorem BoxN.c10 (h : BoxN w V N x up Q ao ac ko kc) : V.cell? ⟨N, 10, none⟩ = some (.bool x.fl.b) := by rw [cell_block h.blk]; rfl
end
section
variable {K : Nat -> Prop} {w : World} {p : Nat} {M : Dm} {R G : Nat -> List Nat} {rk : Nat -> Nat}
theorem Rd.node (h : Rd K w p M R G rk) {i : Nat} (hi : i < M.n) : Calls Try.prog 33 #[.pointer (some ⟨p, 0, none⟩), .int .i64 (i : Int)] w fun e w' => Told w (M.nd i) (M.pl i).up (R i) e w' :=
 node_any K p i M R w h.d h.inv.good.wf hi (by have := h.le; omega) h.inv.good.few
theorem Rd.noNode (h : Rd K w p M R G rk) {i : Int} (hi : i < 0 \/ (M.n : Int) <= i) : Calls Try.prog 33 #[.pointer (some ⟨p, 0, none⟩), .int .i64 i] w fun e w' => e = .returned (.tuple #[.agg zero14, .int .u16 80]) /\ Kept (fun k => k < w.heap.size) w w' :=
 node_none K p M i w h.d hi (by have := h.le; omega)
theorem Rd.of (h : Rd K w p M R G rk) (i : Int) : Calls Try.prog 71 #[.pointer (some ⟨p, 0, none⟩), .int .i64 i] w fun e w' => e = .returned (.int .i64 (ofZ M i)) /\ Kept (fun k => k < w.heap.size) w w' := by
 by_cases c : i < 0 \/ (M.n : Int) <= i
 ·rw [ofZ_no c]
  exact of_none K p M i w h.d c (by have := h.le; omega)
 ·obtain ⟨k, rfl⟩ : ∃ k : Nat, i = (k : Int) := ⟨i.toNat, by omega⟩
  have hk : k < M.n := by omega
  exact (of_any K p k M R rk w h.d h.inv.good hk (by have := h.le; omega)).mono fun e w' ⟨z, h1, h2, h3⟩ => by rw [ofZ_eq hk h1]; exact ⟨h2, h3⟩
theorem Rd.slot (h : Rd K w p M R G rk) {i : Nat} (hi : i < M.n) : Calls Try.prog 62 #[.pointer (some ⟨p, 0, none⟩), .int .i64 (i : Int)] w fun e w' => e = .returned (.int .i64 (M.gf i).up) /\ w' = w :=
 slot_in K p i M w h.d hi (by have := h.le; omega)
theorem Rd.first (h : Rd K w p M R G rk) {i : Nat} (hi : i < M.n) {v : Value} {P : Nd -> Int -> Bool} (ha : AskN w v P) : Calls Try.prog 36 #[.pointer (some ⟨p, 0, none⟩), .int .i64 (i : Int), v] w fun e w' => e = .returned (.int .i64 (fstO (fun k => P (M.nd k) (M.pl k).up) (tr M.n R i))) /\ Kept (fun k => k < w.heap.size) w w' :=
 first_in K p M R rk P v w h.d h.inv.good h.le ha _ i (Nat.lt_succ_self _) hi w (Kept.refl _ _)
theorem Rd.byNumber (h : Rd K w p M R G rk) {v : Value} {P : Nd -> Int -> Bool} (ha : AskN w v P) : Calls Try.prog 57 #[.pointer (some ⟨p, 0, none⟩), v] w fun e w' => ∃ u, e = .returned u /\ TellK w' u (fun i => P (M.nd i) (M.pl i).up) M.n /\ Kept (fun k => k < w.heap.size) w w' :=
 byNumber_any K p M R P v w h.d h.inv.good.wf (by have := h.le; omega) h.inv.good.few ha
theorem Rd.few (h : Rd K w p M R G rk) {i : Nat} (hi : i < M.n) : (M.nd i).attrs.length <= 1000 := h.inv.good.few i hi
end
def zeroNd : Nd := ⟨0, [], [], [], ⟨false, false, false, false, false⟩, 0, 0, 0⟩
theorem zero_nV : zero14 = nV zeroNd none 0 0 none 0 0 := rfl
noncomputable def findI (M : Dm) (R : Nat -> List Nat) (i : Int) : Int := if i < 0 \/ (M.n : Int) <= i then -1 else findZ M R i.toNat
noncomputable def asgI (M : Dm) (R G : Nat -> List Nat) (i : Int) : List Nat := if i < 0 \/ (M.n : Int) <= i then [] else asgL M R G i.toNat
theorem findI_in {M : Dm} {R : Nat -> List Nat} {i : Nat} (hi : i < M.n) : findI M R (i : Int) = findZ M R i := by
 unfold findI
 rw [if_neg (by omega), Int.toNat_natCast]
theorem asgI_in {M : Dm} {R G : Nat -> List Nat} {i : Nat} (hi : i < M.n) : asgI M R G (i : Int) = asgL M R G i := by
 unfold asgI
 rw [if_neg (by omega), Int.toNat_natCast]
theorem enter36 (args : Array Value) (X : World) : (callFunc 36 args).run Try.prog X = .ok (.enter 36 args) X := entersE Try.func36 (by kernel_rfl) (c := _) rfl args X
theorem enter37 (args : Array Value) (X : World) : (callFunc 37 args).run Try.prog X = .ok (.enter 37 args) X := entersE Try.func37 (by kernel_rfl) (c := _) rfl args X
theorem enter55 (args : Array Value) (X : World) : (callFunc 55 args).run Try.prog X = .ok (.enter 55 args) X := entersE Try.func55 (by kernel_rfl) (c := _) rfl args X
theorem enter57 (args : Array Value) (X : World) : (callFunc 57 args).run Try.prog X = .ok (.enter 57 args) X := entersE Try.func57 (by kernel_rfl) (c := _) rfl args X
theorem enter78 (args : Array Value) (X : World) : (callFunc 78 args).run Try.prog X = .ok (.enter 78 args) X := entersE Try.func78 (by kernel_rfl) (c := _) rfl args X
theorem enter79 (args : Array Value) (X : World) : (callFunc 79 args).run Try.prog X = .ok (.enter 79 args) X := entersE Try.func79 (by kernel_rfl) (c := _) rfl args X
section
variable {K : Nat -> Prop} {w : World} {p : Nat} {M : Dm} {R G : Nat -> List Nat} {rk : Nat -> Nat}
theorem Rd.byHand (h : Rd K w p M R G rk) {i : Nat} (s : Nat) (hi : i < M.n) :
  Calls Try.prog 35 #[.pointer (some ⟨p, 0, none⟩), .int .i64 (i : Int), .int .i64 (s : Int)] w fun e w' => e = .returned (.int .i64 (handZ M i s)) /\ Kept (fun k => k < w.heap.size) w w' := by
 have r1 := h.slot hi
 have r2 := h.of (M.gf i).up
 obtain ⟨z, hz⟩ : ∃ z, handZ M i s = z := ⟨_, rfl⟩
 have HZ : Hid (handZ M i s = z) := hz
 rw [hz]
 obtain ⟨o, ho⟩ : ∃ o, ofZ M (M.gf i).up = o := ⟨_, rfl⟩
 have HO : Hid (ofZ M (M.gf i).up = o) := ho
 rw [ho] at r2
 obtain ⟨g, hg⟩ : ∃ g, (M.gf i).up = g := ⟨_, rfl⟩
 have HG : Hid ((M.gf i).up = g) := hg
 rw [hg] at r1 r2
 clear h hz ho hg
 go_enter Try.func35, Try.ntmps35
 go_wp2_with (go_at_call 62; refine r1.mono ?_; rintro e1 w3 ⟨rfl, hw3⟩; replace hw3 := hw3.symm; subst hw3)
 refine r2.mono ?_
 rintro e w2 ⟨rfl, hk⟩
 clear r1 r2
 by_cases c : o = (s : Int)
 ·have HE : Hid (z = g) := by rw [<- HZ.out]; unfold handZ; rw [HO.out, HG.out, if_pos c]; exact rfl
  subst c
  go_wp2
  go_ret
  exact ⟨by rw [HE.out]; rfl, hk⟩
 ·have HE : Hid (z = -1) := by rw [<- HZ.out]; unfold handZ; rw [HO.out, if_neg c]; exact rfl
  have e1 : (o == (s : Int)) = false := by simpa using c
  have e2 : (o != (s : Int)) = true := by simp [c]
  clear c
  go_wp2
  go_ret
  exact ⟨by rw [HE.out]; rfl, hk⟩
theorem Rd.find (h : Rd K w p M R G rk) (i : Int) :
  Calls Try.prog 12 #[.pointer (some ⟨p, 0, none⟩), .int .i64 i] w fun e w' => e = .returned (.int .i64 (findI M R i)) /\ Kept (fun k => k < w.heap.size) w w' := by
 by_cases cI : i < 0 \/ (M.n : Int) <= i
 ·have rn := h.noNode cI
  have hz : findI M R i = -1 := by unfold findI; rw [if_pos cI]
  rw [hz]
  clear h hz cI
  go_enter Try.func12, Try.ntmps12
  go_wp2_with fail
  refine rn.mono ?_
  rintro e v1 ⟨rfl, hK1⟩
  obtain ⟨V1, N1, hV1, hN1, hb1, hk1, -⟩ := alloc_box v1 zero14  42
  have rs := show_any zeroNd none 0 0 none 0 0 V1
  rw [<- zero_nV] at rs
  have kV : Kept (fun k => k < w.heap.size) w V1 := hK1.trans (hk1.mono fun k h => Nat.lt_of_lt_of_le h hK1.size)
  have HK : Hid (Kept (fun k => k < w.heap.size) w V1) := kV
  have HV1 : Hid (v1.alloc (.cells zero14 42) = V1) := hV1
  have HN1 : Hid (v1.heap.size = N1) := hN1
  have hs0 : showB zeroNd = false := rfl
  rw [hs0] at rs
  clear rn hV1 hN1 hk1 kV hK1
  go_upto_region 2 with fail
  rw [HV1.out, HN1.out]
  clear HV1 HN1
  go_wp2_with (refine wpList_load_row rfl 42 _ rfl N1 rfl 42 zero14 (0, 0) _ hb1 Try.underlying42 rfl (size41 zero14 rfl) ?_)
  refine rs.mono ?_
  rintro e w2 ⟨rfl, hk2⟩
  clear rs
  go_wp2
  go_ret
  exact ⟨rfl, HK.out.trans (hk2.mono fun k h => Nat.lt_of_lt_of_le h HK.out.size)⟩
 ·obtain ⟨k, rfl⟩ : ∃ k : Nat, i = (k : Int) := ⟨i.toNat, by omega⟩
  have hk : k < M.n := by omega
  rw [findI_in hk]
  have HC : Hid (FindC M R G k (findZ M R k)) := h.inv.findC hk
  obtain ⟨Z, hZ⟩ : ∃ Z, findZ M R k = Z := ⟨_, rfl⟩
  rw [hZ] at HC
  rw [hZ]
  have rn := h.node hk
  have HR : Hid (Rd K w p M R G rk) := h
  have HF : Hid ((M.nd k).attrs.length <= 1000) := h.few hk
  have HKL : Hid (k < M.n) := hk
  have HUPS : Hid ((M.pl k).up = -1 \/ ∃ u : Nat, u < M.n /\ (M.pl k).up = (u : Int)) := h.inv.ups' hk
  clear h hZ cI hk
  go_enter Try.func12, Try.ntmps12
  go_wp2_with fail
  refine rn.mono ?_
  rintro e v1 ⟨ao1, ac1, ko1, kc1, rfl, hO1, hQ1, hK1⟩
  obtain ⟨V1, N1, hV1, hN1, hB1⟩ := BoxN.of (up := (M.pl k).up) hO1 hQ1 hK1
  have HV1 : Hid (v1.alloc (.cells (nV (M.nd k) ao1 ac1 ((M.pl k).up) ko1 (R k).length kc1) 42) = V1) := hV1
  have HN1 : Hid (v1.heap.size = N1) := hN1
  have HB1 : Hid (BoxN w V1 N1 (M.nd k) ((M.pl k).up) (R k) ao1 ac1 ko1 kc1) := hB1
  have rs := show_any (M.nd k) ao1 ac1 (M.pl k).up ko1 (R k).length kc1 V1
  have hb1 := hB1.blk
  obtain ⟨cs, hcs⟩ : ∃ cs, nV (M.nd k) ao1 ac1 (M.pl k).up ko1 (R k).length kc1 = cs := ⟨_, rfl⟩
  have hcz : cs.size = 14 := by rw [<- hcs]; rfl
  have HCS : Hid (nV (M.nd k) ao1 ac1 (M.pl k).up ko1 (R k).length kc1 = cs) := hcs
  rw [hcs] at rs hb1
  obtain ⟨q, hq⟩ : ∃ q, showB (M.nd k) = q := ⟨_, rfl⟩
  have HQ : Hid (showB (M.nd k) = q) := hq
  rw [hq] at rs
  clear rn hO1 hQ1 hK1 hV1 hN1 hB1 hcs hq
  go_upto_region 2 with fail
  rw [HV1.out, HN1.out]
  clear HV1 HN1
  go_wp2_with (refine wpList_load_row rfl 42 _ rfl N1 rfl 42 cs (0, 0) _ hb1 Try.underlying42 rfl (size41 cs hcz) ?_)
  refine rs.mono ?_
  rintro e w2 ⟨rfl, hk2⟩
  have hB := HB1.out.later hk2
  have HB : Hid (BoxN w w2 N1 (M.nd k) (M.pl k).up (R k) ao1 ac1 ko1 kc1) := hB
  have c4 := hB.c4
  have HK2 : Hid (Kept (fun k => k < w.heap.size) w w2) := hB.kept
  clear rs hk2 hb1 HB1 hB
  cases q with
  | false =>
   have HE : Hid (Z = -1) := by
    cases HC.out with
    | none e _ => exact e
    | hand _ _ _ _ h1 _ _ _ _ => rw [HQ.out] at h1; cases h1
    | name _ _ _ _ h1 _ _ _ _ => rw [HQ.out] at h1; cases h1
   clear c4
   go_wp2
   go_ret
   exact ⟨by rw [HE.out]; rfl, HK2.out⟩
  | true =>
   have R2 := HR.out.kept HK2.out
   rcases HUPS.out with hu | ⟨u, hun, hu⟩
   ·have HE : Hid (Z = -1) := by
     cases HC.out with
     | none e _ => exact e
     | hand _ _ _ _ _ e _ _ _ => omega
     | name _ _ _ _ _ e _ _ _ => omega
    rw [hu] at c4
    have rn2 := R2.noNode (i := -1) (.inl (by decide))
    clear R2 hu
    go_wp2_with fail
    refine rn2.mono ?_
    rintro e v2 ⟨rfl, hK3⟩
    obtain ⟨V2, N2, hV2, hN2, hb2, hk2, -⟩ := alloc_box v2 zero14  42
    have d0 : V2.cell? ⟨N2, 0, none⟩ = some (.int .u8 0) := by rw [cell_block hb2]; rfl
    have HK3 : Hid (Kept (fun k => k < w.heap.size) w V2) := (HK2.out.trans (hK3.mono fun k h => Nat.lt_of_lt_of_le h HK2.out.size)).trans (hk2.mono fun k h => Nat.lt_of_lt_of_le h (Nat.le_trans HK2.out.size hK3.size))
    have HV2 : Hid (v2.alloc (.cells zero14 42) = V2) := hV2
    have HN2 : Hid (v2.heap.size = N2) := hN2
    clear rn2 hV2 hN2 hb2 hk2 hK3 c4
    go_upto_region 5 with fail
    rw [HV2.out, HN2.out]
    clear HV2 HN2
    go_wp2
    go_ret
    exact ⟨by rw [HE.out]; rfl, HK3.out⟩
   ·rw [hu] at c4
    have HU : Hid ((M.pl k).up = (u : Int)) := hu
    have HUN : Hid (u < M.n) := hun
    have rn2 := R2.node hun
    have HSH : Hid ((M.nd u).shadow = -1 \/ ∃ s : Nat, s < M.n /\ (M.nd u).shadow = (s : Int) /\ (M.nd u).kind = 1 /\ (M.nd s).kind = 5 /\ (M.nd s).host = (u : Int)) := R2.inv.core.shad u hun
    clear R2 hu hun
    go_wp2_with fail
    refine rn2.mono ?_
    rintro e v2 ⟨ao2, ac2, ko2, kc2, rfl, hO2, hQ2, hK2⟩
    obtain ⟨V2, N2, hV2, hN2, hB2⟩ := BoxN.of (up := (M.pl u).up) hO2 hQ2 hK2
    have HV2 : Hid (v2.alloc (.cells (nV (M.nd u) ao2 ac2 ((M.pl u).up) ko2 (R u).length kc2) 42) = V2) := hV2
    have HN2 : Hid (v2.heap.size = N2) := hN2
    have HB2 : Hid (BoxN w2 V2 N2 (M.nd u) ((M.pl u).up) (R u) ao2 ac2 ko2 kc2) := hB2
    have HBB : Hid (BoxN w V2 N1 (M.nd k) (M.pl k).up (R k) ao1 ac1 ko1 kc1) := HB.out.later hB2.kept
    have d0 := hB2.c0
    have d6 := hB2.c6
    have HK3 : Hid (Kept (fun k => k < w.heap.size) w V2) := HBB.out.kept
    clear rn2 hO2 hQ2 hK2 hV2 hN2 hB2 c4
    rcases HSH.out with hs | ⟨s, hsn, hs, hk1, hk5, hho⟩
    ·have HE : Hid (Z = -1) := by
      cases HC.out with
      | none e _ => exact e
      | hand u' _ _ _ _ e1 e2 _ _ =>
       have : u' = u := by have := HU.out; omega
       subst this; omega
      | name u' _ _ _ _ e1 e2 _ _ =>
       have : u' = u := by have := HU.out; omega
       subst this; omega
     rw [hs] at d6
     obtain ⟨kd, hkd⟩ : ∃ kd, (M.nd u).kind = kd := ⟨_, rfl⟩
     rw [hkd] at d0
     clear hs hkd
     go_upto_region 5 with fail
     rw [HV2.out, HN2.out]
     clear HV2 HN2
     by_cases c1 : kd = 1
     ·subst c1
      go_wp2
      go_ret
      exact ⟨by rw [HE.out]; rfl, HK3.out⟩
     ·have e1 : ((kd : Int) == 1) = false := by simp; omega
      have e2 : ((kd : Int) != 1) = true := by simp; omega
      clear c1
      go_wp2
      go_ret
      exact ⟨by rw [HE.out]; rfl, HK3.out⟩
    ·rw [hs] at d6
     rw [hk1] at d0
     have rn3 := (HR.out.kept HK3.out).node hsn
     have e6 : ((s : Int) == -1) = false := by simp
     have e6' : ¬ (s : Int) = -1 := by omega
     have HS : Hid ((M.nd u).shadow = (s : Int)) := hs
     have HSN : Hid (s < M.n) := hsn
     clear hs hk1 hk5 hho hsn
     go_upto_region 5 with fail
     rw [HV2.out, HN2.out]
     clear HV2 HN2
     go_wp2_with fail
     refine rn3.mono ?_
     rintro e v3 ⟨ao3, ac3, ko3, kc3, rfl, hO3, hQ3, hK3⟩
     obtain ⟨V3, N3, hV3, hN3, hB3⟩ := BoxN.of (up := (M.pl s).up) hO3 hQ3 hK3
     have HV3 : Hid (v3.alloc (.cells (nV (M.nd s) ao3 ac3 ((M.pl s).up) ko3 (R s).length kc3) 42) = V3) := hV3
     have HN3 : Hid (v3.heap.size = N3) := hN3
     have HB3 : Hid (BoxN V2 V3 N3 (M.nd s) ((M.pl s).up) (R s) ao3 ac3 ko3 kc3) := hB3
     have g10 := hB3.c10
     have HB2' := HB2.out.later hB3.kept
     have d6' := HB2'.c6
     rw [HS.out] at d6'
     have HBB3 : Hid (BoxN w V3 N1 (M.nd k) (M.pl k).up (R k) ao1 ac1 ko1 kc1) := HBB.out.later hB3.kept
     have HK4 : Hid (Kept (fun k => k < w.heap.size) w V3) := HBB3.out.kept
     obtain ⟨mb, hmb⟩ : ∃ b, (M.nd s).fl.b = b := ⟨_, rfl⟩
     have HMB : Hid ((M.nd s).fl.b = mb) := hmb
     rw [hmb] at g10
     clear rn3 hO3 hQ3 hK3 hV3 hN3 hB3 d0 d6 HB2' hmb HB2
     cases mb with
     | true =>
      have HE : Hid (Z = handZ M k s) := by
       cases HC.out with
       | none e c =>
        rcases c with c | c | ⟨u', _, c1, c2⟩
        ·rw [HQ.out] at c; cases c
        ·have := HU.out; omega
        ·have : u' = u := by have := HU.out; omega
         subst this; have := HS.out; omega
       | hand u' s' _ _ _ e1 e2 _ e =>
        have : u' = u := by have := HU.out; omega
        subst this
        have : s' = s := by have := HS.out; omega
        subst this; exact e
       | name u' s' _ _ _ e1 e2 b e =>
        have : u' = u := by have := HU.out; omega
        subst this
        have : s' = s := by have := HS.out; omega
        subst this; rw [HMB.out] at b; cases b
      have rb := (HR.out.kept HK4.out).byHand s HKL.out
      obtain ⟨hz, hhz⟩ : ∃ z, handZ M k s = z := ⟨_, rfl⟩
      rw [hhz] at rb HE
      clear hhz
      go_upto_region 8 with fail
      rw [HV3.out, HN3.out]
      clear HV3 HN3
      go_wp2_with fail
      refine rb.mono ?_
      rintro e w4 ⟨rfl, hk4⟩
      clear rb
      go_wp2
      go_ret
      exact ⟨by rw [HE.out]; rfl, HK4.out.trans (hk4.mono fun k h => Nat.lt_of_lt_of_le h HK4.out.size)⟩
     | false =>
      have HE : Hid (Z = fstS M R (atV slotN (M.nd k).attrs) s) := by
       cases HC.out with
       | none e c =>
        rcases c with c | c | ⟨u', _, c1, c2⟩
        ·rw [HQ.out] at c; cases c
        ·have := HU.out; omega
        ·have : u' = u := by have := HU.out; omega
         subst this; have := HS.out; omega
       | hand u' s' _ _ _ e1 e2 b e =>
        have : u' = u := by have := HU.out; omega
        subst this
        have : s' = s := by have := HS.out; omega
        subst this; rw [HMB.out] at b; cases b
       | name u' s' _ _ _ e1 e2 b e =>
        have : u' = u := by have := HU.out; omega
        subst this
        have : s' = s := by have := HS.out; omega
        subst this; exact e
      have HBLK : Hid (∀ Y, Kept (fun k => k < V3.heap.size) V3 Y -> Y.heap[N1]? = some (.cells cs 42 (0, 0))) := fun Y hY => by rw [<- HCS.out]; exact (HBB3.out.later hY).blk
      have HD6 : Hid (∀ Y, Kept (fun k => k < V3.heap.size) V3 Y -> Y.cell? ⟨N2, 6, none⟩ = some (.int .i64 (s : Int))) := fun Y hY => (hY.cell (p := ⟨N2, 6, none⟩) (World.block_lt_of_cell? V3 _ d6')).trans d6'
      have R65 : Hid (∀ Y, Kept (fun k => k < V3.heap.size) V3 Y -> Calls Try.prog 38 #[.agg cs, .string ⟨#[115, 108, 111, 116]⟩] Y fun e w' => e = .returned (sv (atV slotN (M.nd k).attrs)) /\ Kept (fun k => k < Y.heap.size) Y w') := fun Y hY => by
       have := attr_any (M.nd k) ao1 ac1 (M.pl k).up ko1 (R k).length kc1 ⟨#[115, 108, 111, 116]⟩ Y HF.out (HBB3.out.later hY).ats
       rw [ByteArray.toList_eq, HCS.out] at this
       exact this
      have RR : Hid (∀ Y, Kept (fun k => k < V3.heap.size) V3 Y -> Rd K Y p M R G rk) := fun Y hY => (HR.out.kept HK4.out).kept hY
      clear d6'
      go_upto_region 8 with fail
      rw [HV3.out, HN3.out]
      clear HV3 HN3
      go_upto_region 10 with fail
      refine wp_region_held_drew (S := fun Y => Kept (fun k => k < V3.heap.size) V3 Y) (by kernel_rfl) ((Kept.refl _ V3).drew) (fun hHeld => ?_)
      refine tkH 0 50 (.pointer (some ⟨p, 0, none⟩)) rfl rfl (by kernel_rfl) (by rfl) (by intro Y hY; go_simp; try with_reducible rfl) (fun _ _ _ h => h) hHeld ?_
      try simp only [Act.put, sA, s0, s1]
      refine tkH 1 51 (.pointer (some ⟨N2, 6, none⟩)) rfl rfl (by kernel_rfl) (by rfl) (by intro Y hY; go_simp; try with_reducible rfl) (fun _ _ _ h => h) hHeld ?_
      try simp only [Act.put, sA, s0, s1]
      refine tkH 2 52 (.int .i64 (s : Int)) rfl rfl (by kernel_rfl) (by rfl) (by intro Y hY; have hc := HD6.out Y hY; go_simp; try with_reducible rfl) (fun _ _ _ h => h) hHeld ?_
      try simp only [Act.put, sA, s0, s1]
      refine tkH 3 53 (.agg cs) rfl rfl (by kernel_rfl) (by rfl) (by intro Y hY; exact yields_row rfl rfl (HBLK.out Y hY) hcz) (fun _ _ _ h => h) hHeld ?_
      try simp only [Act.put, sA, s0, s1]
      refine clH 4 54 38 #[.agg cs, .string ⟨#[115, 108, 111, 116]⟩] rfl rfl (by kernel_rfl) (by rfl) rfl (by first | rfl | (simp [Act.eval]; done) | (simp [Act.eval, Act.put]; done)) (enter38 _ _) (R65.out _ hHeld) ?_
      rintro e Y ⟨rfl, hk9⟩
      refine ⟨_, rfl, hHeld.trans (hk9.mono fun k h => Nat.lt_of_lt_of_le h hHeld.size), fun hHeld2 => ?_⟩
      replace hHeld := hHeld2
      clear hHeld2
      try simp only [Act.put, sA, s0, s1]
      refine clH 5 55 37 #[sv (atV slotN (M.nd k).attrs)] rfl rfl (by kernel_rfl) (by rfl) rfl (by first | rfl | (simp [Act.eval]; done) | (simp [Act.eval, Act.put]; done)) (enter37 _ _) (slotNamed_any _ _) ?_
      rintro e Y2 ⟨rfl, rfl⟩
      refine ⟨_, rfl, hHeld.trans (((Kept.refl (fun k => k < Y.heap.size) Y).alloc (fun _ h => h) (.cells #[sv (atV slotN (M.nd k).attrs)] 9)).mono fun k h => Nat.lt_of_lt_of_le h hHeld.size), fun hHeld2 => ?_⟩
      replace hHeld := hHeld2
      clear hHeld2
      try simp only [Act.put, sA, s0, s1]
      refine clH 6 56 36 #[.pointer (some ⟨p, 0, none⟩), .int .i64 (s : Int), .func (.func 72) #[] #[.pointer (some ⟨Y.heap.size, 0, none⟩)]] rfl rfl (by kernel_rfl) (by rfl) rfl (by first | rfl | (simp [Act.eval]; done) | (simp [Act.eval, Act.put]; done)) (enter36 _ _) ((RR.out _ hHeld).first HSN.out (ask_named (s := ⟨(atV slotN (M.nd k).attrs).toArray⟩) (b := Y.heap.size) (by rw [cell_block (heap_alloc_new Y _)]; rfl))) ?_
      rintro e Y3 ⟨rfl, hk9⟩
      refine ⟨_, rfl, hHeld.trans (hk9.mono fun k h => Nat.lt_of_lt_of_le h hHeld.size), fun hHeld2 => ?_⟩
      replace hHeld := hHeld2
      clear hHeld2
      try simp only [Act.put, sA, s0, s1]
      refine tkH 7 4 (.int .i64 Z) rfl rfl (by kernel_rfl) (by rfl) (by intro Y hY; rw [HE.out]; go_simp; rfl) (fun _ _ _ h => h) hHeld ?_
      try simp only [Act.put, sA, s0, s1]
      refine wpAnyH_done (by kernel_rfl) ?_ _
      go_wp2
      go_ret
      exact ⟨rfl, HK4.out.trans (hHeld.mono fun k h => Nat.lt_of_lt_of_le h HK4.out.size)⟩
end
end
section
open Go.RowKit
theorem Lst.nil (w w' : World) (hk : Kept (fun k => k < w.heap.size) w w') : Lst w [] (.returned (.slice none 0 0)) w' := ⟨none, 0, rfl, OwnZ.nil _ _ _ _, hk⟩
theorem Lst.on {w X w' : World} {l : List Nat} {e : Ending} (h : Lst X l e w') (hk : Kept (fun k => k < w.heap.size) w X) : Lst w l e w' := by
 obtain ⟨ao, c, e1, hO, hK⟩ := h
 exact ⟨ao, c, e1, hO.to (fun g hg hh => (hO.out hg).1 (Nat.lt_of_lt_of_le hh hk.size)) (fun _ _ => rfl), hk.trans (hK.mono fun k h => Nat.lt_of_lt_of_le h hk.size)⟩
noncomputable def rootI (M : Dm) (i : Int) : Int := if (i < 0 \/ (M.n : Int) <= i) \/ isSl (M.nd i.toNat) = false then -1 else ofZ M i
section
variable {K : Nat -> Prop} {w : World} {p : Nat} {M : Dm} {R G : Nat -> List Nat} {rk : Nat -> Nat}
theorem Rd.given (h : Rd K w p M R G rk) {i : Nat} (hi : i < M.n) : Calls Try.prog 78 #[.pointer (some ⟨p, 0, none⟩), .int .i64 (i : Int)] w (Lst w (G i)) :=
 given_in K p i M G w h.d h.inv.gw hi (by have := h.le; omega)
theorem Rd.rootOf (h : Rd K w p M R G rk) (i : Int) :
  Calls Try.prog 42 #[.pointer (some ⟨p, 0, none⟩), .int .i64 i] w fun e w' => e = .returned (.int .i64 (rootI M i)) /\ Kept (fun k => k < w.heap.size) w w' := by
 obtain ⟨Z, hZ⟩ : ∃ Z, rootI M i = Z := ⟨_, rfl⟩
 have HZ : Hid (rootI M i = Z) := hZ
 rw [hZ]
 by_cases cI : i < 0 \/ (M.n : Int) <= i
 ·have rn := h.noNode cI
  have HE : Hid (Z = -1) := by rw [<- hZ]; unfold rootI; rw [if_pos (.inl cI)]; exact rfl
  clear h hZ cI
  go_enter Try.func42, Try.ntmps42
  go_wp2_with fail
  refine rn.mono ?_
  rintro e v1 ⟨rfl, hK1⟩
  obtain ⟨V1, N1, hV1, hN1, hb1, hk1, -⟩ := alloc_box v1 zero14  42
  have rs := isSl_any zeroNd none 0 0 none 0 0 V1
  rw [<- zero_nV] at rs
  have HK : Hid (Kept (fun k => k < w.heap.size) w V1) := hK1.trans (hk1.mono fun k h => Nat.lt_of_lt_of_le h hK1.size)
  have HV1 : Hid (v1.alloc (.cells zero14 42) = V1) := hV1
  have HN1 : Hid (v1.heap.size = N1) := hN1
  have hs0 : isSl zeroNd = false := rfl
  rw [hs0] at rs
  clear rn hV1 hN1 hk1 hK1
  go_upto_region 2 with fail
  rw [HV1.out, HN1.out]
  clear HV1 HN1
  go_wp2_with (refine wpList_load_row rfl 42 _ rfl N1 rfl 42 zero14 (0, 0) _ hb1 Try.underlying42 rfl (size41 zero14 rfl) ?_)
  refine rs.mono ?_
  rintro e w2 ⟨rfl, hk2⟩
  clear rs
  go_wp2
  go_ret
  exact ⟨by rw [HE.out]; rfl, HK.out.trans (hk2.mono fun k h => Nat.lt_of_lt_of_le h HK.out.size)⟩
 ·obtain ⟨k, rfl⟩ : ∃ k : Nat, i = (k : Int) := ⟨i.toNat, by omega⟩
  have hk : k < M.n := by omega
  have HE : Hid (Z = if isSl (M.nd k) = false then -1 else ofZ M (k : Int)) := by
   rw [<- hZ]
   unfold rootI
   rw [Int.toNat_natCast]
   by_cases c : isSl (M.nd k) = false
   ·rw [if_pos (.inr c), if_pos c]; exact rfl
   ·rw [if_neg (fun hh => hh.elim cI c), if_neg c]; exact rfl
  have rn := h.node hk
  have HR : Hid (Rd K w p M R G rk) := h
  clear h hZ cI hk
  go_enter Try.func42, Try.ntmps42
  go_wp2_with fail
  refine rn.mono ?_
  rintro e v1 ⟨ao1, ac1, ko1, kc1, rfl, hO1, hQ1, hK1⟩
  obtain ⟨V1, N1, hV1, hN1, hB1⟩ := BoxN.of (up := (M.pl k).up) hO1 hQ1 hK1
  have HV1 : Hid (v1.alloc (.cells (nV (M.nd k) ao1 ac1 ((M.pl k).up) ko1 (R k).length kc1) 42) = V1) := hV1
  have HN1 : Hid (v1.heap.size = N1) := hN1
  have HB1 : Hid (BoxN w V1 N1 (M.nd k) ((M.pl k).up) (R k) ao1 ac1 ko1 kc1) := hB1
  have rs := isSl_any (M.nd k) ao1 ac1 (M.pl k).up ko1 (R k).length kc1 V1
  have hb1 := hB1.blk
  obtain ⟨cs, hcs⟩ : ∃ cs, nV (M.nd k) ao1 ac1 (M.pl k).up ko1 (R k).length kc1 = cs := ⟨_, rfl⟩
  have hcz : cs.size = 14 := by rw [<- hcs]; rfl
  rw [hcs] at rs hb1
  obtain ⟨q, hq⟩ : ∃ q, isSl (M.nd k) = q := ⟨_, rfl⟩
  rw [hq] at rs HE
  clear rn hO1 hQ1 hK1 hV1 hN1 hB1 hcs hq
  go_upto_region 2 with fail
  rw [HV1.out, HN1.out]
  clear HV1 HN1
  go_wp2_with (refine wpList_load_row rfl 42 _ rfl N1 rfl 42 cs (0, 0) _ hb1 Try.underlying42 rfl (size41 cs hcz) ?_)
  refine rs.mono ?_
  rintro e w2 ⟨rfl, hk2⟩
  have HK2 : Hid (Kept (fun k => k < w.heap.size) w w2) := (HB1.out.later hk2).kept
  clear rs hk2 hb1 HB1
  cases q with
  | false =>
   have h0 : Z = -1 := by simpa using HE.out
   have HE0 : Hid (Z = -1) := h0
   clear HE h0
   go_wp2
   go_ret
   exact ⟨by rw [HE0.out]; rfl, HK2.out⟩
  | true =>
   have ro := (HR.out.kept HK2.out).of (k : Int)
   rw [if_neg (by simp)] at HE
   rw [<- HE.out] at ro
   go_wp2_with fail
   refine ro.mono ?_
   rintro e w3 ⟨rfl, hk3⟩
   clear ro
   go_wp2
   go_ret
   exact ⟨rfl, HK2.out.trans (hk3.mono fun k h => Nat.lt_of_lt_of_le h HK2.out.size)⟩
theorem Rd.shown (h : Rd K w p M R G rk) {i s : Nat} (hi : i < M.n) (hs : s < M.n) (h5 : (M.nd s).kind = 5) :
  Calls Try.prog 43 #[.pointer (some ⟨p, 0, none⟩), .int .i64 (i : Int), .int .i64 (s : Int)] w (Lst w (shwL M R G i s)) := by
 obtain ⟨o, ho, eo, -⟩ := h.inv.host hs h5
 have rn := h.node hs
 have HR : Hid (Rd K w p M R G rk) := h
 have HI : Hid (i < M.n) := hi
 have HS : Hid (s < M.n) := hs
 have HO : Hid (o < M.n) := ho
 have HEO : Hid ((M.nd s).host = (o : Int)) := eo
 obtain ⟨L, hL⟩ : ∃ L, shwL M R G i s = L := ⟨_, rfl⟩
 have HL : Hid (shwL M R G i s = L) := hL
 rw [hL]
 clear h hi hs h5 ho eo hL
 go_enter Try.func43, Try.ntmps43
 go_wp2_with fail
 refine rn.mono ?_
 rintro e v1 ⟨ao1, ac1, ko1, kc1, rfl, hO1, hQ1, hK1⟩
 obtain ⟨V1, N1, hV1, hN1, hB1⟩ := BoxN.of (up := (M.pl s).up) hO1 hQ1 hK1
 have HV1 : Hid (v1.alloc (.cells (nV (M.nd s) ao1 ac1 ((M.pl s).up) ko1 (R s).length kc1) 42) = V1) := hV1
 have HN1 : Hid (v1.heap.size = N1) := hN1
 have HB1 : Hid (BoxN w V1 N1 (M.nd s) ((M.pl s).up) (R s) ao1 ac1 ko1 kc1) := hB1
 have c10 := hB1.c10
 have c7 := hB1.c7
 rw [HEO.out] at c7
 obtain ⟨mb, hmb⟩ : ∃ b, (M.nd s).fl.b = b := ⟨_, rfl⟩
 have HMB : Hid ((M.nd s).fl.b = mb) := hmb
 rw [hmb] at c10
 have HK1 : Hid (Kept (fun k => k < w.heap.size) w V1) := hB1.kept
 clear rn hO1 hQ1 hK1 hV1 hN1 hB1 hmb
 go_upto_region 2 with fail
 rw [HV1.out, HN1.out]
 clear HV1 HN1
 cases mb with
 | true =>
  have HE : Hid (L = (G i).filter fun k => decide ((M.pl k).up = (o : Int))) := by rw [<- HL.out]; unfold shwL; rw [HMB.out, if_pos rfl, HEO.out]; exact rfl
  have HC7 : Hid (∀ Y, Kept (fun k => k < V1.heap.size) V1 Y -> Y.cell? ⟨N1, 7, none⟩ = some (.int .i64 (o : Int))) := fun Y hY => (hY.cell (p := ⟨N1, 7, none⟩) (World.block_lt_of_cell? V1 _ c7)).trans c7
  have RR : Hid (∀ Y, Kept (fun k => k < V1.heap.size) V1 Y -> Rd K Y p M R G rk) := fun Y hY => (HR.out.kept HK1.out).kept hY
  have HGL : Hid ((G i).length <= 1000000 /\ ∀ k ∈ G i, k < M.n) := ⟨by have h1 := HR.out.inv.gw.len_le HI.out; have h2 := HR.out.le; omega, HR.out.inv.gw.lt i HI.out⟩
  go_upto_region 3 with fail
  clear c7 c10
  refine wp_region_held_drew (S := fun Y => Kept (fun k => k < V1.heap.size) V1 Y) (by kernel_rfl) ((Kept.refl _ V1).drew) (fun hHeld => ?_)
  refine tkH 0 24 (.pointer (some ⟨p, 0, none⟩)) rfl rfl (by kernel_rfl) (by rfl) (by intro Y hY; go_simp; try with_reducible rfl) (fun _ _ _ h => h) hHeld ?_
  try simp only [Act.put, sA, s0, s1]
  refine tkH 1 25 (.int .i64 (i : Int)) rfl rfl (by kernel_rfl) (by rfl) (by intro Y hY; go_simp; try with_reducible rfl) (fun _ _ _ h => h) hHeld ?_
  try simp only [Act.put, sA, s0, s1]
  refine tkH 3 27 (.pointer (some ⟨p, 0, none⟩)) rfl rfl (by kernel_rfl) (by rfl) (by intro Y hY; go_simp; try with_reducible rfl) (fun _ _ _ h => h) hHeld ?_
  try simp only [Act.put, sA, s0, s1]
  refine tkH 4 28 (.pointer (some ⟨N1, 7, none⟩)) rfl rfl (by kernel_rfl) (by rfl) (by intro Y hY; go_simp; try with_reducible rfl) (fun _ _ _ h => h) hHeld ?_
  try simp only [Act.put, sA, s0, s1]
  refine tkH 5 29 (.int .i64 (o : Int)) rfl rfl (by kernel_rfl) (by rfl) (by intro Y hY; have hc := HC7.out Y hY; go_simp; try with_reducible rfl) (fun _ _ _ h => h) hHeld ?_
  try simp only [Act.put, sA, s0, s1]
  refine clH 2 26 78 #[.pointer (some ⟨p, 0, none⟩), .int .i64 (i : Int)] rfl rfl (by kernel_rfl) (by rfl) rfl (by first | rfl | (simp [Act.eval]; done) | (simp [Act.eval, Act.put]; done)) (enter78 _ _) ((RR.out _ hHeld).given HI.out) ?_
  rintro e Y ⟨ga, gc, rfl, hGO, hk9⟩
  refine ⟨_, rfl, hHeld.trans (hk9.mono fun k h => Nat.lt_of_lt_of_le h hHeld.size), fun hHeld2 => ?_⟩
  replace hHeld := hHeld2
  clear hHeld2
  try simp only [Act.put, sA, s0, s1]
  have hrow : IntsAt (fun g => g < Y.heap.size) Y ga (G i) := hGO.intsAt fun g hg => (hGO.out hg).2
  refine clH 6 30 79 #[.int .i64 (o : Int)] rfl rfl (by kernel_rfl) (by rfl) rfl (by first | rfl | (simp [Act.eval]; done) | (simp [Act.eval, Act.put]; done)) (enter79 _ _) (isIn_any _ _) ?_
  rintro e Y2 ⟨rfl, rfl⟩
  refine ⟨_, rfl, hHeld.trans (((Kept.refl (fun k => k < Y.heap.size) Y).alloc (fun _ h => h) (.cells #[.int .i64 (o : Int)] 3)).mono fun k h => Nat.lt_of_lt_of_le h hHeld.size), fun hHeld2 => ?_⟩
  replace hHeld := hHeld2
  clear hHeld2
  try simp only [Act.put, sA, s0, s1]
  have hask : AskN (Y.alloc (.cells #[.int .i64 (o : Int)] 3)) (.func (.func 101) #[] #[.pointer (some ⟨Y.heap.size, 0, none⟩)]) fun _ up => decide (up = (o : Int)) := ask_isIn (by rw [cell_block (heap_alloc_new Y _)]; rfl)
  have hkY2 : Kept (fun k => k < Y.heap.size) Y (Y.alloc (.cells #[.int .i64 (o : Int)] 3)) := (Kept.refl _ Y).alloc (fun _ h => h) _
  obtain ⟨W2, hW2⟩ : ∃ W2, Y.alloc (.cells #[.int .i64 (o : Int)] 3) = W2 := ⟨_, rfl⟩
  rw [hW2] at hask hkY2 hHeld ⊢
  refine clH 7 31 57 #[.pointer (some ⟨p, 0, none⟩), .func (.func 101) #[] #[.pointer (some ⟨Y.heap.size, 0, none⟩)]] rfl rfl (by kernel_rfl) (by rfl) rfl (by first | rfl | (simp [Act.eval]; done) | (simp [Act.eval, Act.put]; done)) (enter57 _ _) ((RR.out _ hHeld).byNumber hask) ?_
  rintro e Y3 ⟨u, rfl, hT, hk9⟩
  refine ⟨_, rfl, hHeld.trans (hk9.mono fun k h => Nat.lt_of_lt_of_le h hHeld.size), fun hHeld2 => ?_⟩
  replace hHeld := hHeld2
  clear hHeld2
  try simp only [Act.put, sA, s0, s1]
  have kY3 : Kept (fun k => k < Y.heap.size) Y Y3 := hkY2.trans (hk9.mono fun k h => Nat.lt_of_lt_of_le h hkY2.size)
  have HKV3 : Hid (Kept (fun k => k < V1.heap.size) V1 Y3) := hHeld
  have rp := pick_any (G i) (G i).length M.n rfl HGL.out.1 HGL.out.2 ga gc u _ Y3 (hrow.to (fun g hg => Nat.lt_of_lt_of_le hg kY3.size) (fun g hg => kY3.block g hg)) hT
  refine clH 8 32 55 #[.slice ga (G i).length gc, u] rfl rfl (by kernel_rfl) (by rfl) rfl (by first | rfl | (simp [Act.eval]; done) | (simp [Act.eval, Act.put]; done)) (enter55 _ _) (rp) ?_
  rintro e Y4 ⟨pa, pc, rfl, hPO, hk9⟩
  refine ⟨_, rfl, hHeld.trans (hk9.mono fun k h => Nat.lt_of_lt_of_le h hHeld.size), fun hHeld2 => ?_⟩
  replace hHeld := hHeld2
  clear hHeld2
  try simp only [Act.put, sA, s0, s1]
  obtain ⟨pl, hpl⟩ : ∃ pl, ((G i).filter fun k => decide ((M.pl k).up = (o : Int))).length = pl := ⟨_, rfl⟩
  rw [hpl] at hPO ⊢
  have HK9 : Hid (Kept (fun k => k < Y3.heap.size) Y3 Y4) := hk9
  have HPL : Hid (((G i).filter fun k => decide ((M.pl k).up = (o : Int))).length = pl) := hpl
  have HPO : Hid (OwnZ (fun k => k < Y3.heap.size) Y4 3 1 pa pl pc (ivs ((G i).filter fun k => decide ((M.pl k).up = (o : Int))))) := hPO
  refine tkH 9 6 (.slice pa pl pc) rfl rfl (by kernel_rfl) (by rfl) (by intro Y hY; go_simp; try with_reducible rfl) (fun _ _ _ h => h) hHeld ?_
  try simp only [Act.put, sA, s0, s1]
  refine wpAnyH_done (by kernel_rfl) ?_ _
  clear hrow hask hkY2 kY3 hT hPO rp hpl hk9
  go_wp2
  go_ret
  exact Lst.on (X := Y3) ⟨pa, pc, by rw [HE.out, HPL.out]; rfl, by rw [HE.out, HPL.out]; exact HPO.out, HK9.out⟩ (HK1.out.trans (HKV3.out.mono fun k h => Nat.lt_of_lt_of_le h HK1.out.size))
 | false =>
  have rn2 := (HR.out.kept HK1.out).node HI.out
  go_wp2_with fail
  refine rn2.mono ?_
  rintro e v2 ⟨ao2, ac2, ko2, kc2, rfl, hO2, hQ2, hK2⟩
  obtain ⟨V2, N2, hV2, hN2, hB2⟩ := BoxN.of (up := (M.pl i).up) hO2 hQ2 hK2
  have HV2 : Hid (v2.alloc (.cells (nV (M.nd i) ao2 ac2 ((M.pl i).up) ko2 (R i).length kc2) 42) = V2) := hV2
  have HN2 : Hid (v2.heap.size = N2) := hN2
  have HB2 : Hid (BoxN V1 V2 N2 (M.nd i) ((M.pl i).up) (R i) ao2 ac2 ko2 kc2) := hB2
  have c7' := (HB1.out.later hB2.kept).c7
  rw [HEO.out] at c7'
  have HK2 : Hid (Kept (fun k => k < w.heap.size) w V2) := (HB1.out.later hB2.kept).kept
  have rn3 := (HR.out.kept HK2.out).node HO.out
  clear rn2 hO2 hQ2 hK2 hV2 hN2 hB2 c7
  go_upto_region 5 with fail
  rw [HV2.out, HN2.out]
  clear HV2 HN2
  go_wp2_with fail
  refine rn3.mono ?_
  rintro e v3 ⟨ao3, ac3, ko3, kc3, rfl, hO3, hQ3, hK3⟩
  obtain ⟨V3, N3, hV3, hN3, hB3⟩ := BoxN.of (up := (M.pl o).up) hO3 hQ3 hK3
  have HV3 : Hid (v3.alloc (.cells (nV (M.nd o) ao3 ac3 ((M.pl o).up) ko3 (R o).length kc3) 42) = V3) := hV3
  have HN3 : Hid (v3.heap.size = N3) := hN3
  have HB3 : Hid (BoxN V2 V3 N3 (M.nd o) ((M.pl o).up) (R o) ao3 ac3 ko3 kc3) := hB3
  have HB2b : Hid (BoxN V1 V3 N2 (M.nd i) (M.pl i).up (R i) ao2 ac2 ko2 kc2) := HB2.out.later hB3.kept
  have HK3 : Hid (Kept (fun k => k < w.heap.size) w V3) := HK2.out.trans (hB3.kept.mono fun k h => Nat.lt_of_lt_of_le h HK2.out.size)
  obtain ⟨nm, hnm⟩ : ∃ nm, atV nameN (M.nd i).attrs = nm := ⟨_, rfl⟩
  have ra := attr_any (M.nd i) ao2 ac2 (M.pl i).up ko2 (R i).length kc2 ⟨#[110, 97, 109, 101]⟩ V3 (HR.out.few HI.out) HB2b.out.ats
  rw [ByteArray.toList_eq] at ra
  replace ra : Calls Try.prog 38 #[.agg (nV (M.nd i) ao2 ac2 (M.pl i).up ko2 (R i).length kc2), .string ⟨#[110, 97, 109, 101]⟩] V3 fun e w' => e = .returned (sv nm) /\ Kept (fun k => k < V3.heap.size) V3 w' := by rw [<- hnm]; exact ra
  have hb2 := HB2b.out.blk
  obtain ⟨cs, hcs⟩ : ∃ cs, nV (M.nd i) ao2 ac2 (M.pl i).up ko2 (R i).length kc2 = cs := ⟨_, rfl⟩
  have hcz : cs.size = 14 := by rw [<- hcs]; rfl
  rw [hcs] at ra hb2
  have HE : Hid (L = if fstS M R nm s = (i : Int) then (R o).filter (fun k => asksB nm (M.nd k)) else []) := by rw [<- HL.out]; unfold shwL; rw [HMB.out, if_neg (by simp), HEO.out, Int.toNat_natCast, hnm]; exact rfl
  clear rn3 hO3 hQ3 hK3 hV3 hN3 hB3 c7' hcs hnm
  go_upto_region 6 with fail
  rw [HV3.out, HN3.out]
  clear HV3 HN3
  go_upto_region 7 with (first | (refine wpList_load_row rfl 42 _ rfl N2 rfl 42 cs (0, 0) _ hb2 Try.underlying42 rfl (size41 cs hcz) ?_) | (go_at_call 38; refine ra.mono ?_; rintro e w4 ⟨rfl, hk4⟩))
  have HB4 : Hid (BoxN V2 w4 N3 (M.nd o) (M.pl o).up (R o) ao3 ac3 ko3 kc3) := HB3.out.later hk4
  have HK4 : Hid (Kept (fun k => k < w.heap.size) w w4) := HK3.out.trans (hk4.mono fun k h => Nat.lt_of_lt_of_le h HK3.out.size)
  obtain ⟨V5, N5, hV5, hN5, hb5, hk5, -⟩ := alloc_box w4 #[sv nm]  9
  have rq := asksFor_any ⟨nm.toArray⟩ w4
  have hask : AskN V5 (.func (.func 102) #[] #[.pointer (some ⟨N5, 0, none⟩)]) fun x _ => asksB nm x := by
   have := ask_asks (s := ⟨nm.toArray⟩) (b := N5) (w := V5) (by rw [cell_block hb5]; rfl)
   rw [ByteArray.toList_eq] at this
   exact this
  have HK5 : Hid (Kept (fun k => k < w.heap.size) w V5) := HK4.out.trans (hk5.mono fun k h => Nat.lt_of_lt_of_le h HK4.out.size)
  have HB5 : Hid (BoxN V2 V5 N3 (M.nd o) (M.pl o).up (R o) ao3 ac3 ko3 kc3) := HB4.out.later hk5
  have rb := (HR.out.kept HK5.out).byNumber hask
  have rq' : Calls Try.prog 80 #[.string ⟨nm.toArray⟩] w4 fun e w' => e = .returned (.func (.func 102) #[] #[.pointer (some ⟨N5, 0, none⟩)]) /\ w' = V5 := by rw [<- hN5, <- hV5]; exact rq
  clear ra hb2 hk4 hV5 hN5 hb5 hk5 rq hask HB3 HB2b
  go_upto_region 8 with (first | (go_at_call 80; refine rq'.mono ?_; rintro e w5 ⟨rfl, hw5⟩; subst hw5) | (go_at_call 57; refine rb.mono ?_; rintro e w6 ⟨u, rfl, hT, hk6⟩))
  have HT : Hid (TellK w6 u (fun k => asksB nm (M.nd k)) M.n) := hT
  have hB6 := HB5.out.later hk6
  have d5 := hB6.c5
  have HK6 : Hid (Kept (fun k => k < w.heap.size) w w6) := HK5.out.trans (hk6.mono fun k h => Nat.lt_of_lt_of_le h HK5.out.size)
  have HRL : Hid ((R o).length <= 1000000 /\ ∀ k ∈ R o, k < M.n) := ⟨by have h1 := HR.out.inv.good.wf.len_le HO.out; have h2 := HR.out.le; omega, HR.out.inv.good.wf.lt o HO.out⟩
  have rc := containsK_any (R o) (R o).length M.n rfl HRL.out.1 HRL.out.2 ko3 kc3 u _ w6 hB6.row hT
  have HB6 : Hid (BoxN V2 w6 N3 (M.nd o) (M.pl o).up (R o) ao3 ac3 ko3 kc3) := hB6
  obtain ⟨kl, hkl⟩ : ∃ kl, (R o).length = kl := ⟨_, rfl⟩
  have HKL : Hid ((R o).length = kl) := hkl
  rw [hkl] at rc d5
  obtain ⟨f9, caps9, hu9, he9, hc9⟩ := hT
  subst hu9
  clear hc9 rq' rb hB6 hkl hk6
  obtain ⟨an, han⟩ : ∃ an, (R o).any (fun k => asksB nm (M.nd k)) = an := ⟨_, rfl⟩
  have HAN : Hid ((R o).any (fun k => asksB nm (M.nd k)) = an) := han
  rw [han] at rc
  clear han
  go_wp2_with fail
  refine rc.mono ?_
  rintro e w7 ⟨rfl, hk7⟩
  have HK7 : Hid (Kept (fun k => k < w.heap.size) w w7) := HK6.out.trans (hk7.mono fun k h => Nat.lt_of_lt_of_le h HK6.out.size)
  have HB7 : Hid (BoxN V2 w7 N3 (M.nd o) (M.pl o).up (R o) ao3 ac3 ko3 kc3) := HB6.out.later hk7
  have HT7 : Hid (TellK w7 (.func (.func f9) #[] caps9) (fun k => asksB nm (M.nd k)) M.n) := HT.out.kept hk7
  clear rc hk7 d5 HB6
  cases an with
  | false =>
   have HN : Hid (L = []) := by
    rw [HE.out]
    have : (R o).filter (fun k => asksB nm (M.nd k)) = [] := List.filter_eq_nil_iff.2 fun x hx => by have := List.any_eq_false.1 HAN.out x hx; simpa using this
    rw [this]
    split <;> exact rfl
   clear he9
   go_wp2
   go_ret
   rw [HN.out]
   exact Lst.nil w _ HK7.out
  | true =>
   obtain ⟨V8, N8, hV8, hN8, hb8, hk8, -⟩ := alloc_box w7 #[sv nm]  9
   have rs := slotNamed_any ⟨nm.toArray⟩ w7
   have rs' : Calls Try.prog 37 #[.string ⟨nm.toArray⟩] w7 fun e w' => e = .returned (.func (.func 72) #[] #[.pointer (some ⟨N8, 0, none⟩)]) /\ w' = V8 := by rw [<- hN8, <- hV8]; exact rs
   have hask : AskN V8 (.func (.func 72) #[] #[.pointer (some ⟨N8, 0, none⟩)]) fun x _ => slNm nm x := by
    have := ask_named (s := ⟨nm.toArray⟩) (b := N8) (w := V8) (by rw [cell_block hb8]; rfl)
    rw [ByteArray.toList_eq] at this
    exact this
   have HK8 : Hid (Kept (fun k => k < w.heap.size) w V8) := HK7.out.trans (hk8.mono fun k h => Nat.lt_of_lt_of_le h HK7.out.size)
   have HB8 : Hid (BoxN V2 V8 N3 (M.nd o) (M.pl o).up (R o) ao3 ac3 ko3 kc3) := HB7.out.later hk8
   have HT8 : Hid (TellK V8 (.func (.func f9) #[] caps9) (fun k => asksB nm (M.nd k)) M.n) := HT7.out.kept hk8
   have rf := (HR.out.kept HK8.out).first HS.out hask
   obtain ⟨fz, hfz⟩ : ∃ fz, fstO (fun k => slNm nm (M.nd k)) (tr M.n R s) = fz := ⟨_, rfl⟩
   have HFZ : Hid (fstS M R nm s = fz) := hfz
   have rf' : Calls Try.prog 36 #[.pointer (some ⟨p, 0, none⟩), .int .i64 (s : Int), .func (.func 72) #[] #[.pointer (some ⟨N8, 0, none⟩)]] V8 fun e w' => e = .returned (.int .i64 fz) /\ Kept (fun k => k < V8.heap.size) V8 w' := by rw [<- hfz]; exact rf
   clear rs hV8 hN8 hb8 hk8 hask rf hfz HB7 HT7 he9
   go_wp2_with (go_at_call 37; refine rs'.mono ?_; rintro e w9 ⟨rfl, hw9⟩; subst hw9)
   refine rf'.mono ?_
   rintro e w10 ⟨rfl, hk10⟩
   have hB10 := HB8.out.later hk10
   have d5 := hB10.c5
   rw [HKL.out] at d5
   have HK10 : Hid (Kept (fun k => k < w.heap.size) w w10) := HK8.out.trans (hk10.mono fun k h => Nat.lt_of_lt_of_le h HK8.out.size)
   have rp := pick_any (R o) kl M.n HKL.out (by rw [<- HKL.out]; exact HRL.out.1) HRL.out.2 ko3 kc3 _ _ w10 hB10.row (HT8.out.kept hk10)
   clear rs' rf' hk10 hB10
   by_cases cf : fz = (i : Int)
   ·have HLE : Hid (L = (R o).filter fun k => asksB nm (M.nd k)) := by rw [HE.out, if_pos (HFZ.out.trans cf)]; exact rfl
    subst cf
    go_wp2_with fail
    refine rp.mono ?_
    rintro e w11 hl11
    obtain ⟨pa, pc, rfl, hPO, hk11⟩ := hl11
    have HPO : Hid (OwnZ (fun k => k < w10.heap.size) w11 3 1 pa ((R o).filter fun k => asksB nm (M.nd k)).length pc (ivs ((R o).filter fun k => asksB nm (M.nd k)))) := hPO
    have HK11 : Hid (Kept (fun k => k < w10.heap.size) w10 w11) := hk11
    clear rp hPO hk11 d5
    go_wp2
    go_ret
    rw [HLE.out]
    exact Lst.on (X := w10) ⟨pa, pc, rfl, HPO.out, HK11.out⟩ HK10.out
   ·have HLE : Hid (L = []) := by rw [HE.out, if_neg (fun e => cf (HFZ.out.symm.trans e))]; exact rfl
    have e1 : (fz == (i : Int)) = false := by simpa using cf
    have e2 : (fz != (i : Int)) = true := by simp [cf]
    clear cf rp d5
    go_wp2
    go_ret
    rw [HLE.out]
    exact Lst.nil w _ HK10.out
theorem Rd.assigned (h : Rd K w p M R G rk) (i : Int) : Calls Try.prog 15 #[.pointer (some ⟨p, 0, none⟩), .int .i64 i] w (Lst w (asgI M R G i)) := by
 have r1 := h.rootOf i
 obtain ⟨L, hL⟩ : ∃ L, asgI M R G i = L := ⟨_, rfl⟩
 have HL : Hid (asgI M R G i = L) := hL
 rw [hL]
 by_cases c : rootI M i = -1
 ·have HE : Hid (L = []) := by
   rw [<- hL]
   unfold asgI
   by_cases cI : i < 0 \/ (M.n : Int) <= i
   ·rw [if_pos cI]; exact rfl
   ·rw [if_neg cI]
    obtain ⟨k, rfl⟩ : ∃ k : Nat, i = (k : Int) := ⟨i.toNat, by omega⟩
    unfold rootI at c
    rw [Int.toNat_natCast] at c ⊢
    unfold asgL
    rw [if_pos]
    ·exact rfl
    ·by_cases cs : isSl (M.nd k) = false
     ·exact .inl cs
     ·rw [if_neg (fun hh => hh.elim cI cs)] at c
      exact .inr c
  rw [c] at r1
  clear h c hL
  go_enter Try.func15, Try.ntmps15
  go_wp2_with fail
  refine r1.mono ?_
  rintro e w1 ⟨rfl, hk⟩
  clear r1
  go_wp2
  go_ret
  rw [HE.out]
  exact Lst.nil w _ hk
 ·have hin : ∃ k : Nat, i = (k : Int) /\ k < M.n /\ isSl (M.nd k) = true /\ ofZ M (k : Int) ≠ -1 /\ rootI M i = ofZ M (k : Int) := by
   unfold rootI at c ⊢
   by_cases cc : (i < 0 \/ (M.n : Int) <= i) \/ isSl (M.nd i.toNat) = false
   ·rw [if_pos cc] at c; exact absurd rfl c
   ·rw [if_neg cc] at c ⊢
    obtain ⟨k, rfl⟩ : ∃ k : Nat, i = (k : Int) := ⟨i.toNat, by have : ¬ i < 0 := fun hh => cc (.inl (.inl hh)); omega⟩
    rw [Int.toNat_natCast] at cc
    exact ⟨k, rfl, by have : ¬ (M.n : Int) <= (k : Int) := fun hh => cc (.inl (.inr hh)); omega, by cases hh : isSl (M.nd k) with | true => rfl | false => exact absurd (.inr hh) cc, c, rfl⟩
  obtain ⟨k, rfl, hk, hsl, hof, hrt⟩ := hin
  rcases h.inv.ofz hk with ⟨t, ht, _, e, h5⟩ | ⟨t, ht, _, e, h5⟩
  ·have HE : Hid (L = shwL M R G k t) := by
    rw [<- hL, asgI_in hk]
    unfold asgL
    rw [if_neg (by rw [hsl]; rintro (hh | hh); cases hh; exact hof hh), e, Int.toNat_natCast]
    exact rfl
   rw [hrt, e] at r1
   have HR : Hid (Rd K w p M R G rk) := h
   have HKN : Hid (k < M.n /\ t < M.n /\ (M.nd t).kind = 5) := ⟨hk, ht, h5⟩
   have e1 : ((t : Int) == -1) = false := by simp
   have e2 : ¬ (t : Int) = -1 := by omega
   clear h c hL hk hsl hof hrt ht e h5
   go_enter Try.func15, Try.ntmps15
   go_wp2_with fail
   refine r1.mono ?_
   rintro e w1 ⟨rfl, hk1⟩
   have r2 := (HR.out.kept hk1).shown HKN.out.1 HKN.out.2.1 HKN.out.2.2
   have HK1 : Hid (Kept (fun k => k < w.heap.size) w w1) := hk1
   rw [<- HE.out] at r2
   clear r1 hk1
   go_wp2_with fail
   refine r2.mono ?_
   rintro e w2 hl2
   obtain ⟨pa, pc, rfl, hPO, hk2⟩ := hl2
   have HPO : Hid (OwnZ (fun k => k < w1.heap.size) w2 3 1 pa L.length pc (ivs L)) := hPO
   have HK2 : Hid (Kept (fun k => k < w1.heap.size) w1 w2) := hk2
   clear r2 hPO hk2
   go_wp2
   go_ret
   exact Lst.on (X := w1) ⟨pa, pc, rfl, HPO.out, HK2.out⟩ HK1.out
  ·exact absurd e hof
end
end
end Go.Proofs.Ytljnjdckhkglfaa
