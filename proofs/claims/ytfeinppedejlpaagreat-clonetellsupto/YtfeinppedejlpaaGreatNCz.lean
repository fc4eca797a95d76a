/-
  Clone: WHAT IT ANSWERS.
-/
import Derived.Test.YtfeinppedejlpaaGreatNCy
namespace Go.Proofs.YtfeinppedejlpaaGreat
set_option linter.unusedVariables false
set_option maxRecDepth 100000
set_option maxHeartbeats 8000000
open Go.RowKit
theorem zju (args : Array Value) (X : World) : (callFunc 117 args).run Tryz.prog X = .ok (.enter 117 args) X := za0 Tryz.func117 (by kernel_rfl) (c := _) rfl args X
theorem zj0 (args : Array Value) (X : World) : (callFunc 15 args).run Tryz.prog X = .ok (.enter 15 args) X := za0 Tryz.func15 (by kernel_rfl) (c := _) rfl args X
theorem zne (p : Nat) (L : Int) (w : World) (h : w.cell? ⟨p, 0, none⟩ = some (.int .i64 L)) :
  Calls Tryz.prog 117 #[.pointer (some ⟨p, 0, none⟩)] w fun e w' => e = .returned (.int .i64 L) /\ w' = w := by
 go_enter Tryz.func117, Tryz.ntmps117
 go_wp2
 go_ret
 exact ⟨rfl, rfl⟩
inductive ClR (K : Nat -> Prop) (p : Nat) (M : Dm) (R G : Nat -> List Nat) (f i : Nat) (deep : Bool) (e : Ending) (w' : World) : Prop
 | shadow : (M.nd i).kind = 5 -> e = .returned (.tuple #[.int .i64 0, .int .u16 81]) -> DX K w' p M -> ClR K p M R G f i deep e w'
 | full : (M.nd i).kind ≠ 5 -> M.limit < M.n + zba M R f i deep -> e = .returned (.tuple #[.int .i64 0, .int .u16 3]) -> DX K w' p M -> ClR K p M R G f i deep e w'
 | made : (M.nd i).kind ≠ 5 -> M.n + zba M R f i deep <= M.limit -> e = .returned (.tuple #[.int .i64 (M.n : Int), .int .u16 0]) -> DX K w' p (zcm f ⟨M, R, G⟩ i deep).1.M -> ClR K p M R G f i deep e w'
theorem zo0 (b p i : Nat) (deep : Bool) (x : Nd) (up : Int) (l : List Nat) (w : World) (hx : x.kind = 5)
  (r9 : Calls Tryz.prog 41 #[.pointer (some ⟨p, 0, none⟩), .int .i64 (i : Int)] w fun e w' => Told w x up l e w') :
  Calls Tryz.prog 52 #[.pointer (some ⟨p, 0, none⟩), .int .i64 (i : Int), .bool deep] w fun e w' => e = .returned (.tuple #[.int .i64 0, .int .u16 81]) /\ Kept (fun k => k < w.heap.size) w w' := by
 have HX : Hid (x.kind = 5) := hx
 clear hx
 go_enter Tryz.func52, Tryz.ntmps52
 go_wp2_with fail
 refine r9.mono ?_
 rintro e w1 ⟨ao, ac, ko, kc, rfl, hA, hQ, hK⟩
 obtain ⟨V, N, hV, hN, hb, hk, hsz⟩ := zaz w1 (nV x ao ac up ko l.length kc)   58
 have c0 : V.cell? ⟨N, 0, none⟩ = some (.int .u8 5) := by rw [zaa hb]; show some (Value.int .u8 (x.kind : Int)) = _; rw [HX.out]; rfl
 have HV : Hid (w1.alloc (.cells (nV x ao ac up ko l.length kc) 58) = V) := hV
 have HN : Hid (w1.heap.size = N) := hN
 have HK : Hid (Kept (fun k => k < w.heap.size) w V) := kt hK hk
 clear r9 hA hQ hK hV hN hb hk hsz
 go_upto_region 2 with fail
 rw [HV.out, HN.out]
 clear HV HN
 go_wp2
 go_ret2
 exact ⟨rfl, HK.out⟩
theorem zl2 (p i L mn nd : Nat) (hL : L <= 100000) (hmn : mn <= 100000) (hnd : nd <= 100000) (deep : Bool) (x : Nd) (up : Int) (l : List Nat) (w : World) (hx : x.kind ≠ 5) (hxz : x.kind <= 255) (res : Bool) (hres : decide ((L : Int) - (mn : Int) < (nd : Int)) = res) (Post : World -> Prop)
  (r9 : Calls Tryz.prog 41 #[.pointer (some ⟨p, 0, none⟩), .int .i64 (i : Int)] w fun e w' => Told w x up l e w')
  (hs : ∀ V b, Kept (fun k => k < w.heap.size) w V -> w.heap.size <= b -> Cop V b p true 0 -> Calls Tryz.prog 116 #[.pointer (some ⟨b, 0, none⟩), .int .i64 (i : Int), .bool deep] V fun e X => e = .returned (.int .i64 (-1)) /\ Cop X b p true nd /\ X.cell? ⟨p, 0, none⟩ = some (.int .i64 (L : Int)) /\ p < X.heap.size /\ (∀ Y, Kept (fun k => k < X.heap.size) X Y -> Calls Tryz.prog 15 #[.pointer (some ⟨p, 0, none⟩)] Y fun e w' => e = .returned (.int .i64 (mn : Int)) /\ w' = Y) /\
   (res = true -> ∀ Y, Kept (fun k => k < X.heap.size) X Y -> Post Y) /\ (res = false -> ∀ Y b2, Kept (fun k => k < X.heap.size) X Y -> X.heap.size <= b2 -> Cop Y b2 p false 0 -> Calls Tryz.prog 116 #[.pointer (some ⟨b2, 0, none⟩), .int .i64 (i : Int), .bool deep] Y fun e Z => e = .returned (.int .i64 (mn : Int)) /\ Post Z)) :
  Calls Tryz.prog 52 #[.pointer (some ⟨p, 0, none⟩), .int .i64 (i : Int), .bool deep] w fun e w' => (if res = true then e = .returned (.tuple #[.int .i64 0, .int .u16 3]) else e = .returned (.tuple #[.int .i64 (mn : Int), .int .u16 0])) /\ Post w' := by
 obtain ⟨kd, hkd⟩ : ∃ k, x.kind = k := ⟨_, rfl⟩
 have hwr : IntKind.i64.wrap ((L : Int) - (mn : Int)) = (L : Int) - (mn : Int) := IntWalk.i64_in _ (by omega)
 have HKD : Hid (x.kind = kd) := hkd
 have hk5 : ((kd : Int) == 5) = false := by rw [hkd] at hx; simp; omega
 have HSS : Hid _ := hs
 clear hs hx hxz hkd
 go_enter Tryz.func52, Tryz.ntmps52
 go_wp2_with fail
 refine r9.mono ?_
 rintro e w1 ⟨ao, ac, ko, kc, rfl, hA, hQ, hK⟩
 obtain ⟨V, N, hV, hN, hb, hk, hsz⟩ := zaz w1 (nV x ao ac up ko l.length kc)   58
 have c0 : V.cell? ⟨N, 0, none⟩ = some (.int .u8 (kd : Int)) := by rw [zaa hb]; show some (Value.int .u8 (x.kind : Int)) = _; rw [HKD.out]
 have hkV : Kept (fun k => k < w.heap.size) w V := kt hK hk
 obtain ⟨V2, b, hV2, hB, hb2, hk2, hsz2⟩ := zaz V #[.pointer (some ⟨p, 0, none⟩), .bool true, .int .i64 0]   143
 have hs := HSS.out V2 b (kt hkV hk2) (by rw [<- hB]; exact hkV.size) hb2
 have HV : Hid (w1.alloc (.cells (nV x ao ac up ko l.length kc) 58) = V) := hV
 have HN : Hid (w1.heap.size = N) := hN
 have HV2 : Hid (V.alloc (.cells #[.pointer (some ⟨p, 0, none⟩), .bool true, .int .i64 0] 143) = V2) := hV2
 have HB : Hid (V.heap.size = b) := hB
 clear r9 hA hQ hK hV hN hb hk hsz hkV hV2 hB hb2 hk2 hsz2 HSS
 go_upto_region 2 with fail
 rw [HV.out, HN.out]
 clear HV HN
 go_upto_region 7 with fail
 rw [HV2.out, HB.out]
 clear HV2 HB c0
 go_wp2_with fail
 refine hs.mono ?_
 rintro e X ⟨rfl, hC, hp0, hpl, hlen, ht, hf⟩
 have HC2 : Hid (∀ Y, Kept (fun k => k < X.heap.size) X Y -> Y.cell? ⟨b, 2, none⟩ = some (.int .i64 (nd : Int))) := fun Y hY => (hY.cell (p := ⟨b, 2, none⟩) hC.lt).trans hC.c2
 have HL : Hid (∀ Y, Kept (fun k => k < X.heap.size) X Y -> Calls Tryz.prog 117 #[.pointer (some ⟨p, 0, none⟩)] Y fun e w' => e = .returned (.int .i64 (L : Int)) /\ Kept (fun k => k < Y.heap.size) Y w') := fun Y hY => (zne p L Y ((hY.cell (p := ⟨p, 0, none⟩) hpl).trans hp0)).mono fun e w' h => ⟨h.1, by rw [h.2]; exact Kept.refl _ _⟩
 have HLN : Hid (∀ Y, Kept (fun k => k < X.heap.size) X Y -> Calls Tryz.prog 15 #[.pointer (some ⟨p, 0, none⟩)] Y fun e w' => e = .returned (.int .i64 (mn : Int)) /\ Kept (fun k => k < Y.heap.size) Y w') := fun Y hY => (hlen Y hY).mono fun e w' h => ⟨h.1, by rw [h.2]; exact Kept.refl _ _⟩
 have HT : Hid _ := ht
 have HF : Hid _ := hf
 clear hs hC hp0 hpl hlen ht hf
 go_upto_region 8 with fail
 cases res with
 | true =>
  have hlt : (L : Int) - (mn : Int) < (nd : Int) := of_decide_eq_true hres
  clear hres
  refine wp_region_held_drew (S := fun Y => Kept (fun k => k < X.heap.size) X Y) (by kernel_rfl) ((Kept.refl _ X).drew) (fun hHeld => ?_)
  refine tkH 0 31 (.pointer (some ⟨p, 0, none⟩)) rfl rfl (by kernel_rfl) (by rfl) (by intro Y hY; go_simp; try with_reducible rfl) (fun _ _ _ h => h) hHeld ?_
  try simp only [Act.put, List.setIfInBounds_toArray, List.set_cons_zero, List.set_cons_succ]
  refine tkH 2 33 (.pointer (some ⟨p, 0, none⟩)) rfl rfl (by kernel_rfl) (by rfl) (by intro Y hY; go_simp; try with_reducible rfl) (fun _ _ _ h => h) hHeld ?_
  try simp only [Act.put, List.setIfInBounds_toArray, List.set_cons_zero, List.set_cons_succ]
  refine tkH 5 36 (.pointer (some ⟨b, 0, none⟩)) rfl rfl (by kernel_rfl) (by rfl) (by intro Y hY; go_simp; try with_reducible rfl) (fun _ _ _ h => h) hHeld ?_
  try simp only [Act.put, List.setIfInBounds_toArray, List.set_cons_zero, List.set_cons_succ]
  refine tkH 6 37 (.pointer (some ⟨b, 0, none⟩)) rfl rfl (by kernel_rfl) (by rfl) (by intro Y hY; go_simp; try with_reducible rfl) (fun _ _ _ h => h) hHeld ?_
  try simp only [Act.put, List.setIfInBounds_toArray, List.set_cons_zero, List.set_cons_succ]
  refine tkH 7 38 (.pointer (some ⟨b, 2, none⟩)) rfl rfl (by kernel_rfl) (by rfl) (by intro Y hY; go_simp; try with_reducible rfl) (fun _ _ _ h => h) hHeld ?_
  try simp only [Act.put, List.setIfInBounds_toArray, List.set_cons_zero, List.set_cons_succ]
  refine tkH 8 39 (.int .i64 (nd : Int)) rfl rfl (by kernel_rfl) (by rfl) (by intro Y hY; have hc := HC2.out Y hY; go_simp; try with_reducible rfl) (fun _ _ _ h => h) hHeld ?_
  try simp only [Act.put, List.setIfInBounds_toArray, List.set_cons_zero, List.set_cons_succ]
  refine clH 1 32 117 #[.pointer (some ⟨p, 0, none⟩)] rfl rfl (by kernel_rfl) (by rfl) rfl (by first | rfl | (simp [Act.eval]; done) | (simp [Act.eval, Act.put]; done)) (zju _ _) (HL.out _ hHeld) ?_
  rintro e Y ⟨rfl, hk9⟩
  refine ⟨_, rfl, kt hHeld hk9, fun hHeld2 => ?_⟩
  replace hHeld := hHeld2
  clear hHeld2
  try simp only [Act.put, List.setIfInBounds_toArray, List.set_cons_zero, List.set_cons_succ]
  refine clH 3 34 15 #[.pointer (some ⟨p, 0, none⟩)] rfl rfl (by kernel_rfl) (by rfl) rfl (by first | rfl | (simp [Act.eval]; done) | (simp [Act.eval, Act.put]; done)) (zj0 _ _) (HLN.out _ hHeld) ?_
  rintro e Y2 ⟨rfl, hk9⟩
  refine ⟨_, rfl, kt hHeld hk9, fun hHeld2 => ?_⟩
  replace hHeld := hHeld2
  clear hHeld2
  try simp only [Act.put, List.setIfInBounds_toArray, List.set_cons_zero, List.set_cons_succ]
  refine tkH 4 35 (.int .i64 ((L : Int) - (mn : Int))) rfl rfl (by kernel_rfl) (by rfl) (by intro Y hY; go_simp; try with_reducible rfl) (fun _ _ _ h => h) hHeld ?_
  try simp only [Act.put, List.setIfInBounds_toArray, List.set_cons_zero, List.set_cons_succ]
  refine tkH 9 40 (.bool true) rfl rfl (by kernel_rfl) (by rfl) (by intro Y hY; go_simp; try with_reducible rfl) (fun _ _ _ h => h) hHeld ?_
  try simp only [Act.put, List.setIfInBounds_toArray, List.set_cons_zero, List.set_cons_succ]
  refine wpAnyH_done (by kernel_rfl) ?_ _
  have HP : Hid (Post Y2) := HT.out rfl Y2 hHeld
  clear hHeld hk9 HT HF HL HLN HC2
  go_wp2
  go_ret2
  exact ⟨rfl, HP.out⟩
 | false =>
  have hlt : ¬ (L : Int) - (mn : Int) < (nd : Int) := of_decide_eq_false hres
  clear hres
  refine wp_region_held_drew (S := fun Y => Kept (fun k => k < X.heap.size) X Y) (by kernel_rfl) ((Kept.refl _ X).drew) (fun hHeld => ?_)
  refine tkH 0 31 (.pointer (some ⟨p, 0, none⟩)) rfl rfl (by kernel_rfl) (by rfl) (by intro Y hY; go_simp; try with_reducible rfl) (fun _ _ _ h => h) hHeld ?_
  try simp only [Act.put, List.setIfInBounds_toArray, List.set_cons_zero, List.set_cons_succ]
  refine tkH 2 33 (.pointer (some ⟨p, 0, none⟩)) rfl rfl (by kernel_rfl) (by rfl) (by intro Y hY; go_simp; try with_reducible rfl) (fun _ _ _ h => h) hHeld ?_
  try simp only [Act.put, List.setIfInBounds_toArray, List.set_cons_zero, List.set_cons_succ]
  refine tkH 5 36 (.pointer (some ⟨b, 0, none⟩)) rfl rfl (by kernel_rfl) (by rfl) (by intro Y hY; go_simp; try with_reducible rfl) (fun _ _ _ h => h) hHeld ?_
  try simp only [Act.put, List.setIfInBounds_toArray, List.set_cons_zero, List.set_cons_succ]
  refine tkH 6 37 (.pointer (some ⟨b, 0, none⟩)) rfl rfl (by kernel_rfl) (by rfl) (by intro Y hY; go_simp; try with_reducible rfl) (fun _ _ _ h => h) hHeld ?_
  try simp only [Act.put, List.setIfInBounds_toArray, List.set_cons_zero, List.set_cons_succ]
  refine tkH 7 38 (.pointer (some ⟨b, 2, none⟩)) rfl rfl (by kernel_rfl) (by rfl) (by intro Y hY; go_simp; try with_reducible rfl) (fun _ _ _ h => h) hHeld ?_
  try simp only [Act.put, List.setIfInBounds_toArray, List.set_cons_zero, List.set_cons_succ]
  refine tkH 8 39 (.int .i64 (nd : Int)) rfl rfl (by kernel_rfl) (by rfl) (by intro Y hY; have hc := HC2.out Y hY; go_simp; try with_reducible rfl) (fun _ _ _ h => h) hHeld ?_
  try simp only [Act.put, List.setIfInBounds_toArray, List.set_cons_zero, List.set_cons_succ]
  refine clH 1 32 117 #[.pointer (some ⟨p, 0, none⟩)] rfl rfl (by kernel_rfl) (by rfl) rfl (by first | rfl | (simp [Act.eval]; done) | (simp [Act.eval, Act.put]; done)) (zju _ _) (HL.out _ hHeld) ?_
  rintro e Y ⟨rfl, hk9⟩
  refine ⟨_, rfl, kt hHeld hk9, fun hHeld2 => ?_⟩
  replace hHeld := hHeld2
  clear hHeld2
  try simp only [Act.put, List.setIfInBounds_toArray, List.set_cons_zero, List.set_cons_succ]
  refine clH 3 34 15 #[.pointer (some ⟨p, 0, none⟩)] rfl rfl (by kernel_rfl) (by rfl) rfl (by first | rfl | (simp [Act.eval]; done) | (simp [Act.eval, Act.put]; done)) (zj0 _ _) (HLN.out _ hHeld) ?_
  rintro e Y2 ⟨rfl, hk9⟩
  refine ⟨_, rfl, kt hHeld hk9, fun hHeld2 => ?_⟩
  replace hHeld := hHeld2
  clear hHeld2
  try simp only [Act.put, List.setIfInBounds_toArray, List.set_cons_zero, List.set_cons_succ]
  refine tkH 4 35 (.int .i64 ((L : Int) - (mn : Int))) rfl rfl (by kernel_rfl) (by rfl) (by intro Y hY; go_simp; try with_reducible rfl) (fun _ _ _ h => h) hHeld ?_
  try simp only [Act.put, List.setIfInBounds_toArray, List.set_cons_zero, List.set_cons_succ]
  refine tkH 9 40 (.bool false) rfl rfl (by kernel_rfl) (by rfl) (by intro Y hY; go_simp; try with_reducible rfl) (fun _ _ _ h => h) hHeld ?_
  try simp only [Act.put, List.setIfInBounds_toArray, List.set_cons_zero, List.set_cons_succ]
  refine wpAnyH_done (by kernel_rfl) ?_ _
  obtain ⟨V3, b3, hV3, hB3, hb3, hk3, hsz3⟩ := zaz Y2 #[.pointer (some ⟨p, 0, none⟩), .bool false, .int .i64 0]   143
  have r := HF.out rfl V3 b3 (kt hHeld hk3) (by rw [<- hB3]; exact hHeld.size) hb3
  have HV3 : Hid (Y2.alloc (.cells #[.pointer (some ⟨p, 0, none⟩), .bool false, .int .i64 0] 143) = V3) := hV3
  have HB3 : Hid (Y2.heap.size = b3) := hB3
  clear hHeld hk9 HT HF HL HLN HC2 hV3 hB3 hb3 hk3 hsz3
  go_upto_region 11 with fail
  rw [HV3.out, HB3.out]
  clear HV3 HB3
  go_wp2_with fail
  refine r.mono ?_
  rintro e Z ⟨rfl, hP⟩
  have HP : Hid (Post Z) := hP
  clear r hP
  go_wp2
  go_ret2
  exact ⟨rfl, HP.out⟩
theorem zed {K : Nat -> Prop} {p : Nat} {M : Dm} {R G : Nat -> List Nat} {rk : Nat -> Nat} (hI : Inv M R G rk) (hlim : M.limit <= 100000) (hle : M.n <= M.limit) (f i : Nat) (hf : dn M.n rk i < f) (hi : i < M.n) (deep : Bool) (w : World) (hX : DX K w p M) :
  Calls Tryz.prog 52 #[.pointer (some ⟨p, 0, none⟩), .int .i64 (i : Int), .bool deep] w fun e w' => Kept K w w' /\ ClR K p M R G f i deep e w' := by
 have r9 := zb2 K p i M R w hX hI.good.wf hi (by omega) hI.good.few
 by_cases h5 : (M.nd i).kind = 5
 ·refine (zo0 0 p i deep _ _ _ w h5 r9).mono ?_
  rintro e w' ⟨rfl, hk⟩
  exact ⟨hk.mono hX.lt, .shadow h5 rfl (hX.kept hk)⟩
 ·have hneed := zlz hI f hi deep
  have hkz : (M.nd i).kind <= 255 := by
   have := hI.ex.snd i hi h5
   unfold zat Nd.mk' Mk.it za7 at this
   refine Nat.le_of_not_lt fun hgt => ?_
   have n1 : (M.nd i).kind ≠ 1 := by omega
   have n2 : (M.nd i).kind ≠ 2 := by omega
   have n3 : (M.nd i).kind ≠ 3 := by omega
   have n4 : (M.nd i).kind ≠ 4 := by omega
   have n6 : (M.nd i).kind ≠ 6 := by omega
   simp [zbb, zbc, n1, n2, n3, n4, n6] at this
  obtain ⟨nd, hnd⟩ : ∃ nd, zba M R f i deep = nd := ⟨_, rfl⟩
  obtain ⟨res, hres⟩ : ∃ r, decide ((M.limit : Int) - (M.n : Int) < (nd : Int)) = r := ⟨_, rfl⟩
  have hs0 : (⟨M, R, G⟩ : Sta).ok := ⟨rk, hI⟩
  refine (zl2 p i M.limit M.n nd hlim (by omega) (by omega) deep (M.nd i) (M.pl i).up (R i) w h5 hkz res hres (fun w' => Kept K w w' /\ if res = true then DX K w' p M else DX K w' p (zcm f ⟨M, R, G⟩ i deep).1.M) r9 fun V b hkV hb hC => ?_).mono ?_
  ·have hXV : DX (fun k => K k \/ k = b) V p M := hX.more hkV (fun k h => by
    rcases h with h | h
    ·exact .inl h
    ·exact .inr (by omega)) (fun k h => by
    rcases h with h | h
    ·exact ltl (hX.lt k h) hkV.size
    ·rw [h]; exact hC.lt)
   have r := zhv (K := fun k => K k \/ k = b) (b := b) (p := p) hI (by omega) (.inr rfl) f i hf hi deep 0 V hXV hC (by omega)
   rw [hnd, Nat.zero_add] at r
   refine r.mono ?_
   rintro e X ⟨rfl, hCX, hkX⟩
   have hXX : DX (fun k => K k \/ k = b) X p M := hXV.but (.inr rfl) hkX
   have hXK : DX K X p M := hXX.move (fun _ _ _ => rfl) (fun k _ h => .inl h) (fun k h => hXX.lt k (.inl h))
   have hkwX : Kept K w X := (hkV.mono hX.lt).trans (hkX.mono fun k h => ⟨ltl (hX.lt k h) hkV.size, by have := hX.lt k h; omega⟩)
   refine ⟨rfl, hCX, ?_, ?_, fun Y hY => ?_, fun hr Y hY => ?_, fun hr Y b2 hY hb2 hC2 => ?_⟩
   ·obtain ⟨ga, cap, hY⟩ := hXK; exact hY.c0
   ·obtain ⟨ga, cap, hY⟩ := hXK; exact hY.plt
   ·obtain ⟨ga, cap, hY'⟩ := hXK.kept hY; exact zi0 p M.n cap ga Y hY'.c1
   ·rw [if_pos hr]
    exact ⟨hkwX.trans (hY.mono hXK.lt), hXK.kept hY⟩
   ·subst hr
    have hroom : M.n + zba M R f i deep <= M.limit := by have := of_decide_eq_false hres; omega
    have hY2 : DX (fun k => K k \/ k = b2) Y p M := hXK.more hY (fun k h => by
     rcases h with h | h
     ·exact .inl h
     ·exact .inr (by omega)) (fun k h => by
     rcases h with h | h
     ·exact ltl (hXK.lt k h) hY.size
     ·rw [h]; exact hC2.lt)
    refine (zjm (b := b2) (p := p) hI hlim f i hf hi h5 deep (fun k => K k \/ k = b2) ⟨M, R, G⟩ 0 Y (.inr rfl) hY2 (Keeps.refl _ _ _) hs0 hroom hC2 (by omega)).mono ?_
    rintro e Z ⟨rfl, hZ⟩
    refine ⟨rfl, (hkwX.trans (hY.mono hXK.lt)).trans (hZ.k.mono fun k h => ⟨.inl h, by have := hXK.lt k h; omega⟩), ?_⟩
    rw [if_neg (by decide)]
    exact hZ.d.move (fun _ _ _ => rfl) (fun k _ h => .inl h) (fun k h => hZ.d.lt k (.inl h))
  ·rintro e w' ⟨he, hk, hd⟩
   refine ⟨hk, ?_⟩
   cases res with
   | true =>
    have := of_decide_eq_true hres
    exact .full h5 (by omega) (by rw [if_pos rfl] at he; exact he) (by rw [if_pos rfl] at hd; exact hd)
   | false =>
    have := of_decide_eq_false hres
    exact .made h5 (by omega) (by rw [if_neg (by decide)] at he; exact he) (by rw [if_neg (by decide)] at hd; exact hd)
theorem zki (K : Nat -> Prop) (p : Nat) (M : Dm) (i : Int) (deep : Bool) (w : World) (h : DX K w p M) (hi : i < 0 \/ (M.n : Int) <= i) (hn : M.n <= 1000000) :
  Calls Tryz.prog 52 #[.pointer (some ⟨p, 0, none⟩), .int .i64 i, .bool deep] w fun e w' => e = .returned (.tuple #[.int .i64 0, .int .u16 80]) /\ Kept (fun k => k < w.heap.size) w w' := by
 have r9 := zig K p M i w h hi hn
 clear h hi hn
 go_enter Tryz.func52, Tryz.ntmps52
 go_wp2_with fail
 refine r9.mono ?_
 rintro e w1 ⟨rfl, hK⟩
 have HK : Hid (Kept (fun k => k < w.heap.size) w (w1.alloc (.cells za2 58))) := hK.alloc (fun k h => ltl h hK.size) _
 clear r9 hK
 go_upto_region 2 with fail
 go_wp2
 go_ret2
 exact ⟨rfl, HK.out⟩
end Go.Proofs.YtfeinppedejlpaaGreat
