/-
  The copier: copyRoot and copyNode over what they call.
-/
import Derived.Test.YtfeinppedejlpaaGreatNCw
namespace Go.Proofs.YtfeinppedejlpaaGreat
set_option linter.unusedVariables false
set_option maxRecDepth 100000
set_option maxHeartbeats 8000000
open Go.RowKit
theorem Zag.tt {F F' : Nat -> Prop} {w w' : World} {aa : Option Addr} {l : List Atr} (h : Zag F w aa l) (hF : ∀ g, F g -> F' g) (hb : ∀ g, F g -> w'.heap[g]? = w.heap[g]?) : Zag F' w' aa l := fun j hj => by
 obtain ⟨g, o, e, hg, h1, h2⟩ := h j hj
 exact ⟨g, o, e, hF g hg, (World.cell?_of_block (w := w) (hb g hg)).trans h1, (World.cell?_of_block (w := w) (hb g hg)).trans h2⟩
theorem zih (b p q : Nat) (hz : Int) (x : Nd) (up : Int) (l : List Nat) (w : World) (hx : x.fl.e = false)
  (c0 : w.cell? ⟨b, 0, none⟩ = some (.pointer (some ⟨p, 0, none⟩)))
  (r9 : Calls Tryz.prog 41 #[.pointer (some ⟨p, 0, none⟩), .int .i64 (q : Int)] w fun e w' => Told w x up l e w') :
  Calls Tryz.prog 189 #[.pointer (some ⟨b, 0, none⟩), .int .i64 (q : Int), .int .i64 hz] w fun e w' => e = .returned (.tuple #[]) /\ Kept (fun k => k < w.heap.size) w w' := by
 have HX : Hid (x.fl.e = false) := hx
 clear hx
 go_enter Tryz.func189, Tryz.ntmps189
 go_wp2_with fail
 refine r9.mono ?_
 rintro e w1 ⟨ao, ac, ko, kc, rfl, hA, hQ, hK⟩
 obtain ⟨V, N, hV, hN, hb, hk, hsz⟩ := zaz w1 (nV x ao ac up ko l.length kc)   58
 have c13 : V.cell? ⟨N, 13, none⟩ = some (.bool false) := by rw [zaa hb, <- HX.out]; rfl
 have HV : Hid (w1.alloc (.cells (nV x ao ac up ko l.length kc) 58) = V) := hV
 have HN : Hid (w1.heap.size = N) := hN
 have HK : Hid (Kept (fun k => k < w.heap.size) w V) := kt hK hk
 clear r9 hA hQ hK hV hN hb hk hsz c0
 go_upto_region 1 with fail
 rw [HV.out, HN.out]
 clear HV HN
 go_wp2
 go_end0
 exact ⟨rfl, HK.out⟩
theorem zib (b p q : Nat) (hz : Int) (x : Nd) (up : Int) (l : List Nat) (w : World) (hx : x.fl.e = true) (Post : World -> Prop)
  (c0 : w.cell? ⟨b, 0, none⟩ = some (.pointer (some ⟨p, 0, none⟩)))
  (r9 : Calls Tryz.prog 41 #[.pointer (some ⟨p, 0, none⟩), .int .i64 (q : Int)] w fun e w' => Told w x up l e w')
  (h40 : ∀ V, Kept (fun k => k < w.heap.size) w V -> Calls Tryz.prog 241 #[.pointer (some ⟨b, 0, none⟩), .int .i64 hz, fgV x.fl] V fun e X => ∃ c : Int, e = .returned (.int .i64 c) /\ Calls Tryz.prog 190 #[.pointer (some ⟨b, 0, none⟩), .int .i64 (q : Int), .int .i64 c] X fun e' Z => e' = .returned (.tuple #[]) /\ Post Z) :
  Calls Tryz.prog 189 #[.pointer (some ⟨b, 0, none⟩), .int .i64 (q : Int), .int .i64 hz] w fun e w' => e = .returned (.tuple #[]) /\ Post w' := by
 have H40 : Hid (∀ V, Kept (fun k => k < w.heap.size) w V -> Calls Tryz.prog 241 #[.pointer (some ⟨b, 0, none⟩), .int .i64 hz, fgV x.fl] V fun e X => ∃ c : Int, e = .returned (.int .i64 c) /\ Calls Tryz.prog 190 #[.pointer (some ⟨b, 0, none⟩), .int .i64 (q : Int), .int .i64 c] X fun e' Z => e' = .returned (.tuple #[]) /\ Post Z) := h40
 have HX : Hid (x.fl.e = true) := hx
 clear h40 hx
 go_enter Tryz.func189, Tryz.ntmps189
 go_wp2_with fail
 refine r9.mono ?_
 rintro e w1 ⟨ao, ac, ko, kc, rfl, hA, hQ, hK⟩
 obtain ⟨V, N, hV, hN, hb, hk, hsz⟩ := zaz w1 (nV x ao ac up ko l.length kc)   58
 have c13 : V.cell? ⟨N, 13, none⟩ = some (.bool true) := by rw [zaa hb, <- HX.out]; rfl
 have r40 := H40.out V (kt hK hk)
 obtain ⟨⟨fa, fb, fc, fd, fe⟩, hfl⟩ : ∃ f, x.fl = f := ⟨_, rfl⟩
 have he : fe = true := by have hx := HX.out; rw [hfl] at hx; exact hx
 subst he
 have c9 : V.cell? ⟨N, 9, none⟩ = some (.bool fa) := by rw [zaa hb]; show some (Value.bool x.fl.a) = _; rw [hfl]
 have c10 : V.cell? ⟨N, 10, none⟩ = some (.bool fb) := by rw [zaa hb]; show some (Value.bool x.fl.b) = _; rw [hfl]
 have c11 : V.cell? ⟨N, 11, none⟩ = some (.bool fc) := by rw [zaa hb]; show some (Value.bool x.fl.c) = _; rw [hfl]
 have c12 : V.cell? ⟨N, 12, none⟩ = some (.bool fd) := by rw [zaa hb]; show some (Value.bool x.fl.d) = _; rw [hfl]
 rw [hfl] at r40
 have HV : Hid (w1.alloc (.cells (nV x ao ac up ko l.length kc) 58) = V) := hV
 have HN : Hid (w1.heap.size = N) := hN
 clear r9 hA hQ hK hV hN hb hk hsz c0 H40 HX hfl
 go_upto_region 1 with fail
 rw [HV.out, HN.out]
 clear HV HN
 go_wp2_with fail
 refine r40.mono ?_
 rintro e X ⟨c, rfl, r34⟩
 clear r40 c9 c10 c11 c12 c13
 go_wp2_with fail
 refine r34.mono ?_
 rintro e Z ⟨rfl, hP⟩
 have HP : Hid (Post Z) := hP
 clear r34 hP
 go_wp2
 go_end0
 exact ⟨rfl, HP.out⟩
structure Zby (w V : World) (b i : Nat) (deep : Bool) (x : Nd) (cs : Array Value) (c : Int) (P1 P2 P3 Post : World -> Prop) : Prop where
 new1 : ∀ X, P1 X -> Kept (fun k => w.heap.size <= k /\ k < V.heap.size) V X
 new2 : ∀ X, P2 X -> Kept (fun k => w.heap.size <= k /\ k < V.heap.size) V X
 s1 : Calls Tryz.prog 188 #[.pointer (some ⟨b, 0, none⟩), .agg cs] V fun e X => e = .returned (.int .i64 c) /\ P1 X
 s2n : x.shadow = -1 -> ∀ X, P1 X -> P2 X
 s2y : x.shadow ≠ -1 -> ∀ X, P1 X -> Calls Tryz.prog 189 #[.pointer (some ⟨b, 0, none⟩), .int .i64 x.shadow, .int .i64 c] X fun e Y => e = .returned (.tuple #[]) /\ P2 Y
 s3 : deep = false -> ∀ X, P2 X -> Post X
 s4n : deep = true -> x.content = -1 -> ∀ X, P2 X -> P3 X
 s4y : deep = true -> x.content ≠ -1 -> ∀ X, P2 X -> Calls Tryz.prog 190 #[.pointer (some ⟨b, 0, none⟩), .int .i64 x.content, .int .i64 (c + 1)] X fun e Y => e = .returned (.tuple #[]) /\ P3 Y
 s5 : deep = true -> ∀ X, P3 X -> Calls Tryz.prog 190 #[.pointer (some ⟨b, 0, none⟩), .int .i64 (i : Int), .int .i64 c] X fun e Y => e = .returned (.tuple #[]) /\ Post Y
theorem zjg (b p i : Nat) (deep : Bool) (x : Nd) (up : Int) (l : List Nat) (c : Int) (hc0 : -1 <= c) (hc1 : c <= 1000000) (w : World) (Post : World -> Prop)
  (c0 : w.cell? ⟨b, 0, none⟩ = some (.pointer (some ⟨p, 0, none⟩)))
  (r9 : Calls Tryz.prog 41 #[.pointer (some ⟨p, 0, none⟩), .int .i64 (i : Int)] w fun e w' => Told w x up l e w')
  (hs : ∀ V ao ac ko kc, Kept (fun k => k < w.heap.size) w V -> Zag (fun k => w.heap.size <= k /\ k < V.heap.size) V ao x.attrs -> ∃ P1 P2 P3, Zby w V b i deep x (nV x ao ac up ko l.length kc) c P1 P2 P3 Post) :
  Calls Tryz.prog 116 #[.pointer (some ⟨b, 0, none⟩), .int .i64 (i : Int), .bool deep] w fun e w' => e = .returned (.int .i64 c) /\ Post w' := by
 have HSS : Hid (∀ V ao ac ko kc, Kept (fun k => k < w.heap.size) w V -> Zag (fun k => w.heap.size <= k /\ k < V.heap.size) V ao x.attrs -> ∃ P1 P2 P3, Zby w V b i deep x (nV x ao ac up ko l.length kc) c P1 P2 P3 Post) := hs
 clear hs
 obtain ⟨sh, hsh⟩ : ∃ z, x.shadow = z := ⟨_, rfl⟩
 obtain ⟨co, hco⟩ : ∃ z, x.content = z := ⟨_, rfl⟩
 have pre : ∀ w1, Told w x up l (.returned undef) w1 -> True := fun _ _ => trivial
 clear pre
 by_cases qs : sh = -1
 ·subst qs
  have HSH : Hid (x.shadow = -1) := hsh
  cases deep with
  | false =>
   clear hsh hco
   go_enter Tryz.func116, Tryz.ntmps116
   go_wp2_with fail
   refine r9.mono ?_
   rintro e w1 ⟨ao, ac, ko, kc, rfl, hA, hQ, hK⟩
   obtain ⟨V, N, hV, hN, hb, hk, hsz⟩ := zaz w1 (nV x ao ac up ko l.length kc)   58
   have hAV : Zag (fun k => w.heap.size <= k /\ k < V.heap.size) V ao x.attrs := (hA.atsAt (K' := fun k => w.heap.size <= k /\ k < w1.heap.size) fun g hg => ⟨Nat.le_of_not_lt (Zac.out hA hg).1, (Zac.out hA hg).2⟩).tt (fun g hg => ⟨hg.1, ltl hg.2 hk.size⟩) (fun g hg => hk.block g hg.2)
   obtain ⟨P1, P2, P3, hS⟩ := HSS.out V ao ac ko kc (kt hK hk) hAV
   have hNn : w.heap.size <= N /\ N < V.heap.size := ⟨by rw [<- hN]; exact hK.size, zad hb⟩
   have HV : Hid (w1.alloc (.cells (zcf x.kind ⟨x.name.toArray⟩ ⟨x.data.toArray⟩ ao x.attrs.length ac up ko l.length kc x.shadow x.host x.content x.fl) 58) = V) := hV
   have HN : Hid (w1.heap.size = N) := hN
   have HS : Hid (Zby w V b i false x (zcf x.kind ⟨x.name.toArray⟩ ⟨x.data.toArray⟩ ao x.attrs.length ac up ko l.length kc x.shadow x.host x.content x.fl) c P1 P2 P3 Post) := hS
   have HB : Hid (V.heap[N]? = some (.cells (zcf x.kind ⟨x.name.toArray⟩ ⟨x.data.toArray⟩ ao x.attrs.length ac up ko l.length kc x.shadow x.host x.content x.fl) 58 (0, 0))) := hb
   have HNN : Hid (w.heap.size <= N /\ N < V.heap.size) := hNn
   have r1 := hS.s1
   clear r9 HSS hA hQ hK hV hN hk hsz c0 hAV hS hNn
   go_upto_region 2 with fail
   rw [HV.out, HN.out]
   clear HV HN
   go_wp2_with (refine wpList_load_row rfl 58 _ rfl N rfl 58 (zcf x.kind ⟨x.name.toArray⟩ ⟨x.data.toArray⟩ ao x.attrs.length ac up ko l.length kc x.shadow x.host x.content x.fl) (0, 0) _ hb Tryz.underlying58 rfl (zfu _ rfl) ?_)
   refine r1.mono ?_
   rintro e X ⟨rfl, hp1⟩
   have kX := HS.out.new1 X hp1
   have c6 : X.cell? ⟨N, 6, none⟩ = some (.int .i64 (-1)) := by rw [kX.cell (p := ⟨N, 6, none⟩) HNN.out, zaa HB.out, <- HSH.out]; rfl
   have hp2 := HS.out.s2n HSH.out X hp1
   clear r1 hb hp1 kX
   obtain ⟨Y, hY⟩ : ∃ Y, X = Y := ⟨_, rfl⟩
   subst hY
   have HP : Hid (Post X) := HS.out.s3 rfl X hp2
   clear hp2
   go_wp2
   go_ret
   exact ⟨rfl, HP.out⟩
  | true =>
   by_cases qc : co = -1
   ·subst qc
    have HCO : Hid (x.content = -1) := hco
    clear hsh hco
    go_enter Tryz.func116, Tryz.ntmps116
    go_wp2_with fail
    refine r9.mono ?_
    rintro e w1 ⟨ao, ac, ko, kc, rfl, hA, hQ, hK⟩
    obtain ⟨V, N, hV, hN, hb, hk, hsz⟩ := zaz w1 (nV x ao ac up ko l.length kc)   58
    have hAV : Zag (fun k => w.heap.size <= k /\ k < V.heap.size) V ao x.attrs := (hA.atsAt (K' := fun k => w.heap.size <= k /\ k < w1.heap.size) fun g hg => ⟨Nat.le_of_not_lt (Zac.out hA hg).1, (Zac.out hA hg).2⟩).tt (fun g hg => ⟨hg.1, ltl hg.2 hk.size⟩) (fun g hg => hk.block g hg.2)
    obtain ⟨P1, P2, P3, hS⟩ := HSS.out V ao ac ko kc (kt hK hk) hAV
    have hNn : w.heap.size <= N /\ N < V.heap.size := ⟨by rw [<- hN]; exact hK.size, zad hb⟩
    have HV : Hid (w1.alloc (.cells (zcf x.kind ⟨x.name.toArray⟩ ⟨x.data.toArray⟩ ao x.attrs.length ac up ko l.length kc x.shadow x.host x.content x.fl) 58) = V) := hV
    have HN : Hid (w1.heap.size = N) := hN
    have HS : Hid (Zby w V b i true x (zcf x.kind ⟨x.name.toArray⟩ ⟨x.data.toArray⟩ ao x.attrs.length ac up ko l.length kc x.shadow x.host x.content x.fl) c P1 P2 P3 Post) := hS
    have HB : Hid (V.heap[N]? = some (.cells (zcf x.kind ⟨x.name.toArray⟩ ⟨x.data.toArray⟩ ao x.attrs.length ac up ko l.length kc x.shadow x.host x.content x.fl) 58 (0, 0))) := hb
    have HNN : Hid (w.heap.size <= N /\ N < V.heap.size) := hNn
    have r1 := hS.s1
    clear r9 HSS hA hQ hK hV hN hk hsz c0 hAV hS hNn
    go_upto_region 2 with fail
    rw [HV.out, HN.out]
    clear HV HN
    go_wp2_with (refine wpList_load_row rfl 58 _ rfl N rfl 58 (zcf x.kind ⟨x.name.toArray⟩ ⟨x.data.toArray⟩ ao x.attrs.length ac up ko l.length kc x.shadow x.host x.content x.fl) (0, 0) _ hb Tryz.underlying58 rfl (zfu _ rfl) ?_)
    refine r1.mono ?_
    rintro e X ⟨rfl, hp1⟩
    have kX := HS.out.new1 X hp1
    have c6 : X.cell? ⟨N, 6, none⟩ = some (.int .i64 (-1)) := by rw [kX.cell (p := ⟨N, 6, none⟩) HNN.out, zaa HB.out, <- HSH.out]; rfl
    have hp2 := HS.out.s2n HSH.out X hp1
    clear r1 hb hp1 kX
    obtain ⟨Y, hY⟩ : ∃ Y, X = Y := ⟨_, rfl⟩
    subst hY
    have kY := HS.out.new2 X hp2
    have c8 : X.cell? ⟨N, 8, none⟩ = some (.int .i64 (-1)) := by rw [kY.cell (p := ⟨N, 8, none⟩) HNN.out, zaa HB.out, <- HCO.out]; rfl
    have r5 := HS.out.s5 rfl X (HS.out.s4n rfl HCO.out X hp2)
    clear hp2 kY
    go_wp2_with fail
    refine r5.mono ?_
    rintro e Z2 ⟨rfl, hp⟩
    have HP : Hid (Post Z2) := hp
    clear r5 hp
    go_wp2
    go_ret
    exact ⟨rfl, HP.out⟩
   ·have HCO : Hid (x.content = co) := hco
    have HQC : Hid (co ≠ -1) := qc
    have qc' : (co != -1) = true := by simpa using qc
    clear qc
    clear hsh hco
    go_enter Tryz.func116, Tryz.ntmps116
    go_wp2_with fail
    refine r9.mono ?_
    rintro e w1 ⟨ao, ac, ko, kc, rfl, hA, hQ, hK⟩
    obtain ⟨V, N, hV, hN, hb, hk, hsz⟩ := zaz w1 (nV x ao ac up ko l.length kc)   58
    have hAV : Zag (fun k => w.heap.size <= k /\ k < V.heap.size) V ao x.attrs := (hA.atsAt (K' := fun k => w.heap.size <= k /\ k < w1.heap.size) fun g hg => ⟨Nat.le_of_not_lt (Zac.out hA hg).1, (Zac.out hA hg).2⟩).tt (fun g hg => ⟨hg.1, ltl hg.2 hk.size⟩) (fun g hg => hk.block g hg.2)
    obtain ⟨P1, P2, P3, hS⟩ := HSS.out V ao ac ko kc (kt hK hk) hAV
    have hNn : w.heap.size <= N /\ N < V.heap.size := ⟨by rw [<- hN]; exact hK.size, zad hb⟩
    have HV : Hid (w1.alloc (.cells (zcf x.kind ⟨x.name.toArray⟩ ⟨x.data.toArray⟩ ao x.attrs.length ac up ko l.length kc x.shadow x.host x.content x.fl) 58) = V) := hV
    have HN : Hid (w1.heap.size = N) := hN
    have HS : Hid (Zby w V b i true x (zcf x.kind ⟨x.name.toArray⟩ ⟨x.data.toArray⟩ ao x.attrs.length ac up ko l.length kc x.shadow x.host x.content x.fl) c P1 P2 P3 Post) := hS
    have HB : Hid (V.heap[N]? = some (.cells (zcf x.kind ⟨x.name.toArray⟩ ⟨x.data.toArray⟩ ao x.attrs.length ac up ko l.length kc x.shadow x.host x.content x.fl) 58 (0, 0))) := hb
    have HNN : Hid (w.heap.size <= N /\ N < V.heap.size) := hNn
    have r1 := hS.s1
    clear r9 HSS hA hQ hK hV hN hk hsz c0 hAV hS hNn
    go_upto_region 2 with fail
    rw [HV.out, HN.out]
    clear HV HN
    go_wp2_with (refine wpList_load_row rfl 58 _ rfl N rfl 58 (zcf x.kind ⟨x.name.toArray⟩ ⟨x.data.toArray⟩ ao x.attrs.length ac up ko l.length kc x.shadow x.host x.content x.fl) (0, 0) _ hb Tryz.underlying58 rfl (zfu _ rfl) ?_)
    refine r1.mono ?_
    rintro e X ⟨rfl, hp1⟩
    have kX := HS.out.new1 X hp1
    have c6 : X.cell? ⟨N, 6, none⟩ = some (.int .i64 (-1)) := by rw [kX.cell (p := ⟨N, 6, none⟩) HNN.out, zaa HB.out, <- HSH.out]; rfl
    have hp2 := HS.out.s2n HSH.out X hp1
    clear r1 hb hp1 kX
    obtain ⟨Y, hY⟩ : ∃ Y, X = Y := ⟨_, rfl⟩
    subst hY
    have kY := HS.out.new2 X hp2
    have c8 : X.cell? ⟨N, 8, none⟩ = some (.int .i64 co) := by rw [kY.cell (p := ⟨N, 8, none⟩) HNN.out, zaa HB.out, <- HCO.out]; rfl
    have r4 := HS.out.s4y rfl (by rw [HCO.out]; exact HQC.out) X hp2
    rw [HCO.out] at r4
    clear hp2 kY
    go_wp2_with fail
    refine r4.mono ?_
    rintro e Z ⟨rfl, hp3⟩
    have r5 := HS.out.s5 rfl Z hp3
    clear r4 c8 hp3
    go_wp2_with fail
    refine r5.mono ?_
    rintro e Z2 ⟨rfl, hp⟩
    have HP : Hid (Post Z2) := hp
    clear r5 hp
    go_wp2
    go_ret
    exact ⟨rfl, HP.out⟩
 ·have HSH : Hid (x.shadow = sh) := hsh
  have HQS : Hid (sh ≠ -1) := qs
  have qs' : (sh != -1) = true := by simpa using qs
  clear qs
  cases deep with
  | false =>
   clear hsh hco
   go_enter Tryz.func116, Tryz.ntmps116
   go_wp2_with fail
   refine r9.mono ?_
   rintro e w1 ⟨ao, ac, ko, kc, rfl, hA, hQ, hK⟩
   obtain ⟨V, N, hV, hN, hb, hk, hsz⟩ := zaz w1 (nV x ao ac up ko l.length kc)   58
   have hAV : Zag (fun k => w.heap.size <= k /\ k < V.heap.size) V ao x.attrs := (hA.atsAt (K' := fun k => w.heap.size <= k /\ k < w1.heap.size) fun g hg => ⟨Nat.le_of_not_lt (Zac.out hA hg).1, (Zac.out hA hg).2⟩).tt (fun g hg => ⟨hg.1, ltl hg.2 hk.size⟩) (fun g hg => hk.block g hg.2)
   obtain ⟨P1, P2, P3, hS⟩ := HSS.out V ao ac ko kc (kt hK hk) hAV
   have hNn : w.heap.size <= N /\ N < V.heap.size := ⟨by rw [<- hN]; exact hK.size, zad hb⟩
   have HV : Hid (w1.alloc (.cells (zcf x.kind ⟨x.name.toArray⟩ ⟨x.data.toArray⟩ ao x.attrs.length ac up ko l.length kc x.shadow x.host x.content x.fl) 58) = V) := hV
   have HN : Hid (w1.heap.size = N) := hN
   have HS : Hid (Zby w V b i false x (zcf x.kind ⟨x.name.toArray⟩ ⟨x.data.toArray⟩ ao x.attrs.length ac up ko l.length kc x.shadow x.host x.content x.fl) c P1 P2 P3 Post) := hS
   have HB : Hid (V.heap[N]? = some (.cells (zcf x.kind ⟨x.name.toArray⟩ ⟨x.data.toArray⟩ ao x.attrs.length ac up ko l.length kc x.shadow x.host x.content x.fl) 58 (0, 0))) := hb
   have HNN : Hid (w.heap.size <= N /\ N < V.heap.size) := hNn
   have r1 := hS.s1
   clear r9 HSS hA hQ hK hV hN hk hsz c0 hAV hS hNn
   go_upto_region 2 with fail
   rw [HV.out, HN.out]
   clear HV HN
   go_wp2_with (refine wpList_load_row rfl 58 _ rfl N rfl 58 (zcf x.kind ⟨x.name.toArray⟩ ⟨x.data.toArray⟩ ao x.attrs.length ac up ko l.length kc x.shadow x.host x.content x.fl) (0, 0) _ hb Tryz.underlying58 rfl (zfu _ rfl) ?_)
   refine r1.mono ?_
   rintro e X ⟨rfl, hp1⟩
   have kX := HS.out.new1 X hp1
   have c6 : X.cell? ⟨N, 6, none⟩ = some (.int .i64 sh) := by rw [kX.cell (p := ⟨N, 6, none⟩) HNN.out, zaa HB.out, <- HSH.out]; rfl
   have r2 := HS.out.s2y (by rw [HSH.out]; exact HQS.out) X hp1
   rw [HSH.out] at r2
   clear r1 hb hp1 kX
   go_wp2_with fail
   refine r2.mono ?_
   rintro e Y ⟨rfl, hp2⟩
   clear r2 c6
   have HP : Hid (Post Y) := HS.out.s3 rfl Y hp2
   clear hp2
   go_wp2
   go_ret
   exact ⟨rfl, HP.out⟩
  | true =>
   by_cases qc : co = -1
   ·subst qc
    have HCO : Hid (x.content = -1) := hco
    clear hsh hco
    go_enter Tryz.func116, Tryz.ntmps116
    go_wp2_with fail
    refine r9.mono ?_
    rintro e w1 ⟨ao, ac, ko, kc, rfl, hA, hQ, hK⟩
    obtain ⟨V, N, hV, hN, hb, hk, hsz⟩ := zaz w1 (nV x ao ac up ko l.length kc)   58
    have hAV : Zag (fun k => w.heap.size <= k /\ k < V.heap.size) V ao x.attrs := (hA.atsAt (K' := fun k => w.heap.size <= k /\ k < w1.heap.size) fun g hg => ⟨Nat.le_of_not_lt (Zac.out hA hg).1, (Zac.out hA hg).2⟩).tt (fun g hg => ⟨hg.1, ltl hg.2 hk.size⟩) (fun g hg => hk.block g hg.2)
    obtain ⟨P1, P2, P3, hS⟩ := HSS.out V ao ac ko kc (kt hK hk) hAV
    have hNn : w.heap.size <= N /\ N < V.heap.size := ⟨by rw [<- hN]; exact hK.size, zad hb⟩
    have HV : Hid (w1.alloc (.cells (zcf x.kind ⟨x.name.toArray⟩ ⟨x.data.toArray⟩ ao x.attrs.length ac up ko l.length kc x.shadow x.host x.content x.fl) 58) = V) := hV
    have HN : Hid (w1.heap.size = N) := hN
    have HS : Hid (Zby w V b i true x (zcf x.kind ⟨x.name.toArray⟩ ⟨x.data.toArray⟩ ao x.attrs.length ac up ko l.length kc x.shadow x.host x.content x.fl) c P1 P2 P3 Post) := hS
    have HB : Hid (V.heap[N]? = some (.cells (zcf x.kind ⟨x.name.toArray⟩ ⟨x.data.toArray⟩ ao x.attrs.length ac up ko l.length kc x.shadow x.host x.content x.fl) 58 (0, 0))) := hb
    have HNN : Hid (w.heap.size <= N /\ N < V.heap.size) := hNn
    have r1 := hS.s1
    clear r9 HSS hA hQ hK hV hN hk hsz c0 hAV hS hNn
    go_upto_region 2 with fail
    rw [HV.out, HN.out]
    clear HV HN
    go_wp2_with (refine wpList_load_row rfl 58 _ rfl N rfl 58 (zcf x.kind ⟨x.name.toArray⟩ ⟨x.data.toArray⟩ ao x.attrs.length ac up ko l.length kc x.shadow x.host x.content x.fl) (0, 0) _ hb Tryz.underlying58 rfl (zfu _ rfl) ?_)
    refine r1.mono ?_
    rintro e X ⟨rfl, hp1⟩
    have kX := HS.out.new1 X hp1
    have c6 : X.cell? ⟨N, 6, none⟩ = some (.int .i64 sh) := by rw [kX.cell (p := ⟨N, 6, none⟩) HNN.out, zaa HB.out, <- HSH.out]; rfl
    have r2 := HS.out.s2y (by rw [HSH.out]; exact HQS.out) X hp1
    rw [HSH.out] at r2
    clear r1 hb hp1 kX
    go_wp2_with fail
    refine r2.mono ?_
    rintro e Y ⟨rfl, hp2⟩
    clear r2 c6
    have kY := HS.out.new2 Y hp2
    have c8 : Y.cell? ⟨N, 8, none⟩ = some (.int .i64 (-1)) := by rw [kY.cell (p := ⟨N, 8, none⟩) HNN.out, zaa HB.out, <- HCO.out]; rfl
    have r5 := HS.out.s5 rfl Y (HS.out.s4n rfl HCO.out Y hp2)
    clear hp2 kY
    go_wp2_with fail
    refine r5.mono ?_
    rintro e Z2 ⟨rfl, hp⟩
    have HP : Hid (Post Z2) := hp
    clear r5 hp
    go_wp2
    go_ret
    exact ⟨rfl, HP.out⟩
   ·have HCO : Hid (x.content = co) := hco
    have HQC : Hid (co ≠ -1) := qc
    have qc' : (co != -1) = true := by simpa using qc
    clear qc
    clear hsh hco
    go_enter Tryz.func116, Tryz.ntmps116
    go_wp2_with fail
    refine r9.mono ?_
    rintro e w1 ⟨ao, ac, ko, kc, rfl, hA, hQ, hK⟩
    obtain ⟨V, N, hV, hN, hb, hk, hsz⟩ := zaz w1 (nV x ao ac up ko l.length kc)   58
    have hAV : Zag (fun k => w.heap.size <= k /\ k < V.heap.size) V ao x.attrs := (hA.atsAt (K' := fun k => w.heap.size <= k /\ k < w1.heap.size) fun g hg => ⟨Nat.le_of_not_lt (Zac.out hA hg).1, (Zac.out hA hg).2⟩).tt (fun g hg => ⟨hg.1, ltl hg.2 hk.size⟩) (fun g hg => hk.block g hg.2)
    obtain ⟨P1, P2, P3, hS⟩ := HSS.out V ao ac ko kc (kt hK hk) hAV
    have hNn : w.heap.size <= N /\ N < V.heap.size := ⟨by rw [<- hN]; exact hK.size, zad hb⟩
    have HV : Hid (w1.alloc (.cells (zcf x.kind ⟨x.name.toArray⟩ ⟨x.data.toArray⟩ ao x.attrs.length ac up ko l.length kc x.shadow x.host x.content x.fl) 58) = V) := hV
    have HN : Hid (w1.heap.size = N) := hN
    have HS : Hid (Zby w V b i true x (zcf x.kind ⟨x.name.toArray⟩ ⟨x.data.toArray⟩ ao x.attrs.length ac up ko l.length kc x.shadow x.host x.content x.fl) c P1 P2 P3 Post) := hS
    have HB : Hid (V.heap[N]? = some (.cells (zcf x.kind ⟨x.name.toArray⟩ ⟨x.data.toArray⟩ ao x.attrs.length ac up ko l.length kc x.shadow x.host x.content x.fl) 58 (0, 0))) := hb
    have HNN : Hid (w.heap.size <= N /\ N < V.heap.size) := hNn
    have r1 := hS.s1
    clear r9 HSS hA hQ hK hV hN hk hsz c0 hAV hS hNn
    go_upto_region 2 with fail
    rw [HV.out, HN.out]
    clear HV HN
    go_wp2_with (refine wpList_load_row rfl 58 _ rfl N rfl 58 (zcf x.kind ⟨x.name.toArray⟩ ⟨x.data.toArray⟩ ao x.attrs.length ac up ko l.length kc x.shadow x.host x.content x.fl) (0, 0) _ hb Tryz.underlying58 rfl (zfu _ rfl) ?_)
    refine r1.mono ?_
    rintro e X ⟨rfl, hp1⟩
    have kX := HS.out.new1 X hp1
    have c6 : X.cell? ⟨N, 6, none⟩ = some (.int .i64 sh) := by rw [kX.cell (p := ⟨N, 6, none⟩) HNN.out, zaa HB.out, <- HSH.out]; rfl
    have r2 := HS.out.s2y (by rw [HSH.out]; exact HQS.out) X hp1
    rw [HSH.out] at r2
    clear r1 hb hp1 kX
    go_wp2_with fail
    refine r2.mono ?_
    rintro e Y ⟨rfl, hp2⟩
    clear r2 c6
    have kY := HS.out.new2 Y hp2
    have c8 : Y.cell? ⟨N, 8, none⟩ = some (.int .i64 co) := by rw [kY.cell (p := ⟨N, 8, none⟩) HNN.out, zaa HB.out, <- HCO.out]; rfl
    have r4 := HS.out.s4y rfl (by rw [HCO.out]; exact HQC.out) Y hp2
    rw [HCO.out] at r4
    clear hp2 kY
    go_wp2_with fail
    refine r4.mono ?_
    rintro e Z ⟨rfl, hp3⟩
    have r5 := HS.out.s5 rfl Z hp3
    clear r4 c8 hp3
    go_wp2_with fail
    refine r5.mono ?_
    rintro e Z2 ⟨rfl, hp⟩
    have HP : Hid (Post Z2) := hp
    clear r5 hp
    go_wp2
    go_ret
    exact ⟨rfl, HP.out⟩
end Go.Proofs.YtfeinppedejlpaaGreat
