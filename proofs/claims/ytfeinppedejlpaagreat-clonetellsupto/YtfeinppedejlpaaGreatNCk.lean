/-
  portierelaw15: known.
-/
import Derived.Test.YtfeinppedejlpaaGreatNCg
import Derived.Test.YtfeinppedejlpaaGreatNKq
namespace Go.Proofs.YtfeinppedejlpaaGreat
open Go.RowKit
set_option linter.unusedVariables false
set_option maxRecDepth 100000
set_option maxHeartbeats 8000000
def cxN : Nd := Mk.nd ⟨2, [], [120], []⟩
def c2 : Dm := (((Dm.new 9).add zsp).add cxN)
def c2R : Nat -> List Nat := zax (zax (fun _ => []) 1 []) 2 []
def c3 : Dm := c2.setP (zd8 c2 c2R 1 2 (-1))
def c3R : Nat -> List Nat := zdl c2 c2R 1 2 (-1)
theorem zpd : (⟨#[120]⟩ : ByteArray).toList = [120] := by rw [ByteArray.toList_eq]
theorem zny : zat ⟨2, [], [120], []⟩ = true := by kernel_rfl
theorem cF2 : Fits c2 1 2 (-1) := by
 refine ⟨by kernel_rfl, by kernel_rfl, fun hw => ?_, .inl rfl⟩
 have key : ∀ {k}, Wi c2 2 k -> k = 1 -> False := by
  intro k hw
  induction hw with
  | here => intro h; cases h
  | @up k m e _ ih =>
   intro hk
   subst hk
   have : zbl c2 1 = -1 := by kernel_rfl
   omega
 exact key hw rfl
theorem kd3 {G : Nat -> List Nat} {rk : Nat -> Nat} (h : Inv c3 c3R G rk) : Kd ⟨c3, c3R, G⟩ :=
 ⟨⟨rk, h⟩, by kernel_rfl, by show 3 <= c3.n; decide +kernel, by show c3.n <= 9; decide +kernel, ⟨by kernel_rfl, by kernel_rfl, by kernel_rfl⟩, ⟨by kernel_rfl, by kernel_rfl, by kernel_rfl⟩, by kernel_rfl, by kernel_rfl⟩
theorem zes (w : World) : Calls Tryz.prog 50 #[] w fun e w' => e = .returned (.bool true) /\ Kept (fun k => k < w.heap.size) w w' := by
 have r0 := zmr 9 w (by decide) (by decide)
 go_enter Tryz.func50, Tryz.ntmps50
 go_wp2_with fail
 refine r0.mono ?_
 rintro e w1 ⟨p, rfl, hp, hX1, hK1⟩
 have k1 : Kn (fun k => k < w.heap.size) w1 p (Dm.new 9) (fun _ => []) (fun _ => []) := Kn.new (w0 := w) hX1 (by decide) (by decide)
 have r1 := k1.make 1 1 zsg ⟨#[]⟩ [100, 105, 118] [] rfl zk9 zid znl (by decide) (by decide) (by decide)
 have HK1 : Hid (Kept (fun k => k < w.heap.size) w w1) := hK1
 clear r0 hX1 hK1 k1 hp
 go_wp2_with fail
 refine r1.mono ?_
 rintro e w2 ⟨rfl, k2, hK2⟩
 have r2 := k2.make 2 2 ⟨#[]⟩ ⟨#[120]⟩ [] [120] rfl zid zpd zny (by decide) (by decide) (by decide)
 have HK2 : Hid (Kept (fun k => k < w.heap.size) w w2) := HK1.out.trans hK2
 clear r1 k2 hK2
 go_wp2_with fail
 refine r2.mono ?_
 rintro e w3 ⟨rfl, k3, hK3⟩
 have k3' : ∃ G, Kn (fun k => k < w.heap.size) w3 p c2 c2R G := ⟨_, k3⟩
 obtain ⟨G, k3'⟩ := k3'
 have r3 := k3'.ins (up := 1) (i := 2) (-1) (by decide +kernel) (by decide +kernel) (.inl rfl) cF2
 have HK3 : Hid (Kept (fun k => k < w.heap.size) w w3) := HK2.out.trans hK3
 clear r2 k3 hK3 k3'
 go_wp2_with fail
 refine r3.mono ?_
 rintro e w4 ⟨rfl, k4, hK4⟩
 obtain ⟨rk, hI4⟩ := k4.inv
 have d4 : Kd ⟨c3, c3R, G⟩ := kd3 hI4
 have hX4 : DX (fun k => k < w.heap.size) w4 p (⟨c3, c3R, G⟩ : Sta).M := k4.d
 have e4 : (⟨c3, c3R, G⟩ : Sta).M.n = 3 := by kernel_rfl
 have HK4 : Hid (Kept (fun k => k < w.heap.size) w w4) := HK3.out.trans hK4
 obtain ⟨s4, hs4⟩ : ∃ s, (⟨c3, c3R, G⟩ : Sta) = s := ⟨_, rfl⟩
 rw [hs4] at d4 hX4 e4
 have r4 := d4.clone hX4 false 1 rfl (by rw [e4]; decide)
 rw [e4] at r4
 clear r3 k4 hI4 hK4 hX4 hs4
 go_wp2_with fail
 refine r4.mono ?_
 rintro e w5 ⟨rfl, ⟨s5, d5, hX5, e5, -⟩, hK5⟩
 replace e5 : s5.M.n = 4 := e5
 have HK5 : Hid (Kept (fun k => k < w.heap.size) w w5) := HK4.out.trans hK5
 have r5 := d5.clone hX5 true 2 rfl (by rw [e5]; decide)
 rw [e5] at r5
 clear r4 d4 e4 hX5 hK5
 go_wp2_with fail
 refine r5.mono ?_
 rintro e w6 ⟨rfl, ⟨s6, d6, hX6, e6, hl6⟩, hK6⟩
 replace e6 : s6.M.n = 6 := e6
 have HK6 : Hid (Kept (fun k => k < w.heap.size) w w6) := HK5.out.trans hK6
 have hlen := hl6 (by first | trivial | rfl)
 obtain ⟨rk6, hI6⟩ := d6.ok
 have r6 := zb2 _ p 4 s6.M s6.R w6 hX6 hI6.good.wf (by rw [e6]; decide) (by rw [e6]; decide) hI6.good.few
 have HX6 : Hid (DX (fun k => k < w.heap.size) w6 p s6.M) := hX6
 have HD6 : Hid (Kd s6) := d6
 have HE6 : Hid (s6.M.n = 6) := e6
 obtain ⟨x4, hx4⟩ : ∃ x, s6.M.nd 4 = x := ⟨_, rfl⟩
 obtain ⟨u4, hu4⟩ : ∃ x, (s6.M.pl 4).up = x := ⟨_, rfl⟩
 obtain ⟨l4, hl4⟩ : ∃ x, s6.R 4 = x := ⟨_, rfl⟩
 have hlen4 : l4.length = 1 := by rw [<- hl4]; exact hlen
 rw [hx4, hu4, hl4] at r6
 clear r5 d5 e5 hK6 hl6 hlen hI6 hX6 d6 e6 hx4 hu4 hl4
 go_wp2_with fail
 refine r6.mono ?_
 rintro e w7 ⟨ao, ac, ko, kc, rfl, hA, hQ, hK⟩
 rw [hlen4]
 obtain ⟨V, N, hV, hN, hb, hk, hsz⟩ := zaz w7 (nV x4 ao ac u4 ko 1 kc)   58
 have c5 : V.cell? ⟨N, 5, none⟩ = some (.slice ko 1 kc) := by rw [zaa hb]; rfl
 have hkV : Kept (fun k => k < w6.heap.size) w6 V := kt hK hk
 have HV : Hid (w7.alloc (.cells (nV x4 ao ac u4 ko 1 kc) 58) = V) := hV
 have HN : Hid (w7.heap.size = N) := hN
 have HKV : Hid (Kept (fun k => k < w.heap.size) w V) := HK6.out.trans (hkV.mono fun k h => HX6.out.lt k h)
 have HNV : Hid (N < V.heap.size /\ w.heap.size <= N) := ⟨zad hb, by rw [<- hN]; exact Nat.le_trans HK6.out.size hK.size⟩
 have hXV0 := HX6.out.kept hkV
 have hXV : DX (fun k => k < w.heap.size \/ k = N) V p s6.M := HX6.out.more hkV (fun k h => by
  rcases h with h | h
  ·exact .inl h
  ·exact .inr (by rw [h, <- hN]; exact hK.size)) (fun k h => by
  rcases h with h | h
  ·exact hXV0.lt k h
  ·rw [h]; exact zad hb)
 have r7 := HD6.out.clone hXV true 2 rfl (by rw [HE6.out]; decide)
 rw [HE6.out] at r7
 clear r6 hA hQ hK hV hN hb hk hsz hkV hXV hXV0 hlen4
 go_upto_region 10 with fail
 rw [HV.out, HN.out]
 clear HV HN
 go_wp2_with fail
 refine r7.mono ?_
 rintro e w8 ⟨rfl, ⟨s8, d8, hX8, e8, -⟩, hK8⟩
 replace e8 : s8.M.n = 8 := e8
 have r8 := d8.full hX8 (by rw [e8]; decide)
 have c58 : w8.cell? ⟨N, 5, none⟩ = some (.slice ko 1 kc) := (hK8.cell (p := ⟨N, 5, none⟩) (.inr rfl)).trans c5
 have HK8 : Hid (Kept (fun k => k < w.heap.size) w w8) := HKV.out.trans (hK8.mono fun k h => .inl h)
 clear r7 d8 hX8 e8 hK8 c5
 go_wp2_with fail
 refine r8.mono ?_
 rintro e w9 ⟨rfl, hK9⟩
 have c59 : w9.cell? ⟨N, 5, none⟩ = some (.slice ko 1 kc) := (hK9.cell (p := ⟨N, 5, none⟩) (.inr rfl)).trans c58
 have HK9 : Hid (Kept (fun k => k < w.heap.size) w w9) := HK8.out.trans (hK9.mono fun k h => .inl h)
 clear r8 hK9 c58
 go_wp2
 go_ret
 exact ⟨rfl, HK9.out⟩
end Go.Proofs.YtfeinppedejlpaaGreat
