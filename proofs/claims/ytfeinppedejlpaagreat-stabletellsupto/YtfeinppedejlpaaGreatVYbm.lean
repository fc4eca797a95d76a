/-
  Is a node read as it was written? What is known of the nodes that have been passed, in memory; may a node stand where it does?
-/
import Derived.Test.YtfeinppedejlpaaGreatVYa
namespace Go.Proofs.YtfeinppedejlpaaGreat
section
open Go.RowKit Go.Sort
set_option linter.unusedVariables false
set_option maxRecDepth 100000
set_option maxHeartbeats 8000000
theorem zic (x : Nd) (ao : Option Addr) (ac : Nat) (up : Int) (ko : Option Addr) (kn kc : Nat) (w : World) (ha : Zag (fun k => k < w.heap.size) w ao x.attrs) (hal : x.attrs.length <= 100000) (hd : x.data.length <= 4000000000) :
  Calls Tryz.prog 140 #[.agg (nW x ao ac up ko kn kc)] w fun e w' => e = .returned (.bool (zbc x)) /\ Kept (fun k => k < w.heap.size) w w' := by
 obtain ⟨V, N, hV, hN, hb, hk, hsz⟩ := zal w (nW x ao ac up ko kn kc) 58
 have z0 : V.cell? ⟨N, 0, none⟩ = some (.int .u8 (x.kind : Int)) := by rw [zaa hb]; rfl
 have z1 : V.cell? ⟨N, 1, none⟩ = some (.string ⟨x.name.toArray⟩) := by rw [zaa hb]; rfl
 have z2 : V.cell? ⟨N, 2, none⟩ = some (.string ⟨x.data.toArray⟩) := by rw [zaa hb]; rfl
 have z3 : V.cell? ⟨N, 3, none⟩ = some (.slice ao x.attrs.length ac) := by rw [zaa hb]; rfl
 have z10 : V.cell? ⟨N, 10, none⟩ = some (.bool x.fl.b) := by rw [zaa hb]; rfl
 have hav : Zag (fun k => k < V.heap.size) V ao x.attrs := ha.kept hk fun k h => ltl h hk.size
 have HBB : Hid (∀ X, Kept (fun k => k < V.heap.size) V X -> X.heap[N]? = some (.cells (nW x ao ac up ko kn kc) 58 (0, 0))) := fun X hX => (hX.block N (zad hb)).trans hb
 have HV : Hid (w.alloc (.cells (nW x ao ac up ko kn kc) 58) = V) := hV
 have HN : Hid (w.heap.size = N) := hN
 have HK : Hid (Kept (fun k => k < w.heap.size) w V) := hk
 have HAV : Hid (Zag (fun k => k < V.heap.size) V ao x.attrs) := hav
 clear hV hN hb hk hsz ha hav
 by_cases h1 : x.kind = 1
 ·rw [h1] at z0
  have z0 : V.cell? ⟨N, 0, none⟩ = some (.int .u8 1) := z0
  have e : zbc x = (zfn x.name && !zbe x.attrs) := if_pos h1
  rw [e]
  have rs := zfw ⟨x.name.toArray⟩ V
  rw [lis] at rs
  obtain ⟨nm, hnm⟩ : ∃ s : ByteArray, ⟨x.name.toArray⟩ = s := ⟨_, rfl⟩
  rw [hnm] at z1 rs
  obtain ⟨b, hb⟩ : ∃ b, zfn x.name = b := ⟨_, rfl⟩
  rw [hb] at rs ⊢
  obtain ⟨L, hL⟩ : ∃ l, x.attrs = l := ⟨_, rfl⟩
  obtain ⟨an, han⟩ : ∃ n, L.length = n := ⟨_, rfl⟩
  have RA : Hid (∀ X, Kept (fun k => k < V.heap.size) V X -> Calls Tryz.prog 214 #[.slice ao an ac, .func (.func 215) #[] #[]] X fun e w' => e = .returned (.bool (zbe L)) /\ Kept (fun k => k < X.heap.size) X w') := fun X hX => by
   have h' : Zag (fun k => k < X.heap.size) X ao L := by rw [<- hL]; exact HAV.out.kept hX fun k h => ltl h hX.size
   exact zlx L an han (by rw [<- han, <- hL]; exact hal) ao ac X h'
  have Z3 : Hid (∀ X, Kept (fun k => k < V.heap.size) V X -> X.cell? ⟨N, 3, none⟩ = some (.slice ao an ac)) := fun X hX => by
   rw [zaa (HBB.out X hX), <- han, <- hL]; rfl
  rw [hL]
  obtain ⟨nb, hnb⟩ : ∃ b, zbe L = b := ⟨_, rfl⟩
  rw [hnb] at RA ⊢
  clear z2 z3 z10 h1 e hnm hb hL han hnb hal hd HAV
  go_enter Tryz.func140, Tryz.ntmps140
  go_upto_region 1 with fail
  rw [HV.out, HN.out]
  clear HV HN
  go_wp2_with fail
  refine rs.mono ?_
  rintro e w1 ⟨rfl, hK1⟩
  have HK1 : Hid (Kept (fun k => k < w.heap.size) w w1) := kt HK.out hK1
  have ra := RA.out w1 hK1
  have z3 := Z3.out w1 hK1
  clear rs hK1 z0 z1
  cases b with
  | true =>
   go_wp2_with fail
   refine ra.mono ?_
   rintro e w2 ⟨rfl, hK2⟩
   have HK2 : Hid (Kept (fun k => k < w.heap.size) w w2) := kt HK1.out hK2
   clear ra hK2 z3
   cases nb with
   | true => go_wp2; go_ret; exact ⟨rfl, HK2.out⟩
   | false => go_wp2; go_ret; exact ⟨rfl, HK2.out⟩
  | false =>
   clear ra
   go_wp2
   go_ret
   exact ⟨rfl, HK1.out⟩
 by_cases h2 : x.kind = 2
 ·rw [h2] at z0
  have z0 : V.cell? ⟨N, 0, none⟩ = some (.int .u8 2) := z0
  have e : zbc x = (x.data != [] && !zbw x.data) := by unfold zbc; rw [if_neg h1, if_pos h2]
  rw [e]
  obtain ⟨dt, hdt⟩ : ∃ s : ByteArray, ⟨x.data.toArray⟩ = s := ⟨_, rfl⟩
  have rn := ze9 dt V
  have e1 : zbw dt.data.toList = zbw x.data := by rw [<- hdt]
  have e2 : (dt.toList == []) = (x.data == []) := by rw [<- hdt, lis]
  rw [e1] at rn
  rw [hdt] at z2
  obtain ⟨nb, hnb⟩ : ∃ b, zbw x.data = b := ⟨_, rfl⟩
  rw [hnb] at rn ⊢
  have e3 : (x.data != []) = !(dt.toList == []) := by rw [e2]; rfl
  rw [e3]
  obtain ⟨eb, heb⟩ : ∃ b, (dt.toList == []) = b := ⟨_, rfl⟩
  rw [heb]
  clear z1 z3 z10 h1 h2 e hdt e1 e2 e3 hnb hal hd HAV HBB
  cases eb with
  | true =>
   go_enter Tryz.func140, Tryz.ntmps140
   go_upto_region 1 with fail
   rw [HV.out, HN.out]
   clear HV HN
   go_wp2
   go_ret
   exact ⟨rfl, HK.out⟩
  | false =>
   go_enter Tryz.func140, Tryz.ntmps140
   go_upto_region 1 with fail
   rw [HV.out, HN.out]
   clear HV HN
   go_wp2_with fail
   refine rn.mono ?_
   rintro e w1 ⟨rfl, rfl⟩
   clear rn
   cases nb with
   | true => go_wp2; go_ret; exact ⟨rfl, HK.out⟩
   | false => go_wp2; go_ret; exact ⟨rfl, HK.out⟩
 by_cases h3 : x.kind = 3
 ·rw [h3] at z0
  have z0 : V.cell? ⟨N, 0, none⟩ = some (.int .u8 3) := z0
  have e : zbc x = !x.data.any s3B := by unfold zbc; rw [if_neg h1, if_neg h2, if_pos h3]
  rw [e]
  have r3 := zuy ⟨x.data.toArray⟩ (by show Array.size _ <= _; rw [List.size_toArray]; exact hd) V
  have e1 : (⟨x.data.toArray⟩ : ByteArray).data.toList.any s3B = x.data.any s3B := rfl
  rw [e1] at r3
  obtain ⟨dt, hdt⟩ : ∃ s : ByteArray, ⟨x.data.toArray⟩ = s := ⟨_, rfl⟩
  rw [hdt] at z2 r3
  obtain ⟨nb, hnb⟩ : ∃ b, x.data.any s3B = b := ⟨_, rfl⟩
  rw [hnb] at r3 ⊢
  clear z1 z3 z10 h1 h2 h3 e hdt e1 hnb hal hd HAV HBB
  go_enter Tryz.func140, Tryz.ntmps140
  go_upto_region 1 with fail
  rw [HV.out, HN.out]
  clear HV HN
  go_wp2_with fail
  refine r3.mono ?_
  rintro e w1 ⟨rfl, hK1⟩
  have HK1 : Hid (Kept (fun k => k < w.heap.size) w w1) := kt HK.out hK1
  clear r3 hK1
  cases nb with
  | true => go_wp2; go_ret; exact ⟨rfl, HK1.out⟩
  | false => go_wp2; go_ret; exact ⟨rfl, HK1.out⟩
 by_cases h5 : x.kind = 5
 ·rw [h5] at z0
  have z0 : V.cell? ⟨N, 0, none⟩ = some (.int .u8 5) := z0
  have e : zbc x = !x.fl.b := by unfold zbc; rw [if_neg h1, if_neg h2, if_neg h3, if_pos h5]
  rw [e]
  obtain ⟨fb, hfb⟩ : ∃ b, x.fl.b = b := ⟨_, rfl⟩
  rw [hfb] at z10 ⊢
  clear z1 z2 z3 h1 h2 h3 h5 e hfb hal hd HAV HBB
  go_enter Tryz.func140, Tryz.ntmps140
  go_upto_region 1 with fail
  rw [HV.out, HN.out]
  clear HV HN
  go_wp2
  go_ret
  exact ⟨rfl, HK.out⟩
 ·have e : zbc x = false := by unfold zbc; rw [if_neg h1, if_neg h2, if_neg h3, if_neg h5]
  rw [e]
  have n1 : ((x.kind : Int) == 1) = false := by simp; omega
  have n2 : ((x.kind : Int) == 2) = false := by simp; omega
  have n3 : ((x.kind : Int) == 3) = false := by simp; omega
  have n5 : ((x.kind : Int) == 5) = false := by simp; omega
  obtain ⟨kz, hkz⟩ : ∃ k : Int, (x.kind : Int) = k := ⟨_, rfl⟩
  rw [hkz] at z0 n1 n2 n3 n5
  clear z1 z2 z3 z10 h1 h2 h3 h5 e hkz hal hd HAV HBB
  go_enter Tryz.func140, Tryz.ntmps140
  go_upto_region 1 with fail
  rw [HV.out, HN.out]
  clear HV HN
  go_wp2
  go_ret
  exact ⟨rfl, HK.out⟩
end
section
open Go.RowKit Go.Sort
set_option linter.unusedVariables false
set_option maxRecDepth 100000
set_option maxHeartbeats 8000000
def PlR (w : World) (g n : Nat) (dn la : Nat -> Nat) : Prop := ∃ cs, w.heap[g]? = some (.cells cs 225 (0, 0)) /\ cs.size = n * 2 /\ ∀ j, j < n -> cs[j * 2]? = some (.int .i64 (dn j : Int)) /\ cs[j * 2 + 1]? = some (.int .u8 (la j : Int))
theorem PlR.at0 {w : World} {g n : Nat} {dn la : Nat -> Nat} (h : PlR w g n dn la) {j : Nat} (hj : j < n) : w.cell? ⟨g, j * 2, none⟩ = some (.int .i64 (dn j : Int)) := by
 obtain ⟨cs, h1, h2, h3⟩ := h
 rw [zaa h1]; exact (h3 j hj).1
theorem PlR.at1 {w : World} {g n : Nat} {dn la : Nat -> Nat} (h : PlR w g n dn la) {j : Nat} (hj : j < n) : w.cell? ⟨g, j * 2 + 1, none⟩ = some (.int .u8 (la j : Int)) := by
 obtain ⟨cs, h1, h2, h3⟩ := h
 rw [zaa h1]; exact (h3 j hj).2
theorem PlR.kept {K : Nat -> Prop} {w w' : World} {g n : Nat} {dn la : Nat -> Nat} (h : PlR w g n dn la) (hk : Kept K w w') (hg : K g) : PlR w' g n dn la := by
 obtain ⟨cs, h1, h2, h3⟩ := h
 exact ⟨cs, by rw [hk.block g hg]; exact h1, h2, h3⟩
theorem PlR.fz {w : World} {g n : Nat} {dn la : Nat -> Nat} (h : PlR w g n dn la) (i : Nat) : w.frozen? ⟨g, i, none⟩ = false := by
 obtain ⟨cs, h1, -, -⟩ := h
 simp [World.frozen?, h1]
def upF (f : Nat -> Nat) (k v : Nat) (j : Nat) : Nat := if j = k then v else f j
theorem PlR.set0 {w : World} {g n : Nat} {dn la : Nat -> Nat} (h : PlR w g n dn la) {k : Nat} (hk : k < n) (v : Nat) : PlR (w.setCell ⟨g, k * 2, none⟩ (.int .i64 (v : Int))) g n (upF dn k v) la := by
 obtain ⟨cs, h1, h2, h3⟩ := h
 refine ⟨_, zah h1 (k * 2) _, by simpa using h2, fun j hj => ?_⟩
 have hs := h3 j hj
 constructor
 ·unfold upF
  by_cases c : j = k
  ·subst c
   rw [if_pos rfl, Array.getElem?_setIfInBounds_self_of_lt (by omega)]
  ·rw [if_neg c, Array.getElem?_setIfInBounds_ne (by omega)]; exact hs.1
 ·rw [Array.getElem?_setIfInBounds_ne (by omega)]; exact hs.2
theorem PlR.set1 {w : World} {g n : Nat} {dn la : Nat -> Nat} (h : PlR w g n dn la) {k : Nat} (hk : k < n) (v : Nat) : PlR (w.setCell ⟨g, k * 2 + 1, none⟩ (.int .u8 (v : Int))) g n dn (upF la k v) := by
 obtain ⟨cs, h1, h2, h3⟩ := h
 refine ⟨_, zah h1 (k * 2 + 1) _, by simpa using h2, fun j hj => ?_⟩
 have hs := h3 j hj
 constructor
 ·rw [Array.getElem?_setIfInBounds_ne (by omega)]; exact hs.1
 ·unfold upF
  by_cases c : j = k
  ·subst c
   rw [if_pos rfl, Array.getElem?_setIfInBounds_self_of_lt (by omega)]
  ·rw [if_neg c, Array.getElem?_setIfInBounds_ne (by omega)]; exact hs.2
def zcy (d kd l : Nat) : Bool := decide (d + 1 <= 40) && !(decide (kd = 2) && decide (l = 2))
theorem zp9 (x : Nd) (ao : Option Addr) (ac : Nat) (up : Int) (ko : Option Addr) (kn kc : Nat) (g n k u : Nat) (hk : k < n) (hu : u < n) (hab : (if x.kind = 5 then x.host else up) = (u : Int)) (dn la : Nat -> Nat) (w : World) (hP : PlR w g n dn la) (hn : n <= 100000) (hd : dn u <= 1000000) :
  Calls Tryz.prog 141 #[.slice (some ⟨g, 0, none⟩) n n, .int .i64 (k : Int), .agg (nW x ao ac up ko kn kc)] w fun e w' => e = .returned (.bool (zcy (dn u) x.kind (la u))) /\ PlR w' g n (upF dn k (dn u + 1)) (upF la u x.kind) /\ Kept (fun q => q < w.heap.size /\ q ≠ g) w w' := by
 obtain ⟨V, N, hV, hN, hb, hkV, hsz⟩ := zal w (nW x ao ac up ko kn kc) 58
 have hgl : g < w.heap.size := by obtain ⟨cs, h1, -, -⟩ := hP; exact zad h1
 have hPV := hP.kept hkV hgl
 have ra := zny x ao ac up ko kn kc V
 rw [hab] at ra
 have hNg : N ≠ g := by rw [<- hN]; omega
 have HBB : Hid (∀ X, Kept (fun q => q < V.heap.size /\ q ≠ g) V X -> X.heap[N]? = some (.cells (nW x ao ac up ko kn kc) 58 (0, 0))) := fun X hX => (hX.block N ⟨zad hb, hNg⟩).trans hb
 have HV : Hid (w.alloc (.cells (nW x ao ac up ko kn kc) 58) = V) := hV
 have HN : Hid (w.heap.size = N) := hN
 have HK : Hid (Kept (fun k => k < w.heap.size) w V) := hkV
 have HP : Hid (PlR V g n dn la) := hPV
 have HGL : Hid (g < V.heap.size) := ltl hgl hkV.size
 obtain ⟨d, hdd⟩ : ∃ d, dn u = d := ⟨_, rfl⟩
 have HD : Hid (dn u = d) := hdd
 rw [hdd] at hd ⊢
 obtain ⟨lu, hlu⟩ : ∃ l, la u = l := ⟨_, rfl⟩
 have HLU : Hid (la u = lu) := hlu
 rw [hlu]
 obtain ⟨kd, hkd⟩ : ∃ l, x.kind = l := ⟨_, rfl⟩
 have HKD : Hid (x.kind = kd) := hkd
 rw [hkd]
 have huI : (u : Int) < (n : Int) := by omega
 have huI0 : (0 : Int) <= (u : Int) := by omega
 have hkI : (k : Int) < (n : Int) := by omega
 have hkI0 : (0 : Int) <= (k : Int) := by omega
 clear hP hab hV hN hkV hsz hgl hPV hNg hdd hlu hkd
 go_enter Tryz.func141, Tryz.ntmps141
 go_upto_region 1 with (refine wpList_load_row rfl 58 _ rfl N rfl 58 (nW x ao ac up ko kn kc) (0, 0) _ hb Tryz.underlying58 rfl (znq _ rfl) ?_)
 rw [HV.out, HN.out]
 clear HV HN
 go_wp2_with (refine wpList_load_row rfl 58 _ rfl N rfl 58 (nW x ao ac up ko kn kc) (0, 0) _ hb Tryz.underlying58 rfl (znq _ rfl) ?_)
 refine ra.mono ?_
 rintro e w1 ⟨rfl, hK1⟩
 have hP1 := HP.out.kept hK1 HGL.out
 have c0 := hP1.at0 hu
 rw [HD.out] at c0
 have f0 := hP1.fz (k * 2)
 have ck := hP1.at0 hk
 obtain ⟨vk, hvk⟩ : ∃ v, Value.int .i64 (dn k : Int) = v := ⟨_, rfl⟩
 rw [hvk] at ck
 have HP1 : Hid (PlR w1 g n dn la) := hP1
 have HK1 : Hid (Kept (fun k => k < V.heap.size) V w1) := hK1
 clear ra hb hP1 hK1 hvk
 have hw1 : IntKind.i64.wrap ((d : Int) + 1) = (d : Int) + 1 := wrap_small _ (by omega) (by omega)
 go_upto_region 3 with fail
 have ed : (d : Int) + 1 = ((d + 1 : Nat) : Int) := by omega
 rw [ed]
 obtain ⟨X1, hX1⟩ : ∃ X, w1.setCell ⟨g, k * 2, none⟩ (.int .i64 ((d + 1 : Nat) : Int)) = X := ⟨_, rfl⟩
 rw [hX1]
 have hP2 : PlR X1 g n (upF dn k (d + 1)) la := by rw [<- hX1]; exact HP1.out.set0 hk (d + 1)
 have hK2 : Kept (fun q => q < V.heap.size /\ q ≠ g) V X1 := by
  rw [<- hX1]
  exact (HK1.out.mono fun q h => h.1).setCell (p := ⟨g, k * 2, none⟩) (fun h => h.2 rfl) _
 have hbX := HBB.out X1 hK2
 have n0 : X1.cell? ⟨N, 0, none⟩ = some (.int .u8 (kd : Int)) := by rw [zaa hbX, <- HKD.out]; rfl
 have c1 := hP2.at1 hu
 rw [HLU.out] at c1
 have f1 := hP2.fz (u * 2 + 1)
 have HP2 : Hid (PlR X1 g n (upF dn k (d + 1)) la) := hP2
 have HK2 : Hid (Kept (fun q => q < V.heap.size /\ q ≠ g) V X1) := hK2
 clear hX1 hP2 hK2 hbX c0 f0 ck ed hw1 HP1 HK1
 go_cut [8] (fun v wx => v = .bool (decide (kd = 2) && decide (lu = 2)) /\ wx = X1)
 case first =>
  by_cases e2 : kd = 2
  ·subst e2
   have n0 : X1.cell? ⟨N, 0, none⟩ = some (.int .u8 2) := n0
   by_cases l2 : lu = 2
   ·subst l2
    have c1 : X1.cell? ⟨g, u * 2 + 1, none⟩ = some (.int .u8 2) := c1
    go_wp2_with fail
    go_meet
    case rel => exact ⟨rfl, rfl⟩
   ·have nl : ((lu : Int) == 2) = false := by simp; omega
    have HL2 : Hid (¬ lu = 2) := l2
    obtain ⟨lz, hlz⟩ : ∃ z : Int, (lu : Int) = z := ⟨_, rfl⟩
    rw [hlz] at c1 nl
    clear l2 hlz
    go_wp2_with fail
    go_meet
    case rel => exact ⟨by rw [decide_eq_false HL2.out, Bool.and_false], rfl⟩
  ·have nk : ((kd : Int) == 2) = false := by simp; omega
   have HE2 : Hid (¬ kd = 2) := e2
   obtain ⟨kz, hkz⟩ : ∃ z : Int, (kd : Int) = z := ⟨_, rfl⟩
   rw [hkz] at n0 nk
   clear e2 hkz
   go_wp2_with fail
   go_meet
   case rel => exact ⟨by rw [decide_eq_false HE2.out, Bool.false_and], rfl⟩
 case rest =>
 obtain ⟨rfl, hwc⟩ := hcut
 subst hwc
 obtain ⟨sb, hsb⟩ : ∃ b, (decide (kd = 2) && decide (lu = 2)) = b := ⟨_, rfl⟩
 have HSB : Hid ((decide (kd = 2) && decide (lu = 2)) = sb) := hsb
 rw [hsb]
 clear hsb
 rename World => X1
 go_upto_region 5 with fail
 obtain ⟨X2, hX2⟩ : ∃ X, X1.setCell ⟨g, u * 2 + 1, none⟩ (.int .u8 (kd : Int)) = X := ⟨_, rfl⟩
 rw [hX2]
 have hP3 : PlR X2 g n (upF dn k (d + 1)) (upF la u kd) := by rw [<- hX2]; exact HP2.out.set1 hu kd
 have hK3 : Kept (fun q => q < V.heap.size /\ q ≠ g) V X2 := by
  rw [<- hX2]
  exact HK2.out.setCell (p := ⟨g, u * 2 + 1, none⟩) (fun h => h.2 rfl) _
 have ck := hP3.at0 hk
 have e : upF dn k (d + 1) k = d + 1 := if_pos rfl
 rw [e] at ck
 have HP3 : Hid (PlR X2 g n (upF dn k (d + 1)) (upF la u kd)) := hP3
 have HKF : Hid (Kept (fun q => q < w.heap.size /\ q ≠ g) w X2) := (HK.out.mono fun q h => h.1).trans (hK3.mono fun q h => ⟨ltl h.1 HK.out.size, h.2⟩)
 have HPA : Hid (zcy d kd lu = (decide (d + 1 <= 40) && !sb)) := by show zcy d kd lu = _; unfold zcy; rw [HSB.out]
 clear hX2 hP3 hK3 e n0 c1 f1 HP2 HK2
 by_cases h40 : d + 1 <= 40
 ·have HE : Hid (decide (d + 1 <= 40) = true) := decide_eq_true h40
  have h40' : ((d + 1 : Nat) : Int) <= 40 := by omega
  cases sb with
  | true =>
   go_wp2
   go_ret
   exact ⟨by rw [HPA.out, HE.out]; rfl, HP3.out, HKF.out⟩
  | false =>
   go_wp2
   go_ret
   exact ⟨by rw [HPA.out, HE.out]; rfl, HP3.out, HKF.out⟩
 ·have HE : Hid (decide (d + 1 <= 40) = false) := decide_eq_false h40
  have h40' : ¬ ((d + 1 : Nat) : Int) <= 40 := by omega
  go_wp2
  go_ret
  exact ⟨by rw [HPA.out, HE.out]; rfl, HP3.out, HKF.out⟩
end
end Go.Proofs.YtfeinppedejlpaaGreat
