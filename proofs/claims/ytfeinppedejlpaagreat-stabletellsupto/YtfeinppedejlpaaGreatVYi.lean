/-
  What stable.Same answers.
-/
import Derived.Test.YtfeinppedejlpaaGreatVU3m
namespace Go.Proofs.YtfeinppedejlpaaGreat
open Go.RowKit Go.Sort
set_option linter.unusedVariables false
set_option maxRecDepth 100000
set_option maxHeartbeats 8000000
section
variable {w0 : World} {p p' : Nat} {M M' : Dm} {R R' G G' : Nat -> List Nat} {rk rk' : Nat -> Nat} {f : Nat}
theorem zll (i j : Nat) (hk : ∀ a ∈ R i, ∀ b ∈ R' j, ∀ X N, Kept (fun k => k < w0.heap.size) w0 X -> X.heap[N]? = some (.cells #[.pointer (some ⟨p, 0, none⟩), .pointer (some ⟨p', 0, none⟩)] 156 (0, 0)) -> Calls Tryz.prog 206 #[.int .i64 (a : Int), .int .i64 (b : Int), .pointer (some ⟨N, 0, none⟩)] X fun e w' => e = .returned (.bool (zcu (alk M M' R R' f) M M' a b)) /\ Kept (fun k => k < X.heap.size) X w')
  (h1 : (R i).length <= 1000000) (h2 : (R' j).length <= 1000000) : Zpq w0 p p' M M' R R' (f + 1) i j := by
 intro X hX x y ao ao' ac ac' up up' ko ko' kc kc' il im
 obtain ⟨A1, N, hA1, hN, hb1, hk1, hz1⟩ := zal X #[.pointer (some ⟨p, 0, none⟩), .pointer (some ⟨p', 0, none⟩)] 156
 obtain ⟨kn, hkn⟩ : ∃ n, (R i).length = n := ⟨_, rfl⟩
 obtain ⟨kn', hkn'⟩ : ∃ n, (R' j).length = n := ⟨_, rfl⟩
 obtain ⟨A2, N2, hA2, hN2, hb2, hk2, hz2⟩ := zal A1 (nW x ao ac up ko kn kc) 58
 obtain ⟨A3, N3, hA3, hN3, hb3, hk3, hz3⟩ := zal A2 (nW y ao' ac' up' ko' kn' kc') 58
 obtain rfl : N2 = N + 1 := by rw [<- hN2, hz1, hN]
 obtain rfl : N3 = N + 2 := by rw [<- hN3, hz2, hN2]
 have k13 : Kept (fun k => k < A1.heap.size) A1 A3 := kt hk2 hk3
 have k03 : Kept (fun k => k < X.heap.size) X A3 := kt hk1 k13
 have hbN : A3.heap[N]? = some (.cells #[.pointer (some ⟨p, 0, none⟩), .pointer (some ⟨p', 0, none⟩)] 156 (0, 0)) := (k13.block N (zad hb1)).trans hb1
 have hbN1 : A3.heap[N + 1]? = some (.cells (nW x ao ac up ko kn kc) 58 (0, 0)) := (hk3.block (N + 1) (zad hb2)).trans hb2
 have z1 : A3.cell? ⟨N + 1, 5, none⟩ = some (.slice ko kn kc) := by rw [zaa hbN1]; rfl
 have z2 : A3.cell? ⟨N + 2, 5, none⟩ = some (.slice ko' kn' kc') := by rw [zaa hb3]; rfl
 have hw3 : Kept (fun k => k < w0.heap.size) w0 A3 := kt hX k03
 have re := zrc (zcu (alk M M' R R' f) M M') (R i) (R' j) kn kn' hkn hkn' (by omega) (by omega) ko ko' kc kc' N A3 (il.to (fun k h => ltl h k03.size) fun k h => k03.block k h) (im.to (fun k h => ltl h k03.size) fun k h => k03.block k h)
  (fun a ha b hb Y hY => hk a ha b hb Y N (kt hw3 hY) ((hY.block N (zad hbN)).trans hbN))
 have HRES : Hid (alk M M' R R' (f + 1) i j = all2 (zcu (alk M M' R R' f) M M') (R i) (R' j)) := rfl
 obtain ⟨res, hres⟩ : ∃ b, alk M M' R R' (f + 1) i j = b := ⟨_, rfl⟩
 rw [hres, hkn, hkn']
 rw [<- (show alk M M' R R' (f + 1) i j = all2 (zcu (alk M M' R R' f) M M') (R i) (R' j) from rfl), hres] at re
 have HA1 : Hid (X.alloc (.cells #[.pointer (some ⟨p, 0, none⟩), .pointer (some ⟨p', 0, none⟩)] 156) = A1) := hA1
 have HN : Hid (X.heap.size = N) := hN
 have HA2 : Hid (A1.alloc (.cells (nW x ao ac up ko kn kc) 58) = A2) := hA2
 have HA3 : Hid (A2.alloc (.cells (nW y ao' ac' up' ko' kn' kc') 58) = A3) := hA3
 have HK3 : Hid (Kept (fun k => k < X.heap.size) X A3) := k03
 have hmf : ∀ (fn : Fn) (first cap : Array Value) (w : World), (Instr.makeFunc fn first cap).run Tryz.prog w = .ok (.func fn first cap) w := fun _ _ _ _ => rfl
 clear hk h1 h2 hX il im hA1 hN hb1 hk1 hz1 hkn hkn' hA2 hN2 hb2 hk2 hz2 hA3 hN3 hb3 hk3 hz3 k13 k03 hbN hbN1 hw3 hres HRES
 go_enter Tryz.func134, Tryz.ntmps134
 go_upto_region 1 with fail
 rw [HA1.out, HN.out, HA2.out, HA3.out]
 clear HA1 HN HA2 HA3
 go_wp2_with fail
 refine re.mono ?_
 rintro e w1 ⟨rfl, hK1⟩
 have HK1 : Hid (Kept (fun k => k < X.heap.size) X w1) := kt HK3.out hK1
 clear re hK1
 go_wp2
 go_ret
 exact ⟨rfl, HK1.out⟩
theorem zmk (rd : Rd2 w0 p p' M M' R R') (ih : ∀ i j, i < M.n -> j < M'.n -> dn M.n rk i < f -> Zpq w0 p p' M M' R R' f i j) (s t : Int) (hs : s = -1 \/ ∃ i : Nat, i < M.n /\ s = (i : Int) /\ dn M.n rk i < f) (ht : t = -1 \/ ∃ j : Nat, j < M'.n /\ t = (j : Int)) : Zrd w0 p p' s t (zhb (alk M M' R R' f) M M' s t) := by
 intro X hX
 by_cases c : s = -1 \/ t = -1
 ·unfold zhb
  rw [if_pos c]
  exact zjc s t c X
 ·unfold zhb
  rw [if_neg c]
  rcases hs with h | ⟨i, hi, rfl, hd⟩
  ·exact absurd (.inl h) c
  rcases ht with h | ⟨j, hj, rfl⟩
  ·exact absurd (.inr h) c
  rw [Int.toNat_natCast, Int.toNat_natCast]
  exact zk8 rd i j hi hj (ih i j hi hj hd) X hX
theorem zkv (h1 : Inv M R G rk) (h2 : Inv M' R' G' rk') (hn : M.n <= 100000) (hn' : M'.n <= 100000) (rd : Rd2 w0 p p' M M' R R') : ∀ (f i j : Nat), i < M.n -> j < M'.n -> dn M.n rk i < f -> Zpq w0 p p' M M' R R' f i j
 | 0, _, _, _, _, hd => absurd hd (Nat.not_lt_zero _)
 | f + 1, i, j, hi, hj, hd => by
  have ih := zkv h1 h2 hn hn' rd f
  refine zll i j (fun a ha b hb X N hX hN => ?_) (by have := h1.good.wf.len_le hi; omega) (by have := h2.good.wf.len_le hj; omega)
  have ha1 := h1.good.falls _ hi a ha
  have hb1 := h2.good.falls _ hj b hb
  have hda := zdq (rk := rk) ha1.1 ha1.2
  have hda' : dn M.n rk a < f := by omega
  refine zl4 rd a b ha1.1 hb1.1 (ih a b ha1.1 hb1.1 hda') (zmk rd ih _ _ ?_ ?_) (zmk rd ih _ _ ?_ ?_) ⟨by have := h1.good.few a ha1.1; omega, by have := h2.good.few b hb1.1; omega⟩ X hX N hN
  ·by_cases c : (M.nd a).shadow = -1
   ·exact .inl c
   ·obtain ⟨q, e, hq, -, -, -, hr⟩ := h1.shadowQ ha1.1 c
    have := zdq (rk := rk) hq hr
    exact .inr ⟨q, hq, e, by omega⟩
  ·by_cases c : (M'.nd b).shadow = -1
   ·exact .inl c
   ·obtain ⟨q, e, hq, -⟩ := h2.shadowQ hb1.1 c
    exact .inr ⟨q, hq, e⟩
  ·by_cases c : (M.nd a).content = -1
   ·exact .inl c
   ·have hm : (M.nd a).content.toNat ∈ fwc M R a := by unfold fwc; rw [if_neg c]; simp
    obtain ⟨u, v, -⟩ := h1.parC ha1.1 hm
    have := zdq (rk := rk) u v
    rcases h1.core.cont a ha1.1 with e | ⟨k, hk, e, -⟩
    ·exact absurd e c
    ·rw [e, Int.toNat_natCast] at this
     exact .inr ⟨k, hk, e, by omega⟩
  ·by_cases c : (M'.nd b).content = -1
   ·exact .inl c
   ·rcases h2.core.cont b hb1.1 with e | ⟨k, hk, e, -⟩
    ·exact absurd e c
    ·exact .inr ⟨k, hk, e⟩
theorem ziy (h1 : Inv M R G rk) (h2 : Inv M' R' G' rk') (hn : M.n <= 100000) (hn' : M'.n <= 100000) (rd : Rd2 w0 p p' M M' R R') (F i j : Nat) (hi : i < M.n) (hj : j < M'.n) (hd : dn M.n rk i < F) (X : World) (hX : Kept (fun k => k < w0.heap.size) w0 X) :
  Calls Tryz.prog 61 #[.pointer (some ⟨p, 0, none⟩), .int .i64 (i : Int), .pointer (some ⟨p', 0, none⟩), .int .i64 (j : Int)] X fun e w' => e = .returned (.bool (alk M M' R R' F i j)) /\ Kept (fun k => k < X.heap.size) X w' := by
 have r1 := rd.n1 i hi X hX
 have R2 : Hid (∀ V, Kept (fun k => k < w0.heap.size) w0 V -> Calls Tryz.prog 41 #[.pointer (some ⟨p', 0, none⟩), .int .i64 (j : Int)] V fun e w' => Told V (M'.nd j) (M'.pl j).up (R' j) e w') := rd.n2 j hj
 have HA : Hid (Zpq w0 p p' M M' R R' F i j) := zkv h1 h2 hn hn' rd F i j hi hj hd
 obtain ⟨x, hx⟩ : ∃ x, M.nd i = x := ⟨_, rfl⟩
 obtain ⟨y, hy⟩ : ∃ x, M'.nd j = x := ⟨_, rfl⟩
 obtain ⟨up, hup⟩ : ∃ u, (M.pl i).up = u := ⟨_, rfl⟩
 obtain ⟨up', hup'⟩ : ∃ u, (M'.pl j).up = u := ⟨_, rfl⟩
 obtain ⟨kn, hkn⟩ : ∃ u, (R i).length = u := ⟨_, rfl⟩
 obtain ⟨kn', hkn'⟩ : ∃ u, (R' j).length = u := ⟨_, rfl⟩
 have HKN : Hid ((R i).length = kn) := hkn
 have HKN' : Hid ((R' j).length = kn') := hkn'
 unfold Told at r1
 rw [hx, hup, hkn] at r1
 obtain ⟨al, hal⟩ : ∃ b, alk M M' R R' F i j = b := ⟨_, rfl⟩
 have HAL : Hid (alk M M' R R' F i j = al) := hal
 rw [hal]
 have HY : Hid (M'.nd j = y /\ (M'.pl j).up = up') := ⟨hy, hup'⟩
 have H0X : Hid (Kept (fun k => k < w0.heap.size) w0 X) := hX
 clear rd h1 h2 hn hn' hi hj hd hX hx hy hup hup' hkn hkn' hal
 go_enter Tryz.func61, Tryz.ntmps61
 go_wp2_with fail
 refine r1.mono ?_
 rintro e w1 ⟨ao, ac, ko, kc, rfl, hA1, hQ1, hK1⟩
 obtain ⟨V, N1, hV, hN1, hb1, hk1, hz1⟩ := zal w1 (nW x ao ac up ko kn kc) 58
 have hkV : Kept (fun k => k < X.heap.size) X V := kt hK1 hk1
 have h0V : Kept (fun k => k < w0.heap.size) w0 V := kt H0X.out hkV
 have hI : Zae (fun k => k < V.heap.size) V ko (R i) := by
  have h1 : Zae (fun k => k < w1.heap.size) w1 ko (R i) := by rw [<- HKN.out] at hQ1; exact hQ1.intsAt fun g hg => (Zac.out hQ1 hg).2
  exact h1.to (fun k h => ltl h hk1.size) (fun k h => hk1.block k h)
 have HI : Hid (Zae (fun k => k < V.heap.size) V ko (R i)) := hI
 have r2 := R2.out V h0V
 unfold Told at r2
 rw [HY.out.1, HY.out.2, HKN'.out] at r2
 have HV : Hid (w1.alloc (.cells (nW x ao ac up ko kn kc) 58) = V) := hV
 have HN1 : Hid (w1.heap.size = N1) := hN1
 have HB1 : Hid (∀ Y, Kept (fun k => k < V.heap.size) V Y -> Y.heap[N1]? = some (.cells (nW x ao ac up ko kn kc) 58 (0, 0))) := fun Y hY => (hY.block N1 (zad hb1)).trans hb1
 have HKV : Hid (Kept (fun k => k < X.heap.size) X V) := hkV
 have H0V : Hid (Kept (fun k => k < w0.heap.size) w0 V) := h0V
 clear r1 hA1 hQ1 hK1 hV hN1 hb1 hk1 hz1 hkV h0V hI
 go_upto_region 2 with fail
 rw [HV.out, HN1.out]
 clear HV HN1
 go_wp2_with fail
 refine r2.mono ?_
 rintro e w2 ⟨ao', ac', ko', kc', rfl, hA2, hQ2, hK2⟩
 obtain ⟨Z, N2, hZ, hN2, hb2, hk2, hz2⟩ := zal w2 (nW y ao' ac' up' ko' kn' kc') 58
 have hkZ : Kept (fun k => k < V.heap.size) V Z := kt hK2 hk2
 have h0Z : Kept (fun k => k < w0.heap.size) w0 Z := kt H0V.out hkZ
 have hI2 : Zae (fun k => k < Z.heap.size) Z ko' (R' j) := by
  have h1 : Zae (fun k => k < w2.heap.size) w2 ko' (R' j) := by rw [<- HKN'.out] at hQ2; exact hQ2.intsAt fun g hg => (Zac.out hQ2 hg).2
  exact h1.to (fun k h => ltl h hk2.size) (fun k h => hk2.block k h)
 have hI1 : Zae (fun k => k < Z.heap.size) Z ko (R i) := HI.out.to (fun k h => ltl h hkZ.size) (fun k h => hkZ.block k h)
 have ra := HA.out Z h0Z x y ao ao' ac ac' up up' ko ko' kc kc' hI1 hI2
 rw [HAL.out, HKN.out, HKN'.out] at ra
 have hb1Z := HB1.out Z hkZ
 have HZ : Hid (w2.alloc (.cells (nW y ao' ac' up' ko' kn' kc') 58) = Z) := hZ
 have HN2 : Hid (w2.heap.size = N2) := hN2
 have HKZ : Hid (Kept (fun k => k < X.heap.size) X Z) := kt HKV.out hkZ
 have g0 : Z.cell? ⟨N1, 0, none⟩ = some (.int .u8 (x.kind : Int)) := by rw [zaa hb1Z]; rfl
 have g1 : Z.cell? ⟨N1, 1, none⟩ = some (.string ⟨x.name.toArray⟩) := by rw [zaa hb1Z]; rfl
 have g2 : Z.cell? ⟨N1, 2, none⟩ = some (.string ⟨x.data.toArray⟩) := by rw [zaa hb1Z]; rfl
 have g3 : Z.cell? ⟨N1, 3, none⟩ = some (.slice ao x.attrs.length ac) := by rw [zaa hb1Z]; rfl
 have g4 : Z.cell? ⟨N1, 4, none⟩ = some (.int .i64 up) := by rw [zaa hb1Z]; rfl
 have g5 : Z.cell? ⟨N1, 5, none⟩ = some (.slice ko kn kc) := by rw [zaa hb1Z]; rfl
 have g6 : Z.cell? ⟨N1, 6, none⟩ = some (.int .i64 x.shadow) := by rw [zaa hb1Z]; rfl
 have g7 : Z.cell? ⟨N1, 7, none⟩ = some (.int .i64 x.host) := by rw [zaa hb1Z]; rfl
 have g8 : Z.cell? ⟨N1, 8, none⟩ = some (.int .i64 x.content) := by rw [zaa hb1Z]; rfl
 have g9 : Z.cell? ⟨N1, 9, none⟩ = some (.bool x.fl.a) := by rw [zaa hb1Z]; rfl
 have g10 : Z.cell? ⟨N1, 10, none⟩ = some (.bool x.fl.b) := by rw [zaa hb1Z]; rfl
 have g11 : Z.cell? ⟨N1, 11, none⟩ = some (.bool x.fl.c) := by rw [zaa hb1Z]; rfl
 have g12 : Z.cell? ⟨N1, 12, none⟩ = some (.bool x.fl.d) := by rw [zaa hb1Z]; rfl
 have g13 : Z.cell? ⟨N1, 13, none⟩ = some (.bool x.fl.e) := by rw [zaa hb1Z]; rfl
 have k0 : Z.cell? ⟨N2, 0, none⟩ = some (.int .u8 (y.kind : Int)) := by rw [zaa hb2]; rfl
 have k1 : Z.cell? ⟨N2, 1, none⟩ = some (.string ⟨y.name.toArray⟩) := by rw [zaa hb2]; rfl
 have k2 : Z.cell? ⟨N2, 2, none⟩ = some (.string ⟨y.data.toArray⟩) := by rw [zaa hb2]; rfl
 have k3 : Z.cell? ⟨N2, 3, none⟩ = some (.slice ao' y.attrs.length ac') := by rw [zaa hb2]; rfl
 have k4 : Z.cell? ⟨N2, 4, none⟩ = some (.int .i64 up') := by rw [zaa hb2]; rfl
 have k5 : Z.cell? ⟨N2, 5, none⟩ = some (.slice ko' kn' kc') := by rw [zaa hb2]; rfl
 have k6 : Z.cell? ⟨N2, 6, none⟩ = some (.int .i64 y.shadow) := by rw [zaa hb2]; rfl
 have k7 : Z.cell? ⟨N2, 7, none⟩ = some (.int .i64 y.host) := by rw [zaa hb2]; rfl
 have k8 : Z.cell? ⟨N2, 8, none⟩ = some (.int .i64 y.content) := by rw [zaa hb2]; rfl
 have k9 : Z.cell? ⟨N2, 9, none⟩ = some (.bool y.fl.a) := by rw [zaa hb2]; rfl
 have k10 : Z.cell? ⟨N2, 10, none⟩ = some (.bool y.fl.b) := by rw [zaa hb2]; rfl
 have k11 : Z.cell? ⟨N2, 11, none⟩ = some (.bool y.fl.c) := by rw [zaa hb2]; rfl
 have k12 : Z.cell? ⟨N2, 12, none⟩ = some (.bool y.fl.d) := by rw [zaa hb2]; rfl
 have k13 : Z.cell? ⟨N2, 13, none⟩ = some (.bool y.fl.e) := by rw [zaa hb2]; rfl
 clear r2 hA2 hQ2 hK2 hZ hN2 hb2 hk2 hz2 hkZ h0Z hI2 hI1 hb1Z
 go_upto_region 3 with fail
 rw [HZ.out, HN2.out]
 clear HZ HN2
 go_wp2_with fail
 refine ra.mono ?_
 rintro e w3 ⟨rfl, hK3⟩
 have HK3 : Hid (Kept (fun k => k < X.heap.size) X w3) := kt HKZ.out hK3
 clear ra hK3
 go_wp2
 go_ret
 exact ⟨rfl, HK3.out⟩
end
end Go.Proofs.YtfeinppedejlpaaGreat
