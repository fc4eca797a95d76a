/-
  What stable.Same compares, as plain functions; what two nodes have beside their kids.
-/
import Derived.Test.YtfeinppedejlpaaGreatVYe
namespace Go.Proofs.YtfeinppedejlpaaGreat
open Go.RowKit Go.Sort
set_option linter.unusedVariables false
set_option maxRecDepth 100000
set_option maxHeartbeats 8000000
def fgB (a b : Fg) : Bool := a.a == b.a && (a.b == b.b && (a.c == b.c && (a.d == b.d && a.e == b.e)))
def zfq (x y : Nd) : Bool := ((x.kind : Int) == (y.kind : Int)) && ((x.name == y.name) && (x.data == y.data))
def all2 (P : Nat -> Nat -> Bool) : List Nat -> List Nat -> Bool
 | [], [] => true
 | a :: l, b :: m => P a b && all2 P l m
 | _, _ => false
theorem zgz {P : Nat -> Nat -> Bool} : ∀ {l m : List Nat}, l.length ≠ m.length -> all2 P l m = false
 | [], [], h => absurd rfl h
 | [], _ :: _, _ => rfl
 | _ :: _, [], _ => rfl
 | a :: l, b :: m, h => by
  unfold all2
  rw [zgz (l := l) (m := m) (fun e => h (by simp [e])), Bool.and_false]
def zhb (g : Nat -> Nat -> Bool) (M M' : Dm) (s t : Int) : Bool := if s = -1 \/ t = -1 then decide (s = t) else fgB (M.nd s.toNat).fl (M'.nd t.toNat).fl && g s.toNat t.toNat
def zey : List Atr -> List Atr -> Bool
 | [], [] => true
 | a :: l, b :: m => ((a.name == b.name) && (a.value == b.value)) && zey l m
 | _, _ => false
theorem zc0 : ∀ (l m : List Atr), zey l m = true ↔ l = m
 | [], [] => by simp [zey]
 | [], _ :: _ => by simp [zey]
 | _ :: _, [] => by simp [zey]
 | a :: l, b :: m => by
  have ih := zc0 l m
  obtain ⟨an, av⟩ := a
  obtain ⟨bn, bv⟩ := b
  simp [zey, ih]
def zcu (g : Nat -> Nat -> Bool) (M M' : Dm) (a b : Nat) : Bool := zfq (M.nd a) (M'.nd b) && (zey (M.nd a).attrs (M'.nd b).attrs && (zhb g M M' (M.nd a).shadow (M'.nd b).shadow && (zhb g M M' (M.nd a).content (M'.nd b).content && g a b)))
def alk (M M' : Dm) (R R' : Nat -> List Nat) : Nat -> Nat -> Nat -> Bool
 | 0, _, _ => true
 | f + 1, i, j => all2 (zcu (alk M M' R R' f) M M') (R i) (R' j)
structure Rd2 (w0 : World) (p p' : Nat) (M M' : Dm) (R R' : Nat -> List Nat) : Prop where
 n1 : ∀ i, i < M.n -> ∀ V, Kept (fun k => k < w0.heap.size) w0 V -> Calls Tryz.prog 41 #[.pointer (some ⟨p, 0, none⟩), .int .i64 (i : Int)] V fun e w' => Told V (M.nd i) (M.pl i).up (R i) e w'
 n2 : ∀ i, i < M'.n -> ∀ V, Kept (fun k => k < w0.heap.size) w0 V -> Calls Tryz.prog 41 #[.pointer (some ⟨p', 0, none⟩), .int .i64 (i : Int)] V fun e w' => Told V (M'.nd i) (M'.pl i).up (R' i) e w'
abbrev prV (p p' : Nat) : Value := .agg #[.pointer (some ⟨p, 0, none⟩), .pointer (some ⟨p', 0, none⟩)]
def Zpq (w0 : World) (p p' : Nat) (M M' : Dm) (R R' : Nat -> List Nat) (f i j : Nat) : Prop := ∀ X, Kept (fun k => k < w0.heap.size) w0 X -> ∀ (x y : Nd) (ao ao' : Option Addr) (ac ac' : Nat) (up up' : Int) (ko ko' : Option Addr) (kc kc' : Nat), Zae (fun k => k < X.heap.size) X ko (R i) -> Zae (fun k => k < X.heap.size) X ko' (R' j) ->
 Calls Tryz.prog 134 #[prV p p', .agg (nW x ao ac up ko (R i).length kc), .agg (nW y ao' ac' up' ko' (R' j).length kc')] X fun e w' => e = .returned (.bool (alk M M' R R' f i j)) /\ Kept (fun k => k < X.heap.size) X w'
section
variable {w0 : World} {p p' : Nat} {M M' : Dm} {R R' : Nat -> List Nat} {f : Nat}
theorem zjc (s t : Int) (h : s = -1 \/ t = -1) (X : World) :
  Calls Tryz.prog 209 #[prV p p', .int .i64 s, .int .i64 t] X fun e w' => e = .returned (.bool (decide (s = t))) /\ Kept (fun k => k < X.heap.size) X w' := by
 have HX : Hid (∀ v : Value, Kept (fun k => k < X.heap.size) X (X.alloc (.cells #[.pointer (some ⟨p, 0, none⟩), .pointer (some ⟨p', 0, none⟩)] 156))) := fun _ => (Kept.refl _ X).alloc (fun _ h => h) _
 obtain ⟨b, hb⟩ : ∃ b, decide (s = t) = b := ⟨_, rfl⟩
 have e : (s == t) = b := by rw [<- hb]; rw [Bool.eq_iff_iff, beq_iff_eq, decide_eq_true_eq]
 rw [hb]
 by_cases h1 : s = -1
 ·subst h1
  clear hb h
  go_enter Tryz.func209, Tryz.ntmps209
  go_wp2
  go_ret
  exact ⟨rfl, HX.out (.bool true)⟩
 ·have h2 : t = -1 := by rcases h with h | h; exact absurd h h1; exact h
  subst h2
  have e1 : (s == -1) = false := by simpa using h1
  obtain rfl : b = false := by rw [<- e, e1]
  clear hb h h1
  go_enter Tryz.func209, Tryz.ntmps209
  go_wp2
  go_ret
  exact ⟨rfl, HX.out (.bool true)⟩
theorem zk8 (rd : Rd2 w0 p p' M M' R R') (i j : Nat) (hi : i < M.n) (hj : j < M'.n) (hA : Zpq w0 p p' M M' R R' f i j) (X : World) (hX : Kept (fun k => k < w0.heap.size) w0 X) :
  Calls Tryz.prog 209 #[prV p p', .int .i64 (i : Int), .int .i64 (j : Int)] X fun e w' => e = .returned (.bool (fgB (M.nd i).fl (M'.nd j).fl && alk M M' R R' f i j)) /\ Kept (fun k => k < X.heap.size) X w' := by
 obtain ⟨W, N, hW, hN, hb, hkW, hzW⟩ := zal X #[.pointer (some ⟨p, 0, none⟩), .pointer (some ⟨p', 0, none⟩)] 156
 have h0W := kt hX hkW
 have r1 := rd.n1 i hi W h0W
 have R2 : Hid (∀ V, Kept (fun k => k < w0.heap.size) w0 V -> Calls Tryz.prog 41 #[.pointer (some ⟨p', 0, none⟩), .int .i64 (j : Int)] V fun e w' => Told V (M'.nd j) (M'.pl j).up (R' j) e w') := rd.n2 j hj
 have HA : Hid (Zpq w0 p p' M M' R R' f i j) := hA
 obtain ⟨x, hx⟩ : ∃ x, M.nd i = x := ⟨_, rfl⟩
 obtain ⟨y, hy⟩ : ∃ x, M'.nd j = x := ⟨_, rfl⟩
 obtain ⟨up, hup⟩ : ∃ u, (M.pl i).up = u := ⟨_, rfl⟩
 obtain ⟨up', hup'⟩ : ∃ u, (M'.pl j).up = u := ⟨_, rfl⟩
 obtain ⟨kn, hkn⟩ : ∃ u, (R i).length = u := ⟨_, rfl⟩
 obtain ⟨kn', hkn'⟩ : ∃ u, (R' j).length = u := ⟨_, rfl⟩
 have HKN : Hid ((R i).length = kn) := hkn
 have HKN' : Hid ((R' j).length = kn') := hkn'
 unfold Told at r1
 rw [hx, hup, hkn] at r1
 have p0 : W.cell? ⟨N, 0, none⟩ = some (.pointer (some ⟨p, 0, none⟩)) := by rw [zaa hb]; rfl
 have HB : Hid (∀ Y, Kept (fun k => k < W.heap.size) W Y -> Y.heap[N]? = some (.cells #[.pointer (some ⟨p, 0, none⟩), .pointer (some ⟨p', 0, none⟩)] 156 (0, 0))) := fun Y hY => (hY.block N (zad hb)).trans hb
 have HW : Hid (X.alloc (.cells #[.pointer (some ⟨p, 0, none⟩), .pointer (some ⟨p', 0, none⟩)] 156) = W) := hW
 have HN : Hid (X.heap.size = N) := hN
 have HKW : Hid (Kept (fun k => k < X.heap.size) X W) := hkW
 have H0W : Hid (Kept (fun k => k < w0.heap.size) w0 W) := h0W
 have HFG : Hid (∀ X, (binOp .eql 48 (.agg #[.bool x.fl.a, .bool x.fl.b, .bool x.fl.c, .bool x.fl.d, .bool x.fl.e]) (.agg #[.bool y.fl.a, .bool y.fl.b, .bool y.fl.c, .bool y.fl.d, .bool y.fl.e])).run Tryz.prog X = .ok (.bool (fgB x.fl y.fl)) X) := fun X => zu0 x.fl y.fl X
 rw [hx, hy]
 obtain ⟨al, hal⟩ : ∃ b, alk M M' R R' f i j = b := ⟨_, rfl⟩
 have HAL : Hid (alk M M' R R' f i j = al) := hal
 rw [hal]
 obtain ⟨fb, hfb⟩ : ∃ b, fgB x.fl y.fl = b := ⟨_, rfl⟩
 rw [hfb] at HFG ⊢
 have HY : Hid (M'.nd j = y /\ (M'.pl j).up = up') := ⟨hy, hup'⟩
 have i1 : ((i : Int) == -1) = false := by simp
 have j1 : ((j : Int) == -1) = false := by simp
 clear rd hi hj hA hX hW hN hb hkW hzW h0W hx hy hup hup' hkn hkn' hal hfb
 go_enter Tryz.func209, Tryz.ntmps209
 go_upto_region 1 with fail
 rw [HW.out, HN.out]
 clear HW HN
 go_wp2_with fail
 refine r1.mono ?_
 rintro e w1 ⟨ao, ac, ko, kc, rfl, hA1, hQ1, hK1⟩
 obtain ⟨V, N1, hV, hN1, hb1, hk1, hz1⟩ := zal w1 (nW x ao ac up ko kn kc) 58
 have hkV : Kept (fun k => k < W.heap.size) W V := kt hK1 hk1
 have h0V : Kept (fun k => k < w0.heap.size) w0 V := kt H0W.out hkV
 have hI : Zae (fun k => k < V.heap.size) V ko (R i) := by
  have h1 : Zae (fun k => k < w1.heap.size) w1 ko (R i) := by rw [<- HKN.out] at hQ1; exact hQ1.intsAt fun g hg => (Zac.out hQ1 hg).2
  exact h1.to (fun k h => ltl h hk1.size) (fun k h => hk1.block k h)
 have HI : Hid (Zae (fun k => k < V.heap.size) V ko (R i)) := hI
 have hbV := HB.out V hkV
 have p1 : V.cell? ⟨N, 1, none⟩ = some (.pointer (some ⟨p', 0, none⟩)) := by rw [zaa hbV]; rfl
 have r2 := R2.out V h0V
 unfold Told at r2
 rw [HY.out.1, HY.out.2, HKN'.out] at r2
 have HV : Hid (w1.alloc (.cells (nW x ao ac up ko kn kc) 58) = V) := hV
 have HN1 : Hid (w1.heap.size = N1) := hN1
 have HB1 : Hid (∀ Y, Kept (fun k => k < V.heap.size) V Y -> Y.heap[N1]? = some (.cells (nW x ao ac up ko kn kc) 58 (0, 0))) := fun Y hY => (hY.block N1 (zad hb1)).trans hb1
 have HKV : Hid (Kept (fun k => k < W.heap.size) W V) := hkV
 have H0V : Hid (Kept (fun k => k < w0.heap.size) w0 V) := h0V
 clear r1 hA1 hQ1 hK1 hV hN1 hb1 hk1 hz1 hkV h0V hI hbV p0
 go_upto_region 4 with fail
 rw [HV.out, HN1.out]
 clear HV HN1
 go_wp2_with fail
 refine r2.mono ?_
 rintro e w2 ⟨ao', ac', ko', kc', rfl, hA2, hQ2, hK2⟩
 obtain ⟨Z, N2, hZ, hN2, hb2, hk2, hz2⟩ := zal w2 (nW y ao' ac' up' ko' kn' kc') 58
 have hkZ : Kept (fun k => k < V.heap.size) V Z := kt hK2 hk2
 have h0Z : Kept (fun k => k < w0.heap.size) w0 Z := kt H0V.out hkZ
 have hI2 : Zae (fun k => k < Z.heap.size) Z ko' (R' j) := by
  have h1 : Zae (fun k => k < w2.heap.size) w2 ko' (R' j) := by rw [<- HKN'.out] at hQ2; exact hQ2.intsAt fun g hg => (Zac.out hQ2 hg).2
  exact h1.to (fun k h => ltl h hk2.size) (fun k h => hk2.block k h)
 have hI1 : Zae (fun k => k < Z.heap.size) Z ko (R i) := HI.out.to (fun k h => ltl h hkZ.size) (fun k h => hkZ.block k h)
 have ra := HA.out Z h0Z x y ao ao' ac ac' up up' ko ko' kc kc' hI1 hI2
 rw [HAL.out, HKN.out, HKN'.out] at ra
 have hbZ := HB.out Z (kt HKV.out hkZ)
 have hb1Z := HB1.out Z hkZ
 have q0 : Z.cell? ⟨N, 0, none⟩ = some (.pointer (some ⟨p, 0, none⟩)) := by rw [zaa hbZ]; rfl
 have q1 : Z.cell? ⟨N, 1, none⟩ = some (.pointer (some ⟨p', 0, none⟩)) := by rw [zaa hbZ]; rfl
 have hfg := HFG.out
 have HZ : Hid (w2.alloc (.cells (nW y ao' ac' up' ko' kn' kc') 58) = Z) := hZ
 have HN2 : Hid (w2.heap.size = N2) := hN2
 have HKZ : Hid (Kept (fun k => k < X.heap.size) X Z) := HKW.out.trans ((kt HKV.out hkZ).mono fun k h => ltl h HKW.out.size)
 have g0 : Z.cell? ⟨N1, 0, none⟩ = some (.int .u8 (x.kind : Int)) := by rw [zaa hb1Z]; rfl
 have g1 : Z.cell? ⟨N1, 1, none⟩ = some (.string ⟨x.name.toArray⟩) := by rw [zaa hb1Z]; rfl
 have g2 : Z.cell? ⟨N1, 2, none⟩ = some (.string ⟨x.data.toArray⟩) := by rw [zaa hb1Z]; rfl
 have g3 : Z.cell? ⟨N1, 3, none⟩ = some (.slice ao x.attrs.length ac) := by rw [zaa hb1Z]; rfl
 have g4 : Z.cell? ⟨N1, 4, none⟩ = some (.int .i64 up) := by rw [zaa hb1Z]; rfl
 have g5 : Z.cell? ⟨N1, 5, none⟩ = some (.slice ko kn kc) := by rw [zaa hb1Z]; rfl
 have g6 : Z.cell? ⟨N1, 6, none⟩ = some (.int .i64 x.shadow) := by rw [zaa hb1Z]; rfl
 have g7 : Z.cell? ⟨N1, 7, none⟩ = some (.int .i64 x.host) := by rw [zaa hb1Z]; rfl
 have g8 : Z.cell? ⟨N1, 8, none⟩ = some (.int .i64 x.content) := by rw [zaa hb1Z]; rfl
 have g9 : Z.cell? ⟨N1, 9, none⟩ = some (.bool x.fl.a) := by rw [zaa hb1Z]; rfl
 have g10 : Z.cell? ⟨N1, 10, none⟩ = some (.bool x.fl.b) := by rw [zaa hb1Z]; rfl
 have g11 : Z.cell? ⟨N1, 11, none⟩ = some (.bool x.fl.c) := by rw [zaa hb1Z]; rfl
 have g12 : Z.cell? ⟨N1, 12, none⟩ = some (.bool x.fl.d) := by rw [zaa hb1Z]; rfl
 have g13 : Z.cell? ⟨N1, 13, none⟩ = some (.bool x.fl.e) := by rw [zaa hb1Z]; rfl
 have k0 : Z.cell? ⟨N2, 0, none⟩ = some (.int .u8 (y.kind : Int)) := by rw [zaa hb2]; rfl
 have k1 : Z.cell? ⟨N2, 1, none⟩ = some (.string ⟨y.name.toArray⟩) := by rw [zaa hb2]; rfl
 have k2 : Z.cell? ⟨N2, 2, none⟩ = some (.string ⟨y.data.toArray⟩) := by rw [zaa hb2]; rfl
 have k3 : Z.cell? ⟨N2, 3, none⟩ = some (.slice ao' y.attrs.length ac') := by rw [zaa hb2]; rfl
 have k4 : Z.cell? ⟨N2, 4, none⟩ = some (.int .i64 up') := by rw [zaa hb2]; rfl
 have k5 : Z.cell? ⟨N2, 5, none⟩ = some (.slice ko' kn' kc') := by rw [zaa hb2]; rfl
 have k6 : Z.cell? ⟨N2, 6, none⟩ = some (.int .i64 y.shadow) := by rw [zaa hb2]; rfl
 have k7 : Z.cell? ⟨N2, 7, none⟩ = some (.int .i64 y.host) := by rw [zaa hb2]; rfl
 have k8 : Z.cell? ⟨N2, 8, none⟩ = some (.int .i64 y.content) := by rw [zaa hb2]; rfl
 have k9 : Z.cell? ⟨N2, 9, none⟩ = some (.bool y.fl.a) := by rw [zaa hb2]; rfl
 have k10 : Z.cell? ⟨N2, 10, none⟩ = some (.bool y.fl.b) := by rw [zaa hb2]; rfl
 have k11 : Z.cell? ⟨N2, 11, none⟩ = some (.bool y.fl.c) := by rw [zaa hb2]; rfl
 have k12 : Z.cell? ⟨N2, 12, none⟩ = some (.bool y.fl.d) := by rw [zaa hb2]; rfl
 have k13 : Z.cell? ⟨N2, 13, none⟩ = some (.bool y.fl.e) := by rw [zaa hb2]; rfl
 have hgrd := zur
 clear r2 hA2 hQ2 hK2 hZ hN2 hb2 hk2 hz2 hkZ h0Z hI2 hI1 hbZ hb1Z p1 HFG
 go_upto_region 5 with fail
 rw [HZ.out, HN2.out]
 clear HZ HN2
 cases fb with
 | false =>
  clear ra
  go_wp2
  go_ret
  exact ⟨rfl, HKZ.out⟩
 | true =>
  go_wp2_with fail
  refine ra.mono ?_
  rintro e w3 ⟨rfl, hK3⟩
  have HK3 : Hid (Kept (fun k => k < X.heap.size) X w3) := kt HKZ.out hK3
  clear ra hK3
  go_wp2
  go_ret
  exact ⟨rfl, HK3.out⟩
end
end Go.Proofs.YtfeinppedejlpaaGreat
