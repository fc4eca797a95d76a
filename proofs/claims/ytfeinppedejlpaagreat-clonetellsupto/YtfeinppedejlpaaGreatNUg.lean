/-
  The statements' own Same: both documents are told alike.
-/
import Derived.Test.YtfeinppedejlpaaGreatNTl
import Derived.Test.YtfeinppedejlpaaGreatNTn
import Derived.Test.YtfeinppedejlpaaGreatNFy
import Derived.Test.YtfeinppedejlpaaGreatNLt2
import Derived.Laws.StructEq
namespace Go.Proofs.YtfeinppedejlpaaGreat
set_option maxHeartbeats 8000000
set_option maxRecDepth 100000
open Go.RowKit Go.Sort
set_option linter.unusedVariables false
theorem zrk (f : Fg) (X : World) : (binOp .neq 48 (fgV f) (fgV f)).run Tryz.prog X = .ok (.bool false) X := by
 have hS : Tryz.prog.underlying 48 = some (.struct (Tryz.prog.fieldsOf 48)) := by kernel_rfl
 have hp : Tryz.prog.stoodInHeld 48 = false := by kernel_rfl
 rw [run_neq_struct, show (10000 : Nat) = 9999 + 1 from rfl, run_equalIn_agg X 9999 48 _ _ hS hp]
 have u3 := Tryz.underlying4
 have z3 : Tryz.prog.cellsOf 4 = 1 := by kernel_rfl
 simp only [Program.fieldsOf, Tryz.underlying48]
 go_simp
theorem zq6 : Tryz.prog.eqGuardType Tryz.prog.depth 48 = false := by kernel_rfl
structure Zgs (V : World) (N : Nat) (kd : Int) (S D : ByteArray) (aa : Option Addr) (an ac : Nat) (up : Int) (ka : Option Addr) (kn kc : Nat) (sh ho co : Int) (f : Fg) : Prop where
 hi : N < V.heap.size
 b : V.heap[N]? = some (.cells (rV kd S D aa an ac up ka kn kc sh ho co f) 58 (0, 0))
theorem Zgs.later {V V' : World} {N : Nat} {kd : Int} {S D : ByteArray} {aa : Option Addr} {an ac : Nat} {up : Int} {ka : Option Addr} {kn kc : Nat} {sh ho co : Int} {f : Fg} (h : Zgs V N kd S D aa an ac up ka kn kc sh ho co f) (hk : Kept (fun k => k < V.heap.size) V V') : Zgs V' N kd S D aa an ac up ka kn kc sh ho co f :=
 ⟨ltl h.hi hk.size, (hk.block N h.hi).trans h.b⟩
theorem Zgs.cell {V : World} {N : Nat} {kd : Int} {S D : ByteArray} {aa : Option Addr} {an ac : Nat} {up : Int} {ka : Option Addr} {kn kc : Nat} {sh ho co : Int} {f : Fg} (h : Zgs V N kd S D aa an ac up ka kn kc sh ho co f) (j : Nat) (u : Value) (hu : (rV kd S D aa an ac up ka kn kc sh ho co f)[j]? = some u) : V.cell? ⟨N, j, none⟩ = some u := by
 rw [zaa h.b]; exact hu
structure Pair (K E : Nat -> Prop) (W V : World) (p r : Nat) (M : Dm) (R G : Nat -> List Nat) (i : Int) (N1 N2 : Nat) (kd : Int) (S D : ByteArray) (at0 : List Atr) (up : Int) (Q g0 : List Nat) (sl : Int) (sh ho co : Int) (f : Fg) (a1 a2 : Option Addr) (c1 c2 : Nat) (k1 k2 : Option Addr) (d1 d2 : Nat) : Prop where
 b1 : Zgs V N1 kd S D a1 at0.length c1 up k1 Q.length d1 sh ho co f
 b2 : Zgs V N2 kd S D a2 at0.length c2 up k2 Q.length d2 sh ho co f
 at1 : Zag (fun k => k < V.heap.size) V a1 at0
 at2 : Zag (fun k => k < V.heap.size) V a2 at0
 ki1 : Zan (fun k => k < V.heap.size) V k1 Q
 ki2 : Zan (fun k => k < V.heap.size) V k2 Q
 few : at0.length <= 1000000 /\ Q.length <= 1000000 /\ g0.length <= 1000000
 kept : Kept (fun k => k < W.heap.size) W V
 gd : ∀ X, Kept (fun k => k < W.heap.size) W X -> Calls Tryz.prog 123 #[.pointer (some ⟨p, 0, none⟩), .int .i64 i] X fun e w' => ∃ ao c, e = .returned (.slice ao g0.length c) /\ Zan (fun k => k < w'.heap.size) w' ao g0 /\ Kept (fun k => k < X.heap.size) X w'
 gr : ∀ X, Kept (fun k => k < W.heap.size) W X -> Calls Tryz.prog 83 #[.pointer (some ⟨r, 0, none⟩), .int .i64 i] X fun e w' => ∃ ao c, e = .returned (.slice ao g0.length c) /\ Zan (fun k => k < w'.heap.size) w' ao g0 /\ Kept (fun k => k < X.heap.size) X w'
 sd : ∀ X, Kept (fun k => k < W.heap.size) W X -> Calls Tryz.prog 124 #[.pointer (some ⟨p, 0, none⟩), .int .i64 i] X fun e w' => e = .returned (.int .i64 sl) /\ w' = X
 sr : ∀ X, Kept (fun k => k < W.heap.size) W X -> Calls Tryz.prog 77 #[.pointer (some ⟨r, 0, none⟩), .int .i64 i] X fun e w' => e = .returned (.int .i64 sl) /\ w' = X
theorem Zan.keptAll {w w' : World} {ka : Option Addr} {l : List Nat} (h : Zan (fun k => k < w.heap.size) w ka l) (hk : Kept (fun k => k < w.heap.size) w w') : Zan (fun k => k < w'.heap.size) w' ka l :=
 h.to (fun g hg => ltl hg hk.size) (fun g hg => hk.block g hg)
theorem zpb (K E : Nat -> Prop) (w : World) (p r : Nat) (M : Dm) (R G : Nat -> List Nat) (rk : Nat -> Nat) (h2 : Two K E w p r M R G) (hI : Inv M R G rk) (hn : M.n <= 100000) :
  Calls Tryz.prog 54 #[.pointer (some ⟨p, 0, none⟩), .pointer (some ⟨r, 0, none⟩)] w fun e w' => e = .returned (.int .i64 1) /\ Kept (fun k => k < w.heap.size) w w' := by
 obtain ⟨m, hm⟩ : ∃ m, M.n = m := ⟨_, rfl⟩
 have LEN : Hid (∀ X, Kept (fun k => k < w.heap.size) w X -> Calls Tryz.prog 15 #[.pointer (some ⟨p, 0, none⟩)] X fun e w' => e = .returned (.int .i64 (m : Int)) /\ w' = X) := fun X hX => by
  obtain ⟨ga, cap, hY⟩ := h2.d.kept hX
  rw [<- hm]
  exact zi0 p M.n cap ga X hY.c1
 have rl := LEN.out w (Kept.refl _ _)
 have rr := zgl _ r M R G w h2.r
 have ll := zkk _ p M w h2.d
 have lr := zf8 _ r M R G w h2.r
 rw [hm] at rr
 obtain ⟨lim, hlim⟩ : ∃ z, M.limit = z := ⟨_, rfl⟩
 rw [hlim] at ll lr
 have H2 : Hid (Two K E w p r M R G) := h2
 have HI : Hid (Inv M R G rk) := hI
 have HM : Hid (M.n = m) := hm
 rw [hm] at hn
 clear h2 hI hm hlim
 go_enter Tryz.func54, Tryz.ntmps54
 go_upto_region 4 with (first | (go_at_call 15; refine rl.mono ?_; rintro e1 w3 ⟨rfl, hw3⟩; replace hw3 := hw3.symm; subst hw3) | (go_at_call 93; refine rr.mono ?_; rintro e1 w3 ⟨rfl, hw3⟩; replace hw3 := hw3.symm; subst hw3) | (go_at_call 117; refine ll.mono ?_; rintro e1 w3 ⟨rfl, hw3⟩; replace hw3 := hw3.symm; subst hw3) | (go_at_call 119; refine lr.mono ?_; rintro e1 w3 ⟨rfl, hw3⟩; replace hw3 := hw3.symm; subst hw3))
 clear rl rr ll lr
 go_loopg [5] (m + 2) (fun gh v wr => ∃ k : Nat, gh = m + 2 - k /\ k <= m + 2 /\ v = .int .i64 ((k : Int) - 1) /\ Kept (fun k => k < w.heap.size) w wr)
 case atStart => exact ⟨0, rfl, Nat.zero_le _, rfl, Kept.refl _ _⟩
 case round =>
  obtain ⟨k, hgk, hk, rfl, hK⟩ := hrel
  have HK : Hid (Kept (fun k => k < w.heap.size) w wr) := hK
  have rl := LEN.out wr hK
  obtain ⟨i, hi⟩ : ∃ i : Int, (k : Int) - 1 = i := ⟨_, rfl⟩
  rw [hi]
  by_cases hlt : k < m + 2
  ·have hle : decide (i <= (m : Int)) = true := decide_eq_true (by omega)
   by_cases hin : 0 <= i /\ i < (m : Int)
   ·obtain ⟨j, hj⟩ : ∃ j : Nat, i = (j : Int) := ⟨i.toNat, by omega⟩
    subst hj
    have hjm : j < M.n := by rw [HM.out]; omega
    have rn := zb2 _ p j M R wr (H2.out.d.kept hK) HI.out.good.wf hjm (by rw [HM.out]; omega) HI.out.good.few
    clear hK
    go_wp2_with (go_at_call 15; refine rl.mono ?_; rintro e1 w3 ⟨rfl, hw3⟩; replace hw3 := hw3.symm; subst hw3)
    refine rn.mono ?_
    rintro e v1 ⟨a1, c1, k1, d1, rfl, hA1, hQ1, hKa⟩
    obtain ⟨N1, hN1⟩ : ∃ N, v1.heap.size = N := ⟨_, rfl⟩
    obtain ⟨V1, hV1⟩ : ∃ V, v1.alloc (.cells (zcf (M.nd j).kind ⟨(M.nd j).name.toArray⟩ ⟨(M.nd j).data.toArray⟩ a1 (M.nd j).attrs.length c1 (M.pl j).up k1 (R j).length d1 (M.nd j).shadow (M.nd j).host (M.nd j).content (M.nd j).fl) 58) = V := ⟨_, rfl⟩
    have kv1 : Kept (fun k => k < v1.heap.size) v1 V1 := by rw [<- hV1]; exact (Kept.refl _ v1).alloc (fun _ h => h) _
    have hwV1 : Kept (fun k => k < w.heap.size) w V1 := HK.out.trans ((kt hKa kv1).mono fun k h => ltl h HK.out.size)
    have hb1 : V1.heap[N1]? = some (.cells (zcf (M.nd j).kind ⟨(M.nd j).name.toArray⟩ ⟨(M.nd j).data.toArray⟩ a1 (M.nd j).attrs.length c1 (M.pl j).up k1 (R j).length d1 (M.nd j).shadow (M.nd j).host (M.nd j).content (M.nd j).fl) 58 (0, 0)) := by rw [<- hV1, <- hN1]; exact heap_alloc_new v1 _
    have rrn := zor _ r j M R G V1 (H2.out.kept hwV1).r hjm (by rw [HM.out]; omega) (by have := HI.out.core.few hjm; omega) (by have := HI.out.hn hjm; rw [HM.out] at this; omega)
    have HA1 : Hid (Zag (fun k => k < V1.heap.size) V1 a1 (M.nd j).attrs) := (hA1.atsAt fun g hg => (Zac.out hA1 hg).2).kept kv1 (fun g hg => ltl hg kv1.size)
    have HQ1 : Hid (Zan (fun k => k < V1.heap.size) V1 k1 (R j)) := (hQ1.intsAt fun g hg => (Zac.out hQ1 hg).2).keptAll kv1
    have HV1 : Hid (v1.alloc (.cells (zcf (M.nd j).kind ⟨(M.nd j).name.toArray⟩ ⟨(M.nd j).data.toArray⟩ a1 (M.nd j).attrs.length c1 (M.pl j).up k1 (R j).length d1 (M.nd j).shadow (M.nd j).host (M.nd j).content (M.nd j).fl) 58) = V1) := hV1
    have HN1 : Hid (v1.heap.size = N1) := hN1
    have HB1 : Hid (V1.heap[N1]? = some (.cells (zcf (M.nd j).kind ⟨(M.nd j).name.toArray⟩ ⟨(M.nd j).data.toArray⟩ a1 (M.nd j).attrs.length c1 (M.pl j).up k1 (R j).length d1 (M.nd j).shadow (M.nd j).host (M.nd j).content (M.nd j).fl) 58 (0, 0))) := hb1
    have HWV1 : Hid (Kept (fun k => k < w.heap.size) w V1) := hwV1
    clear rn hA1 hQ1 hKa hN1 hV1 kv1 hwV1 hb1 rl
    go_upto_region 7 with fail
    rw [HV1.out, HN1.out]
    clear HV1 HN1
    go_wp2_with fail
    refine rrn.mono ?_
    rintro e v2 ⟨a2, c2, k2, d2, rfl, hA2, hAl, hQ2, hQl, hKb⟩
    obtain ⟨N2, hN2⟩ : ∃ N, v2.heap.size = N := ⟨_, rfl⟩
    obtain ⟨V2, hV2⟩ : ∃ V, v2.alloc (.cells (rV ((M.nd j).kind : Int) ⟨(M.nd j).name.toArray⟩ ⟨(M.nd j).data.toArray⟩ a2 (M.nd j).attrs.length c2 (M.pl j).up k2 (R j).length d2 (M.nd j).shadow (M.nd j).host (M.nd j).content (M.nd j).fl) 58) = V := ⟨_, rfl⟩
    have kv2 : Kept (fun k => k < v2.heap.size) v2 V2 := by rw [<- hV2]; exact (Kept.refl _ v2).alloc (fun _ h => h) _
    have h12 : Kept (fun k => k < V1.heap.size) V1 V2 := kt hKb kv2
    have hb2 : V2.heap[N2]? = some (.cells (rV ((M.nd j).kind : Int) ⟨(M.nd j).name.toArray⟩ ⟨(M.nd j).data.toArray⟩ a2 (M.nd j).attrs.length c2 (M.pl j).up k2 (R j).length d2 (M.nd j).shadow (M.nd j).host (M.nd j).content (M.nd j).fl) 58 (0, 0)) := by rw [<- hV2, <- hN2]; exact heap_alloc_new v2 _
    have hglen : (G j).length <= 1000000 := by have := HI.out.gw.len_le hjm; rw [HM.out] at this; omega
    have hPair : Pair K E w V2 p r M R G (j : Int) N1 N2 ((M.nd j).kind : Int) ⟨(M.nd j).name.toArray⟩ ⟨(M.nd j).data.toArray⟩ (M.nd j).attrs (M.pl j).up (R j) (G j) (M.gf j).up (M.nd j).shadow (M.nd j).host (M.nd j).content (M.nd j).fl a1 a2 c1 c2 k1 k2 d1 d2 := by
     refine ⟨Zgs.later ⟨zad HB1.out, HB1.out⟩ h12, ⟨zad hb2, hb2⟩, HA1.out.kept h12 (fun g hg => ltl hg h12.size), (hA2.to (F' := fun k => k < v2.heap.size) (w' := v2) (fun g hg => hg.2) (fun _ _ => rfl)).kept kv2 (fun g hg => ltl hg kv2.size), HQ1.out.keptAll h12, (hQ2.to (F' := fun k => k < v2.heap.size) (w' := v2) (fun g hg => hg.2) (fun _ _ => rfl)).keptAll kv2, ⟨by have := HI.out.core.few hjm; omega, by have := HI.out.hn hjm; rw [HM.out] at this; omega, hglen⟩, kt HWV1.out h12, fun X hX => ?_, fun X hX => ?_, fun X hX => ?_, fun X hX => ?_⟩
     ·refine (zov _ p j M G X (H2.out.d.kept hX) HI.out.gw hjm (by rw [HM.out]; omega)).mono ?_
      rintro e w' ⟨ao, c, rfl, hO, hk⟩
      exact ⟨ao, c, rfl, hO.intsAt fun g hg => (Zac.out hO hg).2, hk⟩
     ·refine (zme _ r j M R G X (H2.out.kept hX).r hjm (by rw [HM.out]; omega) hglen).mono ?_
      rintro e w' ⟨ao, c, rfl, hO, hk⟩
      exact ⟨ao, c, rfl, hO.intsAt fun g hg => (Zac.out hO hg).2, hk⟩
     ·exact zmq _ p j M X (H2.out.d.kept hX) hjm (by rw [HM.out]; omega)
     ·refine (zfr _ r M R G (j : Int) X (H2.out.kept hX).r (by rw [HM.out]; omega) (fun i hi => by have := HI.out.gw.len_le hi; rw [HM.out] at this; omega)).mono ?_
      rintro e w' ⟨z, hz, rfl, rfl⟩
      exact ⟨by rw [hz.one (HI.out.gw.slotA hjm)], rfl⟩
    have HV2 : Hid (v2.alloc (.cells (rV ((M.nd j).kind : Int) ⟨(M.nd j).name.toArray⟩ ⟨(M.nd j).data.toArray⟩ a2 (M.nd j).attrs.length c2 (M.pl j).up k2 (R j).length d2 (M.nd j).shadow (M.nd j).host (M.nd j).content (M.nd j).fl) 58) = V2) := hV2
    have HN2 : Hid (v2.heap.size = N2) := hN2
    obtain ⟨kd, hkd⟩ : ∃ z : Int, ((M.nd j).kind : Int) = z := ⟨_, rfl⟩
    obtain ⟨S, hS⟩ : ∃ z : ByteArray, ⟨(M.nd j).name.toArray⟩ = z := ⟨_, rfl⟩
    obtain ⟨D, hD⟩ : ∃ z : ByteArray, ⟨(M.nd j).data.toArray⟩ = z := ⟨_, rfl⟩
    obtain ⟨at0, hat0⟩ : ∃ z, (M.nd j).attrs = z := ⟨_, rfl⟩
    obtain ⟨up, hup⟩ : ∃ z, (M.pl j).up = z := ⟨_, rfl⟩
    obtain ⟨Q, hQ⟩ : ∃ z, R j = z := ⟨_, rfl⟩
    obtain ⟨g0, hg0⟩ : ∃ z, G j = z := ⟨_, rfl⟩
    obtain ⟨sl, hsl⟩ : ∃ z, (M.gf j).up = z := ⟨_, rfl⟩
    obtain ⟨sh, hsh⟩ : ∃ z, (M.nd j).shadow = z := ⟨_, rfl⟩
    obtain ⟨ho, hho⟩ : ∃ z, (M.nd j).host = z := ⟨_, rfl⟩
    obtain ⟨co, hco⟩ : ∃ z, (M.nd j).content = z := ⟨_, rfl⟩
    obtain ⟨f, hf⟩ : ∃ z, (M.nd j).fl = z := ⟨_, rfl⟩
    rw [hkd, hS, hD, hat0, hup, hQ, hg0, hsl, hsh, hho, hco, hf] at hPair
    rw [hkd, hS, hD, hat0, hup, hQ, hsh, hho, hco, hf] at HV2
    have HP : Hid (Pair K E w V2 p r M R G (j : Int) N1 N2 kd S D at0 up Q g0 sl sh ho co f a1 a2 c1 c2 k1 k2 d1 d2) := hPair
    rw [show (za1 M R j a2 c2 k2 d2).toArray = rV ((M.nd j).kind : Int) ⟨(M.nd j).name.toArray⟩ ⟨(M.nd j).data.toArray⟩ a2 (M.nd j).attrs.length c2 (M.pl j).up k2 (R j).length d2 (M.nd j).shadow (M.nd j).host (M.nd j).content (M.nd j).fl from rfl, hkd, hS, hD, hat0, hup, hQ, hsh, hho, hco, hf]
    obtain ⟨an0, han0⟩ : ∃ z, at0.length = z := ⟨_, rfl⟩
    obtain ⟨qn0, hqn0⟩ : ∃ z, Q.length = z := ⟨_, rfl⟩
    rw [han0, hqn0] at HV2 ⊢
    clear hkd hS hD hat0 hup hQ hg0 hsl hsh hho hco hf han0 hqn0
    clear rrn hA2 hAl hQ2 hQl hKb hN2 hV2 kv2 h12 hb2 hPair HA1 HQ1 HB1
    go_upto_region 8 with fail
    rw [HV2.out, HN2.out]
    clear HV2 HN2
    have x0 := HP.out.b1.cell 0 _ rfl
    have x1 := HP.out.b1.cell 1 _ rfl
    have x2 := HP.out.b1.cell 2 _ rfl
    have x4 := HP.out.b1.cell 4 _ rfl
    have x6 := HP.out.b1.cell 6 _ rfl
    have x7 := HP.out.b1.cell 7 _ rfl
    have x8 := HP.out.b1.cell 8 _ rfl
    have x9 := HP.out.b1.cell 9 _ rfl
    have x10 := HP.out.b1.cell 10 _ rfl
    have x11 := HP.out.b1.cell 11 _ rfl
    have x12 := HP.out.b1.cell 12 _ rfl
    have x13 := HP.out.b1.cell 13 _ rfl
    have y0 := HP.out.b2.cell 0 _ rfl
    have y1 := HP.out.b2.cell 1 _ rfl
    have y2 := HP.out.b2.cell 2 _ rfl
    have y4 := HP.out.b2.cell 4 _ rfl
    have y6 := HP.out.b2.cell 6 _ rfl
    have y7 := HP.out.b2.cell 7 _ rfl
    have y8 := HP.out.b2.cell 8 _ rfl
    have y9 := HP.out.b2.cell 9 _ rfl
    have y10 := HP.out.b2.cell 10 _ rfl
    have y11 := HP.out.b2.cell 11 _ rfl
    have y12 := HP.out.b2.cell 12 _ rfl
    have y13 := HP.out.b2.cell 13 _ rfl
    have hne := fun X => zrk f X
    have hgd := zq6
    go_upto_region 10 with fail
    clear x0 x1 x2 x4 x6 x7 x8 x9 x10 x11 x12 x13 y0 y1 y2 y4 y6 y7 y8 y9 y10 y11 y12 y13 hne hgd
    have x3 := HP.out.b1.cell 3 _ rfl
    have y3 := HP.out.b2.cell 3 _ rfl
    have x5 := HP.out.b1.cell 5 _ rfl
    have y5 := HP.out.b2.cell 5 _ rfl
    have rsa := zdr at0 at0 a1 a2 at0.length at0.length c1 c2 rfl rfl true ⟨fun _ => rfl, fun _ => rfl⟩ HP.out.few.1 HP.out.few.1 V2 HP.out.at1 HP.out.at2
    obtain ⟨an, han⟩ : ∃ an, at0.length = an := ⟨_, rfl⟩
    obtain ⟨qn, hqn⟩ : ∃ qn, Q.length = qn := ⟨_, rfl⟩
    rw [han] at x3 y3 rsa
    rw [hqn] at x5 y5
    have HQN : Hid (Q.length = qn) := hqn
    clear han hqn
    go_wp2_with fail
    refine rsa.mono ?_
    rintro e V3 ⟨rfl, k3⟩
    have rsi := zb3 Q Q k1 k2 qn qn d1 d2 HQN.out HQN.out (by rw [<- HQN.out]; exact HP.out.few.2.1) (by rw [<- HQN.out]; exact HP.out.few.2.1) V3 (HP.out.ki1.keptAll k3) (HP.out.ki2.keptAll k3)
    rw [decide_eq_true rfl] at rsi
    have x5' : V3.cell? ⟨N1, 5, none⟩ = some (.slice k1 qn d1) := (k3.cell (p := ⟨N1, 5, none⟩) HP.out.b1.hi).trans x5
    have y5' : V3.cell? ⟨N2, 5, none⟩ = some (.slice k2 qn d2) := (k3.cell (p := ⟨N2, 5, none⟩) HP.out.b2.hi).trans y5
    have HK3 : Hid (Kept (fun k => k < V2.heap.size) V2 V3) := k3
    clear rsa k3 x3 y3 x5 y5
    go_wp2_with fail
    refine rsi.mono ?_
    rintro e V4 ⟨rfl, k4⟩
    have HK4 : Hid (Kept (fun k => k < w.heap.size) w V4) := HP.out.kept.trans ((kt HK3.out k4).mono fun k h => ltl h HP.out.kept.size)
    have rgd := HP.out.gd V4 HK4.out
    clear rsi k4 x5' y5'
    go_wp2_with fail
    refine rgd.mono ?_
    rintro e V5 ⟨go, gc, rfl, hgo, k5⟩
    have HK5 : Hid (Kept (fun k => k < w.heap.size) w V5) := kt HK4.out k5
    have rgr := HP.out.gr V5 HK5.out
    have HGO : Hid (Zan (fun k => k < V5.heap.size) V5 go g0) := hgo
    clear rgd k5 hgo
    go_wp2_with fail
    refine rgr.mono ?_
    rintro e V6 ⟨ho2, hc2, rfl, hho, k6⟩
    have HK6 : Hid (Kept (fun k => k < w.heap.size) w V6) := kt HK5.out k6
    have rsg := zb3 g0 g0 go ho2 g0.length g0.length gc hc2 rfl rfl HP.out.few.2.2 HP.out.few.2.2 V6 (HGO.out.keptAll k6) hho
    rw [decide_eq_true rfl] at rsg
    clear rgr k6 hho
    go_wp2_with fail
    refine rsg.mono ?_
    rintro e V7 ⟨rfl, k7⟩
    have HK7 : Hid (Kept (fun k => k < w.heap.size) w V7) := kt HK6.out k7
    have rsd := HP.out.sd V7 HK7.out
    have rsr := HP.out.sr V7 HK7.out
    clear rsg k7
    go_wp2_with (first | (go_at_call 124; refine rsd.mono ?_; rintro e1 w3 ⟨rfl, hw3⟩; replace hw3 := hw3.symm; subst hw3) | (go_at_call 77; refine rsr.mono ?_; rintro e1 w3 ⟨rfl, hw3⟩; replace hw3 := hw3.symm; subst hw3))
    go_roundg (m + 2 - (k + 1))
    case rel => exact ⟨k + 1, rfl, by omega, by congr 1; omega, HK7.out⟩
    case measure => omega
   ·have hno : i < 0 \/ (M.n : Int) <= i := by rw [HM.out]; omega
    have HNO : Hid (i < 0 \/ (M.n : Int) <= i) := hno
    have rn := zig _ p M i wr (H2.out.d.kept hK) hno (by rw [HM.out]; omega)
    clear hK hin
    go_wp2_with (go_at_call 15; refine rl.mono ?_; rintro e1 w3 ⟨rfl, hw3⟩; replace hw3 := hw3.symm; subst hw3)
    refine rn.mono ?_
    rintro e v1 ⟨rfl, hKa⟩
    obtain ⟨N1, hN1⟩ : ∃ N, v1.heap.size = N := ⟨_, rfl⟩
    obtain ⟨V1, hV1⟩ : ∃ V, v1.alloc (.cells za2 58) = V := ⟨_, rfl⟩
    have kv1 : Kept (fun k => k < v1.heap.size) v1 V1 := by rw [<- hV1]; exact (Kept.refl _ v1).alloc (fun _ h => h) _
    have hwV1 : Kept (fun k => k < w.heap.size) w V1 := HK.out.trans ((kt hKa kv1).mono fun k h => ltl h HK.out.size)
    have hb1 : V1.heap[N1]? = some (.cells za2 58 (0, 0)) := by rw [<- hV1, <- hN1]; exact heap_alloc_new v1 _
    have rrn := zkr _ r M R G i V1 (H2.out.kept hwV1).r HNO.out
    have HV1 : Hid (v1.alloc (.cells za2 58) = V1) := hV1
    have HN1 : Hid (v1.heap.size = N1) := hN1
    have HB1 : Hid (V1.heap[N1]? = some (.cells za2 58 (0, 0))) := hb1
    have HWV1 : Hid (Kept (fun k => k < w.heap.size) w V1) := hwV1
    clear rn hKa hN1 hV1 kv1 hwV1 hb1 rl hno
    go_upto_region 7 with fail
    rw [HV1.out, HN1.out]
    clear HV1 HN1
    go_wp2_with fail
    refine rrn.mono ?_
    rintro e v2 ⟨rfl, hKb⟩
    obtain ⟨N2, hN2⟩ : ∃ N, v2.heap.size = N := ⟨_, rfl⟩
    obtain ⟨V2, hV2⟩ : ∃ V, v2.alloc (.cells za2 58) = V := ⟨_, rfl⟩
    have kv2 : Kept (fun k => k < v2.heap.size) v2 V2 := by rw [<- hV2]; exact (Kept.refl _ v2).alloc (fun _ h => h) _
    have h12 : Kept (fun k => k < V1.heap.size) V1 V2 := kt hKb kv2
    have hb2 : V2.heap[N2]? = some (.cells za2 58 (0, 0)) := by rw [<- hV2, <- hN2]; exact heap_alloc_new v2 _
    have hPair : Pair K E w V2 p r M R G i N1 N2 0 ⟨#[]⟩ ⟨#[]⟩ [] 0 [] [] (-1) 0 0 0 ⟨false, false, false, false, false⟩ none none 0 0 none none 0 0 := by
     refine ⟨Zgs.later ⟨zad HB1.out, HB1.out⟩ h12, ⟨zad hb2, hb2⟩, Zag.nil _ _ _, Zag.nil _ _ _, Zan.nil _ _ _, Zan.nil _ _ _, ⟨Nat.zero_le _, Nat.zero_le _, Nat.zero_le _⟩, kt HWV1.out h12, fun X hX => ?_, fun X hX => ?_, fun X hX => ?_, fun X hX => ?_⟩
     ·refine (zk2 _ p M i X (H2.out.d.kept hX) HNO.out (by rw [HM.out]; omega)).mono ?_
      rintro e w' ⟨rfl, rfl⟩
      exact ⟨none, 0, rfl, Zan.nil _ _ _, Kept.refl _ _⟩
     ·refine (ziq _ r M R G i X (H2.out.kept hX).r HNO.out).mono ?_
      rintro e w' ⟨rfl, rfl⟩
      exact ⟨none, 0, rfl, Zan.nil _ _ _, Kept.refl _ _⟩
     ·exact zlx _ p M i X (H2.out.d.kept hX) HNO.out (by rw [HM.out]; omega)
     ·refine (zfr _ r M R G i X (H2.out.kept hX).r (by rw [HM.out]; omega) (fun i hi => by have := HI.out.gw.len_le hi; rw [HM.out] at this; omega)).mono ?_
      rintro e w' ⟨z, hz, rfl, rfl⟩
      refine ⟨?_, rfl⟩
      have : Zhs M.n G i (-1) := .no fun t ht hm => by
       obtain ⟨y, hy, e⟩ := List.mem_map.1 hm
       have := HI.out.gw.lt t ht y hy
       have := HNO.out
       omega
      rw [hz.one this]
    have HV2 : Hid (v2.alloc (.cells za2 58) = V2) := hV2
    have HN2 : Hid (v2.heap.size = N2) := hN2
    have HP : Hid (Pair K E w V2 p r M R G i N1 N2 0 ⟨#[]⟩ ⟨#[]⟩ [] 0 [] [] (-1) 0 0 0 ⟨false, false, false, false, false⟩ none none 0 0 none none 0 0) := hPair
    clear rrn hKb hN2 hV2 kv2 h12 hb2 hPair HB1 HNO
    go_upto_region 8 with fail
    rw [HV2.out, HN2.out]
    clear HV2 HN2
    have x0 := HP.out.b1.cell 0 _ rfl
    have x1 := HP.out.b1.cell 1 _ rfl
    have x2 := HP.out.b1.cell 2 _ rfl
    have x4 := HP.out.b1.cell 4 _ rfl
    have x6 := HP.out.b1.cell 6 _ rfl
    have x7 := HP.out.b1.cell 7 _ rfl
    have x8 := HP.out.b1.cell 8 _ rfl
    have x9 := HP.out.b1.cell 9 _ rfl
    have x10 := HP.out.b1.cell 10 _ rfl
    have x11 := HP.out.b1.cell 11 _ rfl
    have x12 := HP.out.b1.cell 12 _ rfl
    have x13 := HP.out.b1.cell 13 _ rfl
    have y0 := HP.out.b2.cell 0 _ rfl
    have y1 := HP.out.b2.cell 1 _ rfl
    have y2 := HP.out.b2.cell 2 _ rfl
    have y4 := HP.out.b2.cell 4 _ rfl
    have y6 := HP.out.b2.cell 6 _ rfl
    have y7 := HP.out.b2.cell 7 _ rfl
    have y8 := HP.out.b2.cell 8 _ rfl
    have y9 := HP.out.b2.cell 9 _ rfl
    have y10 := HP.out.b2.cell 10 _ rfl
    have y11 := HP.out.b2.cell 11 _ rfl
    have y12 := HP.out.b2.cell 12 _ rfl
    have y13 := HP.out.b2.cell 13 _ rfl
    have hne := fun X => zrk ⟨false, false, false, false, false⟩ X
    have hgd := zq6
    go_upto_region 10 with fail
    clear x0 x1 x2 x4 x6 x7 x8 x9 x10 x11 x12 x13 y0 y1 y2 y4 y6 y7 y8 y9 y10 y11 y12 y13 hne hgd
    have x3 := HP.out.b1.cell 3 _ rfl
    have y3 := HP.out.b2.cell 3 _ rfl
    have x5 := HP.out.b1.cell 5 _ rfl
    have y5 := HP.out.b2.cell 5 _ rfl
    have rsa := zdr [] [] none none 0 0 0 0 rfl rfl true ⟨fun _ => rfl, fun _ => rfl⟩ HP.out.few.1 HP.out.few.1 V2 HP.out.at1 HP.out.at2
    go_wp2_with fail
    refine rsa.mono ?_
    rintro e V3 ⟨rfl, k3⟩
    have rsi := zb3 [] [] none none 0 0 0 0 rfl rfl (Nat.zero_le _) (Nat.zero_le _) V3 (HP.out.ki1.keptAll k3) (HP.out.ki2.keptAll k3)
    rw [decide_eq_true rfl] at rsi
    have x5' : V3.cell? ⟨N1, 5, none⟩ = some (.slice none 0 0) := (k3.cell (p := ⟨N1, 5, none⟩) HP.out.b1.hi).trans x5
    have y5' : V3.cell? ⟨N2, 5, none⟩ = some (.slice none 0 0) := (k3.cell (p := ⟨N2, 5, none⟩) HP.out.b2.hi).trans y5
    have HK3 : Hid (Kept (fun k => k < V2.heap.size) V2 V3) := k3
    clear rsa k3 x3 y3 x5 y5
    go_wp2_with fail
    refine rsi.mono ?_
    rintro e V4 ⟨rfl, k4⟩
    have HK4 : Hid (Kept (fun k => k < w.heap.size) w V4) := HP.out.kept.trans ((kt HK3.out k4).mono fun k h => ltl h HP.out.kept.size)
    have rgd := HP.out.gd V4 HK4.out
    clear rsi k4 x5' y5'
    go_wp2_with fail
    refine rgd.mono ?_
    rintro e V5 ⟨go, gc, rfl, hgo, k5⟩
    have HK5 : Hid (Kept (fun k => k < w.heap.size) w V5) := kt HK4.out k5
    have rgr := HP.out.gr V5 HK5.out
    have HGO : Hid (Zan (fun k => k < V5.heap.size) V5 go []) := hgo
    clear rgd k5 hgo
    go_wp2_with fail
    refine rgr.mono ?_
    rintro e V6 ⟨ho2, hc2, rfl, hho, k6⟩
    have HK6 : Hid (Kept (fun k => k < w.heap.size) w V6) := kt HK5.out k6
    have rsg := zb3 [] [] go ho2 0 0 gc hc2 rfl rfl HP.out.few.2.2 HP.out.few.2.2 V6 (HGO.out.keptAll k6) hho
    rw [decide_eq_true rfl] at rsg
    clear rgr k6 hho
    go_wp2_with fail
    refine rsg.mono ?_
    rintro e V7 ⟨rfl, k7⟩
    have HK7 : Hid (Kept (fun k => k < w.heap.size) w V7) := kt HK6.out k7
    have rsd := HP.out.sd V7 HK7.out
    have rsr := HP.out.sr V7 HK7.out
    clear rsg k7
    go_wp2_with (first | (go_at_call 124; refine rsd.mono ?_; rintro e1 w3 ⟨rfl, hw3⟩; replace hw3 := hw3.symm; subst hw3) | (go_at_call 77; refine rsr.mono ?_; rintro e1 w3 ⟨rfl, hw3⟩; replace hw3 := hw3.symm; subst hw3))
    go_roundg (m + 2 - (k + 1))
    case rel => exact ⟨k + 1, rfl, by omega, by congr 1; omega, HK7.out⟩
    case measure => omega
  ·have hkn : k = m + 2 := by omega
   have hle : decide (i <= (m : Int)) = false := decide_eq_false (by omega)
   clear hK hi
   go_wp2_with (go_at_call 15; refine rl.mono ?_; rintro e1 w3 ⟨rfl, hw3⟩; replace hw3 := hw3.symm; subst hw3)
   go_ret
   exact ⟨rfl, HK.out⟩
end Go.Proofs.YtfeinppedejlpaaGreat
