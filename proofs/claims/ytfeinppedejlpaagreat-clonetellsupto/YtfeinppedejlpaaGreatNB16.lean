/-
 A node is put into a row, in memory (chain.put), for the chain of gifts.; Doc.element, refused; Doc.Root: WHAT A SHADOW ROOT IS TO THE DOCUMENT.; Node of no node; order.Root; shadow.Of, Open, isClosed.
-/
import Derived.Test.YtfeinppedejlpaaGreatNB09
import Derived.Test.YtfeinppedejlpaaGreatNB08
import Derived.Test.YtfeinppedejlpaaGreatNB15
import Derived.Test.YtfeinppedejlpaaGreatNB12
namespace Go.Proofs.YtfeinppedejlpaaGreat
set_option linter.unusedVariables false
set_option maxRecDepth 100000
set_option maxHeartbeats 8000000
section
open Go.RowKit
theorem zsq (K : Nat -> Prop) (p g cap up i : Nat) (bef : Int) (S : Dm) (R : Nat -> List Nat) (w : World) (h : DY K w p S (some ⟨g, 0, none⟩) cap) (hW : WF S.n S.gf R) (hu : up < S.n) (hi : i < S.n) (hui : up ≠ i) (hb : Zfq S.n S.gf up i bef) (hn : S.n <= 1000000000) :
  Calls Tryz.prog 181 #[chG p, .int .i64 (up : Int), .int .i64 (i : Int), .int .i64 bef] w fun e w' => e = .returned (.tuple #[]) /\ DY K w' p (S.setG (zdn S.gf up i bef)) (some ⟨g, 0, none⟩) cap /\ Kept K w w' := by
 obtain ⟨n, hne⟩ : ∃ n, S.n = n := ⟨_, rfl⟩
 have rt := zgx K p g cap i S R w h hW hi hn
 have hPo := zi7 hW hu hi hb
 obtain ⟨L, hL⟩ : ∃ L, zct S.gf i = L := ⟨_, rfl⟩
 have hput : zdn S.gf up i bef = inL L up i bef (zh9 L up bef) := by rw [<- hL]; rfl
 rw [hput]
 rw [hL] at rt hPo
 obtain ⟨P, hP⟩ : ∃ P, zh9 L up bef = P := ⟨_, rfl⟩
 rw [hP] at hPo ⊢
 have hb' : bef = -1 \/ ∃ m : Nat, m < n /\ m ≠ i /\ bef = (m : Int) := by
  rw [<- hne]
  rcases hb with hb | ⟨m, h1, h2, h3, _⟩
  ·exact .inl hb
  ·exact .inr ⟨m, h1, h2, h3⟩
 have hb2 : bef = -1 \/ ∃ m : Nat, m ≠ i /\ bef = (m : Int) := by
  rcases hb' with hb | ⟨m, _, h2, h3⟩
  ·exact .inl hb
  ·exact .inr ⟨m, h2, h3⟩
 have hP2 : P = -1 \/ ∃ q : Nat, q ≠ i /\ P = (q : Int) := by
  rcases hPo with hb | ⟨m, _, h2, h3⟩
  ·exact .inl hb
  ·exact .inr ⟨m, h2, h3⟩
 have hin4 := zpj (L := L) hui hb2 hP2
 have hin3 := zpo (L := L) (P := P) hui hb2
 rw [<- hin4]
 rw [hne] at hPo hu hi
 have r1 := fun (j : Nat) (hj : j < n) (X : World) (hX : X.cell? ⟨p, 1, none⟩ = some (.slice (some ⟨g, 0, none⟩) n cap)) => zdh p g n cap j X hX hj (by omega)
 have ri := r1 i hi
 have ru := r1 up hu
 have hgp := h.gk.2.1
 have HNE : Hid (S.n = n) := hne
 have HP : Hid (zh9 L up bef = P) := hP
 have HPO : Hid (P = -1 \/ ∃ q : Nat, q < n /\ q ≠ i /\ P = (q : Int)) := hPo
 have HB : Hid (bef = -1 \/ ∃ m : Nat, m < n /\ m ≠ i /\ bef = (m : Int)) := hb'
 have H3 : Hid (in3 L up i bef P i = ⟨(up : Int), P, bef, (L i).first, (L i).last⟩) := hin3
 clear h hW hL hput hP hne hPo hb' hb hb2 hP2 hin4 hin3
 go_enter Tryz.func181, Tryz.ntmps181
 go_wp2_with fail
 refine rt.mono ?_
 rintro e w1 ⟨rfl, hY1, hK1⟩
 clear rt
 have hiS : i < (S.setG L).n := by show i < S.n; rw [HNE.out]; exact hi
 have huS : up < (S.setG L).n := by show up < S.n; rw [HNE.out]; exact hu
 have c1 : w1.cell? ⟨p, 1, none⟩ = some (.slice (some ⟨g, 0, none⟩) n cap) := by have := hY1.c1; rw [show (S.setG L).n = n from HNE.out] at this; exact this
 obtain ⟨a0, a1, a2, -, -⟩ := hY1.gcell hiS
 have f0 := hY1.fg (i * 22 + 17)
 have f2 := hY1.fg (i * 22 + 19)
 have D1 := hY1.setGup hiS (up : Int)
 have D2 := D1.1.setGnext hiS bef
 have e1 : zaw (zaw L i { L i with up := (up : Int) }) i { zaw L i { L i with up := (up : Int) } i with next := bef } = in1 L up i bef := by
  rw [zbz, zau]; rfl
 have D2' : DY K ((w1.setCell ⟨g, i * 22 + 17, none⟩ (.int .i64 (up : Int))).setCell ⟨g, i * 22 + 19, none⟩ (.int .i64 bef)) p (S.setG (in1 L up i bef)) (some ⟨g, 0, none⟩) cap := by rw [<- e1]; exact D2.1
 have kk := hK1.trans (D1.2.trans D2.2)
 obtain ⟨W1, hW1⟩ : ∃ W1, ((w1.setCell ⟨g, i * 22 + 17, none⟩ (.int .i64 (up : Int))).setCell ⟨g, i * 22 + 19, none⟩ (.int .i64 bef)) = W1 := ⟨_, rfl⟩
 rw [hW1] at D2' kk
 have HW1 : Hid (((w1.setCell ⟨g, i * 22 + 17, none⟩ (.int .i64 (up : Int))).setCell ⟨g, i * 22 + 19, none⟩ (.int .i64 bef)) = W1) := hW1
 have HY2 : Hid (DY K W1 p (S.setG (in1 L up i bef)) (some ⟨g, 0, none⟩) cap) := D2'
 have HK2 : Hid (Kept K w W1) := kk
 clear hY1 hK1 D1 D2 D2' e1 hW1 kk
 go_upto_if 24 with (go_at_call 238; refine (ri _ ?_).mono ?_; exact c1; rintro e w2 ⟨rfl, rfl⟩)
 rw [HW1.out]
 clear HW1 a0 a1 a2 f0 f2 c1
 have c1 : W1.cell? ⟨p, 1, none⟩ = some (.slice (some ⟨g, 0, none⟩) n cap) := by have := HY2.out.c1; rw [show (S.setG (in1 L up i bef)).n = n from HNE.out] at this; exact this
 go_cut [] (fun wx => DY K wx p (S.setG (in3 L up i bef P)) (some ⟨g, 0, none⟩) cap /\ Kept K w wx)
 case first =>
  by_cases hb1 : bef = -1
  ·subst hb1
   have eP : (in1 L up i (-1) up).last = P := by
    unfold in1
    rw [zbj _ _ hui, <- HP.out]; rfl
   obtain ⟨-, -, -, -, t4⟩ := HY2.out.gcell (i := up) huS
   replace t4 : W1.cell? ⟨g, up * 22 + 21, none⟩ = some (.int .i64 P) := by rw [<- eP]; exact t4
   obtain ⟨-, t1, -, -, -⟩ := HY2.out.gcell (i := i) hiS
   have D1 := HY2.out.setGprev (i := i) hiS P
   have f1 := HY2.out.fg (i * 22 + 18)
   have f2 := D1.1.fg (up * 22 + 21)
   have D2 := D1.1.setGlast (i := up) huS (i : Int)
   obtain ⟨-, -, -, -, t5⟩ := D1.1.gcell (i := up) huS
   have c2 : (W1.setCell ⟨g, i * 22 + 18, none⟩ (.int .i64 P)).cell? ⟨p, 1, none⟩ = some (.slice (some ⟨g, 0, none⟩) n cap) := by
    rw [World.cell?_setCell_other _ _ _ _ (fun e => by injection e with e1; exact hgp e1)]; exact c1
   have HD : Hid (DY K ((W1.setCell ⟨g, i * 22 + 18, none⟩ (.int .i64 P)).setCell ⟨g, up * 22 + 21, none⟩ (.int .i64 (i : Int))) p (S.setG (in3 L up i (-1) P)) (some ⟨g, 0, none⟩) cap) := D2.1
   have HK : Hid (Kept K w ((W1.setCell ⟨g, i * 22 + 18, none⟩ (.int .i64 P)).setCell ⟨g, up * 22 + 21, none⟩ (.int .i64 (i : Int)))) := HK2.out.trans (D1.2.trans D2.2)
   clear D1 D2 eP HP HPO HB H3 HNE
   go_wp2_with (first | (go_at_call 238; refine (ru _ ?_).mono ?_; exact c1; rintro e w2 ⟨rfl, hw2⟩; subst hw2) | (go_at_call 238; refine (ru _ ?_).mono ?_; exact c2; rintro e w2 ⟨rfl, hw2⟩; subst hw2))
   go_meet
   case rel => exact ⟨HD.out, HK.out⟩
  ·rcases HB.out with e0 | ⟨m, hm, hmi, e0⟩
   ·exact absurd e0 hb1
   subst e0
   have eb : ¬ ((m : Int) = -1) := hb1
   have hmS : m < (S.setG L).n := by show m < S.n; rw [HNE.out]; exact hm
   have eP : (in1 L up i (m : Int) m).prev = P := by
    unfold in1
    rw [zbj _ _ hmi, <- HP.out]
    unfold zh9
    rw [if_neg eb, Int.toNat_natCast]
   obtain ⟨-, t4, -, -, -⟩ := HY2.out.gcell (i := m) hmS
   replace t4 : W1.cell? ⟨g, m * 22 + 18, none⟩ = some (.int .i64 P) := by rw [<- eP]; exact t4
   obtain ⟨-, t1, -, -, -⟩ := HY2.out.gcell (i := i) hiS
   have D1 := HY2.out.setGprev (i := i) hiS P
   have f1 := HY2.out.fg (i * 22 + 18)
   have f2 := D1.1.fg (m * 22 + 18)
   have D2 := D1.1.setGprev (i := m) hmS (i : Int)
   obtain ⟨-, t5, -, -, -⟩ := D1.1.gcell (i := m) hmS
   have c2 : (W1.setCell ⟨g, i * 22 + 18, none⟩ (.int .i64 P)).cell? ⟨p, 1, none⟩ = some (.slice (some ⟨g, 0, none⟩) n cap) := by
    rw [World.cell?_setCell_other _ _ _ _ (fun e => by injection e with e1; exact hgp e1)]; exact c1
   have e3 : in3 L up i (m : Int) P = zaw (in2 L up i (m : Int) P) m { in2 L up i (m : Int) P m with prev := (i : Int) } := by
    unfold in3
    rw [if_neg eb, Int.toNat_natCast]
   have HD : Hid (DY K ((W1.setCell ⟨g, i * 22 + 18, none⟩ (.int .i64 P)).setCell ⟨g, m * 22 + 18, none⟩ (.int .i64 (i : Int))) p (S.setG (in3 L up i (m : Int) P)) (some ⟨g, 0, none⟩) cap) := by rw [e3]; exact D2.1
   have HK : Hid (Kept K w ((W1.setCell ⟨g, i * 22 + 18, none⟩ (.int .i64 P)).setCell ⟨g, m * 22 + 18, none⟩ (.int .i64 (i : Int)))) := HK2.out.trans (D1.2.trans D2.2)
   have hm0 : ((m : Int) == -1) = false := by simp
   have rm := r1 m hm
   clear D1 D2 eP HP HPO HB H3 HNE e3 hb1
   go_wp2_with (first | (go_at_call 238; refine (rm _ ?_).mono ?_; exact c1; rintro e w2 ⟨rfl, hw2⟩; subst hw2) | (go_at_call 238; refine (rm _ ?_).mono ?_; exact c2; rintro e w2 ⟨rfl, hw2⟩; subst hw2))
   go_meet
   case rel => exact ⟨HD.out, HK.out⟩
 case rest =>
  obtain ⟨hY3, hK3⟩ := hcut
  clear c1 HY2 HK2
  have c1 : wc.cell? ⟨p, 1, none⟩ = some (.slice (some ⟨g, 0, none⟩) n cap) := by have := hY3.c1; rw [show (S.setG (in3 L up i bef P)).n = n from HNE.out] at this; exact this
  obtain ⟨-, t1, -, -, -⟩ := hY3.gcell (i := i) hiS
  replace t1 : wc.cell? ⟨g, i * 22 + 18, none⟩ = some (.int .i64 P) := by
   rw [show (S.setG (in3 L up i bef P)).gf i = in3 L up i bef P i from rfl, H3.out] at t1
   exact t1
  by_cases hP1 : P = -1
  ·subst hP1
   obtain ⟨-, -, -, t3, -⟩ := hY3.gcell (i := up) huS
   have f3 := hY3.fg (up * 22 + 20)
   have D := hY3.setGfirst (i := up) huS (i : Int)
   have HD : Hid (DY K (wc.setCell ⟨g, up * 22 + 20, none⟩ (.int .i64 (i : Int))) p (S.setG (in4 L up i bef (-1))) (some ⟨g, 0, none⟩) cap) := D.1
   have HK : Hid (Kept K w (wc.setCell ⟨g, up * 22 + 20, none⟩ (.int .i64 (i : Int)))) := hK3.trans D.2
   clear D hY3 hK3 HP HPO HB H3 HNE
   go_wp2_with (go_at_call 238; refine (ru _ ?_).mono ?_; exact c1; rintro e w2 ⟨rfl, hw2⟩; subst hw2)
   go_end0
   exact ⟨rfl, HD.out, HK.out⟩
  ·rcases HPO.out with e0 | ⟨q, hq, hqi, e0⟩
   ·exact absurd e0 hP1
   subst e0
   have eb : ¬ ((q : Int) = -1) := hP1
   have hqS : q < (S.setG L).n := by show q < S.n; rw [HNE.out]; exact hq
   obtain ⟨-, -, t3, -, -⟩ := hY3.gcell (i := q) hqS
   have f3 := hY3.fg (q * 22 + 19)
   have D := hY3.setGnext (i := q) hqS (i : Int)
   have e4 : in4 L up i bef (q : Int) = zaw (in3 L up i bef (q : Int)) q { in3 L up i bef (q : Int) q with next := (i : Int) } := by
    unfold in4
    rw [if_neg eb, Int.toNat_natCast]
   have HD : Hid (DY K (wc.setCell ⟨g, q * 22 + 19, none⟩ (.int .i64 (i : Int))) p (S.setG (in4 L up i bef (q : Int))) (some ⟨g, 0, none⟩) cap) := by rw [e4]; exact D.1
   have HK : Hid (Kept K w (wc.setCell ⟨g, q * 22 + 19, none⟩ (.int .i64 (i : Int)))) := hK3.trans D.2
   have hq0 : ((q : Int) == -1) = false := by simp
   have rq := r1 q hq
   clear D hY3 hK3 HP HPO HB H3 HNE e4 hP1
   go_wp2_with (go_at_call 238; refine (rq _ ?_).mono ?_; exact c1; rintro e w2 ⟨rfl, hw2⟩; subst hw2)
   go_end0
   exact ⟨rfl, HD.out, HK.out⟩
end
section
open Go.RowKit
theorem ze1 (p n cap : Nat) (ga : Option Addr) (i z : Int) (w : World) (hc : w.cell? ⟨p, 1, none⟩ = some (.slice ga n cap)) (hi : i < 0 \/ (n : Int) <= i) (hn : n <= 1000000000) :
  Calls Tryz.prog 135 #[.pointer (some ⟨p, 0, none⟩), .int .i64 i, .int .u16 z] w fun e w' => e = .returned (.tuple #[.pointer none, .int .u16 80]) /\ w' = w := by
 have r := zfk p n cap ga i w hc hi hn
 clear hc hi
 go_enter Tryz.func135, Tryz.ntmps135
 go_wp2_with (go_at_call 110; refine r.mono ?_; rintro e w2 ⟨rfl, hw2⟩; replace hw2 := hw2.symm; subst hw2)
 go_ret2
 exact ⟨rfl, rfl⟩
theorem zd2 (p g n cap i kd : Nat) (z : Int) (w : World) (hc : w.cell? ⟨p, 1, none⟩ = some (.slice (some ⟨g, 0, none⟩) n cap)) (hi : i < n) (hn : n <= 1000000000) (hkd : kd ≠ 1) (h0 : w.cell? ⟨g, i * 22, none⟩ = some (.int .u8 (kd : Int))) :
  Calls Tryz.prog 135 #[.pointer (some ⟨p, 0, none⟩), .int .i64 (i : Int), .int .u16 z] w fun e w' => e = .returned (.tuple #[.pointer none, .int .u16 z]) /\ w' = w := by
 have r := zcs p g n cap i w hc hi hn
 have e1 : ((kd : Int) == 1) = false := by simp; omega
 have e2 : ¬ (kd : Int) = 1 := by omega
 clear hc
 go_enter Tryz.func135, Tryz.ntmps135
 go_wp2_with (go_at_call 110; refine r.mono ?_; rintro e w2 ⟨rfl, hw2⟩; replace hw2 := hw2.symm; subst hw2)
 go_ret2
 exact ⟨rfl, rfl⟩
def shN (f : Fg) : Nd := ⟨5, [], [], [], f, 0, 0, 0⟩
abbrev shC (f : Fg) : Array Value := #[.int .u8 5, .string ⟨#[]⟩, .string ⟨#[]⟩, .slice none 0 0, .bool f.a, .bool f.b, .bool f.c, .bool f.d, .bool f.e, .int .i64 0, .int .i64 0, .int .i64 0, .int .i64 0, .int .i64 0, .int .i64 0, .int .i64 0, .int .i64 0, .int .i64 0, .int .i64 0, .int .i64 0, .int .i64 0, .int .i64 0]
theorem zp3 (f : Fg) : Tryz.prog.built 114 [(0, .int .u8 5), (4, .agg #[.bool f.a, .bool f.b, .bool f.c, .bool f.d, .bool f.e])] = some (shC f) := by kernel_rfl
theorem zrh (f : Fg) : ndV (shN f) lk0 lk0 none 0 = .agg (shC f) := rfl
abbrev fgV (f : Fg) : Value := .agg #[.bool f.a, .bool f.b, .bool f.c, .bool f.d, .bool f.e]
def Dm.addR (M : Dm) (host : Nat) (f : Fg) : Dm := ((M.add (shN f)).setN M.n { (M.add (shN f)).nd M.n with host := (host : Int) }).setN host { ((M.add (shN f)).setN M.n { (M.add (shN f)).nd M.n with host := (host : Int) }).nd host with shadow := (M.n : Int) }
theorem zm9 (K : Nat -> Prop) (p : Nat) (M : Dm) (i : Int) (f : Fg) (w : World) (h : DX K w p M) (hi : i < 0 \/ (M.n : Int) <= i) (hn : M.n <= 1000000) :
  Calls Tryz.prog 69 #[.pointer (some ⟨p, 0, none⟩), .int .i64 i, fgV f] w fun e w' => e = .returned (.tuple #[.int .i64 0, .int .u16 80]) /\ Kept (fun k => k < w.heap.size) w w' := by
 obtain ⟨ga, cap, hY⟩ := h
 obtain ⟨W, hW⟩ : ∃ W, w.alloc (.cells #[.bool f.a, .bool f.b, .bool f.c, .bool f.d, .bool f.e] 48) = W := ⟨_, rfl⟩
 have kW : Kept (fun k => k < w.heap.size) w W := by rw [<- hW]; exact (Kept.refl _ w).alloc (fun _ h => h) _
 have hYW := hY.kept kW
 have r := ze1 p M.n cap ga i 100 W hYW.c1 hi (by omega)
 have HW : Hid (w.alloc (.cells #[.bool f.a, .bool f.b, .bool f.c, .bool f.d, .bool f.e] 48) = W) := hW
 have HK : Hid (Kept (fun k => k < w.heap.size) w W) := kW
 clear hY hYW hW kW hi
 go_enter Tryz.func69, Tryz.ntmps69
 go_upto_region 1 with fail
 rw [HW.out]
 go_wp2_with (go_at_call 135; refine r.mono ?_; rintro e w2 ⟨rfl, rfl⟩)
 go_ret2
 exact ⟨rfl, HK.out⟩
inductive Roots (K : Nat -> Prop) (p : Nat) (M : Dm) (host : Nat) (f : Fg) (e : Ending) (w' : World) : Prop
 | host : (M.nd host).kind ≠ 1 -> e = .returned (.tuple #[.int .i64 0, .int .u16 100]) -> DX K w' p M -> Roots K p M host f e w'
 | twice : (M.nd host).kind = 1 -> (M.nd host).shadow ≠ -1 -> e = .returned (.tuple #[.int .i64 0, .int .u16 101]) -> DX K w' p M -> Roots K p M host f e w'
 | full : (M.nd host).kind = 1 -> (M.nd host).shadow = -1 -> M.limit < M.n + 1 -> e = .returned (.tuple #[.int .i64 0, .int .u16 3]) -> DX K w' p M -> Roots K p M host f e w'
 | made : (M.nd host).kind = 1 -> (M.nd host).shadow = -1 -> M.n + 1 <= M.limit -> e = .returned (.tuple #[.int .i64 (M.n : Int), .int .u16 0]) -> DX K w' p (M.addR host f) -> Roots K p M host f e w'
theorem zmh (K : Nat -> Prop) (p host : Nat) (M : Dm) (f : Fg) (w : World) (h : DX K w p M) (hi : host < M.n) (hn : M.n <= 100000) (hL : M.limit <= 100000) :
  Calls Tryz.prog 69 #[.pointer (some ⟨p, 0, none⟩), .int .i64 (host : Int), fgV f] w fun e w' => Kept K w w' /\ Roots K p M host f e w' := by
 obtain ⟨ga, cap, hY⟩ := h
 obtain ⟨g, rfl, gk, gp, gl⟩ := hY.at (by omega)
 obtain ⟨W, hW⟩ : ∃ W, w.alloc (.cells #[.bool f.a, .bool f.b, .bool f.c, .bool f.d, .bool f.e] 48) = W := ⟨_, rfl⟩
 obtain ⟨N, hN⟩ : ∃ N, w.heap.size = N := ⟨_, rfl⟩
 have kW : Kept (fun k => k < w.heap.size) w W := by rw [<- hW]; exact (Kept.refl _ w).alloc (fun _ h => h) _
 have hYW := hY.kept kW
 have hfb : W.heap[N]? = some (.cells #[.bool f.a, .bool f.b, .bool f.c, .bool f.d, .bool f.e] 48 (0, 0)) := by rw [<- hW, <- hN]; exact heap_alloc_new w _
 have b0 : W.cell? ⟨N, 0, none⟩ = some (.bool f.a) := by rw [zaa hfb]; rfl
 have b1 : W.cell? ⟨N, 1, none⟩ = some (.bool f.b) := by rw [zaa hfb]; rfl
 have b2 : W.cell? ⟨N, 2, none⟩ = some (.bool f.c) := by rw [zaa hfb]; rfl
 have b3 : W.cell? ⟨N, 3, none⟩ = some (.bool f.d) := by rw [zaa hfb]; rfl
 have b4 : W.cell? ⟨N, 4, none⟩ = some (.bool f.e) := by rw [zaa hfb]; rfl
 clear hfb
 obtain ⟨aa, ac, hcell, -⟩ := hYW.cell hi
 have c0 : W.cell? ⟨g, host * 22, none⟩ = some (.int .u8 ((M.nd host).kind : Int)) := hcell 0 _ rfl
 have c9 : W.cell? ⟨g, host * 22 + 9, none⟩ = some (.int .i64 (M.nd host).shadow) := hcell 9 _ rfl
 have HW : Hid (w.alloc (.cells #[.bool f.a, .bool f.b, .bool f.c, .bool f.d, .bool f.e] 48) = W) := hW
 have HN : Hid (w.heap.size = N) := hN
 have HKW : Hid (Kept (fun k => k < w.heap.size) w W) := kW
 have HY : Hid (DY K W p M (some ⟨g, 0, none⟩) cap) := hYW
 have HKl : Hid (∀ k, K k -> k < w.heap.size) := hY.1
 have c1 := hYW.c1
 obtain ⟨kd, hkd⟩ : ∃ kd, (M.nd host).kind = kd := ⟨_, rfl⟩
 by_cases hk1 : kd = 1
 ·subst hk1
  rw [hkd] at c0
  have r := zdt p g M.n cap host 100 W c1 hi (by omega) c0
  have HKD : Hid ((M.nd host).kind = 1) := hkd
  obtain ⟨s, hs⟩ : ∃ s, (M.nd host).shadow = s := ⟨_, rfl⟩
  have HSH : Hid ((M.nd host).shadow = s) := hs
  rw [hs] at c9
  by_cases hsn : s = -1
  ·subst hsn
   have rm := zfe K p M (some ⟨g, 0, none⟩) cap W W hYW (Kept.refl _ _) (by omega) (by omega) (shN f) lk0 lk0 none 0 (Zac.nil _ _ _ _)
   rw [zrh] at rm
   have hbu := zp3 f
   clear hY hYW hW hN kW hcell c0 hkd hs c1
   go_enter Tryz.func69, Tryz.ntmps69
   go_upto_region 1 with fail
   rw [HW.out, HN.out]
   go_upto_region 6 with (go_at_call 135; refine r.mono ?_; rintro e w2 ⟨rfl, hw2⟩; replace hw2 := hw2.symm; subst hw2)
   go_wp2_with fail
   refine rm.mono ?_
   rintro e w3 ⟨hK3, hM3⟩
   rcases hM3 with ⟨hroom, rfl, hX3⟩ | ⟨hroom, rfl, hX3⟩
   ·obtain ⟨ga3, cap3, hY3⟩ := hX3
    obtain ⟨g3, rfl, -, -, -⟩ := hY3.at (Nat.succ_pos _)
    have hiA : M.n < (M.add (shN f)).n := Nat.lt_succ_self _
    obtain ⟨aa3, ac3, hc3, -⟩ := hY3.cell hiA
    obtain ⟨hY4, hK4⟩ := hY3.setNhost hiA (host : Int)
    have hiB : host < ((M.add (shN f)).setN M.n { (M.add (shN f)).nd M.n with host := (host : Int) }).n := Nat.lt_succ_of_lt hi
    obtain ⟨aa4, ac4, hc4, -⟩ := hY4.cell hiB
    obtain ⟨hY5, hK5⟩ := hY4.setNshadow hiB (M.n : Int)
    have d1 := hY3.c1
    have d2 : w3.cell? ⟨g3, M.n * 22 + 10, none⟩ = some (.int .i64 ((M.add (shN f)).nd M.n).host) := hc3 10 _ rfl
    have d3 : w3.frozen? ⟨g3, M.n * 22 + 10, none⟩ = false := hY3.fg _
    have d4 := hY4.c1
    have d5 : (w3.setCell ⟨g3, M.n * 22 + 10, none⟩ (.int .i64 (host : Int))).cell? ⟨g3, host * 22 + 9, none⟩ = some (.int .i64 (((M.add (shN f)).setN M.n { (M.add (shN f)).nd M.n with host := (host : Int) }).nd host).shadow) := hc4 9 _ rfl
    have d6 : (w3.setCell ⟨g3, M.n * 22 + 10, none⟩ (.int .i64 (host : Int))).frozen? ⟨g3, host * 22 + 9, none⟩ = false := hY4.fg _
    have HX5 : Hid (DX K ((w3.setCell ⟨g3, M.n * 22 + 10, none⟩ (.int .i64 (host : Int))).setCell ⟨g3, host * 22 + 9, none⟩ (.int .i64 (M.n : Int))) p (M.addR host f)) := ⟨_, _, hY5⟩
    have HK5 : Hid (Kept K w ((w3.setCell ⟨g3, M.n * 22 + 10, none⟩ (.int .i64 (host : Int))).setCell ⟨g3, host * 22 + 9, none⟩ (.int .i64 (M.n : Int)))) := (((HKW.out.mono HKl.out).trans hK3).trans hK4).trans hK5
    have HN5 : Hid ((M.add (shN f)).n = M.n + 1) := rfl
    rw [HN5.out] at d1
    have d4' : (w3.setCell ⟨g3, M.n * 22 + 10, none⟩ (.int .i64 (host : Int))).cell? ⟨p, 1, none⟩ = some (.slice (some ⟨g3, 0, none⟩) (M.n + 1) cap3) := d4
    obtain ⟨n, hnE⟩ : ∃ n, M.n = n := ⟨_, rfl⟩
    obtain ⟨V, hV⟩ : ∃ V, w3.setCell ⟨g3, M.n * 22 + 10, none⟩ (.int .i64 (host : Int)) = V := ⟨_, rfl⟩
    rw [hV] at HX5 HK5 d4' d5 d6
    have HV : Hid (w3.setCell ⟨g3, n * 22 + 10, none⟩ (.int .i64 (host : Int)) = V) := by rw [<- hnE]; exact hV
    have HROOM : Hid (n + 1 <= M.limit) := by rw [<- hnE]; exact hroom
    rw [hnE] at HX5 HK5 d1 d2 d3 d4' hi ⊢
    have HNE : Hid (M.n = n) := hnE
    have hn2 : n <= 100000 := by omega
    clear hY3 hc3 hY4 hK4 hc4 hY5 hK5 d4 hK3 rm hbu hV hroom hiA hiB hnE hn HN5 r b0 b1 b2 b3 b4 c9
    go_upto_region 10 with fail
    rw [HV.out]
    go_wp2
    go_ret2
    exact ⟨HK5.out, .made HKD.out HSH.out (by rw [HNE.out]; exact HROOM.out) (by rw [HNE.out]; rfl) HX5.out⟩
   ·have HX3 : Hid (DX K w3 p M) := hX3
    have HK3 : Hid (Kept K w w3) := (HKW.out.mono HKl.out).trans hK3
    have HROOM : Hid (¬ M.n + 1 <= M.limit) := hroom
    clear hX3 hK3 rm hbu hroom r
    go_wp2
    go_ret2
    exact ⟨HK3.out, .full HKD.out HSH.out (by have := HROOM.out; omega) rfl HX3.out⟩
  ·have e1 : (s == -1) = false := by simpa using hsn
   clear hY hYW hW hN kW hcell c0 hkd hs c1
   go_enter Tryz.func69, Tryz.ntmps69
   go_upto_region 1 with fail
   rw [HW.out, HN.out]
   go_wp2_with (go_at_call 135; refine r.mono ?_; rintro e w2 ⟨rfl, hw2⟩; replace hw2 := hw2.symm; subst hw2)
   go_ret2
   exact ⟨HKW.out.mono HKl.out, .twice HKD.out (by rw [HSH.out]; exact hsn) rfl ⟨_, _, HY.out⟩⟩
 ·rw [hkd] at c0
  have r := zd2 p g M.n cap host kd 100 W c1 hi (by omega) hk1 c0
  have HKD : Hid ((M.nd host).kind = kd) := hkd
  clear hY hYW hW hN kW hcell c0 hkd c1 c9
  go_enter Tryz.func69, Tryz.ntmps69
  go_upto_region 1 with fail
  rw [HW.out, HN.out]
  go_wp2_with (go_at_call 135; refine r.mono ?_; rintro e w2 ⟨rfl, rfl⟩)
  go_ret2
  exact ⟨HKW.out.mono HKl.out, .host (by rw [HKD.out]; exact hk1) rfl ⟨_, _, HY.out⟩⟩
theorem zdj (M : Dm) (host : Nat) (f : Fg) {k : Nat} (hk : k ≠ M.n) (hh : k ≠ host) : (M.addR host f).nd k = M.nd k := by
 show (if k = host then _ else if k = M.n then _ else if k = M.n then _ else M.nd k) = M.nd k
 rw [if_neg hh, if_neg hk, if_neg hk]
theorem zc0 (M : Dm) (host : Nat) (f : Fg) (hh : host ≠ M.n) : (M.addR host f).nd host = { M.nd host with shadow := (M.n : Int) } := by
 show (if host = host then { (if host = M.n then _ else if host = M.n then _ else M.nd host : Nd) with shadow := (M.n : Int) } else _) = _
 rw [if_pos rfl, if_neg hh, if_neg hh]
theorem zeb (M : Dm) (host : Nat) (f : Fg) (hh : host ≠ M.n) : (M.addR host f).nd M.n = { (shN f).new with host := (host : Int) } := by
 show (if M.n = host then _ else if M.n = M.n then { (if M.n = M.n then (shN f).new else M.nd M.n : Nd) with host := (host : Int) } else _) = _
 rw [if_neg (fun e => hh e.symm), if_pos rfl, if_pos rfl]
end
section
open Go.RowKit
abbrev za2 : Array Value := #[.int .u8 0, .string ⟨#[]⟩, .string ⟨#[]⟩, .slice none 0 0, .int .i64 0, .slice none 0 0, .int .i64 0, .int .i64 0, .int .i64 0, .bool false, .bool false, .bool false, .bool false, .bool false]
theorem zig (K : Nat -> Prop) (p : Nat) (M : Dm) (i : Int) (w : World) (h : DX K w p M) (hi : i < 0 \/ (M.n : Int) <= i) (hn : M.n <= 1000000) :
  Calls Tryz.prog 41 #[.pointer (some ⟨p, 0, none⟩), .int .i64 i] w fun e w' => e = .returned (.tuple #[.agg za2, .int .u16 80]) /\ Kept (fun k => k < w.heap.size) w w' := by
 obtain ⟨ga, cap, hY⟩ := h
 obtain ⟨W, hW⟩ : ∃ W, w.alloc (.cells za2 58) = W := ⟨_, rfl⟩
 have kW : Kept (fun k => k < w.heap.size) w W := by rw [<- hW]; exact (Kept.refl _ w).alloc (fun _ h => h) _
 have hYW := hY.kept kW
 have r := zfk p M.n cap ga i W hYW.c1 hi (by omega)
 have HW : Hid (w.alloc (.cells za2 58) = W) := hW
 obtain ⟨N, hN⟩ : ∃ N, w.heap.size = N := ⟨_, rfl⟩
 have HN : Hid (w.heap.size = N) := hN
 have hb : W.heap[N]? = some (.cells za2 58 (0, 0)) := by rw [<- hW, <- hN]; exact heap_alloc_new w _
 have HK : Hid (Kept (fun k => k < w.heap.size) w W) := kW
 clear hN hY hYW hW kW hi
 go_enter Tryz.func41, Tryz.ntmps41
 go_upto_region 1 with fail
 rw [HW.out, HN.out]
 go_wp2_with (first | (go_at_call 110; refine r.mono ?_; rintro e w2 ⟨rfl, hw2⟩; replace hw2 := hw2.symm; subst hw2) | (refine wpList_store_row rfl 58 _ _ rfl N za2 rfl rfl 58 za2 hb zfz rfl (by kernel_rfl) ?_))
 exact bodyPost_ret (res41 _ _ N za2 rfl rfl (setRow_heap _ _ _ _ _ _ hb) rfl) rfl ⟨rfl, zaq HK.out (by rw [HN.out]; exact Nat.lt_irrefl _) za2⟩
end
end Go.Proofs.YtfeinppedejlpaaGreat
