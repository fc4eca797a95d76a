/-
 A node is put into a row, in memory (chain.put), for the chain of places.; The document's own element, may, Sound.; The document's own may, Sound.
-/
import Derived.Test.YtfeinppedejlpaaGreatNB05
import Derived.Test.YtfeinppedejlpaaGreatNB07
import Derived.Deep.Cut
import Derived.Deep.RegionWith
import Derived.Deep.RegionHeld3
import Derived.Deep.RegionLaw
import Derived.Lib.QuietBelow
namespace Go.Proofs.YtfeinppedejlpaaGreat
set_option linter.unusedVariables false
set_option maxRecDepth 100000
set_option maxHeartbeats 8000000
section
open Go.RowKit
def zdn (L : Nat -> Lk) (up i : Nat) (bef : Int) : Nat -> Lk := inL (zct L i) up i bef (zh9 (zct L i) up bef)
def Zfq (n : Nat) (L : Nat -> Lk) (up i : Nat) (bef : Int) : Prop := bef = -1 \/ ∃ m : Nat, m < n /\ m ≠ i /\ bef = (m : Int) /\ (L m).up = (up : Int)
theorem zdi {L : Nat -> Lk} {i k : Nat} (h : k ≠ i) : (zct L i k).up = (L k).up := by
 unfold zct
 by_cases c : (L i).up = -1
 ·rw [if_pos c]
 ·rw [if_neg c]; dsimp only; rw [if_neg h]
theorem zmc {n : Nat} {L : Nat -> Lk} {R : Nat -> List Nat} (h : WF n L R) {up i : Nat} (hu : up < n) (hi : i < n) {bef : Int} (hb : Zfq n L up i bef) : ∃ a b, At (zcy L R i up) bef a b := by
 rcases hb with hb | ⟨m, hm, hmi, rfl, hmu⟩
 ·exact ⟨_, _, .last hb⟩
 ·rcases (h.out hi).inn m hm with h0 | ⟨v, hv, h1, h2⟩
  ·rw [zdi hmi] at h0; omega
  ·rw [zdi hmi] at h1
   have : v = up := by omega
   subst this
   obtain ⟨a, b, e⟩ := zc5 h2
   exact ⟨a, m :: b, .mid rfl e⟩
theorem WF.putOk {n : Nat} {L : Nat -> Lk} {R : Nat -> List Nat} (h : WF n L R) {up i : Nat} (hu : up < n) (hi : i < n) {bef : Int} {a b : List Nat} (ha : At (zcy L R i up) bef a b) : WF n (zdn L up i bef) (zax (zcy L R i) up (a ++ i :: b)) :=
 (h.out hi).put hu hi zia ha
theorem zi7 {n : Nat} {L : Nat -> Lk} {R : Nat -> List Nat} (h : WF n L R) {up i : Nat} (hu : up < n) (hi : i < n) {bef : Int} (hb : Zfq n L up i bef) : zh9 (zct L i) up bef = -1 \/ ∃ q : Nat, q < n /\ q ≠ i /\ zh9 (zct L i) up bef = (q : Int) := by
 obtain ⟨a, b, ha⟩ := zmc h hu hi hb
 rw [zlv (h.out hi) hu ha]
 rcases ze2 a with ⟨-, e⟩ | ⟨m, m1, e⟩
 ·exact .inl e
 ·have hm : m ∈ zcy L R i up := by rw [ha.eq]; exact List.mem_append_left _ m1
  exact .inr ⟨m, (h.out hi).lt up hu m hm, fun e' => zk0 h hi hu (e' ▸ hm), e⟩
def in1 (L : Nat -> Lk) (up i : Nat) (bef : Int) : Nat -> Lk := zaw L i { L i with up := (up : Int), next := bef }
def in2 (L : Nat -> Lk) (up i : Nat) (bef P : Int) : Nat -> Lk := zaw (in1 L up i bef) i { in1 L up i bef i with prev := P }
def in3 (L : Nat -> Lk) (up i : Nat) (bef P : Int) : Nat -> Lk := if bef = -1 then zaw (in2 L up i bef P) up { in2 L up i bef P up with last := (i : Int) } else zaw (in2 L up i bef P) bef.toNat { in2 L up i bef P bef.toNat with prev := (i : Int) }
def in4 (L : Nat -> Lk) (up i : Nat) (bef P : Int) : Nat -> Lk := if P = -1 then zaw (in3 L up i bef P) up { in3 L up i bef P up with first := (i : Int) } else zaw (in3 L up i bef P) P.toNat { in3 L up i bef P P.toNat with next := (i : Int) }
theorem zjl (L : Nat -> Lk) (up i : Nat) (bef P : Int) : in2 L up i bef P = zaw L i ⟨(up : Int), P, bef, (L i).first, (L i).last⟩ := by
 unfold in2 in1
 rw [zbz, zau]
theorem zpo {L : Nat -> Lk} {up i : Nat} {bef P : Int} (hui : up ≠ i) (hb : bef = -1 \/ ∃ m : Nat, m ≠ i /\ bef = (m : Int)) : in3 L up i bef P i = ⟨(up : Int), P, bef, (L i).first, (L i).last⟩ := by
 unfold in3
 rw [zjl]
 rcases hb with hb | ⟨m, hm, rfl⟩
 ·rw [if_pos hb, zbj _ _ (fun e => hui e.symm), zau]
 ·rw [if_neg (by omega), Int.toNat_natCast, zbj _ _ (fun e => hm e.symm), zau]
theorem zpj {L : Nat -> Lk} {up i : Nat} {bef P : Int} (hui : up ≠ i) (hb : bef = -1 \/ ∃ m : Nat, m ≠ i /\ bef = (m : Int)) (hP : P = -1 \/ ∃ q : Nat, q ≠ i /\ P = (q : Int)) : in4 L up i bef P = inL L up i bef P := by
 funext k
 unfold in4 in3 inL
 rw [zjl]
 have e1 : ¬ ((k : Int) = -1) := by omega
 rcases hb with rfl | ⟨m, hm, rfl⟩ <;> rcases hP with rfl | ⟨q, hq, rfl⟩ <;> unfold zaw
 ·by_cases c : k = i
  ·subst c
   have : ¬ k = up := fun e => hui e.symm
   simp [*]
  ·by_cases c' : k = up
   ·subst c'; simp [*]
   ·simp [*]
 ·have e2 : ¬ ((q : Int) = -1) := by omega
  by_cases c : k = i
  ·subst c
   have : ¬ k = up := fun e => hui e.symm
   have : ¬ k = q := fun e => hq e.symm
   simp [*]
  ·by_cases c' : k = up
   ·subst c'
    by_cases c2 : k = q
    ·subst c2; simp [*]
    ·have : ¬ (k : Int) = (q : Int) := by omega
     simp [*]
   ·by_cases c2 : k = q
    ·subst c2; simp [*]
    ·have : ¬ (k : Int) = (q : Int) := by omega
     simp [*]
 ·have e2 : ¬ ((m : Int) = -1) := by omega
  by_cases c : k = i
  ·subst c
   have : ¬ k = up := fun e => hui e.symm
   have : ¬ k = m := fun e => hm e.symm
   simp [*]
  ·by_cases c' : k = up
   ·subst c'
    by_cases c2 : k = m
    ·subst c2; simp [*]
    ·have : ¬ (k : Int) = (m : Int) := by omega
     simp [*]
   ·by_cases c2 : k = m
    ·subst c2; simp [*]
    ·have : ¬ (k : Int) = (m : Int) := by omega
     simp [*]
 ·have e2 : ¬ ((m : Int) = -1) := by omega
  have e3 : ¬ ((q : Int) = -1) := by omega
  by_cases c : k = i
  ·subst c
   have : ¬ k = q := fun e => hq e.symm
   have : ¬ k = m := fun e => hm e.symm
   simp [*]
  ·by_cases c' : k = q
   ·subst c'
    by_cases c2 : k = m
    ·subst c2; simp [*]
    ·have : ¬ (k : Int) = (m : Int) := by omega
     simp [*]
   ·have : ¬ (k : Int) = (q : Int) := by omega
    by_cases c2 : k = m
    ·subst c2; simp [*]
    ·have : ¬ (k : Int) = (m : Int) := by omega
     simp [*]
theorem zsj (K : Nat -> Prop) (p g cap up i : Nat) (bef : Int) (S : Dm) (R : Nat -> List Nat) (w : World) (h : DY K w p S (some ⟨g, 0, none⟩) cap) (hW : WF S.n S.pl R) (hu : up < S.n) (hi : i < S.n) (hui : up ≠ i) (hb : Zfq S.n S.pl up i bef) (hn : S.n <= 1000000000) :
  Calls Tryz.prog 181 #[chP p, .int .i64 (up : Int), .int .i64 (i : Int), .int .i64 bef] w fun e w' => e = .returned (.tuple #[]) /\ DY K w' p (S.setP (zdn S.pl up i bef)) (some ⟨g, 0, none⟩) cap /\ Kept K w w' := by
 obtain ⟨n, hne⟩ : ∃ n, S.n = n := ⟨_, rfl⟩
 have rt := zjt K p g cap i S R w h hW hi hn
 have hPo := zi7 hW hu hi hb
 obtain ⟨L, hL⟩ : ∃ L, zct S.pl i = L := ⟨_, rfl⟩
 have hput : zdn S.pl up i bef = inL L up i bef (zh9 L up bef) := by rw [<- hL]; rfl
 rw [hput]
 rw [hL] at rt hPo
 obtain ⟨P, hP⟩ : ∃ P, zh9 L up bef = P := ⟨_, rfl⟩
 rw [hP] at hPo ⊢
 have hb' : bef = -1 \/ ∃ m : Nat, m < n /\ m ≠ i /\ bef = (m : Int) := by
  rw [<- hne]
  rcases hb with hb | ⟨m, h1, h2, h3, _⟩
  ·exact .inl hb
  ·exact .inr ⟨m, h1, h2, h3⟩
 have hb2 : bef = -1 \/ ∃ m : Nat, m ≠ i /\ bef = (m : Int) := by
  rcases hb' with hb | ⟨m, _, h2, h3⟩
  ·exact .inl hb
  ·exact .inr ⟨m, h2, h3⟩
 have hP2 : P = -1 \/ ∃ q : Nat, q ≠ i /\ P = (q : Int) := by
  rcases hPo with hb | ⟨m, _, h2, h3⟩
  ·exact .inl hb
  ·exact .inr ⟨m, h2, h3⟩
 have hin4 := zpj (L := L) hui hb2 hP2
 have hin3 := zpo (L := L) (P := P) hui hb2
 rw [<- hin4]
 rw [hne] at hPo hu hi
 have r1 := fun (j : Nat) (hj : j < n) (X : World) (hX : X.cell? ⟨p, 1, none⟩ = some (.slice (some ⟨g, 0, none⟩) n cap)) => zdv p g n cap j X hX hj (by omega)
 have ri := r1 i hi
 have ru := r1 up hu
 have hgp := h.gk.2.1
 have HNE : Hid (S.n = n) := hne
 have HP : Hid (zh9 L up bef = P) := hP
 have HPO : Hid (P = -1 \/ ∃ q : Nat, q < n /\ q ≠ i /\ P = (q : Int)) := hPo
 have HB : Hid (bef = -1 \/ ∃ m : Nat, m < n /\ m ≠ i /\ bef = (m : Int)) := hb'
 have H3 : Hid (in3 L up i bef P i = ⟨(up : Int), P, bef, (L i).first, (L i).last⟩) := hin3
 clear h hW hL hput hP hne hPo hb' hb hb2 hP2 hin4 hin3
 go_enter Tryz.func181, Tryz.ntmps181
 go_wp2_with fail
 refine rt.mono ?_
 rintro e w1 ⟨rfl, hY1, hK1⟩
 clear rt
 have hiS : i < (S.setP L).n := by show i < S.n; rw [HNE.out]; exact hi
 have huS : up < (S.setP L).n := by show up < S.n; rw [HNE.out]; exact hu
 have c1 : w1.cell? ⟨p, 1, none⟩ = some (.slice (some ⟨g, 0, none⟩) n cap) := by have := hY1.c1; rw [show (S.setP L).n = n from HNE.out] at this; exact this
 obtain ⟨a0, a1, a2, -, -⟩ := hY1.pcell hiS
 have f0 := hY1.fg (i * 22 + 12)
 have f2 := hY1.fg (i * 22 + 14)
 have D1 := hY1.setPup hiS (up : Int)
 have D2 := D1.1.setPnext hiS bef
 have e1 : zaw (zaw L i { L i with up := (up : Int) }) i { zaw L i { L i with up := (up : Int) } i with next := bef } = in1 L up i bef := by
  rw [zbz, zau]; rfl
 have D2' : DY K ((w1.setCell ⟨g, i * 22 + 12, none⟩ (.int .i64 (up : Int))).setCell ⟨g, i * 22 + 14, none⟩ (.int .i64 bef)) p (S.setP (in1 L up i bef)) (some ⟨g, 0, none⟩) cap := by rw [<- e1]; exact D2.1
 have kk := hK1.trans (D1.2.trans D2.2)
 obtain ⟨W1, hW1⟩ : ∃ W1, ((w1.setCell ⟨g, i * 22 + 12, none⟩ (.int .i64 (up : Int))).setCell ⟨g, i * 22 + 14, none⟩ (.int .i64 bef)) = W1 := ⟨_, rfl⟩
 rw [hW1] at D2' kk
 have HW1 : Hid (((w1.setCell ⟨g, i * 22 + 12, none⟩ (.int .i64 (up : Int))).setCell ⟨g, i * 22 + 14, none⟩ (.int .i64 bef)) = W1) := hW1
 have HY2 : Hid (DY K W1 p (S.setP (in1 L up i bef)) (some ⟨g, 0, none⟩) cap) := D2'
 have HK2 : Hid (Kept K w W1) := kk
 clear hY1 hK1 D1 D2 D2' e1 hW1 kk
 go_upto_if 24 with (go_at_call 187; refine (ri _ ?_).mono ?_; exact c1; rintro e w2 ⟨rfl, rfl⟩)
 rw [HW1.out]
 clear HW1 a0 a1 a2 f0 f2 c1
 have c1 : W1.cell? ⟨p, 1, none⟩ = some (.slice (some ⟨g, 0, none⟩) n cap) := by have := HY2.out.c1; rw [show (S.setP (in1 L up i bef)).n = n from HNE.out] at this; exact this
 go_cut [] (fun wx => DY K wx p (S.setP (in3 L up i bef P)) (some ⟨g, 0, none⟩) cap /\ Kept K w wx)
 case first =>
  by_cases hb1 : bef = -1
  ·subst hb1
   have eP : (in1 L up i (-1) up).last = P := by
    unfold in1
    rw [zbj _ _ hui, <- HP.out]; rfl
   obtain ⟨-, -, -, -, t4⟩ := HY2.out.pcell (i := up) huS
   replace t4 : W1.cell? ⟨g, up * 22 + 16, none⟩ = some (.int .i64 P) := by rw [<- eP]; exact t4
   obtain ⟨-, t1, -, -, -⟩ := HY2.out.pcell (i := i) hiS
   have D1 := HY2.out.setPprev (i := i) hiS P
   have f1 := HY2.out.fg (i * 22 + 13)
   have f2 := D1.1.fg (up * 22 + 16)
   have D2 := D1.1.setPlast (i := up) huS (i : Int)
   obtain ⟨-, -, -, -, t5⟩ := D1.1.pcell (i := up) huS
   have c2 : (W1.setCell ⟨g, i * 22 + 13, none⟩ (.int .i64 P)).cell? ⟨p, 1, none⟩ = some (.slice (some ⟨g, 0, none⟩) n cap) := by
    rw [World.cell?_setCell_other _ _ _ _ (fun e => by injection e with e1; exact hgp e1)]; exact c1
   have HD : Hid (DY K ((W1.setCell ⟨g, i * 22 + 13, none⟩ (.int .i64 P)).setCell ⟨g, up * 22 + 16, none⟩ (.int .i64 (i : Int))) p (S.setP (in3 L up i (-1) P)) (some ⟨g, 0, none⟩) cap) := D2.1
   have HK : Hid (Kept K w ((W1.setCell ⟨g, i * 22 + 13, none⟩ (.int .i64 P)).setCell ⟨g, up * 22 + 16, none⟩ (.int .i64 (i : Int)))) := HK2.out.trans (D1.2.trans D2.2)
   clear D1 D2 eP HP HPO HB H3 HNE
   go_wp2_with (first | (go_at_call 187; refine (ru _ ?_).mono ?_; exact c1; rintro e w2 ⟨rfl, hw2⟩; subst hw2) | (go_at_call 187; refine (ru _ ?_).mono ?_; exact c2; rintro e w2 ⟨rfl, hw2⟩; subst hw2))
   go_meet
   case rel => exact ⟨HD.out, HK.out⟩
  ·rcases HB.out with e0 | ⟨m, hm, hmi, e0⟩
   ·exact absurd e0 hb1
   subst e0
   have eb : ¬ ((m : Int) = -1) := hb1
   have hmS : m < (S.setP L).n := by show m < S.n; rw [HNE.out]; exact hm
   have eP : (in1 L up i (m : Int) m).prev = P := by
    unfold in1
    rw [zbj _ _ hmi, <- HP.out]
    unfold zh9
    rw [if_neg eb, Int.toNat_natCast]
   obtain ⟨-, t4, -, -, -⟩ := HY2.out.pcell (i := m) hmS
   replace t4 : W1.cell? ⟨g, m * 22 + 13, none⟩ = some (.int .i64 P) := by rw [<- eP]; exact t4
   obtain ⟨-, t1, -, -, -⟩ := HY2.out.pcell (i := i) hiS
   have D1 := HY2.out.setPprev (i := i) hiS P
   have f1 := HY2.out.fg (i * 22 + 13)
   have f2 := D1.1.fg (m * 22 + 13)
   have D2 := D1.1.setPprev (i := m) hmS (i : Int)
   obtain ⟨-, t5, -, -, -⟩ := D1.1.pcell (i := m) hmS
   have c2 : (W1.setCell ⟨g, i * 22 + 13, none⟩ (.int .i64 P)).cell? ⟨p, 1, none⟩ = some (.slice (some ⟨g, 0, none⟩) n cap) := by
    rw [World.cell?_setCell_other _ _ _ _ (fun e => by injection e with e1; exact hgp e1)]; exact c1
   have e3 : in3 L up i (m : Int) P = zaw (in2 L up i (m : Int) P) m { in2 L up i (m : Int) P m with prev := (i : Int) } := by
    unfold in3
    rw [if_neg eb, Int.toNat_natCast]
   have HD : Hid (DY K ((W1.setCell ⟨g, i * 22 + 13, none⟩ (.int .i64 P)).setCell ⟨g, m * 22 + 13, none⟩ (.int .i64 (i : Int))) p (S.setP (in3 L up i (m : Int) P)) (some ⟨g, 0, none⟩) cap) := by rw [e3]; exact D2.1
   have HK : Hid (Kept K w ((W1.setCell ⟨g, i * 22 + 13, none⟩ (.int .i64 P)).setCell ⟨g, m * 22 + 13, none⟩ (.int .i64 (i : Int)))) := HK2.out.trans (D1.2.trans D2.2)
   have hm0 : ((m : Int) == -1) = false := by simp
   have rm := r1 m hm
   clear D1 D2 eP HP HPO HB H3 HNE e3 hb1
   go_wp2_with (first | (go_at_call 187; refine (rm _ ?_).mono ?_; exact c1; rintro e w2 ⟨rfl, hw2⟩; subst hw2) | (go_at_call 187; refine (rm _ ?_).mono ?_; exact c2; rintro e w2 ⟨rfl, hw2⟩; subst hw2))
   go_meet
   case rel => exact ⟨HD.out, HK.out⟩
 case rest =>
  obtain ⟨hY3, hK3⟩ := hcut
  clear c1 HY2 HK2
  have c1 : wc.cell? ⟨p, 1, none⟩ = some (.slice (some ⟨g, 0, none⟩) n cap) := by have := hY3.c1; rw [show (S.setP (in3 L up i bef P)).n = n from HNE.out] at this; exact this
  obtain ⟨-, t1, -, -, -⟩ := hY3.pcell (i := i) hiS
  replace t1 : wc.cell? ⟨g, i * 22 + 13, none⟩ = some (.int .i64 P) := by
   rw [show (S.setP (in3 L up i bef P)).pl i = in3 L up i bef P i from rfl, H3.out] at t1
   exact t1
  by_cases hP1 : P = -1
  ·subst hP1
   obtain ⟨-, -, -, t3, -⟩ := hY3.pcell (i := up) huS
   have f3 := hY3.fg (up * 22 + 15)
   have D := hY3.setPfirst (i := up) huS (i : Int)
   have HD : Hid (DY K (wc.setCell ⟨g, up * 22 + 15, none⟩ (.int .i64 (i : Int))) p (S.setP (in4 L up i bef (-1))) (some ⟨g, 0, none⟩) cap) := D.1
   have HK : Hid (Kept K w (wc.setCell ⟨g, up * 22 + 15, none⟩ (.int .i64 (i : Int)))) := hK3.trans D.2
   clear D hY3 hK3 HP HPO HB H3 HNE
   go_wp2_with (go_at_call 187; refine (ru _ ?_).mono ?_; exact c1; rintro e w2 ⟨rfl, hw2⟩; subst hw2)
   go_end0
   exact ⟨rfl, HD.out, HK.out⟩
  ·rcases HPO.out with e0 | ⟨q, hq, hqi, e0⟩
   ·exact absurd e0 hP1
   subst e0
   have eb : ¬ ((q : Int) = -1) := hP1
   have hqS : q < (S.setP L).n := by show q < S.n; rw [HNE.out]; exact hq
   obtain ⟨-, -, t3, -, -⟩ := hY3.pcell (i := q) hqS
   have f3 := hY3.fg (q * 22 + 14)
   have D := hY3.setPnext (i := q) hqS (i : Int)
   have e4 : in4 L up i bef (q : Int) = zaw (in3 L up i bef (q : Int)) q { in3 L up i bef (q : Int) q with next := (i : Int) } := by
    unfold in4
    rw [if_neg eb, Int.toNat_natCast]
   have HD : Hid (DY K (wc.setCell ⟨g, q * 22 + 14, none⟩ (.int .i64 (i : Int))) p (S.setP (in4 L up i bef (q : Int))) (some ⟨g, 0, none⟩) cap) := by rw [e4]; exact D.1
   have HK : Hid (Kept K w (wc.setCell ⟨g, q * 22 + 14, none⟩ (.int .i64 (i : Int)))) := hK3.trans D.2
   have hq0 : ((q : Int) == -1) = false := by simp
   have rq := r1 q hq
   clear D hY3 hK3 HP HPO HB H3 HNE e4 hP1
   go_wp2_with (go_at_call 187; refine (rq _ ?_).mono ?_; exact c1; rintro e w2 ⟨rfl, hw2⟩; subst hw2)
   go_end0
   exact ⟨rfl, HD.out, HK.out⟩
end
section
open Go.RowKit Go.Sort
theorem zn6 (l : List Atr) (n : List UInt8) : zni l n = (l.map fun x => x.name).contains n := by
 induction l with
 | nil => rfl
 | cons a r ih =>
  rw [zhy, ih, List.map_cons, List.contains_cons]
  congr 1
  exact Bool.beq_comm
theorem znr (l : List Atr) (k : Nat) (n : List UInt8) : zni (l.take k) n = (za5 l k).contains n := by
 rw [zn6]
 unfold za5
 rw [Bool.eq_iff_iff]
 simp
theorem Zag.take {K : Nat -> Prop} {w : World} {aa : Option Addr} {l : List Atr} (h : Zag K w aa l) (k : Nat) : Zag K w aa (l.take k) := fun j hj => by
 have hj' : j < l.length := by rw [List.length_take] at hj; omega
 obtain ⟨g, o, h1, h2, h3, h4⟩ := h j hj'
 rw [List.getElem_take]
 exact ⟨g, o, h1, h2, h3, h4⟩
abbrev izV (d : Int) (kd : Nat) (S D : ByteArray) (aa : Option Addr) (n ac : Nat) : Array Value := #[.int .i64 d, .int .u8 (kd : Int), .string S, .string D, .slice aa n ac]
theorem zhc (d : Int) (kd : Nat) (S D : ByteArray) (l : List Atr) (aa : Option Addr) (n ac : Nat) (hln : l.length = n) (hn : n <= 1000000) (hca : n <= ac) (hsz : ∀ x ∈ l, x.name.length < 1000000) (hS : S.size < 1000000) (w : World) (ha : Zag (fun k => k < w.heap.size) w aa l) :
  Calls Tryz.prog 283 #[.agg (izV d kd S D aa n ac)] w fun e w' => e = .returned (.bool ((za6 S.toList && D.toList == []) && za3 l)) /\ Kept (fun k => k < w.heap.size) w w' := by
 obtain ⟨W, hW⟩ : ∃ W, w.alloc (.cells (izV d kd S D aa n ac) 163) = W := ⟨_, rfl⟩
 obtain ⟨N, hN⟩ : ∃ N, w.heap.size = N := ⟨_, rfl⟩
 have kW : Kept (fun k => k < w.heap.size) w W := by rw [<- hW]; exact (Kept.refl _ w).alloc (fun _ h => h) _
 have hb : W.heap[N]? = some (.cells (izV d kd S D aa n ac) 163 (0, 0)) := by rw [<- hW, <- hN]; exact heap_alloc_new w _
 have haW : Zag (fun k => k < W.heap.size) W aa l := ha.kept kW fun k h => ltl h kW.size
 have hNW : N < W.heap.size := zad hb
 have HK : Hid (Kept (fun k => k < w.heap.size) w W) := kW
 have HW : Hid (w.alloc (.cells (izV d kd S D aa n ac) 163) = W) := hW
 have HN : Hid (w.heap.size = N) := hN
 have HA : Hid (Zag (fun k => k < W.heap.size) W aa l) := haW
 have HB : Hid (W.cell? ⟨N, 2, none⟩ = some (.string S) /\ W.cell? ⟨N, 3, none⟩ = some (.string D) /\ W.cell? ⟨N, 4, none⟩ = some (.slice aa n ac)) := ⟨by rw [zaa hb]; rfl, by rw [zaa hb]; rfl, by rw [zaa hb]; rfl⟩
 have HL : Hid (l.length = n) := hln
 have HSZ : Hid (∀ x ∈ l, x.name.length < 1000000) := hsz
 obtain ⟨A, hA⟩ : ∃ A, zcn [] l = A := ⟨_, rfl⟩
 have HA0 : Hid (zcn (za5 l 0) (l.drop 0) = A) := hA
 have hR0 : za3 l = (decide (l.length <= 50) && zcn [] l) := rfl
 rw [hln, hA] at hR0
 have HR : Hid (za3 l = (decide (n <= 50) && A)) := hR0
 rw [HR.out]
 obtain ⟨v, hv⟩ : ∃ v, za6 S.toList = v := ⟨_, rfl⟩
 have HV : Hid (za6 S.toList = v) := hv
 obtain ⟨e, he⟩ : ∃ e, (D.toList == []) = e := ⟨_, rfl⟩
 obtain ⟨b5, hb5⟩ : ∃ b, decide (n <= 50) = b := ⟨_, rfl⟩
 have HB5 : Hid (decide (n <= 50) = b5) := hb5
 rw [hv, he, hb5]
 clear hv hb5 hW hN kW hb haW ha hln hsz hA HR hR0
 go_enter Tryz.func283, Tryz.ntmps283
 go_upto_region 1 with fail
 rw [HW.out, HN.out]
 clear HW HN
 go_upto_region 2 with fail
 go_loopg [3] n (fun g v wr => ∃ (k : Nat), g = n - k /\ k <= n /\ v = .int .i64 k /\ zcn (za5 l k) (l.drop k) = A /\ Kept (fun k => k < W.heap.size) W wr)
 case atStart => exact ⟨0, rfl, Nat.zero_le _, rfl, HA0.out, Kept.refl _ _⟩
 case round =>
  clear HA0
  obtain ⟨k, hgk, hk, rfl, hAk, hKk⟩ := hrel
  have HKk : Hid (Kept (fun k => k < W.heap.size) W wr) := hKk
  have c4 : wr.cell? ⟨N, 4, none⟩ = some (.slice aa n ac) := (hKk.cell (p := ⟨N, 4, none⟩) hNW).trans HB.out.2.2
  by_cases hlt : k < n
  ·have hl : k < l.length := by rw [HL.out]; exact hlt
   obtain ⟨g, o, hg, hgl, c0, c1⟩ := HA.out k hl
   subst hg
   have d0 : wr.cell? ⟨g, o + k * 2, none⟩ = some (.string ⟨l[k].name.toArray⟩) := (hKk.cell (p := ⟨g, o + k * 2, none⟩) hgl).trans c0
   have d1 : wr.cell? ⟨g, o + k * 2 + 1, none⟩ = some (.string ⟨l[k].value.toArray⟩) := (hKk.cell (p := ⟨g, o + k * 2 + 1, none⟩) hgl).trans c1
   have hnl := HSZ.out l[k] (List.getElem_mem hl)
   rw [List.drop_eq_getElem_cons hl] at hAk
   obtain ⟨x, hx⟩ : ∃ x, l[k] = x := ⟨_, rfl⟩
   rw [hx] at hAk d0 d1 hnl
   have hAk' : ((zbg x && !(za5 l k).contains x.name) && zcn (x.name :: za5 l k) (l.drop (k + 1))) = A := hAk
   have eah : za5 l (k + 1) = x.name :: za5 l k := by
    rw [zdx l k hl, hx]
   rw [<- eah, <- znr] at hAk'
   obtain ⟨q, hq⟩ : ∃ q, zbg x = q := ⟨_, rfl⟩
   obtain ⟨h2, hh⟩ : ∃ h2, zni (l.take k) x.name = h2 := ⟨_, rfl⟩
   rw [hq] at hAk'
   rw [hh] at hAk'
   have htl : (l.take k).length = k := by rw [List.length_take]; omega
   have hxn : (⟨x.name.toArray⟩ : ByteArray).size < 1000000 := by show x.name.toArray.size < _; simpa using hnl
   have hW1 : ∀ dd os, Calls Tryz.prog 175 #[.agg #[.string ⟨x.name.toArray⟩, .string ⟨x.value.toArray⟩]] (grow (redrawn wr dd) os) fun e w'' => e = .returned (.bool q) /\ ∃ p : Regrown, w'' = grow (redrawn wr p.d) p.os := fun dd os => by
    have r := zco ⟨x.name.toArray⟩ ⟨x.value.toArray⟩ hxn (fun k => k < (grow (redrawn wr dd) os).heap.size) (grow (redrawn wr dd) os) (fun _ h => h)
    have e1 : zbg ⟨(⟨x.name.toArray⟩ : ByteArray).data.toList, (⟨x.value.toArray⟩ : ByteArray).data.toList⟩ = zbg x := rfl
    rw [e1, hq] at r
    exact Calls.regrown_of (r.mono fun e w' h => ⟨h.1, h.2.below⟩)
   have hH1 : ∀ dd os, Calls Tryz.prog 297 #[.slice (some ⟨g, o, none⟩) k ac, .string ⟨x.name.toArray⟩] (grow (redrawn wr dd) os) fun e w'' => e = .returned (.bool h2) /\ ∃ p : Regrown, w'' = grow (redrawn wr p.d) p.os := fun dd os => by
    have r := zn1 (l.take k) (some ⟨g, o, none⟩) ac ⟨x.name.toArray⟩ (by omega) (fun k => k < (grow (redrawn wr dd) os).heap.size) (fun _ => True) (grow (redrawn wr dd) os) (fun j hj => by
     obtain ⟨g', o', h1, h2', h3, h4⟩ := (HA.out.take k) j hj
     exact ⟨g', o', h1, trivial, cell_regrown ((HKk.out.cell (p := ⟨g', o' + j * 2, none⟩) h2').trans h3) dd os, cell_regrown ((HKk.out.cell (p := ⟨g', o' + j * 2 + 1, none⟩) h2').trans h4) dd os⟩)
    rw [htl] at r
    have e2 : zni (l.take k) (⟨x.name.toArray⟩ : ByteArray).data.toList = h2 := hh
    rw [e2] at r
    exact Calls.regrown_of (r.mono fun e w' h => ⟨h.1, h.2.below⟩)
   have HRES : Hid (((q && !h2) && zcn (za5 l (k + 1)) (l.drop (k + 1))) = A) := hAk'
   have hNr : N < wr.heap.size := ltl hNW hKk.size
   have hgr : g < wr.heap.size := ltl hgl hKk.size
   have c4r := fun dd os => cell_regrown c4 dd os
   have d0r := fun dd os => cell_regrown d0 dd os
   have d1r := fun dd os => cell_regrown d1 dd os
   clear hAk hAk' eah hx hq hh htl hnl c0 c1 hKk hxn
   go_upto_region 4 with fail
   go_cut [30] from 11 to 29 (fun v wx => v = .bool (!q || h2) /\ Kept (fun k => k < wr.heap.size) wr wx)
   case first =>
    cases q with
    | false =>
     refine wp_region_quiet_below (by kernel_rfl) (by kernel_rfl) ?_
     repeat (go_big_quiet_step (exact hW1 _ _))
     refine wpQuiet_nil ?_
     intro _ hw'
     obtain ⟨⟨dq, osq⟩, hw''⟩ := hw'
     subst hw''
     go_wp2_with fail
     go_meet
     exact ⟨rfl, Below.kept (below_regrown wr dq osq)⟩
    | true =>
     refine wp_region_quiet_below (by kernel_rfl) (by kernel_rfl) ?_
     repeat (go_big_quiet_step (first | exact hW1 _ _ | exact hH1 _ _))
     refine wpQuiet_nil ?_
     intro _ hw'
     obtain ⟨⟨dq, osq⟩, hw''⟩ := hw'
     subst hw''
     go_wp2_with fail
     go_meet
     exact ⟨rfl, Below.kept (below_regrown wr dq osq)⟩
   case rest =>
    obtain ⟨rfl, hKc⟩ := hcut
    have HKc : Hid (Kept (fun k => k < W.heap.size) W wc) := kt HKk.out hKc
    clear hW1 hH1 c4 c4r d0 d1 d0r d1r hKc
    obtain ⟨b, hbe⟩ : ∃ b, (!q || h2) = b := ⟨_, rfl⟩
    rw [hbe]
    cases b with
    | true =>
     have hA : A = false := by
      rw [<- HRES.out]
      have : (q && !h2) = false := by cases q <;> cases h2 <;> simp_all
      rw [this]
      rfl
     subst hA
     clear hbe
     go_wp2
     go_ret
     exact ⟨by simp, kt HK.out HKc.out⟩
    | false =>
     have hA : zcn (za5 l (k + 1)) (l.drop (k + 1)) = A := by
      rw [<- HRES.out]
      have : (q && !h2) = true := by cases q <;> cases h2 <;> simp_all
      rw [this]
      rfl
     have HA1 : Hid (zcn (za5 l (k + 1)) (l.drop (k + 1)) = A) := hA
     clear hA hbe
     go_wp2
     go_roundg (n - (k + 1))
     case rel => exact ⟨k + 1, rfl, by omega, by go_num, HA1.out, HKc.out⟩
     case measure => omega
  ·have hkn : n = k := by omega
   subst hkn
   have hA : A = true := by
    rw [<- hAk, List.drop_eq_nil_of_le (by rw [HL.out]; exact Nat.le_refl _)]
    rfl
   subst hA
   have c2 : wr.cell? ⟨N, 2, none⟩ = some (.string S) := (hKk.cell (p := ⟨N, 2, none⟩) hNW).trans HB.out.1
   have c3 : wr.cell? ⟨N, 3, none⟩ = some (.string D) := (hKk.cell (p := ⟨N, 3, none⟩) hNW).trans HB.out.2.1
   have hNr : N < wr.heap.size := ltl hNW hKk.size
   have rv := zkq S (fun k => k < wr.heap.size) wr hS
   rw [HV.out] at rv
   have hb5' : decide ((n : Int) <= 50) = b5 := by
    rw [<- HB5.out, Bool.eq_iff_iff]
    simp
    omega
   clear hAk hKk
   cases v with
   | false =>
    go_wp2_with (go_at_call 282; refine rv.mono ?_; rintro e1 w3 ⟨rfl, hk3⟩)
    go_ret
    exact ⟨by simp, (kt HK.out HKk.out).trans (hk3.mono fun k h => ltl h (Nat.le_trans HK.out.size HKk.out.size))⟩
   | true =>
    cases e with
    | false =>
     go_wp2_with (go_at_call 282; refine rv.mono ?_; rintro e1 w3 ⟨rfl, hk3⟩; have f3 : w3.cell? ⟨N, 3, none⟩ = some (.string D) := (hk3.cell (p := ⟨N, 3, none⟩) hNr).trans c3)
     go_ret
     exact ⟨by simp, (kt HK.out HKk.out).trans (hk3.mono fun k h => ltl h (Nat.le_trans HK.out.size HKk.out.size))⟩
    | true =>
     go_wp2_with (go_at_call 282; refine rv.mono ?_; rintro e1 w3 ⟨rfl, hk3⟩; have f3 : w3.cell? ⟨N, 3, none⟩ = some (.string D) := (hk3.cell (p := ⟨N, 3, none⟩) hNr).trans c3; have f4 : w3.cell? ⟨N, 4, none⟩ = some (.slice aa n ac) := (hk3.cell (p := ⟨N, 4, none⟩) hNr).trans c4)
     go_ret
     exact ⟨by simp, (kt HK.out HKk.out).trans (hk3.mono fun k h => ltl h (Nat.le_trans HK.out.size HKk.out.size))⟩
end
section
open Go.RowKit Go.Sort
theorem zpg (d : Int) (kd : Nat) (S D : ByteArray) (l : List Atr) (aa : Option Addr) (n ac : Nat) (hln : l.length = n) (hn : n <= 1000000) (hca : n <= ac) (hsz : ∀ x ∈ l, x.name.length < 1000000) (hS : S.size < 1000000) (k : Nat) (w : World) (ha : Zag (fun k => k < w.heap.size) w aa l) :
  Calls Tryz.prog 259 #[.agg (izV d kd S D aa n ac), .int .i64 (k : Int)] w fun e w' => e = .returned (.bool (zbc ⟨d, kd, S.toList, l, D.toList⟩ (decide (k = 0)))) /\ Kept (fun k => k < w.heap.size) w w' := by
 obtain ⟨W, hW⟩ : ∃ W, w.alloc (.cells (izV d kd S D aa n ac) 163) = W := ⟨_, rfl⟩
 obtain ⟨N, hN⟩ : ∃ N, w.heap.size = N := ⟨_, rfl⟩
 have kW : Kept (fun k => k < w.heap.size) w W := by rw [<- hW]; exact (Kept.refl _ w).alloc (fun _ h => h) _
 have hb : W.heap[N]? = some (.cells (izV d kd S D aa n ac) 163 (0, 0)) := by rw [<- hW, <- hN]; exact heap_alloc_new w _
 have haW : Zag (fun k => k < W.heap.size) W aa l := ha.kept kW fun k h => ltl h kW.size
 have HK : Hid (Kept (fun k => k < w.heap.size) w W) := kW
 have HW : Hid (w.alloc (.cells (izV d kd S D aa n ac) 163) = W) := hW
 have HN : Hid (w.heap.size = N) := hN
 have c0 : W.cell? ⟨N, 0, none⟩ = some (.int .i64 d) := by rw [zaa hb]; rfl
 have c1 : W.cell? ⟨N, 1, none⟩ = some (.int .u8 (kd : Int)) := by rw [zaa hb]; rfl
 have c2 : W.cell? ⟨N, 2, none⟩ = some (.string S) := by rw [zaa hb]; rfl
 have c3 : W.cell? ⟨N, 3, none⟩ = some (.string D) := by rw [zaa hb]; rfl
 have c4 : W.cell? ⟨N, 4, none⟩ = some (.slice aa n ac) := by rw [zaa hb]; rfl
 obtain ⟨s, hs⟩ : ∃ s, (S.toList == []) = s := ⟨_, rfl⟩
 obtain ⟨e, he⟩ : ∃ e, (D.toList == []) = e := ⟨_, rfl⟩
 obtain ⟨z, hz⟩ : ∃ z, decide (n = 0) = z := ⟨_, rfl⟩
 have hz' : ((n : Int) == 0) = z := by rw [<- hz, Bool.eq_iff_iff]; simp
 obtain ⟨f, hf⟩ : ∃ f, decide (k = 0) = f := ⟨_, rfl⟩
 have hf' : ((k : Int) == 0) = f := by rw [<- hf, Bool.eq_iff_iff]; simp
 rw [hf]
 by_cases q1 : kd = 1
 ·subst q1
  have re := zhc d 1 S D l aa n ac hln hn hca hsz hS W haW
  have HE : Hid (zbc ⟨d, 1, S.toList, l, D.toList⟩ f = ((za6 S.toList && D.toList == []) && za3 l)) := if_pos rfl
  obtain ⟨b, hbe⟩ : ∃ b, ((za6 S.toList && D.toList == []) && za3 l) = b := ⟨_, rfl⟩
  rw [HE.out, hbe]
  rw [hbe] at re
  clear hW hN kW hb haW ha hs he hz hz' hf hf' hbe HE
  go_enter Tryz.func259, Tryz.ntmps259
  go_upto_region 1 with fail
  rw [HW.out, HN.out]
  go_wp2_with (go_at_call 283; refine re.mono ?_; rintro e1 w3 ⟨rfl, hk3⟩)
  go_ret
  exact ⟨rfl, kt HK.out hk3⟩
 have p1 : ((kd : Int) == 1) = false := by simp; omega
 by_cases q2 : kd = 2
 ·subst q2
  have HE : Hid (zbc ⟨d, 2, S.toList, l, D.toList⟩ f = ((s && !e) && z)) := by
   show Hid _
   have : zbc ⟨d, 2, S.toList, l, D.toList⟩ f = ((S.toList == [] && !(D.toList == [])) && decide (l.length = 0)) := rfl
   rw [hs, he, hln, hz] at this
   exact this
  rw [HE.out]
  clear hW hN kW hb haW ha hz hf hf' HE hln
  cases e <;> cases s
  all_goals
   go_enter Tryz.func259, Tryz.ntmps259
   go_upto_region 1 with fail
   rw [HW.out, HN.out]
   go_wp2
   go_ret
   exact ⟨by simp, HK.out⟩
 have p2 : ((kd : Int) == 2) = false := by simp; omega
 by_cases q3 : kd = 3
 ·subst q3
  have HE : Hid (zbc ⟨d, 3, S.toList, l, D.toList⟩ f = (s && z)) := by
   show Hid _
   have : zbc ⟨d, 3, S.toList, l, D.toList⟩ f = (S.toList == [] && decide (l.length = 0)) := rfl
   rw [hs, hln, hz] at this
   exact this
  rw [HE.out]
  clear hW hN kW hb haW ha hz hf hf' HE hln he
  cases s
  all_goals
   go_enter Tryz.func259, Tryz.ntmps259
   go_upto_region 1 with fail
   rw [HW.out, HN.out]
   go_wp2
   go_ret
   exact ⟨by simp, HK.out⟩
 have p3 : ((kd : Int) == 3) = false := by simp; omega
 by_cases q6 : kd = 6
 ·subst q6
  have HE : Hid (zbc ⟨d, 6, S.toList, l, D.toList⟩ f = ((f && e) && z)) := by
   show Hid _
   have : zbc ⟨d, 6, S.toList, l, D.toList⟩ f = ((f && D.toList == []) && decide (l.length = 0)) := rfl
   rw [he, hln, hz] at this
   exact this
  rw [HE.out]
  clear hW hN kW hb haW ha hz hf HE hln hs
  cases f <;> cases e
  all_goals
   go_enter Tryz.func259, Tryz.ntmps259
   go_upto_region 1 with fail
   rw [HW.out, HN.out]
   go_wp2
   go_ret
   exact ⟨by simp, HK.out⟩
 have p6 : ((kd : Int) == 6) = false := by simp; omega
 have HE : Hid (zbc ⟨d, kd, S.toList, l, D.toList⟩ f = false) := by
  show Hid _
  have : zbc ⟨d, kd, S.toList, l, D.toList⟩ f = false := by
   unfold zbc
   rw [if_neg q1, if_neg q2, if_neg q3, if_neg q6]
  exact this
 rw [HE.out]
 clear hW hN kW hb haW ha hz hf HE hln hs
 go_enter Tryz.func259, Tryz.ntmps259
 go_upto_region 1 with fail
 rw [HW.out, HN.out]
 go_wp2
 go_ret
 exact ⟨rfl, HK.out⟩
def Zsl (w : World) (ia : Option Addr) (l : List Iz) : Prop :=
 ∀ j (_ : j < l.length), ∃ g o aa ac, ia = some ⟨g, o, none⟩ /\ g < w.heap.size /\ Zag (fun k => k < w.heap.size) w aa l[j].attrs /\ l[j].attrs.length <= ac /\ ∀ i u, (zeo l[j] aa ac)[i]? = some u -> w.cell? ⟨g, o + j * 5 + i, none⟩ = some u
theorem zkp (l : List Iz) (la : Option Addr) (n cap : Nat) (hln : l.length = n) (hn : n <= 1000000) (hsz : ∀ y ∈ l, y.name.length < 1000000 /\ y.attrs.length <= 1000000 /\ ∀ x ∈ y.attrs, x.name.length < 1000000) (w : World) (h : Zsl w la l) :
  Calls Tryz.prog 239 #[.slice la n cap] w fun e w' => e = .returned (.bool (za7 l)) /\ Kept (fun k => k < w.heap.size) w w' := by
 obtain ⟨R, hR⟩ : ∃ R, zbb 0 true l = R := ⟨_, rfl⟩
 have hR0 : za7 l = (decide (l.length <= 5000) && zbb 0 true l) := rfl
 rw [hR, hln] at hR0
 rw [hR0]
 obtain ⟨b5, hb5⟩ : ∃ b, decide (n <= 5000) = b := ⟨_, rfl⟩
 have hb5' : decide ((n : Int) <= 5000) = b5 := by
  rw [<- hb5, Bool.eq_iff_iff]
  simp
  omega
 rw [hb5]
 have HR : Hid (zbb 0 true (l.drop 0) = R) := hR
 have HL : Hid (l.length = n) := hln
 have HI : Hid (Zsl w la l) := h
 have HSZ : Hid (∀ y ∈ l, y.name.length < 1000000 /\ y.attrs.length <= 1000000 /\ ∀ x ∈ y.attrs, x.name.length < 1000000) := hsz
 clear hR hR0 hln h hsz hb5
 go_enter Tryz.func239, Tryz.ntmps239
 go_upto_region 3 with fail
 go_loopg [4, 3] n (fun g v m wr => ∃ (k : Nat) (most : Int), g = n - k /\ k <= n /\ v = .int .i64 k /\ m = .int .i64 most /\ 0 <= most /\ most <= k /\ zbb most (decide (k = 0)) (l.drop k) = R /\ Kept (fun k => k < w.heap.size) w wr)
 case atStart => exact ⟨0, 0, rfl, Nat.zero_le _, rfl, rfl, Int.le_refl _, Int.le_refl _, HR.out, Kept.refl _ _⟩
 case round =>
  clear HR
  obtain ⟨k, most, hgk, hk, rfl, rfl, hm0, hm1, hRk, hKk⟩ := hrel
  have HK : Hid (Kept (fun k => k < w.heap.size) w wr) := hKk
  by_cases hlt : k < n
  ·have hl : k < l.length := by rw [HL.out]; exact hlt
   rw [List.drop_eq_getElem_cons hl] at hRk
   obtain ⟨g, o, aa, ac, hg', hgl, hA, hac, hc⟩ := HI.out k hl
   have hszk := HSZ.out l[k] (List.getElem_mem hl)
   subst hg'
   obtain ⟨x, hx⟩ : ∃ x, l[k] = x := ⟨_, rfl⟩
   rw [hx] at hRk hA hc hszk hac
   obtain ⟨d, kd, nm, at_, dt⟩ := x
   obtain ⟨S, hS⟩ : ∃ S : ByteArray, (⟨nm.toArray⟩ : ByteArray) = S := ⟨_, rfl⟩
   obtain ⟨D, hD⟩ : ∃ D : ByteArray, (⟨dt.toArray⟩ : ByteArray) = D := ⟨_, rfl⟩
   obtain ⟨m, hm⟩ : ∃ m, at_.length = m := ⟨_, rfl⟩
   have hSl : S.toList = nm := by rw [ByteArray.toList_eq, <- hS]
   have hDl : D.toList = dt := by rw [ByteArray.toList_eq, <- hD]
   have hSs : S.size < 1000000 := by rw [<- hS]; show nm.toArray.size < _; simpa using hszk.1
   have cw0 : w.cell? ⟨g, o + k * 5, none⟩ = some (.int .i64 d) := hc 0 _ rfl
   have cw1 : w.cell? ⟨g, o + k * 5 + 1, none⟩ = some (.int .u8 (kd : Int)) := hc 1 _ rfl
   have cw2 : w.cell? ⟨g, o + k * 5 + 2, none⟩ = some (.string S) := by rw [<- hS]; exact hc 2 _ rfl
   have cw3 : w.cell? ⟨g, o + k * 5 + 3, none⟩ = some (.string D) := by rw [<- hD]; exact hc 3 _ rfl
   have cw4 : w.cell? ⟨g, o + k * 5 + 4, none⟩ = some (.slice aa m ac) := by rw [<- hm]; exact hc 4 _ rfl
   have c0 : wr.cell? ⟨g, o + k * 5, none⟩ = some (.int .i64 d) := (hKk.cell (p := ⟨g, o + k * 5, none⟩) hgl).trans cw0
   have c1 : wr.cell? ⟨g, o + k * 5 + 1, none⟩ = some (.int .u8 (kd : Int)) := (hKk.cell (p := ⟨g, o + k * 5 + 1, none⟩) hgl).trans cw1
   have c2 : wr.cell? ⟨g, o + k * 5 + 2, none⟩ = some (.string S) := (hKk.cell (p := ⟨g, o + k * 5 + 2, none⟩) hgl).trans cw2
   have c3 : wr.cell? ⟨g, o + k * 5 + 3, none⟩ = some (.string D) := (hKk.cell (p := ⟨g, o + k * 5 + 3, none⟩) hgl).trans cw3
   have c4 : wr.cell? ⟨g, o + k * 5 + 4, none⟩ = some (.slice aa m ac) := (hKk.cell (p := ⟨g, o + k * 5 + 4, none⟩) hgl).trans cw4
   have hR1 : ((!(decide (d < 0) || decide (d > most))) && zbc ⟨d, kd, nm, at_, dt⟩ (decide (k = 0)) && zbb (zls ⟨d, kd, nm, at_, dt⟩) false (l.drop (k + 1))) = R := hRk
   rw [<- hSl, <- hDl] at hR1
   have rm := zpg d kd S D at_ aa m ac hm (by rw [<- hm]; exact hszk.2.1) (by rw [<- hm]; exact hac) hszk.2.2 hSs k wr (hA.kept hKk fun k h => ltl h hKk.size)
   obtain ⟨kq, hkq⟩ : ∃ q, zbc ⟨d, kd, S.toList, at_, D.toList⟩ (decide (k = 0)) = q := ⟨_, rfl⟩
   rw [hkq] at rm hR1
   obtain ⟨nx, hnx⟩ : ∃ z, zls ⟨d, kd, S.toList, at_, D.toList⟩ = z := ⟨_, rfl⟩
   rw [hnx] at hR1
   have HNX : Hid ((if (decide (kd = 1) && !ze6 S.toList) = true then d + 1 else d) = nx) := hnx
   have HR1 : Hid ((!(decide (d < 0) || decide (d > most)) && kq && zbb nx false (l.drop (k + 1))) = R) := hR1
   have HCW : Hid (∀ X, Kept (fun k => k < w.heap.size) w X -> X.cell? ⟨g, o + k * 5, none⟩ = some (.int .i64 d) /\ X.cell? ⟨g, o + k * 5 + 1, none⟩ = some (.int .u8 (kd : Int)) /\ X.cell? ⟨g, o + k * 5 + 2, none⟩ = some (.string S)) := fun X hX => ⟨(hX.cell (p := ⟨g, o + k * 5, none⟩) hgl).trans cw0, (hX.cell (p := ⟨g, o + k * 5 + 1, none⟩) hgl).trans cw1, (hX.cell (p := ⟨g, o + k * 5 + 2, none⟩) hgl).trans cw2⟩
   clear hRk hA hc hszk hS hD hm hSl hDl hR1 hkq hnx hgl hx hac cw0 cw1 cw2 cw3 cw4 hKk
   by_cases hd0 : d < 0
   ·have hR : R = false := by
     rw [<- HR1.out, decide_eq_true hd0]
     rfl
    subst hR
    have hd0' : decide (d < 0) = true := decide_eq_true hd0
    clear HR1 rm HCW
    go_wp2
    go_ret
    exact ⟨by simp, HK.out⟩
   ·have hd0' : decide (d < 0) = false := decide_eq_false hd0
    by_cases hdm : d > most
    ·have hR : R = false := by
      rw [<- HR1.out, decide_eq_true hdm]
      simp
     subst hR
     have hdm' : decide (d > most) = true := decide_eq_true hdm
     clear HR1 rm HCW
     go_wp2
     go_ret
     exact ⟨by simp, HK.out⟩
    ·have hdm' : decide (d > most) = false := decide_eq_false hdm
     cases kq with
     | false =>
      have hR : R = false := by
       rw [<- HR1.out]
       simp
      subst hR
      clear HR1 HCW
      go_wp2_with (go_at_call 259; refine rm.mono ?_; rintro e1 w3 ⟨rfl, hk3⟩)
      go_ret
      exact ⟨by simp, kt HK.out hk3⟩
     | true =>
      have HR2 : Hid (zbb nx false (l.drop (k + 1)) = R) := by
       have := HR1.out
       rw [hd0', hdm'] at this
       exact (show Hid _ from this)
      clear HR1
      go_upto_region 7 with (go_at_call 259; refine rm.mono ?_; rintro e1 w3 ⟨rfl, hk3⟩)
      have k3 : Kept (fun k => k < w.heap.size) w w3 := kt HK.out hk3
      obtain ⟨f0, f1, f2⟩ := HCW.out w3 k3
      have HK3 : Hid (Kept (fun k => k < w.heap.size) w w3) := k3
      have rv := zg9 S (fun k => k < w3.heap.size) w3
      clear rm c0 c1 c2 c3 c4 hk3 k3 HCW
      by_cases q1 : kd = 1
      ·subst q1
       obtain ⟨vv, hvv⟩ : ∃ v, ze6 S.toList = v := ⟨_, rfl⟩
       rw [hvv] at rv
       have hnxx := HNX.out
       rw [hvv] at hnxx
       cases vv with
       | true =>
        have hnx2 : nx = d := by rw [<- hnxx]; simp
        subst hnx2
        clear hnxx HNX hvv
        go_wp2_with (go_at_call 128; refine rv.mono ?_; rintro e1 w4 ⟨rfl, hk4⟩)
        go_roundg (n - (k + 1))
        case rel => exact ⟨k + 1, nx, rfl, by omega, by go_num, rfl, by omega, by omega, by rw [decide_eq_false (by omega)]; exact HR2.out, kt HK3.out hk4⟩
        case measure => omega
       | false =>
        have hnx2 : nx = d + 1 := by rw [<- hnxx]; simp
        subst hnx2
        clear hnxx HNX hvv
        go_wp2_with (go_at_call 128; refine rv.mono ?_; rintro e1 w4 ⟨rfl, hk4⟩)
        go_roundg (n - (k + 1))
        case rel => exact ⟨k + 1, d + 1, rfl, by omega, by go_num, by go_num, by omega, by omega, by rw [decide_eq_false (by omega)]; exact HR2.out, kt HK3.out hk4⟩
        case measure => omega
      ·have p1 : ((kd : Int) == 1) = false := by simp; omega
       have hnx2 : nx = d := by rw [<- HNX.out, decide_eq_false q1]; rfl
       subst hnx2
       clear HNX rv
       go_wp2
       go_roundg (n - (k + 1))
       case rel => exact ⟨k + 1, nx, rfl, by omega, by go_num, rfl, by omega, by omega, by rw [decide_eq_false (by omega)]; exact HR2.out, HK3.out⟩
       case measure => omega
  ·have hkn : n = k := by omega
   subst hkn
   have hA : R = true := by
    rw [<- hRk, List.drop_eq_nil_of_le (by rw [HL.out]; exact Nat.le_refl _)]
    rfl
   subst hA
   clear hRk hKk
   go_wp2
   go_ret
   exact ⟨by simp, HK.out⟩
end
end Go.Proofs.YtfeinppedejlpaaGreat
