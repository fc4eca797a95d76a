/-
 A node is put into a row, in memory (chain.put), for the chain of places.; Which attributes may be written: isAttributeName, and the closure that writables makes (a map of the names that stood ahead).
-/
import Derived.Test.YtojbjiopilkbgaaP03
import Derived.Test.YtojbjiopilkbgaaProg
import Derived.Test.YtojbjiopilkbgaaP01
import Derived.Test.YtojbjiopilkbgaaP04
import Derived.Deep.LoopGhost
import Derived.Deep.Cut
import Derived.Laws.StandIn
import Derived.Laws.Externs
import Derived.Laws.Runes
import Derived.Laws.EntriesVeiled
import Derived.Maps.OwnOps
import Derived.Maps.Views
namespace Go.Proofs.Ytojbjiopilkbgaa
set_option linter.unusedVariables false
set_option maxRecDepth 100000
set_option maxHeartbeats 8000000
section
open Go.RowKit
def putL (L : Nat -> Lk) (up i : Nat) (bef : Int) : Nat -> Lk := inL (outL L i) up i bef (befP (outL L i) up bef)
def BefOk (n : Nat) (L : Nat -> Lk) (up i : Nat) (bef : Int) : Prop := bef = -1 \/ ∃ m : Nat, m < n /\ m ≠ i /\ bef = (m : Int) /\ (L m).up = (up : Int)
theorem out_upne {L : Nat -> Lk} {i k : Nat} (h : k ≠ i) : (outL L i k).up = (L k).up := by
 unfold outL
 by_cases c : (L i).up = -1
 ·rw [if_pos c]
 ·rw [if_neg c]; dsimp only; rw [if_neg h]
theorem put_at {n : Nat} {L : Nat -> Lk} {R : Nat -> List Nat} (h : WF n L R) {up i : Nat} (hu : up < n) (hi : i < n) {bef : Int} (hb : BefOk n L up i bef) : ∃ a b, At (outR L R i up) bef a b := by
 rcases hb with hb | ⟨m, hm, hmi, rfl, hmu⟩
 ·exact ⟨_, _, .last hb⟩
 ·rcases (h.out hi).inn m hm with h0 | ⟨v, hv, h1, h2⟩
  ·rw [out_upne hmi] at h0; omega
  ·rw [out_upne hmi] at h1
   have : v = up := by omega
   subst this
   obtain ⟨a, b, e⟩ := mem_split h2
   exact ⟨a, m :: b, .mid rfl e⟩
theorem WF.putOk {n : Nat} {L : Nat -> Lk} {R : Nat -> List Nat} (h : WF n L R) {up i : Nat} (hu : up < n) (hi : i < n) {bef : Int} {a b : List Nat} (ha : At (outR L R i up) bef a b) : WF n (putL L up i bef) (updR (outR L R i) up (a ++ i :: b)) :=
 (h.out hi).put hu hi out_up ha
theorem befP_or {n : Nat} {L : Nat -> Lk} {R : Nat -> List Nat} (h : WF n L R) {up i : Nat} (hu : up < n) (hi : i < n) {bef : Int} (hb : BefOk n L up i bef) : befP (outL L i) up bef = -1 \/ ∃ q : Nat, q < n /\ q ≠ i /\ befP (outL L i) up bef = (q : Int) := by
 obtain ⟨a, b, ha⟩ := put_at h hu hi hb
 rw [befP_at (h.out hi) hu ha]
 rcases lsD_or a with ⟨-, e⟩ | ⟨m, m1, e⟩
 ·exact .inl e
 ·have hm : m ∈ outR L R i up := by rw [ha.eq]; exact List.mem_append_left _ m1
  exact .inr ⟨m, (h.out hi).lt up hu m hm, fun e' => outR_notin h hi hu (e' ▸ hm), e⟩
def in1 (L : Nat -> Lk) (up i : Nat) (bef : Int) : Nat -> Lk := updL L i { L i with up := (up : Int), next := bef }
def in2 (L : Nat -> Lk) (up i : Nat) (bef P : Int) : Nat -> Lk := updL (in1 L up i bef) i { in1 L up i bef i with prev := P }
def in3 (L : Nat -> Lk) (up i : Nat) (bef P : Int) : Nat -> Lk := if bef = -1 then updL (in2 L up i bef P) up { in2 L up i bef P up with last := (i : Int) } else updL (in2 L up i bef P) bef.toNat { in2 L up i bef P bef.toNat with prev := (i : Int) }
def in4 (L : Nat -> Lk) (up i : Nat) (bef P : Int) : Nat -> Lk := if P = -1 then updL (in3 L up i bef P) up { in3 L up i bef P up with first := (i : Int) } else updL (in3 L up i bef P) P.toNat { in3 L up i bef P P.toNat with next := (i : Int) }
theorem in2_eq (L : Nat -> Lk) (up i : Nat) (bef P : Int) : in2 L up i bef P = updL L i ⟨(up : Int), P, bef, (L i).first, (L i).last⟩ := by
 unfold in2 in1
 rw [updL_updL, updL_same]
theorem in3_at {L : Nat -> Lk} {up i : Nat} {bef P : Int} (hui : up ≠ i) (hb : bef = -1 \/ ∃ m : Nat, m ≠ i /\ bef = (m : Int)) : in3 L up i bef P i = ⟨(up : Int), P, bef, (L i).first, (L i).last⟩ := by
 unfold in3
 rw [in2_eq]
 rcases hb with hb | ⟨m, hm, rfl⟩
 ·rw [if_pos hb, updL_ne _ _ (fun e => hui e.symm), updL_same]
 ·rw [if_neg (by omega), Int.toNat_natCast, updL_ne _ _ (fun e => hm e.symm), updL_same]
theorem in4_eq {L : Nat -> Lk} {up i : Nat} {bef P : Int} (hui : up ≠ i) (hb : bef = -1 \/ ∃ m : Nat, m ≠ i /\ bef = (m : Int)) (hP : P = -1 \/ ∃ q : Nat, q ≠ i /\ P = (q : Int)) : in4 L up i bef P = inL L up i bef P := by
 funext k
 unfold in4 in3 inL
 rw [in2_eq]
 have e1 : ¬ ((k : Int) = -1) := by omega
 rcases hb with rfl | ⟨m, hm, rfl⟩ <;> rcases hP with rfl | ⟨q, hq, rfl⟩ <;> unfold updL
 ·by_cases c : k = i
  ·subst c
   have : ¬ k = up := fun e => hui e.symm
   simp [*]
  ·by_cases c' : k = up
   ·subst c'; simp [*]
   ·simp [*]
 ·have e2 : ¬ ((q : Int) = -1) := by omega
  by_cases c : k = i
  ·subst c
   have : ¬ k = up := fun e => hui e.symm
   have : ¬ k = q := fun e => hq e.symm
   simp [*]
  ·by_cases c' : k = up
   ·subst c'
    by_cases c2 : k = q
    ·subst c2; simp [*]
    ·have : ¬ (k : Int) = (q : Int) := by omega
     simp [*]
   ·by_cases c2 : k = q
    ·subst c2; simp [*]
    ·have : ¬ (k : Int) = (q : Int) := by omega
     simp [*]
 ·have e2 : ¬ ((m : Int) = -1) := by omega
  by_cases c : k = i
  ·subst c
   have : ¬ k = up := fun e => hui e.symm
   have : ¬ k = m := fun e => hm e.symm
   simp [*]
  ·by_cases c' : k = up
   ·subst c'
    by_cases c2 : k = m
    ·subst c2; simp [*]
    ·have : ¬ (k : Int) = (m : Int) := by omega
     simp [*]
   ·by_cases c2 : k = m
    ·subst c2; simp [*]
    ·have : ¬ (k : Int) = (m : Int) := by omega
     simp [*]
 ·have e2 : ¬ ((m : Int) = -1) := by omega
  have e3 : ¬ ((q : Int) = -1) := by omega
  by_cases c : k = i
  ·subst c
   have : ¬ k = q := fun e => hq e.symm
   have : ¬ k = m := fun e => hm e.symm
   simp [*]
  ·by_cases c' : k = q
   ·subst c'
    by_cases c2 : k = m
    ·subst c2; simp [*]
    ·have : ¬ (k : Int) = (m : Int) := by omega
     simp [*]
   ·have : ¬ (k : Int) = (q : Int) := by omega
    by_cases c2 : k = m
    ·subst c2; simp [*]
    ·have : ¬ (k : Int) = (m : Int) := by omega
     simp [*]
theorem putP (K : Nat -> Prop) (p g cap up i : Nat) (bef : Int) (S : Dm) (R : Nat -> List Nat) (w : World) (h : DY K w p S (some ⟨g, 0, none⟩) cap) (hW : WF S.n S.pl R) (hu : up < S.n) (hi : i < S.n) (hui : up ≠ i) (hb : BefOk S.n S.pl up i bef) (hn : S.n <= 1000000000) :
  Calls Try.prog 40 #[chP p, .int .i64 (up : Int), .int .i64 (i : Int), .int .i64 bef] w fun e w' => e = .returned (.tuple #[]) /\ DY K w' p (S.setP (putL S.pl up i bef)) (some ⟨g, 0, none⟩) cap /\ Kept K w w' := by
 obtain ⟨n, hne⟩ : ∃ n, S.n = n := ⟨_, rfl⟩
 have rt := takeOutP K p g cap i S R w h hW hi hn
 have hPo := befP_or hW hu hi hb
 obtain ⟨L, hL⟩ : ∃ L, outL S.pl i = L := ⟨_, rfl⟩
 have hput : putL S.pl up i bef = inL L up i bef (befP L up bef) := by rw [<- hL]; rfl
 rw [hput]
 rw [hL] at rt hPo
 obtain ⟨P, hP⟩ : ∃ P, befP L up bef = P := ⟨_, rfl⟩
 rw [hP] at hPo ⊢
 have hb' : bef = -1 \/ ∃ m : Nat, m < n /\ m ≠ i /\ bef = (m : Int) := by
  rw [<- hne]
  rcases hb with hb | ⟨m, h1, h2, h3, _⟩
  ·exact .inl hb
  ·exact .inr ⟨m, h1, h2, h3⟩
 have hb2 : bef = -1 \/ ∃ m : Nat, m ≠ i /\ bef = (m : Int) := by
  rcases hb' with hb | ⟨m, _, h2, h3⟩
  ·exact .inl hb
  ·exact .inr ⟨m, h2, h3⟩
 have hP2 : P = -1 \/ ∃ q : Nat, q ≠ i /\ P = (q : Int) := by
  rcases hPo with hb | ⟨m, _, h2, h3⟩
  ·exact .inl hb
  ·exact .inr ⟨m, h2, h3⟩
 have hin4 := in4_eq (L := L) hui hb2 hP2
 have hin3 := in3_at (L := L) (P := P) hui hb2
 rw [<- hin4]
 rw [hne] at hPo hu hi
 have r1 := fun (j : Nat) (hj : j < n) (X : World) (hX : X.cell? ⟨p, 1, none⟩ = some (.slice (some ⟨g, 0, none⟩) n cap)) => placeOf_any p g n cap j X hX hj (by omega)
 have ri := r1 i hi
 have ru := r1 up hu
 have hgp := h.gk.2.1
 have HNE : Hid (S.n = n) := hne
 have HP : Hid (befP L up bef = P) := hP
 have HPO : Hid (P = -1 \/ ∃ q : Nat, q < n /\ q ≠ i /\ P = (q : Int)) := hPo
 have HB : Hid (bef = -1 \/ ∃ m : Nat, m < n /\ m ≠ i /\ bef = (m : Int)) := hb'
 have H3 : Hid (in3 L up i bef P i = ⟨(up : Int), P, bef, (L i).first, (L i).last⟩) := hin3
 clear h hW hL hput hP hne hPo hb' hb hb2 hP2 hin4 hin3
 go_enter Try.func40, Try.ntmps40
 go_wp2_with fail
 refine rt.mono ?_
 rintro e w1 ⟨rfl, hY1, hK1⟩
 clear rt
 have hiS : i < (S.setP L).n := by show i < S.n; rw [HNE.out]; exact hi
 have huS : up < (S.setP L).n := by show up < S.n; rw [HNE.out]; exact hu
 have c1 : w1.cell? ⟨p, 1, none⟩ = some (.slice (some ⟨g, 0, none⟩) n cap) := by have := hY1.c1; rw [show (S.setP L).n = n from HNE.out] at this; exact this
 obtain ⟨a0, a1, a2, -, -⟩ := hY1.pcell hiS
 have f0 := hY1.fg (i * 22 + 12)
 have f2 := hY1.fg (i * 22 + 14)
 have D1 := hY1.setPup hiS (up : Int)
 have D2 := D1.1.setPnext hiS bef
 have e1 : updL (updL L i { L i with up := (up : Int) }) i { updL L i { L i with up := (up : Int) } i with next := bef } = in1 L up i bef := by
  rw [updL_updL, updL_same]; rfl
 have D2' : DY K ((w1.setCell ⟨g, i * 22 + 12, none⟩ (.int .i64 (up : Int))).setCell ⟨g, i * 22 + 14, none⟩ (.int .i64 bef)) p (S.setP (in1 L up i bef)) (some ⟨g, 0, none⟩) cap := by rw [<- e1]; exact D2.1
 have kk := hK1.trans (D1.2.trans D2.2)
 obtain ⟨W1, hW1⟩ : ∃ W1, ((w1.setCell ⟨g, i * 22 + 12, none⟩ (.int .i64 (up : Int))).setCell ⟨g, i * 22 + 14, none⟩ (.int .i64 bef)) = W1 := ⟨_, rfl⟩
 rw [hW1] at D2' kk
 have HW1 : Hid (((w1.setCell ⟨g, i * 22 + 12, none⟩ (.int .i64 (up : Int))).setCell ⟨g, i * 22 + 14, none⟩ (.int .i64 bef)) = W1) := hW1
 have HY2 : Hid (DY K W1 p (S.setP (in1 L up i bef)) (some ⟨g, 0, none⟩) cap) := D2'
 have HK2 : Hid (Kept K w W1) := kk
 clear hY1 hK1 D1 D2 D2' e1 hW1 kk
 go_upto_if 24 with (go_at_call 52; refine (ri _ ?_).mono ?_; exact c1; rintro e w2 ⟨rfl, rfl⟩)
 rw [HW1.out]
 clear HW1 a0 a1 a2 f0 f2 c1
 have c1 : W1.cell? ⟨p, 1, none⟩ = some (.slice (some ⟨g, 0, none⟩) n cap) := by have := HY2.out.c1; rw [show (S.setP (in1 L up i bef)).n = n from HNE.out] at this; exact this
 go_cut [] (fun wx => DY K wx p (S.setP (in3 L up i bef P)) (some ⟨g, 0, none⟩) cap /\ Kept K w wx)
 case first =>
  by_cases hb1 : bef = -1
  ·subst hb1
   have eP : (in1 L up i (-1) up).last = P := by
    unfold in1
    rw [updL_ne _ _ hui, <- HP.out]; rfl
   obtain ⟨-, -, -, -, t4⟩ := HY2.out.pcell (i := up) huS
   replace t4 : W1.cell? ⟨g, up * 22 + 16, none⟩ = some (.int .i64 P) := by rw [<- eP]; exact t4
   obtain ⟨-, t1, -, -, -⟩ := HY2.out.pcell (i := i) hiS
   have D1 := HY2.out.setPprev (i := i) hiS P
   have f1 := HY2.out.fg (i * 22 + 13)
   have f2 := D1.1.fg (up * 22 + 16)
   have D2 := D1.1.setPlast (i := up) huS (i : Int)
   obtain ⟨-, -, -, -, t5⟩ := D1.1.pcell (i := up) huS
   have c2 : (W1.setCell ⟨g, i * 22 + 13, none⟩ (.int .i64 P)).cell? ⟨p, 1, none⟩ = some (.slice (some ⟨g, 0, none⟩) n cap) := by
    rw [World.cell?_setCell_other _ _ _ _ (fun e => by injection e with e1; exact hgp e1)]; exact c1
   have HD : Hid (DY K ((W1.setCell ⟨g, i * 22 + 13, none⟩ (.int .i64 P)).setCell ⟨g, up * 22 + 16, none⟩ (.int .i64 (i : Int))) p (S.setP (in3 L up i (-1) P)) (some ⟨g, 0, none⟩) cap) := D2.1
   have HK : Hid (Kept K w ((W1.setCell ⟨g, i * 22 + 13, none⟩ (.int .i64 P)).setCell ⟨g, up * 22 + 16, none⟩ (.int .i64 (i : Int)))) := HK2.out.trans (D1.2.trans D2.2)
   clear D1 D2 eP HP HPO HB H3 HNE
   go_wp2_with (first | (go_at_call 52; refine (ru _ ?_).mono ?_; exact c1; rintro e w2 ⟨rfl, hw2⟩; subst hw2) | (go_at_call 52; refine (ru _ ?_).mono ?_; exact c2; rintro e w2 ⟨rfl, hw2⟩; subst hw2))
   go_meet
   case rel => exact ⟨HD.out, HK.out⟩
  ·rcases HB.out with e0 | ⟨m, hm, hmi, e0⟩
   ·exact absurd e0 hb1
   subst e0
   have eb : ¬ ((m : Int) = -1) := hb1
   have hmS : m < (S.setP L).n := by show m < S.n; rw [HNE.out]; exact hm
   have eP : (in1 L up i (m : Int) m).prev = P := by
    unfold in1
    rw [updL_ne _ _ hmi, <- HP.out]
    unfold befP
    rw [if_neg eb, Int.toNat_natCast]
   obtain ⟨-, t4, -, -, -⟩ := HY2.out.pcell (i := m) hmS
   replace t4 : W1.cell? ⟨g, m * 22 + 13, none⟩ = some (.int .i64 P) := by rw [<- eP]; exact t4
   obtain ⟨-, t1, -, -, -⟩ := HY2.out.pcell (i := i) hiS
   have D1 := HY2.out.setPprev (i := i) hiS P
   have f1 := HY2.out.fg (i * 22 + 13)
   have f2 := D1.1.fg (m * 22 + 13)
   have D2 := D1.1.setPprev (i := m) hmS (i : Int)
   obtain ⟨-, t5, -, -, -⟩ := D1.1.pcell (i := m) hmS
   have c2 : (W1.setCell ⟨g, i * 22 + 13, none⟩ (.int .i64 P)).cell? ⟨p, 1, none⟩ = some (.slice (some ⟨g, 0, none⟩) n cap) := by
    rw [World.cell?_setCell_other _ _ _ _ (fun e => by injection e with e1; exact hgp e1)]; exact c1
   have e3 : in3 L up i (m : Int) P = updL (in2 L up i (m : Int) P) m { in2 L up i (m : Int) P m with prev := (i : Int) } := by
    unfold in3
    rw [if_neg eb, Int.toNat_natCast]
   have HD : Hid (DY K ((W1.setCell ⟨g, i * 22 + 13, none⟩ (.int .i64 P)).setCell ⟨g, m * 22 + 13, none⟩ (.int .i64 (i : Int))) p (S.setP (in3 L up i (m : Int) P)) (some ⟨g, 0, none⟩) cap) := by rw [e3]; exact D2.1
   have HK : Hid (Kept K w ((W1.setCell ⟨g, i * 22 + 13, none⟩ (.int .i64 P)).setCell ⟨g, m * 22 + 13, none⟩ (.int .i64 (i : Int)))) := HK2.out.trans (D1.2.trans D2.2)
   have hm0 : ((m : Int) == -1) = false := by simp
   have rm := r1 m hm
   clear D1 D2 eP HP HPO HB H3 HNE e3 hb1
   go_wp2_with (first | (go_at_call 52; refine (rm _ ?_).mono ?_; exact c1; rintro e w2 ⟨rfl, hw2⟩; subst hw2) | (go_at_call 52; refine (rm _ ?_).mono ?_; exact c2; rintro e w2 ⟨rfl, hw2⟩; subst hw2))
   go_meet
   case rel => exact ⟨HD.out, HK.out⟩
 case rest =>
  obtain ⟨hY3, hK3⟩ := hcut
  clear c1 HY2 HK2
  have c1 : wc.cell? ⟨p, 1, none⟩ = some (.slice (some ⟨g, 0, none⟩) n cap) := by have := hY3.c1; rw [show (S.setP (in3 L up i bef P)).n = n from HNE.out] at this; exact this
  obtain ⟨-, t1, -, -, -⟩ := hY3.pcell (i := i) hiS
  replace t1 : wc.cell? ⟨g, i * 22 + 13, none⟩ = some (.int .i64 P) := by
   rw [show (S.setP (in3 L up i bef P)).pl i = in3 L up i bef P i from rfl, H3.out] at t1
   exact t1
  by_cases hP1 : P = -1
  ·subst hP1
   obtain ⟨-, -, -, t3, -⟩ := hY3.pcell (i := up) huS
   have f3 := hY3.fg (up * 22 + 15)
   have D := hY3.setPfirst (i := up) huS (i : Int)
   have HD : Hid (DY K (wc.setCell ⟨g, up * 22 + 15, none⟩ (.int .i64 (i : Int))) p (S.setP (in4 L up i bef (-1))) (some ⟨g, 0, none⟩) cap) := D.1
   have HK : Hid (Kept K w (wc.setCell ⟨g, up * 22 + 15, none⟩ (.int .i64 (i : Int)))) := hK3.trans D.2
   clear D hY3 hK3 HP HPO HB H3 HNE
   go_wp2_with (go_at_call 52; refine (ru _ ?_).mono ?_; exact c1; rintro e w2 ⟨rfl, hw2⟩; subst hw2)
   go_end0
   exact ⟨rfl, HD.out, HK.out⟩
  ·rcases HPO.out with e0 | ⟨q, hq, hqi, e0⟩
   ·exact absurd e0 hP1
   subst e0
   have eb : ¬ ((q : Int) = -1) := hP1
   have hqS : q < (S.setP L).n := by show q < S.n; rw [HNE.out]; exact hq
   obtain ⟨-, -, t3, -, -⟩ := hY3.pcell (i := q) hqS
   have f3 := hY3.fg (q * 22 + 14)
   have D := hY3.setPnext (i := q) hqS (i : Int)
   have e4 : in4 L up i bef (q : Int) = updL (in3 L up i bef (q : Int)) q { in3 L up i bef (q : Int) q with next := (i : Int) } := by
    unfold in4
    rw [if_neg eb, Int.toNat_natCast]
   have HD : Hid (DY K (wc.setCell ⟨g, q * 22 + 14, none⟩ (.int .i64 (i : Int))) p (S.setP (in4 L up i bef (q : Int))) (some ⟨g, 0, none⟩) cap) := by rw [e4]; exact D.1
   have HK : Hid (Kept K w (wc.setCell ⟨g, q * 22 + 14, none⟩ (.int .i64 (i : Int)))) := hK3.trans D.2
   have hq0 : ((q : Int) == -1) = false := by simp
   have rq := r1 q hq
   clear D hY3 hK3 HP HPO HB H3 HNE e4 hP1
   go_wp2_with (go_at_call 52; refine (rq _ ?_).mono ?_; exact c1; rintro e w2 ⟨rfl, hw2⟩; subst hw2)
   go_end0
   exact ⟨rfl, HD.out, HK.out⟩
end
section
open Go.RowKit Go.Maps Go.WideMaps
def barS : ByteArray := ⟨#[0, 9, 10, 12, 32, 47, 62, 61, 65, 66, 67, 68, 69, 70, 71, 72, 73, 74, 75, 76, 77, 78, 79, 80, 81, 82, 83, 84, 85, 86, 87, 88, 89, 90]⟩
theorem bar_nat : ∀ n : Nat, n < 256 -> (barS.data.toList.any (· == UInt8.ofNat n)) = barB (UInt8.ofNat n) := by decide
theorem bar_is (c : UInt8) : (barS.data.toList.any (· == c)) = barB c := by
 have h := bar_nat c.toNat c.toNat_lt
 rw [UInt8.ofNat_toNat] at h
 exact h
theorem run_ibs (s : ByteArray) (c : Int) (w : World) : (callFunc 70 #[.string s, .int .u8 c]).run Try.prog w = .ok (.value (.int .i64 (firstIdx s c.toNat.toUInt8))) w := by
 rw [run_callFunc_indexByte Try.func70 (by kernel_rfl) (by kernel_rfl) (by kernel_rfl) (by kernel_rfl), run_indexByte_string]
 rfl
theorem ib_any (s : ByteArray) (c : Int) (w : World) :
  Calls Try.prog 69 #[.string s, .int .u8 c] w fun e w' => e = .returned (.int .i64 (firstIdx s c.toNat.toUInt8)) /\ w' = w := by
 have h1 := fun X => run_ibs s c X
 go_enter Try.func69, Try.ntmps69
 go_wp2_with fail
 go_ret
 exact ⟨rfl, rfl⟩
theorem indexByte_any (s : ByteArray) (c : Int) (w : World) :
  Calls Try.prog 68 #[.string s, .int .u8 c] w fun e w' => e = .returned (.int .i64 (firstIdx s c.toNat.toUInt8)) /\ w' = w := by
 have h1 := ib_any s c w
 go_enter Try.func68, Try.ntmps68
 go_wp2_with fail
 refine h1.mono ?_
 rintro e w1 ⟨rfl, rfl⟩
 go_wp2
 go_ret
 exact ⟨rfl, rfl⟩
def nameP (l : List UInt8) : Bool := decide (1 <= l.length) && decide (l.length <= 60) && (l.all fun c => !barB c)
theorem isAttributeName_any (s : ByteArray) (w : World) :
  Calls Try.prog 67 #[.string s] w fun e w' => e = .returned (.bool (nameP s.toList)) /\ w' = w := by
 have hsz : s.toList.length = s.size := by rw [ByteArray.toList_eq]; rfl
 by_cases h0 : (s.toList == []) = true
 ·have e : nameP s.toList = false := by
   have : s.toList = [] := by simpa using h0
   rw [this]; rfl
  rw [e]
  clear hsz
  go_enter Try.func67, Try.ntmps67
  go_wp2
  go_ret
  exact ⟨rfl, rfl⟩
 ·have h0' : (s.toList == []) = false := by simpa using h0
  have hpos : 1 <= s.size := by
   rcases Nat.eq_zero_or_pos s.size with h | h
   ·rw [h] at hsz
    have := List.eq_nil_of_length_eq_zero hsz
    rw [this] at h0
    exact absurd rfl h0
   ·exact h
  by_cases h1 : s.size <= 60
  ·obtain ⟨n, hn⟩ : ∃ n, s.size = n := ⟨_, rfl⟩
   have e : nameP s.toList = (s.toList.all fun c => !barB c) := by
    unfold nameP
    rw [hsz, decide_eq_true hpos, decide_eq_true h1]
    rfl
   obtain ⟨A, hA⟩ : ∃ A, (s.toList.all fun c => !barB c) = A := ⟨_, rfl⟩
   rw [e, hA]
   have HA0 : Hid (((s.toList.drop 0).all fun c => !barB c) = A) := hA
   have HL : Hid (s.toList.length = s.size) := hsz
   clear e hA hsz h0 hn
   go_enter Try.func67, Try.ntmps67
   go_upto_region 4 with fail
   go_loopg [13] s.size (fun g v wr => ∃ k : Nat, g = s.size - k /\ k <= s.size /\ v = .int .i64 k /\ ((s.toList.drop k).all fun c => !barB c) = A /\ wr = w)
   case atStart => exact ⟨0, rfl, Nat.zero_le _, rfl, HA0.out, rfl⟩
   case round =>
    clear HA0
    obtain ⟨k, hgk, hk, rfl, hAk, rfl⟩ := hrel
    have HAk : Hid (((s.toList.drop k).all fun c => !barB c) = A) := hAk
    clear hAk
    by_cases hlt : k < s.size
    ·have hl : k < s.toList.length := by rw [HL.out]; exact hlt
     have hc : s.toList[k] = s[k] := by simp only [ByteArray.toList_eq]; rfl
     have hAk := HAk.out
     rw [List.drop_eq_getElem_cons hl, List.all_cons, hc] at hAk
     obtain ⟨q, hq⟩ : ∃ q, barB s[k] = q := ⟨_, rfl⟩
     obtain ⟨z, hz⟩ : ∃ z, firstIdx barS s[k] = z := ⟨_, rfl⟩
     have hzq : decide (z >= 0) = q := by
      rw [<- hz, <- hq, <- bar_is]
      exact firstIdx_nonneg barS s[k]
     rw [hq] at hAk
     have HA1 : Hid ((!q && ((s.toList.drop (k + 1)).all fun c => !barB c)) = A) := hAk
     have r := indexByte_any barS (s[k].toNat : Int) wr
     have ez : firstIdx barS ((s[k].toNat : Int)).toNat.toUInt8 = z := by
      rw [<- hz]
      congr 1
      simp
     rw [ez] at r
     have HZ : Hid (decide (z >= 0) = q) := hzq
     clear hAk hz hq hc hzq ez HAk hl
     go_wp2_with fail
     refine r.mono ?_
     rintro e w1 ⟨rfl, rfl⟩
     have hzq := HZ.out
     clear r HZ
     cases q with
     | true =>
      have hA : A = false := HA1.out.symm
      subst hA
      clear HA1
      go_wp2
      go_ret
      exact ⟨rfl, rfl⟩
     | false =>
      go_wp2
      go_roundg (s.size - (k + 1))
      case rel => exact ⟨k + 1, rfl, by omega, by go_num, HA1.out, rfl⟩
      case measure => omega
    ·have hkk : k = s.size := by omega
     have hA : A = true := by rw [<- HAk.out, List.drop_eq_nil_of_le (by rw [HL.out]; omega)]; rfl
     subst hA
     clear HAk HL h0'
     go_wp2
     go_ret
     exact ⟨rfl, rfl⟩
  ·have e : nameP s.toList = false := by
    unfold nameP
    rw [hsz, decide_eq_false h1]
    simp
   rw [e]
   clear e hsz h0
   go_enter Try.func67, Try.ntmps67
   go_wp2
   go_ret
   exact ⟨rfl, rfl⟩
theorem zero3 (w : World) : (zeroValue 3).run Try.prog w = .ok (.int .i64 0) w := by kernel_rfl
theorem law9 : Keyed Try.prog 9 := string_keyed Try.underlying9
def CntIs (w : World) (mb n : Nat) (L : List (List UInt8)) : Prop :=
 ∃ D : DataW Unit, w.ownsMap Try.prog 9 (plainElem Try.prog 3) mb n D /\ IsMap D /\ ∀ s, D.atKey (.string s) (.lit (.int .i64 0)) = .lit (.int .i64 (L.count s : Nat))
theorem CntIs.of {w w' : World} {mb n : Nat} {L : List (List UInt8)} (h : CntIs w mb n L) (hb : w'.heap[mb]? = w.heap[mb]?) : CntIs w' mb n L := by
 obtain ⟨D, ⟨es, clock, h1, h2⟩, h3⟩ := h
 exact ⟨D, ⟨es, clock, hb.trans h1, h2⟩, h3⟩
theorem CntIs.lt {w : World} {mb n : Nat} {L : List (List UInt8)} (h : CntIs w mb n L) : mb < w.heap.size := by
 obtain ⟨D, h1, -⟩ := h
 exact h1.lt
theorem grown_kept {w w' : World} {mb : Nat} (h : w.grownBy w' (some mb)) : Kept (fun k => k < w.heap.size /\ k ≠ mb) w w' :=
 ⟨h.os, h.tape, h.output, h.size, fun k hk => h.block k hk.1 (fun e => hk.2 (Option.some.inj e))⟩
theorem CntIs.bump {w : World} {mb n : Nat} {L : List (List UInt8)} (h : CntIs w mb n L) (hn : n <= 1000000) (hL : L.length <= 1000000) (s : ByteArray) (hs : s.size <= maxLen) :
  (Instr.lookup 106 (.map (some mb)) (.string s) false).run Try.prog w = .ok (.int .i64 (L.count s.toList : Nat)) w /\
  ∃ w', (Instr.mapUpdate 106 (.map (some mb)) (.string s) (.int .i64 ((L.count s.toList : Nat) + 1))).run Try.prog w = .ok () w' /\ CntIs w' mb (n + 1) (s.toList :: L) /\ Kept (fun k => k < w.heap.size /\ k ≠ mb) w w' := by
 obtain ⟨D, h1, h2, h3⟩ := h
 have hkey : keyOf Try.prog 9 (.string s) = some (.string s.toList) := by rw [ByteArray.toList_eq]; exact keyOf_string_mk Try.underlying9 hs
 obtain ⟨c, hrun, hat, hwc⟩ := h1.lookup_int law9 Try.underlying106 Try.underlying3 (zero3 _) hkey
 have hc : c = (L.count s.toList : Nat) := by
  rw [h3] at hat
  simpa using hat.symm
 subst hc
 refine ⟨hrun, ?_⟩
 have hcl : L.count s.toList <= L.length := List.count_le_length
 obtain ⟨w', hr, h4, h5⟩ := h1.update law9 Try.underlying106 (by unfold maxLen; omega) hkey (plainElem_int (q := .i64) (a := (L.count s.toList : Nat) + 1) Try.underlying3 (WalkArith.wf_i64 (by omega)))
 ·refine ⟨w', hr, ⟨_, h4, h2.put _ _, fun u => ?_⟩, grown_kept h5⟩
  by_cases hu : s.toList = u
  ·subst hu
   rw [atKey_put_same h2 (show WideAt.IsKeyLit (.string s.toList) from trivial), List.count_cons_self]
   rfl
  ·rw [atKey_put_other (by intro e; injection e with e; exact hu e.symm), h3, List.count_cons_of_ne hu]
def WrX (w : World) (b mb n : Nat) (L : List (List UInt8)) : Prop :=
 b < w.heap.size /\ b ≠ mb /\ w.cell? ⟨b, 0, none⟩ = some (.map (some mb)) /\ CntIs w mb n L
theorem WrX.of {w w' : World} {b mb n : Nat} {L : List (List UInt8)} (h : WrX w b mb n L) (hs : w.heap.size <= w'.heap.size) (h1 : w'.heap[b]? = w.heap[b]?) (h2 : w'.heap[mb]? = w.heap[mb]?) : WrX w' b mb n L :=
 ⟨Nat.lt_of_lt_of_le h.1 hs, h.2.1, by rw [World.cell?_of_block (w := w) (a := ⟨b, 0, none⟩) h1]; exact h.2.2.1, h.2.2.2.of h2⟩
theorem WrX.kept {K : Nat -> Prop} {w w' : World} {b mb n : Nat} {L : List (List UInt8)} (h : WrX w b mb n L) (hk : Kept K w w') (h1 : K b) (h2 : K mb) : WrX w' b mb n L := h.of hk.size (hk.block b h1) (hk.block mb h2)
theorem writP_eq (n v : List UInt8) : writP ⟨n, v⟩ = (nameP n && decide (v.length <= 2000)) := rfl
theorem writ1_any (s t : ByteArray) (b mb n : Nat) (L : List (List UInt8)) (w : World) (h : WrX w b mb n L) (hn : n <= 900000) (hL : L.length <= 900000) (hs : s.size <= 1000000000) (ht : t.size <= 1000000000) :
  Calls Try.prog 66 #[.agg #[.string s, .string t], .pointer (some ⟨b, 0, none⟩)] w fun e w' => e = .returned (.bool (writP ⟨s.toList, t.toList⟩ && !L.contains s.toList)) /\ WrX w' b mb (n + 1) (s.toList :: L) /\ Kept (fun k => k < w.heap.size /\ k ≠ mb) w w' := by
 obtain ⟨h1, h2, h3, h4⟩ := h
 have hmb := h4.lt
 obtain ⟨W, hW⟩ : ∃ W, w.alloc (.cells #[.string s, .string t] 39) = W := ⟨_, rfl⟩
 have kW : Kept (fun k => k < w.heap.size) w W := by rw [<- hW]; exact (Kept.refl _ w).alloc (fun _ h => h) _
 have sW : w.heap.size < W.heap.size := by rw [<- hW]; simp
 have n0 : W.cell? ⟨w.heap.size, 0, none⟩ = some (.string s) := by rw [<- hW, cell_block (heap_alloc_new w _)]; rfl
 have n1 : W.cell? ⟨w.heap.size, 1, none⟩ = some (.string t) := by rw [<- hW, cell_block (heap_alloc_new w _)]; rfl
 have b0 : W.cell? ⟨b, 0, none⟩ = some (.map (some mb)) := by rw [kW.cell (p := ⟨b, 0, none⟩) h1]; exact h3
 have c4 : CntIs W mb n L := h4.of (kW.block mb hmb)
 obtain ⟨hlk, w', hup, c5, k5⟩ := c4.bump (by omega) (by omega) s (by unfold maxLen; omega)
 have hlk2 := (c5.bump (by omega) (by simp; omega) s (by unfold maxLen; omega)).1
 rw [List.count_cons_self] at hlk2
 have hcl : L.count s.toList <= L.length := List.count_le_length
 have hcc : L.contains s.toList = decide (0 < L.count s.toList) := by
  rw [Bool.eq_iff_iff]
  simp [List.count_pos_iff]
 obtain ⟨c, hce⟩ : ∃ c, L.count s.toList = c := ⟨_, rfl⟩
 rw [hce] at hlk hup hlk2 hcl hcc
 rw [writP_eq, hcc]
 obtain ⟨N, hN⟩ : ∃ N, w.heap.size = N := ⟨_, rfl⟩
 have m0 : w'.cell? ⟨N, 0, none⟩ = some (.string s) := by rw [<- hN, k5.cell (p := ⟨w.heap.size, 0, none⟩) ⟨sW, Nat.ne_of_gt hmb⟩]; exact n0
 have m1 : w'.cell? ⟨N, 1, none⟩ = some (.string t) := by rw [<- hN, k5.cell (p := ⟨w.heap.size, 1, none⟩) ⟨sW, Nat.ne_of_gt hmb⟩]; exact n1
 have b5 : w'.cell? ⟨b, 0, none⟩ = some (.map (some mb)) := by rw [k5.cell (p := ⟨b, 0, none⟩) ⟨Nat.lt_trans h1 sW, h2⟩]; exact b0
 have HX : Hid (WrX w' b mb (n + 1) (s.toList :: L)) := ⟨Nat.lt_of_lt_of_le (Nat.lt_trans h1 sW) k5.size, h2, b5, c5⟩
 have HK : Hid (Kept (fun k => k < w.heap.size /\ k ≠ mb) w w') := (kW.mono fun k h => h.1).trans (k5.mono fun k h => ⟨Nat.lt_trans h.1 sW, h.2⟩)
 have hnm := isAttributeName_any s w'
 have HW : Hid (w.alloc (.cells #[.string s, .string t] 39) = W) := hW
 have HN : Hid (w.heap.size = N) := hN
 rw [hN] at n0 n1
 have hcl' : c <= 900000 := by omega
 clear hW kW sW c4 c5 k5 h4 hcc hce hcl hL hn h3 h1 h2 hmb hN
 obtain ⟨q, hq⟩ : ∃ q, nameP s.toList = q := ⟨_, rfl⟩
 rw [hq] at hnm ⊢
 clear hq
 have htl : t.toList.length = t.size := by rw [ByteArray.toList_eq]; rfl
 rw [htl]
 clear htl
 by_cases hc0 : c = 0
 ·subst hc0
  have hup1 : (Instr.mapUpdate 106 (.map (some mb)) (.string s) (.int .i64 1)).run Try.prog W = .ok () w' := hup
  have hlk3 : (Instr.lookup 106 (.map (some mb)) (.string s) false).run Try.prog w' = .ok (.int .i64 1) w' := hlk2
  have hlk0 : (Instr.lookup 106 (.map (some mb)) (.string s) false).run Try.prog W = .ok (.int .i64 0) W := hlk
  clear hup hlk2 hlk
  cases q with
  | true =>
   by_cases hv : t.size <= 2000
   ·rw [decide_eq_true hv]
    have hv' : (t.size : Int) <= 2000 := by omega
    go_enter Try.func66, Try.ntmps66
    go_upto_region 1 with fail
    rw [HW.out, HN.out]
    clear HW HN
    go_wp2_with fail
    refine hnm.mono ?_
    rintro e w2 ⟨rfl, rfl⟩
    clear hnm
    go_wp2
    go_ret
    exact ⟨rfl, HX.out, HK.out⟩
   ·rw [decide_eq_false hv]
    have hv' : decide ((t.size : Int) <= 2000) = false := decide_eq_false (by omega)
    go_enter Try.func66, Try.ntmps66
    go_upto_region 1 with fail
    rw [HW.out, HN.out]
    clear HW HN
    go_wp2_with fail
    refine hnm.mono ?_
    rintro e w2 ⟨rfl, rfl⟩
    clear hnm
    go_wp2
    go_ret
    exact ⟨rfl, HX.out, HK.out⟩
  | false =>
   go_enter Try.func66, Try.ntmps66
   go_upto_region 1 with fail
   rw [HW.out, HN.out]
   clear HW HN
   go_wp2_with fail
   refine hnm.mono ?_
   rintro e w2 ⟨rfl, rfl⟩
   clear hnm
   go_wp2
   go_ret
   exact ⟨rfl, HX.out, HK.out⟩
 ·have e1 : ((c : Int) + 1 == 1) = false := by
   have : (c : Int) + 1 ≠ 1 := by omega
   simpa using this
  have hlk3 : (Instr.lookup 106 (.map (some mb)) (.string s) false).run Try.prog w' = .ok (.int .i64 ((c : Int) + 1)) w' := hlk2
  have er : (q && decide (t.size <= 2000) && !decide (0 < c)) = false := by
   rw [decide_eq_true (show 0 < c by omega)]
   simp
  rw [er]
  clear er hlk2 hnm
  go_enter Try.func66, Try.ntmps66
  go_upto_region 1 with fail
  rw [HW.out, HN.out]
  clear HW HN
  go_wp2
  go_ret
  exact ⟨rfl, HX.out, HK.out⟩
theorem writables_any (w : World) :
  Calls Try.prog 63 #[] w fun e w' => ∃ b mb, e = .returned (.func (.func 66) #[] #[.pointer (some ⟨b, 0, none⟩)]) /\ WrX w' b mb 0 [] /\ Kept (fun k => k < w.heap.size) w w' /\ w.heap.size <= b /\ w.heap.size <= mb := by
 have hmm := @run_makeMap Try.prog
 go_enter Try.func63, Try.ntmps63
 go_wp2
 go_ret
 obtain ⟨W, hW⟩ : ∃ W, w.alloc (.map #[] 0) = W := ⟨_, rfl⟩
 have kW : Kept (fun k => k < w.heap.size) w W := by rw [<- hW]; exact (Kept.refl _ w).alloc (fun _ h => h) _
 have sW : W.heap.size = w.heap.size + 1 := by rw [<- hW]; simp
 have oW : W.ownsMap Try.prog 9 (plainElem (H := Unit) Try.prog 3) w.heap.size 0 (.map []) := by rw [<- hW]; exact World.ownsMap_made _ _ _ _
 rw [hW]
 have hc : CntIs W w.heap.size 0 [] := ⟨_, oW, isMap_empty, fun s => rfl⟩
 have kX : Kept (fun k => k < W.heap.size) W (W.alloc (.cells #[.map (some w.heap.size)] 106)) := (Kept.refl _ W).alloc (fun _ h => h) _
 refine ⟨w.heap.size + 1, w.heap.size, rfl, ⟨by simp; omega, by omega, ?_, hc.of (kX.block _ (by omega))⟩, kW.trans (kX.mono fun k h => by omega), by omega, Nat.le_refl _⟩
 rw [<- sW, cell_block (heap_alloc_new W _)]
 rfl
end
end Go.Proofs.Ytojbjiopilkbgaa
