/-
 A node is put into a row, in memory (chain.put), for the chain of gifts.; The document's own element, may, Sound.; Nodes and all that follow them, in order (pure).
-/
import Derived.Test.YtljnjdckhkglfaaP05
import Derived.Test.YtljnjdckhkglfaaP06
import Derived.Test.YtljnjdckhkglfaaP07
import Derived.Test.YtljnjdckhkglfaaP04
import Derived.Deep.Cut
import Derived.Deep.RegionWith
import Derived.Deep.RegionHeld3
import Derived.Deep.RegionLaw
import Derived.Lib.QuietBelow
import Derived.Deep.QuietTactic
import Derived.BigQuiet
import Derived.Deep.LoopGhost
import Derived.Deep.DeepCutAuto
import Derived.Deep.CutBlock
import Derived.RowKit
namespace Go.Proofs.Ytljnjdckhkglfaa
set_option linter.unusedVariables false
set_option maxRecDepth 100000
set_option maxHeartbeats 8000000
section
open Go.RowKit
theorem putG (K : Nat -> Prop) (p g cap up i : Nat) (bef : Int) (S : Dm) (R : Nat -> List Nat) (w : World) (h : DY K w p S (some ⟨g, 0, none⟩) cap) (hW : WF S.n S.gf R) (hu : up < S.n) (hi : i < S.n) (hui : up ≠ i) (hb : BefOk S.n S.gf up i bef) (hn : S.n <= 1000000000) :
  Calls Try.prog 63 #[chG p, .int .i64 (up : Int), .int .i64 (i : Int), .int .i64 bef] w fun e w' => e = .returned (.tuple #[]) /\ DY K w' p (S.setG (putL S.gf up i bef)) (some ⟨g, 0, none⟩) cap /\ Kept K w w' := by
 obtain ⟨n, hne⟩ : ∃ n, S.n = n := ⟨_, rfl⟩
 have rt := takeOutG K p g cap i S R w h hW hi hn
 have hPo := befP_or hW hu hi hb
 obtain ⟨L, hL⟩ : ∃ L, outL S.gf i = L := ⟨_, rfl⟩
 have hput : putL S.gf up i bef = inL L up i bef (befP L up bef) := by rw [<- hL]; rfl
 rw [hput]
 rw [hL] at rt hPo
 obtain ⟨P, hP⟩ : ∃ P, befP L up bef = P := ⟨_, rfl⟩
 rw [hP] at hPo ⊢
 have hb' : bef = -1 \/ ∃ m : Nat, m < n /\ m ≠ i /\ bef = (m : Int) := by
  rw [<- hne]
  rcases hb with hb | ⟨m, h1, h2, h3, _⟩
  ·exact .inl hb
  ·exact .inr ⟨m, h1, h2, h3⟩
 have hb2 : bef = -1 \/ ∃ m : Nat, m ≠ i /\ bef = (m : Int) := by
  rcases hb' with hb | ⟨m, _, h2, h3⟩
  ·exact .inl hb
  ·exact .inr ⟨m, h2, h3⟩
 have hP2 : P = -1 \/ ∃ q : Nat, q ≠ i /\ P = (q : Int) := by
  rcases hPo with hb | ⟨m, _, h2, h3⟩
  ·exact .inl hb
  ·exact .inr ⟨m, h2, h3⟩
 have hin4 := in4_eq (L := L) hui hb2 hP2
 have hin3 := in3_at (L := L) (P := P) hui hb2
 rw [<- hin4]
 rw [hne] at hPo hu hi
 have r1 := fun (j : Nat) (hj : j < n) (X : World) (hX : X.cell? ⟨p, 1, none⟩ = some (.slice (some ⟨g, 0, none⟩) n cap)) => giftOf_any p g n cap j X hX hj (by omega)
 have ri := r1 i hi
 have ru := r1 up hu
 have hgp := h.gk.2.1
 have HNE : Hid (S.n = n) := hne
 have HP : Hid (befP L up bef = P) := hP
 have HPO : Hid (P = -1 \/ ∃ q : Nat, q < n /\ q ≠ i /\ P = (q : Int)) := hPo
 have HB : Hid (bef = -1 \/ ∃ m : Nat, m < n /\ m ≠ i /\ bef = (m : Int)) := hb'
 have H3 : Hid (in3 L up i bef P i = ⟨(up : Int), P, bef, (L i).first, (L i).last⟩) := hin3
 clear h hW hL hput hP hne hPo hb' hb hb2 hP2 hin4 hin3
 go_enter Try.func63, Try.ntmps63
 go_wp2_with fail
 refine rt.mono ?_
 rintro e w1 ⟨rfl, hY1, hK1⟩
 clear rt
 have hiS : i < (S.setG L).n := by show i < S.n; rw [HNE.out]; exact hi
 have huS : up < (S.setG L).n := by show up < S.n; rw [HNE.out]; exact hu
 have c1 : w1.cell? ⟨p, 1, none⟩ = some (.slice (some ⟨g, 0, none⟩) n cap) := by have := hY1.c1; rw [show (S.setG L).n = n from HNE.out] at this; exact this
 obtain ⟨a0, a1, a2, -, -⟩ := hY1.gcell hiS
 have f0 := hY1.fg (i * 22 + 17)
 have f2 := hY1.fg (i * 22 + 19)
 have D1 := hY1.setGup hiS (up : Int)
 have D2 := D1.1.setGnext hiS bef
 have e1 : updL (updL L i { L i with up := (up : Int) }) i { updL L i { L i with up := (up : Int) } i with next := bef } = in1 L up i bef := by
  rw [updL_updL, updL_same]; rfl
 have D2' : DY K ((w1.setCell ⟨g, i * 22 + 17, none⟩ (.int .i64 (up : Int))).setCell ⟨g, i * 22 + 19, none⟩ (.int .i64 bef)) p (S.setG (in1 L up i bef)) (some ⟨g, 0, none⟩) cap := by rw [<- e1]; exact D2.1
 have kk := hK1.trans (D1.2.trans D2.2)
 obtain ⟨W1, hW1⟩ : ∃ W1, ((w1.setCell ⟨g, i * 22 + 17, none⟩ (.int .i64 (up : Int))).setCell ⟨g, i * 22 + 19, none⟩ (.int .i64 bef)) = W1 := ⟨_, rfl⟩
 rw [hW1] at D2' kk
 have HW1 : Hid (((w1.setCell ⟨g, i * 22 + 17, none⟩ (.int .i64 (up : Int))).setCell ⟨g, i * 22 + 19, none⟩ (.int .i64 bef)) = W1) := hW1
 have HY2 : Hid (DY K W1 p (S.setG (in1 L up i bef)) (some ⟨g, 0, none⟩) cap) := D2'
 have HK2 : Hid (Kept K w W1) := kk
 clear hY1 hK1 D1 D2 D2' e1 hW1 kk
 go_upto_if 24 with (go_at_call 94; refine (ri _ ?_).mono ?_; exact c1; rintro e w2 ⟨rfl, rfl⟩)
 rw [HW1.out]
 clear HW1 a0 a1 a2 f0 f2 c1
 have c1 : W1.cell? ⟨p, 1, none⟩ = some (.slice (some ⟨g, 0, none⟩) n cap) := by have := HY2.out.c1; rw [show (S.setG (in1 L up i bef)).n = n from HNE.out] at this; exact this
 go_cut [] (fun wx => DY K wx p (S.setG (in3 L up i bef P)) (some ⟨g, 0, none⟩) cap /\ Kept K w wx)
 case first =>
  by_cases hb1 : bef = -1
  ·subst hb1
   have eP : (in1 L up i (-1) up).last = P := by
    unfold in1
    rw [updL_ne _ _ hui, <- HP.out]; rfl
   obtain ⟨-, -, -, -, t4⟩ := HY2.out.gcell (i := up) huS
   replace t4 : W1.cell? ⟨g, up * 22 + 21, none⟩ = some (.int .i64 P) := by rw [<- eP]; exact t4
   obtain ⟨-, t1, -, -, -⟩ := HY2.out.gcell (i := i) hiS
   have D1 := HY2.out.setGprev (i := i) hiS P
   have f1 := HY2.out.fg (i * 22 + 18)
   have f2 := D1.1.fg (up * 22 + 21)
   have D2 := D1.1.setGlast (i := up) huS (i : Int)
   obtain ⟨-, -, -, -, t5⟩ := D1.1.gcell (i := up) huS
   have c2 : (W1.setCell ⟨g, i * 22 + 18, none⟩ (.int .i64 P)).cell? ⟨p, 1, none⟩ = some (.slice (some ⟨g, 0, none⟩) n cap) := by
    rw [World.cell?_setCell_other _ _ _ _ (fun e => by injection e with e1; exact hgp e1)]; exact c1
   have HD : Hid (DY K ((W1.setCell ⟨g, i * 22 + 18, none⟩ (.int .i64 P)).setCell ⟨g, up * 22 + 21, none⟩ (.int .i64 (i : Int))) p (S.setG (in3 L up i (-1) P)) (some ⟨g, 0, none⟩) cap) := D2.1
   have HK : Hid (Kept K w ((W1.setCell ⟨g, i * 22 + 18, none⟩ (.int .i64 P)).setCell ⟨g, up * 22 + 21, none⟩ (.int .i64 (i : Int)))) := HK2.out.trans (D1.2.trans D2.2)
   clear D1 D2 eP HP HPO HB H3 HNE
   go_wp2_with (first | (go_at_call 94; refine (ru _ ?_).mono ?_; exact c1; rintro e w2 ⟨rfl, hw2⟩; subst hw2) | (go_at_call 94; refine (ru _ ?_).mono ?_; exact c2; rintro e w2 ⟨rfl, hw2⟩; subst hw2))
   go_meet
   case rel => exact ⟨HD.out, HK.out⟩
  ·rcases HB.out with e0 | ⟨m, hm, hmi, e0⟩
   ·exact absurd e0 hb1
   subst e0
   have eb : ¬ ((m : Int) = -1) := hb1
   have hmS : m < (S.setG L).n := by show m < S.n; rw [HNE.out]; exact hm
   have eP : (in1 L up i (m : Int) m).prev = P := by
    unfold in1
    rw [updL_ne _ _ hmi, <- HP.out]
    unfold befP
    rw [if_neg eb, Int.toNat_natCast]
   obtain ⟨-, t4, -, -, -⟩ := HY2.out.gcell (i := m) hmS
   replace t4 : W1.cell? ⟨g, m * 22 + 18, none⟩ = some (.int .i64 P) := by rw [<- eP]; exact t4
   obtain ⟨-, t1, -, -, -⟩ := HY2.out.gcell (i := i) hiS
   have D1 := HY2.out.setGprev (i := i) hiS P
   have f1 := HY2.out.fg (i * 22 + 18)
   have f2 := D1.1.fg (m * 22 + 18)
   have D2 := D1.1.setGprev (i := m) hmS (i : Int)
   obtain ⟨-, t5, -, -, -⟩ := D1.1.gcell (i := m) hmS
   have c2 : (W1.setCell ⟨g, i * 22 + 18, none⟩ (.int .i64 P)).cell? ⟨p, 1, none⟩ = some (.slice (some ⟨g, 0, none⟩) n cap) := by
    rw [World.cell?_setCell_other _ _ _ _ (fun e => by injection e with e1; exact hgp e1)]; exact c1
   have e3 : in3 L up i (m : Int) P = updL (in2 L up i (m : Int) P) m { in2 L up i (m : Int) P m with prev := (i : Int) } := by
    unfold in3
    rw [if_neg eb, Int.toNat_natCast]
   have HD : Hid (DY K ((W1.setCell ⟨g, i * 22 + 18, none⟩ (.int .i64 P)).setCell ⟨g, m * 22 + 18, none⟩ (.int .i64 (i : Int))) p (S.setG (in3 L up i (m : Int) P)) (some ⟨g, 0, none⟩) cap) := by rw [e3]; exact D2.1
   have HK : Hid (Kept K w ((W1.setCell ⟨g, i * 22 + 18, none⟩ (.int .i64 P)).setCell ⟨g, m * 22 + 18, none⟩ (.int .i64 (i : Int)))) := HK2.out.trans (D1.2.trans D2.2)
   have hm0 : ((m : Int) == -1) = false := by simp
   have rm := r1 m hm
   clear D1 D2 eP HP HPO HB H3 HNE e3 hb1
   go_wp2_with (first | (go_at_call 94; refine (rm _ ?_).mono ?_; exact c1; rintro e w2 ⟨rfl, hw2⟩; subst hw2) | (go_at_call 94; refine (rm _ ?_).mono ?_; exact c2; rintro e w2 ⟨rfl, hw2⟩; subst hw2))
   go_meet
   case rel => exact ⟨HD.out, HK.out⟩
 case rest =>
  obtain ⟨hY3, hK3⟩ := hcut
  clear c1 HY2 HK2
  have c1 : wc.cell? ⟨p, 1, none⟩ = some (.slice (some ⟨g, 0, none⟩) n cap) := by have := hY3.c1; rw [show (S.setG (in3 L up i bef P)).n = n from HNE.out] at this; exact this
  obtain ⟨-, t1, -, -, -⟩ := hY3.gcell (i := i) hiS
  replace t1 : wc.cell? ⟨g, i * 22 + 18, none⟩ = some (.int .i64 P) := by
   rw [show (S.setG (in3 L up i bef P)).gf i = in3 L up i bef P i from rfl, H3.out] at t1
   exact t1
  by_cases hP1 : P = -1
  ·subst hP1
   obtain ⟨-, -, -, t3, -⟩ := hY3.gcell (i := up) huS
   have f3 := hY3.fg (up * 22 + 20)
   have D := hY3.setGfirst (i := up) huS (i : Int)
   have HD : Hid (DY K (wc.setCell ⟨g, up * 22 + 20, none⟩ (.int .i64 (i : Int))) p (S.setG (in4 L up i bef (-1))) (some ⟨g, 0, none⟩) cap) := D.1
   have HK : Hid (Kept K w (wc.setCell ⟨g, up * 22 + 20, none⟩ (.int .i64 (i : Int)))) := hK3.trans D.2
   clear D hY3 hK3 HP HPO HB H3 HNE
   go_wp2_with (go_at_call 94; refine (ru _ ?_).mono ?_; exact c1; rintro e w2 ⟨rfl, hw2⟩; subst hw2)
   go_end0
   exact ⟨rfl, HD.out, HK.out⟩
  ·rcases HPO.out with e0 | ⟨q, hq, hqi, e0⟩
   ·exact absurd e0 hP1
   subst e0
   have eb : ¬ ((q : Int) = -1) := hP1
   have hqS : q < (S.setG L).n := by show q < S.n; rw [HNE.out]; exact hq
   obtain ⟨-, -, t3, -, -⟩ := hY3.gcell (i := q) hqS
   have f3 := hY3.fg (q * 22 + 19)
   have D := hY3.setGnext (i := q) hqS (i : Int)
   have e4 : in4 L up i bef (q : Int) = updL (in3 L up i bef (q : Int)) q { in3 L up i bef (q : Int) q with next := (i : Int) } := by
    unfold in4
    rw [if_neg eb, Int.toNat_natCast]
   have HD : Hid (DY K (wc.setCell ⟨g, q * 22 + 19, none⟩ (.int .i64 (i : Int))) p (S.setG (in4 L up i bef (q : Int))) (some ⟨g, 0, none⟩) cap) := by rw [e4]; exact D.1
   have HK : Hid (Kept K w (wc.setCell ⟨g, q * 22 + 19, none⟩ (.int .i64 (i : Int)))) := hK3.trans D.2
   have hq0 : ((q : Int) == -1) = false := by simp
   have rq := r1 q hq
   clear D hY3 hK3 HP HPO HB H3 HNE e4 hP1
   go_wp2_with (go_at_call 94; refine (rq _ ?_).mono ?_; exact c1; rintro e w2 ⟨rfl, hw2⟩; subst hw2)
   go_end0
   exact ⟨rfl, HD.out, HK.out⟩
end
section
open Go.RowKit Go.Sort
theorem AtsAt.take {K : Nat -> Prop} {w : World} {aa : Option Addr} {l : List Atr} (h : AtsAt K w aa l) (k : Nat) : AtsAt K w aa (l.take k) := fun j hj => by
 have hj' : j < l.length := by rw [List.length_take] at hj; omega
 obtain ⟨g, o, h1, h2, h3, h4⟩ := h j hj'
 rw [List.getElem_take]
 exact ⟨g, o, h1, h2, h3, h4⟩
end
section
def trF (F : Nat -> List Nat) : Nat -> Nat -> List Nat
 | 0, i => [i]
 | f + 1, i => i :: (F i).flatMap (trF F f)
def Falls (n : Nat) (F : Nat -> List Nat) (rk : Nat -> Nat) : Prop := ∀ i, i < n -> ∀ k ∈ F i, k < n /\ rk i < rk k
def dn (n : Nat) (rk : Nat -> Nat) (i : Nat) : Nat := (List.range n).countP (fun k => decide (rk i < rk k))
theorem dn_le (n : Nat) (rk : Nat -> Nat) (i : Nat) : dn n rk i <= n := by
 unfold dn
 exact Nat.le_trans List.countP_le_length (by simp)
theorem countP_lt {α : Type} {p q : α -> Bool} : ∀ {l : List α}, (∀ x ∈ l, p x = true -> q x = true) -> (∃ x ∈ l, q x = true /\ p x = false) -> l.countP p < l.countP q
 | [], _, ⟨x, hx, _⟩ => by cases hx
 | y :: r, hs, ⟨x, hx, hq, hp⟩ => by
  have hle : r.countP p <= r.countP q := List.countP_mono_left fun z hz => hs z (List.mem_cons_of_mem _ hz)
  rw [List.countP_cons, List.countP_cons]
  rcases List.mem_cons.1 hx with rfl | hx
  ·rw [hq, hp]; simp; omega
  ·have ih := countP_lt (l := r) (fun z hz => hs z (List.mem_cons_of_mem _ hz)) ⟨x, hx, hq, hp⟩
   have := hs y (List.mem_cons_self ..)
   cases h1 : p y with
   | false => cases h2 : q y <;> simp <;> omega
   | true => rw [this h1]; simp; omega
theorem dn_lt {n : Nat} {rk : Nat -> Nat} {i k : Nat} (hk : k < n) (h : rk i < rk k) : dn n rk k < dn n rk i := by
 refine countP_lt (fun x _ hx => ?_) ⟨k, List.mem_range.2 hk, decide_eq_true h, decide_eq_false (Nat.lt_irrefl _)⟩
 exact decide_eq_true (Nat.lt_trans h (of_decide_eq_true hx))
theorem flatMap_congr' {α β : Type} {f g : α -> List β} : ∀ {l : List α}, (∀ x ∈ l, f x = g x) -> l.flatMap f = l.flatMap g
 | [], _ => rfl
 | x :: r, h => by
  rw [List.flatMap_cons, List.flatMap_cons, h x (List.mem_cons_self ..), flatMap_congr' fun y hy => h y (List.mem_cons_of_mem _ hy)]
theorem trF_stable {n : Nat} {F : Nat -> List Nat} {rk : Nat -> Nat} (h : Falls n F rk) : ∀ (f g i : Nat), i < n -> dn n rk i <= f -> dn n rk i <= g -> trF F f i = trF F g i
 | 0, 0, i, _, _, _ => rfl
 | 0, g + 1, i, hi, h0, _ => by
  have : F i = [] := by
   cases hF : F i with
   | nil => rfl
   | cons k r =>
    have ⟨h1, h2⟩ := h i hi k (by rw [hF]; exact List.mem_cons_self ..)
    have := dn_lt h1 h2
    omega
  simp [trF, this]
 | f + 1, 0, i, hi, _, h0 => by
  have : F i = [] := by
   cases hF : F i with
   | nil => rfl
   | cons k r =>
    have ⟨h1, h2⟩ := h i hi k (by rw [hF]; exact List.mem_cons_self ..)
    have := dn_lt h1 h2
    omega
  simp [trF, this]
 | f + 1, g + 1, i, hi, hf, hg => by
  show i :: (F i).flatMap (trF F f) = i :: (F i).flatMap (trF F g)
  congr 1
  refine flatMap_congr' fun k hk => ?_
  have ⟨h1, h2⟩ := h i hi k hk
  have := dn_lt h1 h2
  exact trF_stable h f g k h1 (by omega) (by omega)
def tr (n : Nat) (F : Nat -> List Nat) (i : Nat) : List Nat := trF F n i
theorem tr_eq {n : Nat} {F : Nat -> List Nat} {rk : Nat -> Nat} (h : Falls n F rk) {i : Nat} (hi : i < n) : tr n F i = i :: (F i).flatMap (tr n F) := by
 have e : trF F n i = trF F (n + 1) i := trF_stable h n (n + 1) i hi (dn_le ..) (Nat.le_trans (dn_le ..) (Nat.le_succ _))
 exact e
theorem tr_lt {n : Nat} {F : Nat -> List Nat} {rk : Nat -> Nat} (h : Falls n F rk) : ∀ (f i : Nat), i < n -> ∀ k ∈ trF F f i, k < n
 | 0, i, hi, k, hk => by
  rcases List.mem_singleton.1 hk with rfl
  exact hi
 | f + 1, i, hi, k, hk => by
  rcases List.mem_cons.1 hk with rfl | hk
  ·exact hi
  ·obtain ⟨m, hm, hk⟩ := List.mem_flatMap.1 hk
   exact tr_lt h f m (h i hi m hm).1 k hk
end
end Go.Proofs.Ytljnjdckhkglfaa
