/-
  The document's own SameAttrs.
  The program's Slot and Given.
  A node is put at the end of its own row of gifts.
  What is given, in rows and in links (pure).
-/
import Derived.Test.YtbhfnbplbkncmaaGreatYT30
import Derived.Laws.StructEq
import Derived.Test.YtbhfnbplbkncmaaGreatZ13
import Derived.Test.YtbhfnbplbkncmaaGreatZ06
namespace Go.Proofs.YtbhfnbplbkncmaaGreat
open Go.RowKit Go.Sort
set_option linter.unusedVariables false
end Go.Proofs.YtbhfnbplbkncmaaGreat

namespace Go.Proofs.YtbhfnbplbkncmaaGreat
open Go.RowKit Go.Sort
set_option linter.unusedVariables false
end Go.Proofs.YtbhfnbplbkncmaaGreat

namespace Go.Proofs.YtbhfnbplbkncmaaGreat
open Go.RowKit
set_option linter.unusedVariables false
theorem in3_self {L : Nat → Lk} {i : Nat} {P : Int} : (in3 L i i (-1) P i).prev = P := by
  unfold in3
  rw [in2_eq, if_pos rfl, updL_same, updL_same]
theorem in4_self {L : Nat → Lk} {i : Nat} {P : Int} (hP : P = -1 ∨ ∃ q : Nat, q ≠ i ∧ P = (q : Int)) : in4 L i i (-1) P = inL L i i (-1) P := by
  funext k
  unfold in4 in3 inL
  rw [in2_eq]
  have e1 : ¬ ((k : Int) = -1) := by omega
  rcases hP with rfl | ⟨q, hq, rfl⟩ <;> unfold updL
  · by_cases c : k = i
    · subst c
      simp [*]
    · simp [*]
  · have e2 : ¬ ((q : Int) = -1) := by omega
    by_cases c : k = i
    · subst c
      have : ¬ k = q := fun e => hq e.symm
      simp [*]
    · by_cases c2 : k = q
      · subst c2; simp [*]
      · have : ¬ (k : Int) = (q : Int) := by omega
        simp [*]
set_option maxRecDepth 20000 in
set_option maxHeartbeats 2000000 in
theorem putGself (K : Nat → Prop) (p g cap i : Nat) (S : Dm) (R : Nat → List Nat) (w : World) (h : DY K w p S (some ⟨g, 0, none⟩) cap) (hW : WF S.n S.gf R) (hi : i < S.n) (hn : S.n ≤ 1000000000) :
    Calls Tryz.prog 146 #[chG p, .int .i64 (i : Int), .int .i64 (i : Int), .int .i64 (-1)] w fun e w' => e = .returned (.tuple #[]) ∧ DY K w' p (S.setG (putL S.gf i i (-1))) (some ⟨g, 0, none⟩) cap ∧ Kept K w w' := by
  obtain ⟨n, hne⟩ : ∃ n, S.n = n := ⟨_, rfl⟩
  have rt := takeOutG K p g cap i S R w h hW hi hn
  have hPo := befP_or hW hi hi (bef := -1) (.inl rfl)
  obtain ⟨L, hL⟩ : ∃ L, outL S.gf i = L := ⟨_, rfl⟩
  have hput : putL S.gf i i (-1) = inL L i i (-1) (befP L i (-1)) := by rw [← hL]; rfl
  rw [hput]
  rw [hL] at rt hPo
  obtain ⟨P, hP⟩ : ∃ P, befP L i (-1) = P := ⟨_, rfl⟩
  rw [hP] at hPo ⊢
  have hP2 : P = -1 ∨ ∃ q : Nat, q ≠ i ∧ P = (q : Int) := by
    rcases hPo with hb | ⟨m, _, h2, h3⟩
    · exact .inl hb
    · exact .inr ⟨m, h2, h3⟩
  have hin4 := in4_self (L := L) hP2
  have hin3 := in3_self (L := L) (i := i) (P := P)
  rw [← hin4]
  rw [hne] at hPo hi
  have r1 := fun (j : Nat) (hj : j < n) (X : World) (hX : X.cell? ⟨p, 1, none⟩ = some (.slice (some ⟨g, 0, none⟩) n cap)) => giftOf_any p g n cap j X hX hj (by omega)
  have ri := r1 i hi
  have hgp := h.gk.2.1
  have HNE : Hid (S.n = n) := hne
  have HP : Hid (befP L i (-1) = P) := hP
  have HPO : Hid (P = -1 ∨ ∃ q : Nat, q < n ∧ q ≠ i ∧ P = (q : Int)) := hPo
  have H3 : Hid ((in3 L i i (-1) P i).prev = P) := hin3
  clear h hW hL hput hP hne hPo hP2 hin4 hin3
  go_enter Tryz.func146, Tryz.ntmps146
  go_wp2_with fail
  refine rt.mono ?_
  rintro e w1 ⟨rfl, hY1, hK1⟩
  clear rt
  have hiS : i < (S.setG L).n := by show i < S.n; rw [HNE.out]; exact hi
  have c1 : w1.cell? ⟨p, 1, none⟩ = some (.slice (some ⟨g, 0, none⟩) n cap) := by have := hY1.c1; rw [show (S.setG L).n = n from HNE.out] at this; exact this
  obtain ⟨a0, a1, a2, -, -⟩ := hY1.gcell hiS
  have f0 := hY1.fg (i * 22 + 17)
  have f2 := hY1.fg (i * 22 + 19)
  have D1 := hY1.setGup hiS (i : Int)
  have D2 := D1.1.setGnext hiS (-1)
  have e1 : updL (updL L i { L i with up := (i : Int) }) i { updL L i { L i with up := (i : Int) } i with next := -1 } = in1 L i i (-1) := by
    rw [updL_updL, updL_same]; rfl
  have D2' : DY K ((w1.setCell ⟨g, i * 22 + 17, none⟩ (.int .i64 (i : Int))).setCell ⟨g, i * 22 + 19, none⟩ (.int .i64 (-1))) p (S.setG (in1 L i i (-1))) (some ⟨g, 0, none⟩) cap := by rw [← e1]; exact D2.1
  have kk := hK1.trans (D1.2.trans D2.2)
  obtain ⟨W1, hW1⟩ : ∃ W1, ((w1.setCell ⟨g, i * 22 + 17, none⟩ (.int .i64 (i : Int))).setCell ⟨g, i * 22 + 19, none⟩ (.int .i64 (-1))) = W1 := ⟨_, rfl⟩
  rw [hW1] at D2' kk
  have HW1 : Hid (((w1.setCell ⟨g, i * 22 + 17, none⟩ (.int .i64 (i : Int))).setCell ⟨g, i * 22 + 19, none⟩ (.int .i64 (-1))) = W1) := hW1
  have HY2 : Hid (DY K W1 p (S.setG (in1 L i i (-1))) (some ⟨g, 0, none⟩) cap) := D2'
  have HK2 : Hid (Kept K w W1) := kk
  clear hY1 hK1 D1 D2 D2' e1 hW1 kk
  go_upto_if 24 with (go_at_call 189; refine (ri _ ?_).mono ?_; exact c1; rintro e w2 ⟨rfl, rfl⟩)
  rw [HW1.out]
  clear HW1 a0 a1 a2 f0 f2 c1
  have c1 : W1.cell? ⟨p, 1, none⟩ = some (.slice (some ⟨g, 0, none⟩) n cap) := by have := HY2.out.c1; rw [show (S.setG (in1 L i i (-1))).n = n from HNE.out] at this; exact this
  go_cut [] (fun wx => DY K wx p (S.setG (in3 L i i (-1) P)) (some ⟨g, 0, none⟩) cap ∧ Kept K w wx)
  case first =>
    have eP : (in1 L i i (-1) i).last = P := by
      unfold in1
      rw [updL_same, ← HP.out]; rfl
    obtain ⟨-, -, -, -, t4⟩ := HY2.out.gcell (i := i) hiS
    replace t4 : W1.cell? ⟨g, i * 22 + 21, none⟩ = some (.int .i64 P) := by rw [← eP]; exact t4
    obtain ⟨-, t1, -, -, -⟩ := HY2.out.gcell (i := i) hiS
    have D1 := HY2.out.setGprev (i := i) hiS P
    have f1 := HY2.out.fg (i * 22 + 18)
    have f2 := D1.1.fg (i * 22 + 21)
    have D2 := D1.1.setGlast (i := i) hiS (i : Int)
    obtain ⟨-, -, -, -, t5⟩ := D1.1.gcell (i := i) hiS
    have c2 : (W1.setCell ⟨g, i * 22 + 18, none⟩ (.int .i64 P)).cell? ⟨p, 1, none⟩ = some (.slice (some ⟨g, 0, none⟩) n cap) := by
      rw [World.cell?_setCell_other _ _ _ _ (fun e => by injection e with e1; exact hgp e1)]; exact c1
    have HD : Hid (DY K ((W1.setCell ⟨g, i * 22 + 18, none⟩ (.int .i64 P)).setCell ⟨g, i * 22 + 21, none⟩ (.int .i64 (i : Int))) p (S.setG (in3 L i i (-1) P)) (some ⟨g, 0, none⟩) cap) := D2.1
    have HK : Hid (Kept K w ((W1.setCell ⟨g, i * 22 + 18, none⟩ (.int .i64 P)).setCell ⟨g, i * 22 + 21, none⟩ (.int .i64 (i : Int)))) := HK2.out.trans (D1.2.trans D2.2)
    clear D1 D2 eP HP HPO H3 HNE
    go_wp2_with (first | (go_at_call 189; refine (ri _ ?_).mono ?_; exact c1; rintro e w2 ⟨rfl, hw2⟩; subst hw2) | (go_at_call 189; refine (ri _ ?_).mono ?_; exact c2; rintro e w2 ⟨rfl, hw2⟩; subst hw2))
    go_meet
    case rel => exact ⟨HD.out, HK.out⟩
  case rest =>
    obtain ⟨hY3, hK3⟩ := hcut
    clear c1 HY2 HK2
    have c1 : wc.cell? ⟨p, 1, none⟩ = some (.slice (some ⟨g, 0, none⟩) n cap) := by have := hY3.c1; rw [show (S.setG (in3 L i i (-1) P)).n = n from HNE.out] at this; exact this
    obtain ⟨-, t1, -, -, -⟩ := hY3.gcell (i := i) hiS
    replace t1 : wc.cell? ⟨g, i * 22 + 18, none⟩ = some (.int .i64 P) := by
      rw [show (S.setG (in3 L i i (-1) P)).gf i = in3 L i i (-1) P i from rfl, H3.out] at t1
      exact t1
    by_cases hP1 : P = -1
    · subst hP1
      obtain ⟨-, -, -, t3, -⟩ := hY3.gcell (i := i) hiS
      have f3 := hY3.fg (i * 22 + 20)
      have D := hY3.setGfirst (i := i) hiS (i : Int)
      have HD : Hid (DY K (wc.setCell ⟨g, i * 22 + 20, none⟩ (.int .i64 (i : Int))) p (S.setG (in4 L i i (-1) (-1))) (some ⟨g, 0, none⟩) cap) := D.1
      have HK : Hid (Kept K w (wc.setCell ⟨g, i * 22 + 20, none⟩ (.int .i64 (i : Int)))) := hK3.trans D.2
      clear D hY3 hK3 HP HPO H3 HNE
      go_wp2_with (go_at_call 189; refine (ri _ ?_).mono ?_; exact c1; rintro e w2 ⟨rfl, hw2⟩; subst hw2)
      go_end0
      exact ⟨rfl, HD.out, HK.out⟩
    · rcases HPO.out with e0 | ⟨q, hq, hqi, e0⟩
      · exact absurd e0 hP1
      subst e0
      have eb : ¬ ((q : Int) = -1) := hP1
      have hqS : q < (S.setG L).n := by show q < S.n; rw [HNE.out]; exact hq
      obtain ⟨-, -, t3, -, -⟩ := hY3.gcell (i := q) hqS
      have f3 := hY3.fg (q * 22 + 19)
      have D := hY3.setGnext (i := q) hqS (i : Int)
      have e4 : in4 L i i (-1) (q : Int) = updL (in3 L i i (-1) (q : Int)) q { in3 L i i (-1) (q : Int) q with next := (i : Int) } := by
        unfold in4
        rw [if_neg eb, Int.toNat_natCast]
      have HD : Hid (DY K (wc.setCell ⟨g, q * 22 + 19, none⟩ (.int .i64 (i : Int))) p (S.setG (in4 L i i (-1) (q : Int))) (some ⟨g, 0, none⟩) cap) := by rw [e4]; exact D.1
      have HK : Hid (Kept K w (wc.setCell ⟨g, q * 22 + 19, none⟩ (.int .i64 (i : Int)))) := hK3.trans D.2
      have hq0 : ((q : Int) == -1) = false := by simp
      have rq := r1 q hq
      clear D hY3 hK3 HP HPO H3 HNE e4 hP1
      go_wp2_with (go_at_call 189; refine (rq _ ?_).mono ?_; exact c1; rintro e w2 ⟨rfl, hw2⟩; subst hw2)
      go_end0
      exact ⟨rfl, HD.out, HK.out⟩
end Go.Proofs.YtbhfnbplbkncmaaGreat

namespace Go.Proofs.YtbhfnbplbkncmaaGreat
open Go.RowKit
set_option linter.unusedVariables false
theorem updR_updR (R : Nat → List Nat) (u : Nat) (a b : List Nat) : updR (updR R u a) u b = updR R u b := by
  funext k
  unfold updR
  by_cases c : k = u
  · rw [if_pos c, if_pos c]
  · rw [if_neg c, if_neg c, if_neg c]
theorem updR_self (R : Nat → List Nat) (u : Nat) (a : List Nat) (h : R u = a) : updR R u a = R := by
  funext k
  unfold updR
  by_cases c : k = u
  · rw [if_pos c, c, h]
  · rw [if_neg c]
theorem WF.outs {n : Nat} {slot : Nat} (hs : slot < n) : ∀ (Q : List Nat) {L : Nat → Lk} {G : Nat → List Nat}, WF n L G → G slot = Q → WF n (outsL L Q) (updR G slot [])
  | [], L, G, h, e => by rw [updR_self G slot [] e]; exact h
  | q :: r, L, G, h, e => by
    have hq : q ∈ G slot := by rw [e]; exact List.mem_cons_self ..
    have hu := h.up hs hq
    have h1 := h.out (h.lt slot hs q hq)
    have e1 : outR L G q = updR G slot r := by
      unfold outR
      rw [if_neg (by omega), hu, Int.toNat_natCast, e, List.erase_cons_head]
    rw [e1] at h1
    have := WF.outs hs r h1 (updR_same _ _ _)
    rw [updR_updR] at this
    exact this
/-- The rows, when those are given one by one. -/
def gsR (slot : Nat) : (Nat → Lk) → (Nat → List Nat) → List Nat → Nat → List Nat
  | _, G, [] => G
  | L, G, x :: r => gsR slot (if (L x).up = (slot : Int) then L else putL L slot x (-1)) (if (L x).up = (slot : Int) then G else updR (outR L G x) slot (outR L G x slot ++ [x])) r
theorem gsR_snoc (slot x : Nat) : ∀ (a : List Nat) (L : Nat → Lk) (G : Nat → List Nat), gsR slot L G (a ++ [x]) = if (addsL L slot a x).up = (slot : Int) then gsR slot L G a else updR (outR (addsL L slot a) (gsR slot L G a) x) slot (outR (addsL L slot a) (gsR slot L G a) x slot ++ [x])
  | [], L, G => rfl
  | y :: r, L, G => gsR_snoc slot x r _ _
theorem WF.gs {n : Nat} {slot : Nat} (hs : slot < n) : ∀ (l : List Nat) {L : Nat → Lk} {G : Nat → List Nat}, WF n L G → (∀ i ∈ l, i < n) → WF n (addsL L slot l) (gsR slot L G l)
  | [], L, G, h, _ => h
  | x :: r, L, G, h, hl => by
    refine WF.gs hs r (L := if (L x).up = (slot : Int) then L else putL L slot x (-1)) (G := if (L x).up = (slot : Int) then G else updR (outR L G x) slot (outR L G x slot ++ [x])) ?_ (fun i hi => hl i (List.mem_cons_of_mem _ hi))
    by_cases c : (L x).up = (slot : Int)
    · rw [if_pos c, if_pos c]; exact h
    · rw [if_neg c, if_neg c]
      exact h.putOk hs (hl x (List.mem_cons_self ..)) (.last rfl)
/-- To which slot something is given. -/
theorem WF.slotA {n : Nat} {L : Nat → Lk} {G : Nat → List Nat} (h : WF n L G) {x : Nat} (hx : x < n) : SlotA n G (x : Int) (L x).up := by
  have mem : ∀ t, (x : Int) ∈ (G t).map (fun k : Nat => (k : Int)) ↔ x ∈ G t := fun t => by
    constructor
    · intro hm
      obtain ⟨y, hy, e⟩ := List.mem_map.1 hm
      have : y = x := by omega
      exact this ▸ hy
    · exact fun hm => List.mem_map.2 ⟨x, hm, rfl⟩
  rcases h.inn x hx with e | ⟨u, hu, e, hm⟩
  · rw [e]
    refine .no fun t ht hm => ?_
    have := h.up ht ((mem t).1 hm)
    omega
  · rw [e]
    refine .yes hu ((mem u).2 hm) fun t ht hm' => ?_
    have := h.one hu (by omega) hm ((mem t).1 hm')
    omega
theorem SlotA.one {n : Nat} {G : Nat → List Nat} {x z z' : Int} (h : SlotA n G x z) (h' : SlotA n G x z') : z = z' := by
  cases h with
  | no hn =>
    cases h' with
    | no _ => rfl
    | yes hs hm _ => exact absurd hm (hn _ hs)
  | @yes s hs hm ha =>
    cases h' with
    | no hn => exact absurd hm (hn _ hs)
    | @yes s' hs' hm' ha' =>
      rcases Nat.lt_trichotomy s s' with c | c | c
      · exact absurd hm (ha' _ c)
      · rw [c]
      · exact absurd hm' (ha _ c)
end Go.Proofs.YtbhfnbplbkncmaaGreat
