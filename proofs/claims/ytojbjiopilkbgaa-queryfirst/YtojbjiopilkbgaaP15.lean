/-
 The document's own right.; The document's own Limit, Drop, Set: what they refuse; what append of attributes leaves.; The document's own Given, Slot.; The program's Limit, Remove, Write; what its Insert refuses.; The document's own gives.; The document's own SameInts, SameAttrs.; The program's Slot a
-/
import Derived.Test.YtojbjiopilkbgaaP14
import Derived.Test.YtojbjiopilkbgaaP11
import Derived.Test.YtojbjiopilkbgaaP13
import Derived.Test.YtojbjiopilkbgaaP09
import Derived.Test.YtojbjiopilkbgaaP12
import Derived.Test.YtojbjiopilkbgaaP10
import Derived.Laws.StructEq
import Derived.BigQuiet
namespace Go.Proofs.Ytojbjiopilkbgaa
set_option linter.unusedVariables false
set_option maxRecDepth 100000
set_option maxHeartbeats 8000000
section
open Go.RowKit Go.Sort
theorem soundN_4 (S D : List UInt8) (l : List Atr) : soundN ⟨4, S, D, l⟩ = ((S == [] && D == []) && decide (l.length = 0)) := rfl
theorem soundN_2 (S D : List UInt8) (l : List Atr) : soundN ⟨2, S, D, l⟩ = ((S == []) && decide (l.length = 0)) := by
 obtain ⟨d, hd, hne⟩ : ∃ d, (if (2 : Nat) = 2 /\ D = [] then [45] else D) = d /\ (d == []) = false := by
  refine ⟨_, rfl, ?_⟩
  by_cases c : D = []
  ·rw [if_pos ⟨rfl, c⟩]; rfl
  ·rw [if_neg (fun h => c h.2)]
   cases D with
   | nil => exact absurd rfl c
   | cons a r => rfl
 show (if (2 : Nat) = 4 then _ else soundL [⟨0, 2, S, l, if (2 : Nat) = 2 /\ D = [] then [45] else D⟩]) = _
 rw [if_neg (by decide), hd]
 show (decide (1 <= 5000) && soundP 0 true [⟨0, 2, S, l, d⟩]) = _
 simp [soundP, kindP, hne]
theorem soundN_o (kd : Nat) (h4 : kd ≠ 4) (h2 : kd ≠ 2) (S D : List UInt8) (l : List Atr) : soundN ⟨kd, S, D, l⟩ = soundL [⟨0, kd, S, l, D⟩] := by
 show (if kd = 4 then _ else soundL [⟨0, kd, S, l, if kd = 2 /\ D = [] then [45] else D⟩]) = _
 rw [if_neg h4, if_neg (fun h => h2 h.1)]
end
section
open Go.RowKit Go.Sort
theorem FindA.one {l : List Atr} {nm : List UInt8} {z z' : Int} (h : FindA l nm z) (h' : FindA l nm z') : z = z' := by
 cases h with
 | no hn =>
  cases h' with
  | no _ => rfl
  | yes hk e _ => exact absurd e (hn _ (List.getElem_mem hk))
 | @yes k hk e ha =>
  cases h' with
  | no hn => exact absurd e (hn _ (List.getElem_mem hk))
  | @yes k' hk' e' ha' =>
   rcases Nat.lt_trichotomy k k' with c | c | c
   ·exact absurd e (ha' _ (List.mem_take_iff_getElem.2 ⟨k, by omega, rfl⟩))
   ·rw [c]
   ·exact absurd e' (ha _ (List.mem_take_iff_getElem.2 ⟨k', by omega, rfl⟩))
theorem AtsAt.drop {F : Nat -> Prop} {w : World} {g o : Nat} {l : List Atr} (h : AtsAt F w (some ⟨g, o, none⟩) l) (k : Nat) : AtsAt F w (some ⟨g, o + k * 2, none⟩) (l.drop k) := fun j hj => by
 have hj' : k + j < l.length := by rw [List.length_drop] at hj; omega
 obtain ⟨g1, o1, e, hF, a, b⟩ := h (k + j) hj'
 injection e with e
 injection e with e1 e2
 subst e1 e2
 refine ⟨g, o + k * 2, rfl, hF, ?_, ?_⟩
 ·rw [List.getElem_drop, <- a]; congr 2; omega
 ·rw [List.getElem_drop, <- b]; congr 2; omega
end
section
open Go.RowKit Go.Sort
inductive SlotA (n : Nat) (G : Nat -> List Nat) (x : Int) : Int -> Prop
 | yes {s : Nat} (hs : s < n) : x ∈ (G s).map (fun k : Nat => (k : Int)) -> (∀ t, t < s -> x ∉ (G t).map (fun k : Nat => (k : Int))) -> SlotA n G x (s : Int)
 | no : (∀ t, t < n -> x ∉ (G t).map (fun k : Nat => (k : Int))) -> SlotA n G x (-1)
end
section
open Go.RowKit Go.Sort

end
section
open Go.RowKit Go.Sort
def IntsZ (F : Nat -> Prop) (w : World) (ka : Option Addr) (l : List Int) : Prop :=
 ∀ j (h : j < l.length), ∃ g o, ka = some ⟨g, o, none⟩ /\ F g /\ w.cell? ⟨g, o + j, none⟩ = some (.int .i64 l[j])
theorem IntsZ.kept {F F' : Nat -> Prop} {w w' : World} {ka : Option Addr} {l : List Int} (h : IntsZ F w ka l) (hk : Kept F w w') (hF : ∀ g, F g -> F' g) : IntsZ F' w' ka l := fun j hj => by
 obtain ⟨g, o, e, hf, hc⟩ := h j hj
 exact ⟨g, o, e, hF g hf, (hk.cell (p := ⟨g, o + j, none⟩) hf).trans hc⟩
def inN (n : Nat) (x : Int) : Prop := 0 <= x /\ x < (n : Int)
def shows (M : Dm) (x : Int) : Prop := (M.nd x.toNat).kind = 1 \/ (M.nd x.toNat).kind = 2
structure Gives (M : Dm) (slot : Int) (l : List Int) (z : Int) : Prop where
 gNone : ¬ inN M.n slot -> z = 80
 gOne : inN M.n slot -> (∃ x ∈ l, ¬ inN M.n x) -> z = 80
 gSlot : inN M.n slot -> (∀ x ∈ l, inN M.n x) -> ((M.nd slot.toNat).kind ≠ 1 \/ (M.nd slot.toNat).name ≠ slotN) -> z = 110
 gShow : inN M.n slot -> (∀ x ∈ l, inN M.n x) -> (M.nd slot.toNat).kind = 1 -> (M.nd slot.toNat).name = slotN -> (∃ x ∈ l, ¬ shows M x) -> z = 81
 gMany : inN M.n slot -> (∀ x ∈ l, inN M.n x) -> (M.nd slot.toNat).kind = 1 -> (M.nd slot.toNat).name = slotN -> (∀ x ∈ l, shows M x) -> 200 < l.length -> z = 1
 gOk : inN M.n slot -> (∀ x ∈ l, inN M.n x) -> (M.nd slot.toNat).kind = 1 -> (M.nd slot.toNat).name = slotN -> (∀ x ∈ l, shows M x) -> l.length <= 200 -> z = 0
end
section
open Go.RowKit Go.Sort

end
section
open Go.RowKit Go.Sort

end
section
open Go.RowKit
theorem in3_self {L : Nat -> Lk} {i : Nat} {P : Int} : (in3 L i i (-1) P i).prev = P := by
 unfold in3
 rw [in2_eq, if_pos rfl, updL_same, updL_same]
theorem in4_self {L : Nat -> Lk} {i : Nat} {P : Int} (hP : P = -1 \/ ∃ q : Nat, q ≠ i /\ P = (q : Int)) : in4 L i i (-1) P = inL L i i (-1) P := by
 funext k
 unfold in4 in3 inL
 rw [in2_eq]
 have e1 : ¬ ((k : Int) = -1) := by omega
 rcases hP with rfl | ⟨q, hq, rfl⟩ <;> unfold updL
 ·by_cases c : k = i
  ·subst c
   simp [*]
  ·simp [*]
 ·have e2 : ¬ ((q : Int) = -1) := by omega
  by_cases c : k = i
  ·subst c
   have : ¬ k = q := fun e => hq e.symm
   simp [*]
  ·by_cases c2 : k = q
   ·subst c2; simp [*]
   ·have : ¬ (k : Int) = (q : Int) := by omega
    simp [*]

end
section
open Go.RowKit
theorem updR_updR (R : Nat -> List Nat) (u : Nat) (a b : List Nat) : updR (updR R u a) u b = updR R u b := by
 funext k
 unfold updR
 by_cases c : k = u
 ·rw [if_pos c, if_pos c]
 ·rw [if_neg c, if_neg c, if_neg c]
theorem updR_self (R : Nat -> List Nat) (u : Nat) (a : List Nat) (h : R u = a) : updR R u a = R := by
 funext k
 unfold updR
 by_cases c : k = u
 ·rw [if_pos c, c, h]
 ·rw [if_neg c]
theorem WF.outs {n : Nat} {slot : Nat} (hs : slot < n) : ∀ (Q : List Nat) {L : Nat -> Lk} {G : Nat -> List Nat}, WF n L G -> G slot = Q -> WF n (outsL L Q) (updR G slot [])
 | [], L, G, h, e => by rw [updR_self G slot [] e]; exact h
 | q :: r, L, G, h, e => by
  have hq : q ∈ G slot := by rw [e]; exact List.mem_cons_self ..
  have hu := h.up hs hq
  have h1 := h.out (h.lt slot hs q hq)
  have e1 : outR L G q = updR G slot r := by
   unfold outR
   rw [if_neg (by omega), hu, Int.toNat_natCast, e, List.erase_cons_head]
  rw [e1] at h1
  have := WF.outs hs r h1 (updR_same _ _ _)
  rw [updR_updR] at this
  exact this
def gsR (slot : Nat) : (Nat -> Lk) -> (Nat -> List Nat) -> List Nat -> Nat -> List Nat
 | _, G, [] => G
 | L, G, x :: r => gsR slot (if (L x).up = (slot : Int) then L else putL L slot x (-1)) (if (L x).up = (slot : Int) then G else updR (outR L G x) slot (outR L G x slot ++ [x])) r
theorem gsR_snoc (slot x : Nat) : ∀ (a : List Nat) (L : Nat -> Lk) (G : Nat -> List Nat), gsR slot L G (a ++ [x]) = if (addsL L slot a x).up = (slot : Int) then gsR slot L G a else updR (outR (addsL L slot a) (gsR slot L G a) x) slot (outR (addsL L slot a) (gsR slot L G a) x slot ++ [x])
 | [], L, G => rfl
 | y :: r, L, G => gsR_snoc slot x r _ _
theorem WF.gs {n : Nat} {slot : Nat} (hs : slot < n) : ∀ (l : List Nat) {L : Nat -> Lk} {G : Nat -> List Nat}, WF n L G -> (∀ i ∈ l, i < n) -> WF n (addsL L slot l) (gsR slot L G l)
 | [], L, G, h, _ => h
 | x :: r, L, G, h, hl => by
  refine WF.gs hs r (L := if (L x).up = (slot : Int) then L else putL L slot x (-1)) (G := if (L x).up = (slot : Int) then G else updR (outR L G x) slot (outR L G x slot ++ [x])) ?_ (fun i hi => hl i (List.mem_cons_of_mem _ hi))
  by_cases c : (L x).up = (slot : Int)
  ·rw [if_pos c, if_pos c]; exact h
  ·rw [if_neg c, if_neg c]
   exact h.putOk hs (hl x (List.mem_cons_self ..)) (.last rfl)
theorem SlotA.one {n : Nat} {G : Nat -> List Nat} {x z z' : Int} (h : SlotA n G x z) (h' : SlotA n G x z') : z = z' := by
 cases h with
 | no hn =>
  cases h' with
  | no _ => rfl
  | yes hs hm _ => exact absurd hm (hn _ hs)
 | @yes s hs hm ha =>
  cases h' with
  | no hn => exact absurd hm (hn _ hs)
  | @yes s' hs' hm' ha' =>
   rcases Nat.lt_trichotomy s s' with c | c | c
   ·exact absurd hm (ha' _ c)
   ·rw [c]
   ·exact absurd hm' (ha _ c)
end
section
open Go.RowKit
structure Core (M : Dm) : Prop where
 pos : 0 < M.n
 el : ∀ i, i < M.n -> (M.nd i).kind = 1 -> validP (M.nd i).name = true /\ soundA (M.nd i).attrs = true
 oth : ∀ i, i < M.n -> (M.nd i).kind ≠ 1 -> (M.nd i).attrs = []
 host : ∀ i, i < M.n -> ((M.nd i).host = -1 /\ (M.nd i).kind ≠ 5) \/ ∃ h : Nat, h < M.n /\ (M.nd i).host = (h : Int) /\ (M.pl i).up = -1 /\ i ≠ 0 /\ (((M.nd i).kind = 5 /\ (M.nd h).shadow = (i : Int)) \/ ((M.nd i).kind = 4 /\ (M.nd h).content = (i : Int)))
 shad : ∀ i, i < M.n -> (M.nd i).shadow = -1 \/ ∃ k : Nat, k < M.n /\ (M.nd i).shadow = (k : Int) /\ (M.nd i).kind = 1 /\ (M.nd k).kind = 5 /\ (M.nd k).host = (i : Int)
 cont : ∀ i, i < M.n -> (M.nd i).content = -1 \/ ∃ k : Nat, k < M.n /\ (M.nd i).content = (k : Int) /\ (M.nd i).kind = 1 /\ (M.nd k).kind = 4 /\ (M.nd k).host = (i : Int)
theorem Core.move {M : Dm} (h : Core M) {i : Nat} (hi : i < M.n) : moveB M i = true ↔ i ≠ 0 /\ (M.nd i).host < 0 := by
 unfold moveB
 rcases h.host i hi with ⟨h1, h2⟩ | ⟨u, hu, h1, -, h0, h3⟩
 ·rw [h1]
  simp [h2]
 ·rw [h1]
  rcases h3 with ⟨h3, -⟩ | ⟨h3, -⟩
  ·simp [h3]
  ·simp [h3]
theorem soundA_few {l : List Atr} (h : soundA l = true) : l.length <= 50 := by
 unfold soundA at h
 simp at h
 exact h.1
theorem Core.few {M : Dm} (h : Core M) {i : Nat} (hi : i < M.n) : (M.nd i).attrs.length <= 50 := by
 by_cases c : (M.nd i).kind = 1
 ·exact soundA_few (h.el i hi c).2
 ·rw [h.oth i hi c]; exact Nat.zero_le _
def GftOk (M : Dm) (G : Nat -> List Nat) : Prop := ∀ u, u < M.n -> ∀ k ∈ G u, ((M.nd k).kind = 1 \/ (M.nd k).kind = 2) /\ (M.nd u).kind = 1 /\ (M.nd u).name = [115, 108, 111, 116]
theorem GftOk.to {M M' : Dm} {G G' : Nat -> List Nat} (h : GftOk M G) (hl : ∀ u, u < M.n -> ∀ k ∈ G u, k < M.n) (hG : ∀ u, u < M'.n -> ∀ k ∈ G' u, u < M.n /\ k ∈ G u) (hn : ∀ i, i < M.n -> (M'.nd i).kind = (M.nd i).kind /\ (M'.nd i).name = (M.nd i).name) : GftOk M' G' := fun u hu k hk => by
 obtain ⟨h1, h2⟩ := hG u hu k hk
 obtain ⟨a, b, c⟩ := h u h1 k h2
 rw [(hn k (hl u h1 k h2)).1, (hn u h1).1, (hn u h1).2]
 exact ⟨a, b, c⟩
theorem updR_nil {G : Nat -> List Nat} {n u k : Nat} (hu : u < n + 1) (hk : k ∈ updR G n [] u) : u < n /\ k ∈ G u := by
 by_cases c : u = n
 ·subst c; rw [updR_same] at hk; cases hk
 ·rw [updR_ne _ _ c] at hk; exact ⟨by omega, hk⟩
structure Inv0 (M : Dm) (R G : Nat -> List Nat) (rk : Nat -> Nat) : Prop where
 core : Core M
 good : Good M R rk
 gw : WF M.n M.gf G
 gft : GftOk M G
 z0 : (M.pl 0).up = -1
theorem Core.congr {M M' : Dm} (h : Core M) (e1 : M'.n = M.n) (e2 : ∀ i, i < M.n -> M'.nd i = M.nd i) (e3 : ∀ i, i < M.n -> (M.nd i).host ≠ -1 -> (M.pl i).up = -1 -> (M'.pl i).up = -1) : Core M' := by
 refine ⟨by rw [e1]; exact h.pos, fun i hi => ?_, fun i hi => ?_, fun i hi => ?_, fun i hi => ?_, fun i hi => ?_⟩ <;> rw [e1] at hi
 ·rw [e2 i hi]; exact h.el i hi
 ·rw [e2 i hi]; exact h.oth i hi
 ·rw [e2 i hi]
  rcases h.host i hi with h1 | ⟨u, hu, h1, h2, h3, h4⟩
  ·exact .inl h1
  ·exact .inr ⟨u, by rw [e1]; exact hu, h1, e3 i hi (by omega) h2, h3, by rw [e2 u hu]; exact h4⟩
 ·rw [e2 i hi]
  rcases h.shad i hi with h1 | ⟨k, hk, h1, h2, h3⟩
  ·exact .inl h1
  ·exact .inr ⟨k, by rw [e1]; exact hk, h1, h2, by rw [e2 k hk]; exact h3⟩
 ·rw [e2 i hi]
  rcases h.cont i hi with h1 | ⟨k, hk, h1, h2, h3⟩
  ·exact .inl h1
  ·exact .inr ⟨k, by rw [e1]; exact hk, h1, h2, by rw [e2 k hk]; exact h3⟩
theorem new_nd (limit k : Nat) (hk : k < 1) : (Dm.new limit).nd k = frag0.new := if_pos (by show k = 0; omega)
theorem Inv0.new (limit : Nat) : Inv0 (Dm.new limit) (fun _ => []) (fun _ => []) (fun _ => 0) := by
 have hgf : ∀ k, ((Dm.new limit).gf k) = Lk.nil := fun k => by
  show updL (fun _ => Lk.nil) 0 Lk.nil k = Lk.nil
  unfold updL
  split <;> rfl
 refine ⟨⟨Nat.zero_lt_one, fun i hi h => ?_, fun i hi h => ?_, fun i hi => ?_, fun i hi => ?_, fun i hi => ?_⟩, Good.new limit, ⟨fun u hu => by rw [hgf]; rfl, fun u hu => by rw [hgf]; rfl, fun u hu => trivial, fun u hu => List.nodup_nil, fun u hu i hi => (by cases hi), fun i hi => .inl (by rw [hgf]; rfl)⟩, fun u hu k hk => (by cases hk), rfl⟩
 ·rw [new_nd _ _ hi] at h; cases h
 ·rw [new_nd _ _ hi]; rfl
 ·rw [new_nd _ _ hi]; exact .inl ⟨rfl, by decide⟩
 ·rw [new_nd _ _ hi]; exact .inl rfl
 ·rw [new_nd _ _ hi]; exact .inl rfl
structure MkOk (x : Nd) : Prop where
 k5 : x.kind ≠ 5
 el : x.kind = 1 -> validP x.name = true /\ soundA x.attrs = true
 oth : x.kind ≠ 1 -> x.attrs = []
theorem soundN_ok {x : Mk} (h : soundN x = true) : MkOk x.nd := by
 obtain ⟨kd, nm, dt, at0⟩ := x
 by_cases k4 : kd = 4
 ·subst k4
  rw [soundN_4] at h
  simp at h
  exact ⟨by show (4 : Nat) ≠ 5; decide, fun e => absurd e (by show ¬ (4 : Nat) = 1; decide), fun _ => h.2⟩
 by_cases k2 : kd = 2
 ·subst k2
  rw [soundN_2] at h
  simp at h
  exact ⟨by show (2 : Nat) ≠ 5; decide, fun e => absurd e (by show ¬ (2 : Nat) = 1; decide), fun _ => h.2⟩
 rw [soundN_o kd k4 k2] at h
 have hk : kindP ⟨0, kd, nm, at0, dt⟩ true = true := by
  simp only [soundL, soundP, Bool.and_eq_true] at h
  exact h.2.1.2
 unfold kindP at hk
 by_cases k1 : kd = 1
 ·subst k1
  rw [if_pos rfl] at hk
  simp only [Bool.and_eq_true] at hk
  exact ⟨by show (1 : Nat) ≠ 5; decide, fun _ => ⟨hk.1.1, hk.2⟩, fun e => absurd rfl e⟩
 rw [if_neg k1, if_neg k2] at hk
 by_cases k3 : kd = 3
 ·subst k3
  rw [if_pos rfl] at hk
  simp at hk
  exact ⟨by show (3 : Nat) ≠ 5; decide, fun e => absurd e (by show ¬ (3 : Nat) = 1; decide), fun _ => hk.2⟩
 rw [if_neg k3] at hk
 by_cases k6 : kd = 6
 ·subst k6
  rw [if_pos rfl] at hk
  simp at hk
  exact ⟨by show (6 : Nat) ≠ 5; decide, fun e => absurd e (by show ¬ (6 : Nat) = 1; decide), fun _ => hk.2⟩
 rw [if_neg k6] at hk
 cases hk
theorem add_nd_old (M : Dm) (x : Nd) {k : Nat} (h : k ≠ M.n) : (M.add x).nd k = M.nd k := if_neg h
theorem add_nd_new (M : Dm) (x : Nd) : (M.add x).nd M.n = x.new := if_pos rfl
theorem add_pl_old (M : Dm) (x : Nd) {k : Nat} (h : k ≠ M.n) : (M.add x).pl k = M.pl k := updL_ne _ _ h
theorem add_pl_new (M : Dm) (x : Nd) : (M.add x).pl M.n = Lk.nil := updL_same _ _ _
theorem Core.add {M : Dm} (h : Core M) (x : Nd) (hx : MkOk x) : Core (M.add x) := by
 have low : ∀ i, i < (M.add x).n -> i = M.n \/ (i < M.n /\ i ≠ M.n) := fun i hi => by
  have : i < M.n + 1 := hi
  omega
 refine ⟨Nat.succ_pos _, fun i hi => ?_, fun i hi => ?_, fun i hi => ?_, fun i hi => ?_, fun i hi => ?_⟩
 ·rcases low i hi with rfl | ⟨h1, h2⟩
  ·rw [add_nd_new]; exact hx.el
  ·rw [add_nd_old _ _ h2]; exact h.el i h1
 ·rcases low i hi with rfl | ⟨h1, h2⟩
  ·rw [add_nd_new]; exact hx.oth
  ·rw [add_nd_old _ _ h2]; exact h.oth i h1
 ·rcases low i hi with rfl | ⟨h1, h2⟩
  ·rw [add_nd_new]; exact .inl ⟨rfl, hx.k5⟩
  ·rw [add_nd_old _ _ h2, add_pl_old _ _ h2]
   rcases h.host i h1 with h3 | ⟨u, hu, h3, h4, h5, h6⟩
   ·exact .inl h3
   ·exact .inr ⟨u, by show u < M.n + 1; omega, h3, h4, h5, by rw [add_nd_old _ _ (by omega : u ≠ M.n)]; exact h6⟩
 ·rcases low i hi with rfl | ⟨h1, h2⟩
  ·rw [add_nd_new]; exact .inl rfl
  ·rw [add_nd_old _ _ h2]
   rcases h.shad i h1 with h3 | ⟨k, hk, h3, h4, h5⟩
   ·exact .inl h3
   ·exact .inr ⟨k, by show k < M.n + 1; omega, h3, h4, by rw [add_nd_old _ _ (by omega : k ≠ M.n)]; exact h5⟩
 ·rcases low i hi with rfl | ⟨h1, h2⟩
  ·rw [add_nd_new]; exact .inl rfl
  ·rw [add_nd_old _ _ h2]
   rcases h.cont i h1 with h3 | ⟨k, hk, h3, h4, h5⟩
   ·exact .inl h3
   ·exact .inr ⟨k, by show k < M.n + 1; omega, h3, h4, by rw [add_nd_old _ _ (by omega : k ≠ M.n)]; exact h5⟩
theorem Inv0.add {M : Dm} {R G : Nat -> List Nat} {rk : Nat -> Nat} (h : Inv0 M R G rk) (x : Nd) (hx : MkOk x) (hl : x.attrs.length <= 1000) : Inv0 (M.add x) (updR R M.n []) (updR G M.n []) rk :=
 ⟨h.core.add x hx, h.good.add x hl, h.gw.more _ (fun k hk => updL_ne _ _ (by omega)) (updL_same _ _ _), h.gft.to h.gw.lt (fun u hu k hk => updR_nil hu hk) (fun i hi => by rw [add_nd_old _ _ (by omega : i ≠ M.n)]; exact ⟨rfl, rfl⟩), by rw [add_pl_old _ _ (by have := h.core.pos; omega)]; exact h.z0⟩
theorem MkOk.few {x : Nd} (h : MkOk x) : x.attrs.length <= 1000 := by
 by_cases c : x.kind = 1
 ·have := soundA_few (h.el c).2; omega
 ·rw [h.oth c]; exact Nat.zero_le _
end
section
open Go.RowKit
theorem Core.hosts {M M' : Dm} (h : Core M) {k j : Nat} (hk : k < M.n) (hj : j < M.n) (hjk : j ≠ k) (hj0 : j ≠ 0) (e1 : M'.n = M.n) (e2 : ∀ i, i < M.n -> i ≠ k -> i ≠ j -> M'.nd i = M.nd i) (e3 : ∀ i, (M'.pl i).up = (M.pl i).up) (hup : (M.pl j).up = -1) (hno : (M.nd j).host = -1)
  (hk1 : (M.nd k).kind = 1) (hc : ((M.nd j).kind = 4 /\ (M.nd k).content = -1 /\ M'.nd k = { M.nd k with content := (j : Int) } /\ M'.nd j = { M.nd j with host := (k : Int) })) : Core M' := by
 obtain ⟨c1, c2, c3, c4⟩ := hc
 have low : ∀ i, i < M'.n -> i = k \/ i = j \/ (i < M.n /\ i ≠ k /\ i ≠ j) := fun i hi => by rw [e1] at hi; omega
 have kd : ∀ i, i < M.n -> (M'.nd i).kind = (M.nd i).kind := fun i hi => by
  rcases low i (by rw [e1]; exact hi) with rfl | rfl | ⟨h1, h2, h3⟩
  ·rw [c3]
  ·rw [c4]
  ·rw [e2 i h1 h2 h3]
 have sh : ∀ i, i < M.n -> (M'.nd i).shadow = (M.nd i).shadow := fun i hi => by
  rcases low i (by rw [e1]; exact hi) with rfl | rfl | ⟨h1, h2, h3⟩
  ·rw [c3]
  ·rw [c4]
  ·rw [e2 i h1 h2 h3]
 have ho : ∀ i, i < M.n -> i ≠ j -> (M'.nd i).host = (M.nd i).host := fun i hi hij => by
  rcases low i (by rw [e1]; exact hi) with rfl | rfl | ⟨h1, h2, h3⟩
  ·rw [c3]
  ·exact absurd rfl hij
  ·rw [e2 i h1 h2 h3]
 have co : ∀ i, i < M.n -> i ≠ k -> (M'.nd i).content = (M.nd i).content := fun i hi hij => by
  rcases low i (by rw [e1]; exact hi) with rfl | rfl | ⟨h1, h2, h3⟩
  ·exact absurd rfl hij
  ·rw [c4]
  ·rw [e2 i h1 h2 h3]
 refine ⟨by rw [e1]; exact h.pos, fun i hi hki => ?_, fun i hi hki => ?_, fun i hi => ?_, fun i hi => ?_, fun i hi => ?_⟩
 ·rw [e1] at hi
  rw [kd i hi] at hki
  have := h.el i hi hki
  rcases low i (by rw [e1]; exact hi) with rfl | rfl | ⟨h1, h2, h3⟩
  ·rw [c3]; exact this
  ·rw [c4]; exact this
  ·rw [e2 i h1 h2 h3]; exact this
 ·rw [e1] at hi
  rw [kd i hi] at hki
  have := h.oth i hi hki
  rcases low i (by rw [e1]; exact hi) with rfl | rfl | ⟨h1, h2, h3⟩
  ·rw [c3]; exact this
  ·rw [c4]; exact this
  ·rw [e2 i h1 h2 h3]; exact this
 ·rw [e1] at hi
  by_cases cj : i = j
  ·subst cj
   refine .inr ⟨k, by rw [e1]; exact hk, by rw [c4], by rw [e3]; exact hup, hj0, .inr ⟨by rw [kd i hi]; exact c1, by rw [c3]⟩⟩
  ·rw [ho i hi cj, kd i hi]
   rcases h.host i hi with h1 | ⟨u, hu, h1, h2, h3, h4⟩
   ·exact .inl h1
   ·refine .inr ⟨u, by rw [e1]; exact hu, h1, by rw [e3]; exact h2, h3, ?_⟩
    rw [sh u hu]
    rcases h4 with h4 | ⟨h4, h5⟩
    ·exact .inl h4
    ·by_cases cu : u = k
     ·subst cu; rw [c2] at h5; omega
     ·exact .inr ⟨h4, by rw [co u hu cu]; exact h5⟩
 ·rw [e1] at hi
  rw [sh i hi, kd i hi]
  rcases h.shad i hi with h1 | ⟨q, hq, h1, h2, h3, h4⟩
  ·exact .inl h1
  ·refine .inr ⟨q, by rw [e1]; exact hq, h1, h2, by rw [kd q hq]; exact h3, ?_⟩
   by_cases cq : q = j
   ·subst cq; rw [c1] at h3; omega
   ·rw [ho q hq cq]; exact h4
 ·rw [e1] at hi
  by_cases ck : i = k
  ·subst ck
   exact .inr ⟨j, by rw [e1]; exact hj, by rw [c3], by rw [kd i hi]; exact hk1, by rw [kd j hj]; exact c1, by rw [c4]⟩
  ·rw [co i hi ck, kd i hi]
   rcases h.cont i hi with h1 | ⟨q, hq, h1, h2, h3, h4⟩
   ·exact .inl h1
   ·refine .inr ⟨q, by rw [e1]; exact hq, h1, h2, by rw [kd q hq]; exact h3, ?_⟩
    by_cases cq : q = j
    ·subst cq; rw [hno] at h4; omega
    ·rw [ho q hq cq]; exact h4
theorem addT_pl (M : Dm) (x : Nd) : (M.addT x).pl = ((M.add x).add frag0).pl := rfl
theorem addT_old (M : Dm) (x : Nd) {k : Nat} (h1 : k ≠ M.n) (h2 : k ≠ M.n + 1) : (M.addT x).nd k = ((M.add x).add frag0).nd k := by
 unfold Dm.addT
 rw [setN_ne _ _ h2, setN_ne _ _ h1]
theorem addT_t (M : Dm) (x : Nd) : (M.addT x).nd M.n = { ((M.add x).add frag0).nd M.n with content := ((M.n + 1 : Nat) : Int) } := by
 unfold Dm.addT
 rw [setN_ne _ _ (by omega), setN_same]
theorem addT_c (M : Dm) (x : Nd) : (M.addT x).nd (M.n + 1) = { ((M.add x).add frag0).nd (M.n + 1) with host := (M.n : Int) } := by
 unfold Dm.addT
 rw [setN_same, setN_ne _ _ (by omega)]
theorem frag_ok : MkOk frag0 := ⟨by decide, fun e => absurd e (by decide), fun _ => rfl⟩
theorem parI_eq {M M' : Dm} {k : Nat} (h1 : (M'.pl k).up = (M.pl k).up) (h2 : (M'.nd k).host = (M.nd k).host) : parI M' k = parI M k := by
 unfold parI
 rw [h1, h2]
theorem addT_kn (M : Dm) (x : Nd) (i : Nat) : ((M.addT x).nd i).kind = (((M.add x).add frag0).nd i).kind /\ ((M.addT x).nd i).name = (((M.add x).add frag0).nd i).name := by
 by_cases c : i = M.n + 1
 ·subst c; rw [addT_c]; exact ⟨rfl, rfl⟩
 ·by_cases c2 : i = M.n
  ·subst c2; rw [addT_t]; exact ⟨rfl, rfl⟩
  ·rw [addT_old M x c2 c]; exact ⟨rfl, rfl⟩
theorem Inv0.addT {M : Dm} {R G : Nat -> List Nat} {rk : Nat -> Nat} (h : Inv0 M R G rk) (x : Nd) (hx : MkOk x) (hk : x.kind = 1) : ∃ rk', Inv0 (M.addT x) (updR (updR R M.n []) (M.n + 1) []) (updR (updR G M.n []) (M.n + 1) []) rk' := by
 have h1 := h.add x hx hx.few
 have h2 := h1.add frag0 frag_ok (Nat.zero_le _)
 have n1 : (M.add x).n = M.n + 1 := rfl
 rw [n1] at h2
 have nt : ((M.add x).add frag0).nd M.n = x.new := by rw [add_nd_old _ _ (by rw [n1]; omega), add_nd_new]
 have nc : ((M.add x).add frag0).nd (M.n + 1) = frag0.new := add_nd_new (M.add x) frag0
 have pc : ((M.add x).add frag0).pl (M.n + 1) = Lk.nil := add_pl_new (M.add x) frag0
 have hn2 : ((M.add x).add frag0).n = M.n + 2 := rfl
 refine ⟨fun k => if k = M.n + 1 then rk M.n + 1 else rk k, ?_, ⟨h2.good.wf, ?_, ?_⟩, h2.gw, h2.gft.to h2.gw.lt (fun u hu k hk => ⟨hu, hk⟩) (fun i _ => addT_kn M x i), h2.z0⟩
 ·refine h2.core.hosts (k := M.n) (j := M.n + 1) (by rw [hn2]; omega) (by rw [hn2]; omega) (by omega) (by omega) rfl (fun i hi hi1 hi2 => addT_old M x hi1 hi2) (fun i => rfl) (by rw [pc]; rfl) (by rw [nc]; rfl) (by rw [nt]; exact hk) ⟨by rw [nc]; rfl, by rw [nt]; rfl, addT_t M x, addT_c M x⟩
 ·intro k hk'
  have hk2 : k < M.n + 2 := hk'
  by_cases c : k = M.n + 1
  ·subst c
   refine .inr ⟨M.n, by show M.n < M.n + 2; omega, ?_, ?_⟩
   ·unfold parI
    rw [addT_pl, pc, addT_c]
    rfl
   ·show (if M.n = M.n + 1 then _ else rk M.n) < if M.n + 1 = M.n + 1 then rk M.n + 1 else _
    rw [if_neg (by omega), if_pos rfl]
    omega
  ·have e : parI (M.addT x) k = parI ((M.add x).add frag0) k := parI_eq rfl (by
    by_cases c2 : k = M.n
    ·subst c2; rw [addT_t]
    ·rw [addT_old M x c2 c])
   rw [e]
   rcases h2.good.acy k hk' with h3 | ⟨m, hm, h3, h4⟩
   ·exact .inl h3
   ·refine .inr ⟨m, hm, h3, ?_⟩
    show (if m = M.n + 1 then _ else rk m) < if k = M.n + 1 then _ else rk k
    rw [if_neg c]
    by_cases cm : m = M.n + 1
    ·exfalso
     subst cm
     have hkk : k < M.n + 1 := by omega
     have hpar : parI ((M.add x).add frag0) k = parI (M.add x) k := add_par hkk
     rw [hpar] at h3
     rcases h1.good.acy k hkk with h5 | ⟨m', hm', h5, h6⟩
     ·omega
     ·have : m' < M.n + 1 := hm'
      omega
    ·rw [if_neg cm]; exact h4
 ·intro i hi
  have hi2 : i < M.n + 2 := hi
  have := h2.good.few i hi
  by_cases c : i = M.n + 1
  ·subst c; rw [addT_c]; exact this
  ·by_cases c2 : i = M.n
   ·subst c2; rw [addT_t]; exact this
   ·rw [addT_old M x c2 c]; exact this
theorem Inv0.addR {M : Dm} {R G : Nat -> List Nat} {rk : Nat -> Nat} (h : Inv0 M R G rk) {host : Nat} (f : Fg) (hh : host < M.n) (hk : (M.nd host).kind = 1) (hs : (M.nd host).shadow = -1) : ∃ rk', Inv0 (M.addR host f) (updR R M.n []) (updR G M.n []) rk' := by
 have hne : host ≠ M.n := by omega
 have hn : (M.addR host f).n = M.n + 1 := rfl
 have old : ∀ i, i < M.n -> i ≠ host -> (M.addR host f).nd i = M.nd i := fun i hi hi2 => addR_old M host f (by omega) hi2
 have pold : ∀ i, i < M.n -> ((M.addR host f).pl i) = M.pl i := fun i hi => updL_ne _ _ (by omega)
 have pnew : (M.addR host f).pl M.n = Lk.nil := updL_same _ _ _
 have hot : (M.addR host f).nd host = { M.nd host with shadow := (M.n : Int) } := addR_host M host f hne
 have new : (M.addR host f).nd M.n = { (shN f).new with host := (host : Int) } := addR_new M host f hne
 have low : ∀ i, i < (M.addR host f).n -> i = M.n \/ i = host \/ (i < M.n /\ i ≠ host) := fun i hi => by rw [hn] at hi; omega
 have kd : ∀ i, i < M.n -> ((M.addR host f).nd i).kind = (M.nd i).kind := fun i hi => by
  by_cases c : i = host
  ·subst c; rw [hot]
  ·rw [old i hi c]
 have ho : ∀ i, i < M.n -> ((M.addR host f).nd i).host = (M.nd i).host := fun i hi => by
  by_cases c : i = host
  ·subst c; rw [hot]
  ·rw [old i hi c]
 have co : ∀ i, i < M.n -> ((M.addR host f).nd i).content = (M.nd i).content := fun i hi => by
  by_cases c : i = host
  ·subst c; rw [hot]
  ·rw [old i hi c]
 have at0 : ∀ i, i < M.n -> ((M.addR host f).nd i).attrs = (M.nd i).attrs := fun i hi => by
  by_cases c : i = host
  ·subst c; rw [hot]
  ·rw [old i hi c]
 have nm : ∀ i, i < M.n -> ((M.addR host f).nd i).name = (M.nd i).name := fun i hi => by
  by_cases c : i = host
  ·subst c; rw [hot]
  ·rw [old i hi c]
 have lo : ∀ i, i < (M.addR host f).n -> i = M.n \/ i < M.n := fun i hi => by rw [hn] at hi; omega
 refine ⟨fun k => if k = M.n then rk host + 1 else rk k, ⟨by rw [hn]; omega, fun i hi hki => ?_, fun i hi hki => ?_, fun i hi => ?_, fun i hi => ?_, fun i hi => ?_⟩, ⟨h.good.wf.more _ (fun k hk => updL_ne _ _ (by omega)) (updL_same _ _ _), fun k hk' => ?_, fun i hi => ?_⟩, h.gw.more _ (fun k hk => updL_ne _ _ (by omega)) (updL_same _ _ _), h.gft.to h.gw.lt (fun u hu k hk => updR_nil hu hk) (fun i hi => ⟨kd i hi, nm i hi⟩), by rw [pold 0 h.core.pos]; exact h.z0⟩
 ·rcases lo i hi with rfl | h1
  ·rw [new] at hki; cases hki
  ·rw [kd i h1] at hki; rw [nm i h1, at0 i h1]; exact h.core.el i h1 hki
 ·rcases lo i hi with rfl | h1
  ·rw [new]; rfl
  ·rw [kd i h1] at hki; rw [at0 i h1]; exact h.core.oth i h1 hki
 ·rcases lo i hi with rfl | h1
  ·refine .inr ⟨host, by rw [hn]; omega, by rw [new], by rw [pnew]; rfl, by have := h.core.pos; omega, .inl ⟨by rw [new]; rfl, by rw [hot]⟩⟩
  ·rw [ho i h1, kd i h1, pold i h1]
   rcases h.core.host i h1 with h3 | ⟨u, hu, h3, h4, h5, h6⟩
   ·exact .inl h3
   ·refine .inr ⟨u, by rw [hn]; omega, h3, h4, h5, ?_⟩
    rw [co u hu]
    rcases h6 with ⟨h6, h7⟩ | h6
    ·by_cases c : u = host
     ·subst c; rw [hs] at h7; omega
     ·exact .inl ⟨h6, by rw [old u hu c]; exact h7⟩
    ·exact .inr h6
 ·rcases lo i hi with rfl | h1
  ·rw [new]; exact .inl rfl
  ·by_cases c : i = host
   ·subst c
    exact .inr ⟨M.n, by rw [hn]; omega, by rw [hot], by rw [kd i h1]; exact hk, by rw [new]; rfl, by rw [new]⟩
   ·rw [old i h1 c]
    rcases h.core.shad i h1 with h3 | ⟨q, hq, h3, h4, h5, h6⟩
    ·exact .inl h3
    ·exact .inr ⟨q, by rw [hn]; omega, h3, h4, by rw [kd q hq]; exact h5, by rw [ho q hq]; exact h6⟩
 ·rcases lo i hi with rfl | h1
  ·rw [new]; exact .inl rfl
  ·rw [co i h1, kd i h1]
   rcases h.core.cont i h1 with h3 | ⟨q, hq, h3, h4, h5, h6⟩
   ·exact .inl h3
   ·exact .inr ⟨q, by rw [hn]; omega, h3, h4, by rw [kd q hq]; exact h5, by rw [ho q hq]; exact h6⟩
 ·rcases lo k hk' with rfl | h1
  ·refine .inr ⟨host, by rw [hn]; omega, ?_, ?_⟩
   ·unfold parI
    rw [pnew, new]
    rfl
   ·show (if host = M.n then _ else rk host) < if M.n = M.n then rk host + 1 else _
    rw [if_neg hne, if_pos rfl]
    omega
  ·have e : parI (M.addR host f) k = parI M k := parI_eq (by rw [pold k h1]) (ho k h1)
   rw [e]
   rcases h.good.acy k h1 with h3 | ⟨m, hm, h3, h4⟩
   ·exact .inl h3
   ·refine .inr ⟨m, by rw [hn]; omega, h3, ?_⟩
    show (if m = M.n then _ else rk m) < if k = M.n then _ else rk k
    rw [if_neg (by omega), if_neg (by omega)]
    exact h4
 ·rcases lo i hi with rfl | h1
  ·rw [new]; exact Nat.zero_le _
  ·rw [at0 i h1]; exact h.good.few i h1
theorem Inv0.ins {M : Dm} {R G : Nat -> List Nat} {rk : Nat -> Nat} (h : Inv0 M R G rk) {up i : Nat} {bef : Int} (hu : up < M.n) (hi : i < M.n) (hF : Fits M up i bef) : ∃ rk', Inv0 (M.setP (putD M R up i bef)) (putDR M R up i bef) G rk' := by
 obtain ⟨rk', hg⟩ := h.good.ins hu hi hF
 refine ⟨rk', h.core.congr rfl (fun _ _ => rfl) (fun k hk hho hup => ?_), hg, h.gw, h.gft.to h.gw.lt (fun u hu k hk => ⟨hu, hk⟩) (fun _ _ => ⟨rfl, rfl⟩), ?_⟩
 rotate_left
 ·have hmv := (h.core.move hi).1 hF.2.1
  show (putD M R up i bef 0).up = -1
  unfold putD
  by_cases c : (M.nd i).kind = 4
  ·rw [if_pos c]
   obtain ⟨h1, h2⟩ := puts_up up bef (R i) M.pl 0
   rw [h1 (fun hm => by have := h.good.wf.up hi hm; have := h.z0; omega)]
   exact h.z0
  ·rw [if_neg c, put_up (fun e => hmv.1 e.symm)]
   exact h.z0
 have hmv := (h.core.move hi).1 hF.2.1
 show (putD M R up i bef k).up = -1
 unfold putD
 by_cases c : (M.nd i).kind = 4
 ·rw [if_pos c]
  obtain ⟨h1, h2⟩ := puts_up up bef (R i) M.pl k
  rw [h1 (fun hm => by have := h.good.wf.up hi hm; omega)]
  exact hup
 ·rw [if_neg c]
  have hki : k ≠ i := fun e => by
   subst e
   rcases h.core.host k hk with ⟨h1, -⟩ | ⟨u, -, h1, -⟩
   ·exact hho h1
   ·omega
  rw [put_up hki]
  exact hup
theorem Inv0.out {M : Dm} {R G : Nat -> List Nat} {rk : Nat -> Nat} (h : Inv0 M R G rk) {i : Nat} (hi : i < M.n) : Inv0 (M.setP (outL M.pl i)) (outR M.pl R i) G rk := by
 have hup : ∀ k, k ≠ i -> (outL M.pl i k).up = (M.pl k).up := fun k hk => out_upne hk
 refine ⟨h.core.congr rfl (fun _ _ => rfl) (fun k hk hho hu => ?_), ⟨h.good.wf.out hi, fun k hk => ?_, h.good.few⟩, h.gw, h.gft.to h.gw.lt (fun u hu k hk => ⟨hu, hk⟩) (fun _ _ => ⟨rfl, rfl⟩), by
  show (outL M.pl i 0).up = -1
  by_cases c : 0 = i
  ·rw [<- c]; exact out_up
  ·rw [hup 0 c]; exact h.z0⟩
 ·show (outL M.pl i k).up = -1
  by_cases c : k = i
  ·subst c; exact out_up
  ·rw [hup k c]; exact hu
 ·by_cases c : k = i
  ·subst c
   have hp : parI (M.setP (outL M.pl k)) k = (M.nd k).host := by
    unfold parI
    rw [if_pos (show ((M.setP (outL M.pl k)).pl k).up = -1 from out_up)]
    rfl
   rw [hp]
   rcases h.core.host k hk with ⟨h1, -⟩ | ⟨u, hu, h1, h2, -⟩
   ·exact .inl h1
   ·have : parI M k = (u : Int) := by unfold parI; rw [if_pos h2]; exact h1
    rcases h.good.acy k hk with h3 | ⟨m, hm, h3, h4⟩
    ·omega
    ·exact .inr ⟨m, hm, by omega, h4⟩
  ·have : parI (M.setP (outL M.pl i)) k = parI M k := parI_setP (hup k c)
   rw [this]
   exact h.good.acy k hk
theorem Inv0.setN {M : Dm} {R G : Nat -> List Nat} {rk : Nat -> Nat} (h : Inv0 M R G rk) {i : Nat} (hi : i < M.n) {x : Nd} (e1 : x.kind = (M.nd i).kind) (e2 : x.name = (M.nd i).name) (e3 : x.shadow = (M.nd i).shadow) (e4 : x.host = (M.nd i).host) (e5 : x.content = (M.nd i).content) (h1 : x.kind = 1 -> soundA x.attrs = true) (h2 : x.kind ≠ 1 -> x.attrs = []) : Inv0 (M.setN i x) R G rk := by
 have kd : ∀ k, ((M.setN i x).nd k).kind = (M.nd k).kind := fun k => by
  by_cases c : k = i
  ·subst c; rw [setN_same]; exact e1
  ·rw [setN_ne _ _ c]
 have sh : ∀ k, ((M.setN i x).nd k).shadow = (M.nd k).shadow := fun k => by
  by_cases c : k = i
  ·subst c; rw [setN_same]; exact e3
  ·rw [setN_ne _ _ c]
 have ho : ∀ k, ((M.setN i x).nd k).host = (M.nd k).host := fun k => by
  by_cases c : k = i
  ·subst c; rw [setN_same]; exact e4
  ·rw [setN_ne _ _ c]
 have co : ∀ k, ((M.setN i x).nd k).content = (M.nd k).content := fun k => by
  by_cases c : k = i
  ·subst c; rw [setN_same]; exact e5
  ·rw [setN_ne _ _ c]
 have nm : ∀ k, ((M.setN i x).nd k).name = (M.nd k).name := fun k => by
  by_cases c : k = i
  ·subst c; rw [setN_same]; exact e2
  ·rw [setN_ne _ _ c]
 have few : x.attrs.length <= 1000 := by
  by_cases c : x.kind = 1
  ·have := soundA_few (h1 c); omega
  ·rw [h2 c]; exact Nat.zero_le _
 refine ⟨⟨h.core.pos, fun k hk hkk => ?_, fun k hk hkk => ?_, fun k hk => ?_, fun k hk => ?_, fun k hk => ?_⟩, ⟨h.good.wf, fun k hk => ?_, fun k hk => ?_⟩, h.gw, h.gft.to h.gw.lt (fun u hu k hk => ⟨hu, hk⟩) (fun k _ => ⟨kd k, nm k⟩), h.z0⟩
 ·by_cases c : k = i
  ·subst c
   rw [setN_same] at hkk ⊢
   exact ⟨by rw [e2]; exact (h.core.el k hk (by rw [<- e1]; exact hkk)).1, h1 hkk⟩
  ·rw [setN_ne _ _ c] at hkk ⊢; exact h.core.el k hk hkk
 ·by_cases c : k = i
  ·subst c
   rw [setN_same] at hkk ⊢
   exact h2 hkk
  ·rw [setN_ne _ _ c] at hkk ⊢; exact h.core.oth k hk hkk
 ·rw [kd, ho]
  rcases h.core.host k hk with h3 | ⟨u, hu, h3, h4, h5, h6⟩
  ·exact .inl h3
  ·exact .inr ⟨u, hu, h3, h4, h5, by rw [sh, co]; exact h6⟩
 ·rw [kd, sh]
  rcases h.core.shad k hk with h3 | ⟨q, hq, h3, h4, h5⟩
  ·exact .inl h3
  ·exact .inr ⟨q, hq, h3, h4, by rw [kd, ho]; exact h5⟩
 ·rw [kd, co]
  rcases h.core.cont k hk with h3 | ⟨q, hq, h3, h4, h5⟩
  ·exact .inl h3
  ·exact .inr ⟨q, hq, h3, h4, by rw [kd, ho]; exact h5⟩
 ·have : parI (M.setN i x) k = parI M k := parI_eq rfl (ho k)
  rw [this]
  exact h.good.acy k hk
 ·by_cases c : k = i
  ·subst c; rw [setN_same]; exact few
  ·rw [setN_ne _ _ c]; exact h.good.few k hk
theorem Inv0.setG {M : Dm} {R G G' : Nat -> List Nat} {rk : Nat -> Nat} {L : Nat -> Lk} (h : Inv0 M R G rk) (hw : WF M.n L G') (hg : GftOk M G') : Inv0 (M.setG L) R G' rk :=
 ⟨h.core.congr rfl (fun _ _ => rfl) (fun _ _ _ hu => hu), ⟨h.good.wf, h.good.acy, h.good.few⟩, hw, hg.to hw.lt (fun u hu k hk => ⟨hu, hk⟩) (fun _ _ => ⟨rfl, rfl⟩), h.z0⟩
theorem mem_putR {L : Nat -> Lk} {R : Nat -> List Nat} {up i u k : Nat} {bef : Int} (h : k ∈ putR L R up i bef u) : k ∈ R u \/ (u = up /\ k = i) := by
 have out : ∀ v, k ∈ outR L R i v -> k ∈ R v := fun v hv => by
  unfold outR at hv
  split at hv
  ·exact hv
  ·by_cases c : v = (L i).up.toNat
   ·subst c; rw [updR_same] at hv; exact List.mem_of_mem_erase hv
   ·rw [updR_ne _ _ c] at hv; exact hv
 unfold putR at h
 by_cases c : u = up
 ·subst c
  rw [updR_same] at h
  unfold insB at h
  rcases List.mem_append.1 h with h | h
  ·exact .inl (out _ ((List.takeWhile_sublist _).subset h))
  ·rcases List.mem_cons.1 h with h | h
   ·exact .inr ⟨rfl, h⟩
   ·exact .inl (out _ ((List.dropWhile_sublist _).subset h))
 ·rw [updR_ne _ _ c] at h; exact .inl (out _ h)
theorem mem_putsR {up : Nat} {bef : Int} {u k : Nat} : ∀ (l : List Nat) (L : Nat -> Lk) (R : Nat -> List Nat), k ∈ putsR L R up bef l u -> k ∈ R u \/ (u = up /\ k ∈ l)
 | [], L, R, h => .inl h
 | a :: l, L, R, h => by
  rcases mem_putsR l _ _ h with h | ⟨h, h'⟩
  ·rcases mem_putR h with h | ⟨h, h'⟩
   ·exact .inl h
   ·exact .inr ⟨h, h' ▸ List.mem_cons_self⟩
  ·exact .inr ⟨h, List.mem_cons_of_mem _ h'⟩
abbrev tempN : List UInt8 := [116, 101, 109, 112, 108, 97, 116, 101]
def Nd.mk' (x : Nd) : Mk := ⟨x.kind, x.name, x.data, x.attrs⟩
structure Ex (M : Dm) (R : Nat -> List Nat) : Prop where
 snd : ∀ i, i < M.n -> (M.nd i).kind ≠ 5 -> soundN (M.nd i).mk' = true
 tpl : ∀ i, i < M.n -> ((M.nd i).content ≠ -1 ↔ (M.nd i).kind = 1 /\ (M.nd i).name = tempN)
 kid : ∀ u, u < M.n -> ∀ k ∈ R u, holdB (M.nd u) = true /\ (M.nd k).kind ≠ 4 /\ (M.nd k).kind ≠ 5
 nsz : ∀ i, i < M.n -> (M.nd i).kind = 6 -> (M.nd i).name.length < 1000000
theorem Ex.new (limit : Nat) : Ex (Dm.new limit) (fun _ => []) := by
 refine ⟨fun i hi _ => ?_, fun i hi => ?_, fun u _ k hk => (by cases hk), fun i hi h => ?_⟩
 ·rw [new_nd _ _ hi]; rfl
 ·rw [new_nd _ _ hi]
  exact ⟨fun h => absurd rfl h, fun h => absurd h.1 (by decide)⟩
 ·rw [new_nd _ _ hi] at h; cases h
theorem Ex.to {M M' : Dm} {R R' : Nat -> List Nat} (h : Ex M R) (hlt : ∀ u, u < M.n -> ∀ k ∈ R u, k < M.n) (hk : ∀ i, i < M.n -> (M'.nd i).kind = (M.nd i).kind /\ (M'.nd i).name = (M.nd i).name /\ (M'.nd i).content = (M.nd i).content)
  (hs : ∀ i, i < M.n -> (M.nd i).kind ≠ 5 -> soundN (M'.nd i).mk' = true)
  (hn : ∀ i, i < M'.n -> M.n <= i -> ((M'.nd i).kind ≠ 5 -> soundN (M'.nd i).mk' = true) /\ ((M'.nd i).content ≠ -1 ↔ (M'.nd i).kind = 1 /\ (M'.nd i).name = tempN) /\ ((M'.nd i).kind = 6 -> (M'.nd i).name.length < 1000000))
  (hR : ∀ u, u < M'.n -> ∀ k ∈ R' u, (u < M.n /\ k ∈ R u) \/ (u < M.n /\ k < M.n /\ holdB (M.nd u) = true /\ (M.nd k).kind ≠ 4 /\ (M.nd k).kind ≠ 5)) : Ex M' R' := by
 have hho : ∀ i, i < M.n -> holdB (M'.nd i) = holdB (M.nd i) := fun i hi => by unfold holdB; rw [(hk i hi).1, (hk i hi).2.1]
 refine ⟨fun i hi h5 => ?_, fun i hi => ?_, fun u hu k hku => ?_, fun i hi h6 => ?_⟩
 ·by_cases c : i < M.n
  ·exact hs i c (by rw [<- (hk i c).1]; exact h5)
  ·exact (hn i hi (by omega)).1 h5
 ·by_cases c : i < M.n
  ·rw [(hk i c).1, (hk i c).2.1, (hk i c).2.2]; exact h.tpl i c
  ·exact (hn i hi (by omega)).2.1
 ·rcases hR u hu k hku with ⟨h1, h2⟩ | ⟨h1, h2, h3, h4⟩
  ·rw [hho u h1, (hk k (hlt u h1 k h2)).1]; exact h.kid u h1 k h2
  ·rw [hho u h1, (hk k h2).1]; exact ⟨h3, h4⟩
 ·by_cases c : i < M.n
  ·rw [(hk i c).2.1]; exact h.nsz i c (by rw [<- (hk i c).1]; exact h6)
  ·exact (hn i hi (by omega)).2.2 h6
theorem Ex.add {M : Dm} {R : Nat -> List Nat} (h : Ex M R) (hlt : ∀ u, u < M.n -> ∀ k ∈ R u, k < M.n) (x : Nd) (hs : soundN x.mk' = true) (ht : ¬ (x.kind = 1 /\ x.name = tempN)) (hz : x.kind = 6 -> x.name.length < 1000000) : Ex (M.add x) (updR R M.n []) := by
 have old : ∀ i, i < M.n -> (M.add x).nd i = M.nd i := fun i hi => add_nd_old _ _ (by omega)
 refine h.to hlt (fun i hi => by rw [old i hi]; exact ⟨rfl, rfl, rfl⟩) (fun i hi h5 => by rw [old i hi]; exact h.snd i hi h5) (fun i hi hi2 => ?_) (fun u hu k hk => .inl (updR_nil hu hk))
 have : i = M.n := by have : i < M.n + 1 := hi; omega
 subst this
 rw [add_nd_new]
 exact ⟨fun _ => hs, ⟨fun h => absurd rfl h, fun h => absurd h ht⟩, hz⟩
theorem Ex.addT {M : Dm} {R : Nat -> List Nat} (h : Ex M R) (hlt : ∀ u, u < M.n -> ∀ k ∈ R u, k < M.n) (x : Nd) (hs : soundN x.mk' = true) (ht : x.kind = 1 /\ x.name = tempN) : Ex (M.addT x) (updR (updR R M.n []) (M.n + 1) []) := by
 have n1 : (M.add x).n = M.n + 1 := rfl
 have nt : ((M.add x).add frag0).nd M.n = x.new := by rw [add_nd_old _ _ (by rw [n1]; omega), add_nd_new]
 have nc : ((M.add x).add frag0).nd (M.n + 1) = frag0.new := add_nd_new (M.add x) frag0
 have old : ∀ i, i < M.n -> (M.addT x).nd i = M.nd i := fun i hi => by
  rw [addT_old M x (by omega) (by omega), add_nd_old _ _ (by rw [n1]; omega), add_nd_old _ _ (by omega)]
 refine h.to hlt (fun i hi => by rw [old i hi]; exact ⟨rfl, rfl, rfl⟩) (fun i hi h5 => by rw [old i hi]; exact h.snd i hi h5) (fun i hi hi2 => ?_) (fun u hu k hk => .inl ?_)
 ·have hi' : i < M.n + 2 := hi
  by_cases c : i = M.n
  ·subst c
   rw [addT_t, nt]
   refine ⟨fun _ => hs, ⟨fun _ => ht, fun _ => ?_⟩, fun h6 => ?_⟩
   ·show ((M.n + 1 : Nat) : Int) ≠ -1; omega
   ·have : x.kind = 6 := h6
    rw [ht.1] at this; cases this
  ·have : i = M.n + 1 := by omega
   subst this
   rw [addT_c, nc]
   exact ⟨fun _ => rfl, ⟨fun h => absurd rfl h, fun h => absurd h.1 (by show ¬ (4 : Nat) = 1; decide)⟩, fun h6 => absurd h6 (by show ¬ (4 : Nat) = 6; decide)⟩
 ·obtain ⟨h1, h2⟩ := updR_nil (n := M.n + 1) hu hk
  exact updR_nil h1 h2
theorem Ex.addR {M : Dm} {R : Nat -> List Nat} (h : Ex M R) (hlt : ∀ u, u < M.n -> ∀ k ∈ R u, k < M.n) {host : Nat} (f : Fg) (hh : host < M.n) : Ex (M.addR host f) (updR R M.n []) := by
 have hne : host ≠ M.n := by omega
 have old : ∀ i, i < M.n -> i ≠ host -> (M.addR host f).nd i = M.nd i := fun i hi hi2 => addR_old M host f (by omega) hi2
 have hot : (M.addR host f).nd host = { M.nd host with shadow := (M.n : Int) } := addR_host M host f hne
 refine h.to hlt (fun i hi => ?_) (fun i hi h5 => ?_) (fun i hi hi2 => ?_) (fun u hu k hk => .inl (updR_nil hu hk))
 ·by_cases c : i = host
  ·subst c; rw [hot]; exact ⟨rfl, rfl, rfl⟩
  ·rw [old i hi c]; exact ⟨rfl, rfl, rfl⟩
 ·by_cases c : i = host
  ·subst c; rw [hot]; exact h.snd i hi h5
  ·rw [old i hi c]; exact h.snd i hi h5
 ·have : i = M.n := by have : i < M.n + 1 := hi; omega
  subst this
  rw [addR_new M host f hne]
  exact ⟨fun h => absurd rfl h, ⟨fun h => absurd rfl h, fun h => absurd h.1 (by show ¬ (5 : Nat) = 1; decide)⟩, fun h6 => absurd h6 (by show ¬ (5 : Nat) = 6; decide)⟩
structure Inv (M : Dm) (R G : Nat -> List Nat) (rk : Nat -> Nat) : Prop extends Inv0 M R G rk where
 ex : Ex M R
section
variable {M : Dm} {R G : Nat -> List Nat} {rk : Nat -> Nat}
theorem Inv.new (limit : Nat) : Inv (Dm.new limit) (fun _ => []) (fun _ => []) (fun _ => 0) := ⟨Inv0.new limit, Ex.new limit⟩
theorem Inv.add (h : Inv M R G rk) (x : Nd) (hx : MkOk x) (hl : x.attrs.length <= 1000) (hs : soundN x.mk' = true) (ht : ¬ (x.kind = 1 /\ x.name = tempN)) (hz : x.kind = 6 -> x.name.length < 1000000) : Inv (M.add x) (updR R M.n []) (updR G M.n []) rk :=
 ⟨h.toInv0.add x hx hl, h.ex.add h.good.wf.lt x hs ht hz⟩
theorem Inv.addT (h : Inv M R G rk) (x : Nd) (hx : MkOk x) (hk : x.kind = 1) (hs : soundN x.mk' = true) (ht : x.name = tempN) : ∃ rk', Inv (M.addT x) (updR (updR R M.n []) (M.n + 1) []) (updR (updR G M.n []) (M.n + 1) []) rk' :=
 (h.toInv0.addT x hx hk).imp fun _ h' => ⟨h', h.ex.addT h.good.wf.lt x hs ⟨hk, ht⟩⟩
theorem Inv.addR (h : Inv M R G rk) {host : Nat} (f : Fg) (hh : host < M.n) (hk : (M.nd host).kind = 1) (hs : (M.nd host).shadow = -1) : ∃ rk', Inv (M.addR host f) (updR R M.n []) (updR G M.n []) rk' :=
 (h.toInv0.addR f hh hk hs).imp fun _ h' => ⟨h', h.ex.addR h.good.wf.lt f hh⟩
theorem Inv.ins (h : Inv M R G rk) {up i : Nat} {bef : Int} (hu : up < M.n) (hi : i < M.n) (hF : Fits M up i bef) : ∃ rk', Inv (M.setP (putD M R up i bef)) (putDR M R up i bef) G rk' := by
 refine (h.toInv0.ins hu hi hF).imp fun _ h' => ⟨h', h.ex.to h.good.wf.lt (fun _ _ => ⟨rfl, rfl, rfl⟩) (fun i hi h5 => h.ex.snd i hi h5) (fun i hi hi2 => absurd hi (Nat.not_lt.2 hi2)) fun u hu' k hk => ?_⟩
 unfold putDR at hk
 by_cases c : (M.nd i).kind = 4
 ·rw [if_pos c] at hk
  rcases mem_putsR _ _ _ hk with h1 | ⟨rfl, h1⟩
  ·exact .inl ⟨hu', h1⟩
  ·exact .inr ⟨hu', h.good.wf.lt i hi k h1, hF.1, (h.ex.kid i hi k h1).2⟩
 ·rw [if_neg c] at hk
  rcases mem_putR hk with h1 | ⟨rfl, rfl⟩
  ·exact .inl ⟨hu', h1⟩
  ·refine .inr ⟨hu', hi, hF.1, c, fun h5 => ?_⟩
   have := hF.2.1
   unfold moveB at this
   simp [h5] at this
theorem Inv.out (h : Inv M R G rk) {i : Nat} (hi : i < M.n) : Inv (M.setP (outL M.pl i)) (outR M.pl R i) G rk := by
 refine ⟨h.toInv0.out hi, h.ex.to h.good.wf.lt (fun _ _ => ⟨rfl, rfl, rfl⟩) (fun i hi h5 => h.ex.snd i hi h5) (fun i hi hi2 => absurd hi (Nat.not_lt.2 hi2)) fun u hu' k hk => .inl ⟨hu', ?_⟩⟩
 unfold outR at hk
 split at hk
 ·exact hk
 ·by_cases c : u = (M.pl i).up.toNat
  ·subst c; rw [updR_same] at hk; exact List.mem_of_mem_erase hk
  ·rw [updR_ne _ _ c] at hk; exact hk
theorem Inv.setN (h : Inv M R G rk) {i : Nat} (hi : i < M.n) {x : Nd} (e1 : x.kind = (M.nd i).kind) (e2 : x.name = (M.nd i).name) (e3 : x.shadow = (M.nd i).shadow) (e4 : x.host = (M.nd i).host) (e5 : x.content = (M.nd i).content) (h1 : x.kind = 1 -> soundA x.attrs = true) (h2 : x.kind ≠ 1 -> x.attrs = []) (hs : x.kind ≠ 5 -> soundN x.mk' = true) : Inv (M.setN i x) R G rk := by
 refine ⟨h.toInv0.setN hi e1 e2 e3 e4 e5 h1 h2, h.ex.to h.good.wf.lt (fun k hk => ?_) (fun k hk h5 => ?_) (fun i hi hi2 => absurd hi (Nat.not_lt.2 hi2)) fun u hu' k hk => .inl ⟨hu', hk⟩⟩
 ·by_cases c : k = i
  ·subst c; rw [setN_same]; exact ⟨e1, e2, e5⟩
  ·rw [setN_ne _ _ c]; exact ⟨rfl, rfl, rfl⟩
 ·by_cases c : k = i
  ·subst c; rw [setN_same]; exact hs (by rw [e1]; exact h5)
  ·rw [setN_ne _ _ c]; exact h.ex.snd k hk h5
theorem Inv.setG {G' : Nat -> List Nat} {L : Nat -> Lk} (h : Inv M R G rk) (hw : WF M.n L G') (hg : GftOk M G') : Inv (M.setG L) R G' rk :=
 ⟨h.toInv0.setG hw hg, h.ex.to h.good.wf.lt (fun _ _ => ⟨rfl, rfl, rfl⟩) (fun i hi h5 => h.ex.snd i hi h5) (fun i hi hi2 => absurd hi (Nat.not_lt.2 hi2)) fun u hu' k hk => .inl ⟨hu', hk⟩⟩
theorem soundN_el {x : Nd} (h1 : x.kind = 1) (hd : x.data = []) (hv : validP x.name = true) (ha : soundA x.attrs = true) : soundN x.mk' = true := by
 unfold soundN Nd.mk' Mk.it soundL
 simp [h1, soundP, kindP, hv, hd, ha]
theorem soundN_el_data {x : Nd} (h1 : x.kind = 1) (h : soundN x.mk' = true) : x.data = [] := by
 unfold soundN Nd.mk' Mk.it soundL at h
 simp [h1, soundP, kindP] at h
 exact h.1.2
theorem soundN_write {x : Nd} (h : x.kind = 2 \/ x.kind = 3) (l : List UInt8) (hs : soundN x.mk' = true) : soundN ({ x with data := l } : Nd).mk' = true := by
 unfold soundN Nd.mk' Mk.it soundL at hs ⊢
 rcases h with h | h
 ·simp [h, soundP, kindP] at hs ⊢
  refine ⟨⟨hs.1.1, ?_⟩, hs.2⟩
  by_cases c : l = [] <;> simp [c]
 ·simp [h, soundP, kindP] at hs ⊢
  exact hs
end
end
end Go.Proofs.Ytojbjiopilkbgaa
