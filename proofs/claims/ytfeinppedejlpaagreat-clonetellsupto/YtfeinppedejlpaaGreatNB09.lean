/-
 A node is taken out of its row, in memory (chain.takeOut), for the chain of gifts.; A row of nodes as a new slice of integers (chain.row).; The document grows by a node (Doc.add), its leaves, and New.; Leaves of the document that only read: room, Len, isElement, isContent, mayHold, mayMove, within, 
-/
import Derived.Test.YtfeinppedejlpaaGreatNB05
import Derived.Test.YtfeinppedejlpaaGreatNB06
import Derived.Great.BuildSlice
namespace Go.Proofs.YtfeinppedejlpaaGreat
set_option linter.unusedVariables false
set_option maxRecDepth 100000
set_option maxHeartbeats 8000000
section
open Go.RowKit
theorem DY.gcell {K : Nat -> Prop} {w : World} {p : Nat} {S : Dm} {g : Nat} {cap : Nat} (h : DY K w p S (some ⟨g, 0, none⟩) cap) {i : Nat} (hi : i < S.n) :
  w.cell? ⟨g, i * 22 + 17, none⟩ = some (.int .i64 (S.gf i).up) /\ w.cell? ⟨g, i * 22 + 18, none⟩ = some (.int .i64 (S.gf i).prev) /\ w.cell? ⟨g, i * 22 + 19, none⟩ = some (.int .i64 (S.gf i).next) /\ w.cell? ⟨g, i * 22 + 20, none⟩ = some (.int .i64 (S.gf i).first) /\ w.cell? ⟨g, i * 22 + 21, none⟩ = some (.int .i64 (S.gf i).last) := by
 obtain ⟨aa, ac, hc, -⟩ := h.cell hi
 exact ⟨hc 17 _ rfl, hc 18 _ rfl, hc 19 _ rfl, hc 20 _ rfl, hc 21 _ rfl⟩
theorem zgx (K : Nat -> Prop) (p g cap i : Nat) (S : Dm) (R : Nat -> List Nat) (w : World) (h : DY K w p S (some ⟨g, 0, none⟩) cap) (hW : WF S.n S.gf R) (hi : i < S.n) (hn : S.n <= 1000000000) :
  Calls Tryz.prog 171 #[chG p, .int .i64 (i : Int)] w fun e w' => e = .returned (.tuple #[]) /\ DY K w' p (S.setG (zct S.gf i)) (some ⟨g, 0, none⟩) cap /\ Kept K w w' := by
 obtain ⟨n, hne⟩ : ∃ n, S.n = n := ⟨_, rfl⟩
 have r1 := fun (j : Nat) (hj : j < n) (X : World) (hX : X.cell? ⟨p, 1, none⟩ = some (.slice (some ⟨g, 0, none⟩) n cap)) => zdh p g n cap j X hX hj (by omega)
 have hc := h.c1
 obtain ⟨c0, c1, c2, -, -⟩ := h.gcell hi
 have HY : Hid (DY K w p S (some ⟨g, 0, none⟩) cap) := h
 have HW : Hid (WF S.n S.gf R) := hW
 have HNE : Hid (S.n = n) := hne
 rw [hne] at hc hi
 rcases hW.inn i (by omega) with hup | ⟨u, hu, hup, -⟩
 ·rw [hup] at c0
  have e : zct S.gf i = S.gf := if_pos hup
  rw [e]
  clear h hW hne hn hup e c1 c2
  have r := r1 i hi w hc
  clear r1
  go_enter Tryz.func171, Tryz.ntmps171
  go_wp2_with (go_at_call 238; refine r.mono ?_; rintro e w' ⟨rfl, rfl⟩)
  refine bodyPost_ret (results_none rfl _ _ _) rfl ?_
  exact ⟨rfl, HY.out, Kept.refl _ _⟩
 obtain ⟨hu', hpv, hnx⟩ := hW.prev_or (by omega) hup
 have HP : Hid ((S.gf i).prev = -1 \/ ∃ m : Nat, m < S.n /\ m ≠ i /\ (S.gf i).prev = (m : Int)) := hpv
 have HN : Hid ((S.gf i).next = -1 \/ ∃ m : Nat, m < S.n /\ m ≠ i /\ (S.gf i).next = (m : Int)) := hnx
 have HU : Hid ((S.gf i).up = (u : Int)) := hup
 have h1' : (S.gf i).prev = -1 \/ ∃ m : Nat, m ≠ i /\ (S.gf i).prev = (m : Int) := by
  rcases hpv with h | ⟨m, _, h1, h2⟩
  ·exact .inl h
  ·exact .inr ⟨m, h1, h2⟩
 have h2' : (S.gf i).next = -1 \/ ∃ m : Nat, m ≠ i /\ (S.gf i).next = (m : Int) := by
  rcases hnx with h | ⟨m, _, h1, h2⟩
  ·exact .inl h
  ·exact .inr ⟨m, h1, h2⟩
 have H1 : Hid ((S.gf i).prev = -1 \/ ∃ m : Nat, m ≠ i /\ (S.gf i).prev = (m : Int)) := h1'
 have H2 : Hid ((S.gf i).next = -1 \/ ∃ m : Nat, m ≠ i /\ (S.gf i).next = (m : Int)) := h2'
 rw [hup] at c0
 rw [hne] at hu'
 have hgp := h.gk.2.1
 have hu0 : ((u : Int) == -1) = false := by simp
 have ri := r1 i hi
 have ru := r1 u hu'
 obtain ⟨pv, hpe⟩ : ∃ z, (S.gf i).prev = z := ⟨_, rfl⟩
 obtain ⟨nx, hxe⟩ : ∃ z, (S.gf i).next = z := ⟨_, rfl⟩
 rw [hpe] at c1
 rw [hxe] at c2
 have HPE : Hid ((S.gf i).prev = pv) := hpe
 have HXE : Hid ((S.gf i).next = nx) := hxe
 clear h hW hne hn hup hu hpv hnx hpe hxe h1' h2'
 go_enter Tryz.func171, Tryz.ntmps171
 go_upto_if 17 with (go_at_call 238; refine (ri _ hc).mono ?_; rintro e w' ⟨rfl, rfl⟩)
 go_cut [] (fun wx => DY K wx p (S.setG (st1 S.gf i)) (some ⟨g, 0, none⟩) cap /\ Kept K w' wx)
 case first =>
  by_cases hp1 : pv = -1
  ·subst hp1
   have e : st1 S.gf i = zaw S.gf u { S.gf u with first := nx } := by
    unfold st1
    rw [if_pos HPE.out, HU.out, Int.toNat_natCast, HXE.out]
   obtain ⟨-, -, -, t3, -⟩ := HY.out.gcell (i := u) (by rw [HNE.out]; exact hu')
   have f3 := HY.out.fg (u * 22 + 20)
   have D := HY.out.setGfirst (i := u) (by rw [HNE.out]; exact hu') nx
   rw [<- e] at D
   have HD : Hid (DY K (w'.setCell ⟨g, u * 22 + 20, none⟩ (.int .i64 nx)) p (S.setG (st1 S.gf i)) (some ⟨g, 0, none⟩) cap) := D.1
   have HK : Hid (Kept K w' (w'.setCell ⟨g, u * 22 + 20, none⟩ (.int .i64 nx))) := D.2
   clear D e HW HP HN HU H1 H2 HPE HXE HNE
   go_wp2_with fail
   go_region_with (go_at_call 238; refine (ru _ ?_).mono ?_; exact hc; rintro e w2 ⟨rfl, rfl⟩)
   all_goals
    go_wp2_with fail
    go_meet
    case rel => exact ⟨HD.out.drew, HK.out.drew⟩
  ·rcases HP.out with e0 | ⟨m, hm, hmi, e0⟩
   ·exact absurd (HPE.out.symm.trans e0) hp1
   have e1 : pv = (m : Int) := HPE.out.symm.trans e0
   subst e1
   rw [HNE.out] at hm
   have e : st1 S.gf i = zaw S.gf m { S.gf m with next := nx } := by
    unfold st1
    rw [if_neg (by rw [e0]; exact hp1), e0, Int.toNat_natCast, HXE.out]
   obtain ⟨-, -, t2, -, -⟩ := HY.out.gcell (i := m) (by rw [HNE.out]; exact hm)
   have f2 := HY.out.fg (m * 22 + 19)
   have D := HY.out.setGnext (i := m) (by rw [HNE.out]; exact hm) nx
   rw [<- e] at D
   have HD : Hid (DY K (w'.setCell ⟨g, m * 22 + 19, none⟩ (.int .i64 nx)) p (S.setG (st1 S.gf i)) (some ⟨g, 0, none⟩) cap) := D.1
   have HK : Hid (Kept K w' (w'.setCell ⟨g, m * 22 + 19, none⟩ (.int .i64 nx))) := D.2
   have rm := r1 m hm
   have hm0 : ((m : Int) == -1) = false := by simp
   clear D e e0 HW HP HN HU H1 H2 HPE HXE HNE hp1
   go_wp2_with fail
   go_region_with (go_at_call 238; refine (rm _ ?_).mono ?_; exact hc; rintro e w2 ⟨rfl, rfl⟩)
   all_goals
    go_wp2_with fail
    go_meet
    case rel => exact ⟨HD.out.drew, HK.out.drew⟩
 case rest =>
  obtain ⟨hY1, hK1⟩ := hcut
  obtain ⟨a1, a2, a3⟩ := zll H1.out
  have hiS : i < S.n := by rw [HNE.out]; exact hi
  obtain ⟨d0, d1, d2, -, -⟩ := hY1.gcell (i := i) hiS
  have hc' := hY1.c1
  replace d0 : wc.cell? ⟨g, i * 22 + 17, none⟩ = some (.int .i64 (u : Int)) := by rw [<- HU.out, <- a1]; exact d0
  replace d1 : wc.cell? ⟨g, i * 22 + 18, none⟩ = some (.int .i64 pv) := by rw [<- HPE.out, <- a2]; exact d1
  replace d2 : wc.cell? ⟨g, i * 22 + 19, none⟩ = some (.int .i64 nx) := by rw [<- HXE.out, <- a3]; exact d2
  replace hc' : wc.cell? ⟨p, 1, none⟩ = some (.slice (some ⟨g, 0, none⟩) n cap) := by rw [<- HNE.out]; exact hc'
  have HY1 : Hid (DY K wc p (S.setG (st1 S.gf i)) (some ⟨g, 0, none⟩) cap) := hY1
  have HK1 : Hid (Kept K w' wc) := hK1
  have HA : Hid ((st1 S.gf i i).up = (u : Int) /\ (st1 S.gf i i).prev = pv /\ (st1 S.gf i i).next = nx) := ⟨a1.trans HU.out, a2.trans HPE.out, a3.trans HXE.out⟩
  clear hY1 hK1 a1 a2 a3 c0 c1 c2 hc HY
  go_upto_if 46 with fail
  go_cut [] (fun wx => DY K wx p (S.setG (st2 (st1 S.gf i) i)) (some ⟨g, 0, none⟩) cap /\ Kept K w' wx)
  case first =>
   by_cases hp1 : nx = -1
   ·subst hp1
    have e : st2 (st1 S.gf i) i = zaw (st1 S.gf i) u { st1 S.gf i u with last := pv } := by
     unfold st2
     rw [if_pos HA.out.2.2, HA.out.1, Int.toNat_natCast, HA.out.2.1]
    obtain ⟨-, -, -, -, t3⟩ := HY1.out.gcell (i := u) (by show u < S.n; rw [HNE.out]; exact hu')
    have f3 := HY1.out.fg (u * 22 + 21)
    have D := HY1.out.setGlast (i := u) (by show u < S.n; rw [HNE.out]; exact hu') pv
    have D1 : DY K (wc.setCell ⟨g, u * 22 + 21, none⟩ (.int .i64 pv)) p (S.setG (zaw (st1 S.gf i) u { st1 S.gf i u with last := pv })) (some ⟨g, 0, none⟩) cap := D.1
    rw [<- e] at D1
    have HD : Hid (DY K (wc.setCell ⟨g, u * 22 + 21, none⟩ (.int .i64 pv)) p (S.setG (st2 (st1 S.gf i) i)) (some ⟨g, 0, none⟩) cap) := D1
    have HK : Hid (Kept K w' (wc.setCell ⟨g, u * 22 + 21, none⟩ (.int .i64 pv))) := HK1.out.trans D.2
    clear D D1 e HW HP HN HU H1 H2 HPE HXE HNE HA
    go_wp2_with fail
    go_region_with (go_at_call 238; refine (ru _ ?_).mono ?_; exact hc'; rintro e w2 ⟨rfl, rfl⟩)
    all_goals
     go_wp2_with fail
     go_meet
     case rel => exact ⟨HD.out.drew, HK.out.drew⟩
   ·rcases HN.out with e0 | ⟨m, hm, hmi, e0⟩
    ·exact absurd (HXE.out.symm.trans e0) hp1
    have e1 : nx = (m : Int) := HXE.out.symm.trans e0
    subst e1
    rw [HNE.out] at hm
    have e : st2 (st1 S.gf i) i = zaw (st1 S.gf i) m { st1 S.gf i m with prev := pv } := by
     unfold st2
     rw [if_neg (by rw [HA.out.2.2]; exact hp1), HA.out.2.2, Int.toNat_natCast, HA.out.2.1]
    obtain ⟨-, t3, -, -, -⟩ := HY1.out.gcell (i := m) (by show m < S.n; rw [HNE.out]; exact hm)
    have f3 := HY1.out.fg (m * 22 + 18)
    have D := HY1.out.setGprev (i := m) (by show m < S.n; rw [HNE.out]; exact hm) pv
    have D1 : DY K (wc.setCell ⟨g, m * 22 + 18, none⟩ (.int .i64 pv)) p (S.setG (zaw (st1 S.gf i) m { st1 S.gf i m with prev := pv })) (some ⟨g, 0, none⟩) cap := D.1
    rw [<- e] at D1
    have HD : Hid (DY K (wc.setCell ⟨g, m * 22 + 18, none⟩ (.int .i64 pv)) p (S.setG (st2 (st1 S.gf i) i)) (some ⟨g, 0, none⟩) cap) := D1
    have HK : Hid (Kept K w' (wc.setCell ⟨g, m * 22 + 18, none⟩ (.int .i64 pv))) := HK1.out.trans D.2
    have rm := r1 m hm
    have hm0 : ((m : Int) == -1) = false := by simp
    clear D D1 e e0 HW HP HN HU H1 H2 HPE HXE HNE HA hp1
    go_wp2_with fail
    go_region_with (go_at_call 238; refine (rm _ ?_).mono ?_; exact hc'; rintro e w2 ⟨rfl, rfl⟩)
    all_goals
     go_wp2_with fail
     go_meet
     case rel => exact ⟨HD.out.drew, HK.out.drew⟩
  case rest =>
   obtain ⟨hY2, hK2⟩ := hcut
   obtain ⟨e0, e1, e2, -, -⟩ := hY2.gcell (i := i) hiS
   have f0 := hY2.fg (i * 22 + 17)
   have f1 := hY2.fg (i * 22 + 18)
   have f2 := hY2.fg (i * 22 + 19)
   have D1 := hY2.setGup (i := i) hiS (-1)
   have D2 := D1.1.setGprev (i := i) hiS (-1)
   have D3 := D2.1.setGnext (i := i) hiS (-1)
   have HK3 : Hid (Kept K w' (((wc.setCell ⟨g, i * 22 + 17, none⟩ (.int .i64 (-1))).setCell ⟨g, i * 22 + 18, none⟩ (.int .i64 (-1))).setCell ⟨g, i * 22 + 19, none⟩ (.int .i64 (-1)))) := hK2.trans (D1.2.trans (D2.2.trans D3.2))
   have HD3 := D3.1
   have eo : zaw (zaw (zaw (st2 (st1 S.gf i) i) i { st2 (st1 S.gf i) i i with up := -1 }) i { zaw (st2 (st1 S.gf i) i) i { st2 (st1 S.gf i) i i with up := -1 } i with prev := -1 }) i { zaw (zaw (st2 (st1 S.gf i) i) i { st2 (st1 S.gf i) i i with up := -1 }) i { zaw (st2 (st1 S.gf i) i) i { st2 (st1 S.gf i) i i with up := -1 } i with prev := -1 } i with next := -1 } = zct S.gf i := by
    rw [zbz, zbz, zau, zau]
    exact zpl HU.out H1.out H2.out _ rfl
   replace HD3 : Hid (DY K (((wc.setCell ⟨g, i * 22 + 17, none⟩ (.int .i64 (-1))).setCell ⟨g, i * 22 + 18, none⟩ (.int .i64 (-1))).setCell ⟨g, i * 22 + 19, none⟩ (.int .i64 (-1))) p (S.setG (zct S.gf i)) (some ⟨g, 0, none⟩) cap) := by
    rw [<- eo]
    exact HD3
   clear D1 D2 D3 hY2 hK2 eo HW HP HN HU H1 H2 HPE HXE HNE HA HY1 HK1 hc' d0 d1 d2
   go_wp2
   go_end0
   exact ⟨rfl, HD3.out, HK3.out⟩
end
section
open Go.RowKit
abbrev iv (i : Nat) : Value := .int .i64 (i : Int)
abbrev ivs (l : List Nat) : List Value := l.map fun i => iv i
theorem zlb : (Tryz.prog.info? 3).map (fun i => (i.zero, i.size, i.bytes)) = some (some (.int .i64 0), 1, 8) := by kernel_rfl
theorem zow {K : Nat -> Prop} {w : World} {ao : Option Addr} {n cap : Nat} {xs : List Value} (h : Zac K w 3 1 ao n cap xs) (hKl : ∀ k, K k -> k < w.heap.size) (hn : n <= 1000000000) (x : Int) :
  ∃ ao' cap' w', (Builtin.append_ #[33, 33] 33 #[.slice ao n cap, .slice (some ⟨w.heap.size, 0, none⟩) 1 1]).run Tryz.prog (w.alloc (.cells #[.int .i64 x] 3)) = .ok (.slice ao' (n + 1) cap') w' /\ Zac K w' 3 1 ao' (n + 1) cap' (xs ++ [.int .i64 x]) /\ Kept K w w' := by
 obtain ⟨i, hi, hip⟩ := Option.map_eq_some_iff.1 zlb
 have hz : i.zero = some (.int .i64 0) := congrArg (·.1) hip
 have hsz : i.size = 1 := congrArg (·.2.1) hip
 have hby : i.bytes = 8 := congrArg (·.2.2) hip
 obtain ⟨W, hW⟩ : ∃ W, w.alloc (.cells #[.int .i64 x] 3) = W := ⟨_, rfl⟩
 rw [hW]
 have hsrc : Src Tryz.prog 1 33 (.slice (some ⟨w.heap.size, 0, none⟩) 1 1) 1 [.int .i64 x] W := by
  rw [<- hW]
  exact zec w w.heap.size [.int .i64 x] _ Tryz.underlying33 (by intro u hu; rw [List.mem_singleton.1 hu]; rfl) rfl rfl
 have keep : ∀ g, g < w.heap.size -> W.heap[g]? = w.heap[g]? := fun g hg => by rw [<- hW]; exact Below.heap_alloc _ _ _ hg
 have hsW : w.heap.size <= W.heap.size := by rw [<- hW]; simp
 obtain ⟨ao', cap', w', hr, ho, hk⟩ := zjx (P := Tryz.prog) W 33 33 33 3 i _ Tryz.underlying33 hi hz 1 hsz rfl (by omega)
  (h.to (w' := W) (fun g hg => (h.out hg).1) (fun g hg => keep g (h.out hg).2)) _ _ hsrc (fun g hg => ltl (hKl g hg) hsW) hn
 refine ⟨ao', cap', w', hr, ho, Kept.trans ?_ hk⟩
 rw [<- hW]
 exact (Kept.refl _ w).alloc hKl _
theorem WF.len_le {n : Nat} {L : Nat -> Lk} {R : Nat -> List Nat} (h : WF n L R) {u : Nat} (hu : u < n) : (R u).length <= n := by
 have : ∀ (n : Nat) (l : List Nat), l.Nodup -> (∀ i ∈ l, i < n) -> l.length <= n := by
  intro n
  induction n with
  | zero =>
   intro l _ hl
   cases l with
   | nil => exact Nat.le_refl _
   | cons x r => exact absurd (hl x (List.mem_cons_self ..)) (Nat.not_lt_zero _)
  | succ n ih =>
   intro l hn hl
   have h1 := ih (l.erase n) (hn.erase n) (fun i hi => by
    have a := hl i (List.mem_of_mem_erase hi)
    have b : i ≠ n := fun e => by
     subst e
     exact (List.Nodup.not_mem_erase hn) hi
    omega)
   have h2 : l.length <= (l.erase n).length + 1 := by
    by_cases hm : n ∈ l
    ·rw [List.length_erase_of_mem hm]; omega
    ·rw [List.erase_of_not_mem hm]; omega
   omega
 exact this n (R u) (h.nodup u hu) (h.lt u hu)
theorem zso (K : Nat -> Prop) (p g cap up : Nat) (S : Dm) (R : Nat -> List Nat) (w : World) (h : DY K w p S (some ⟨g, 0, none⟩) cap) (hW : WF S.n S.pl R) (hu : up < S.n) (hn : S.n <= 1000000) :
  Calls Tryz.prog 113 #[chP p, .int .i64 (up : Int)] w fun e w' => ∃ ao c, e = .returned (.slice ao (R up).length c) /\ Zac (fun k => k < w.heap.size) w' 3 1 ao (R up).length c (ivs (R up)) /\ Kept (fun k => k < w.heap.size) w w' := by
 obtain ⟨n, hne⟩ : ∃ n, S.n = n := ⟨_, rfl⟩
 have hlen := hW.len_le hu
 have hlt := hW.lt up hu
 have hf := hW.first up hu
 have hsp : ∀ a i b, R up = a ++ i :: b -> (S.pl i).next = hdD b (-1) := fun a i b e => (hW.split hu e).2
 rw [hne] at hu hn hlen hlt
 have r1 := fun (j : Nat) (hj : j < n) (X : World) (hX : X.cell? ⟨p, 1, none⟩ = some (.slice (some ⟨g, 0, none⟩) n cap)) => zdv p g n cap j X hX hj (by omega)
 have ru := r1 up hu
 have c1 : w.cell? ⟨p, 1, none⟩ = some (.slice (some ⟨g, 0, none⟩) n cap) := by have := h.c1; rw [hne] at this; exact this
 obtain ⟨-, -, -, c3, -⟩ := h.pcell (i := up) (by rw [hne]; exact hu)
 rw [hf] at c3
 have HY : Hid (DY K w p S (some ⟨g, 0, none⟩) cap) := h
 have HNE : Hid (S.n = n) := hne
 have HS : Hid (∀ a i b, R up = a ++ i :: b -> (S.pl i).next = hdD b (-1)) := hsp
 have HLT : Hid (∀ i ∈ R up, i < n) := hlt
 have HL : Hid ((R up).length <= n) := hlen
 obtain ⟨Q, hQ⟩ : ∃ Q, R up = Q := ⟨_, rfl⟩
 rw [hQ] at c3 HS HLT HL ⊢
 clear h hW hne hlen hlt hf hsp hQ
 go_enter Tryz.func113, Tryz.ntmps113
 go_upto_region 3 with (go_at_call 187; refine (ru _ ?_).mono ?_; exact c1; rintro e w2 ⟨rfl, hw2⟩; replace hw2 := hw2.symm; subst hw2)
 go_loopg [5, 6] Q.length (fun gh v5 v6 wr => ∃ a b ao c, gh = b.length /\ Q = a ++ b /\ v5 = .slice ao a.length c /\ v6 = .int .i64 (hdD b (-1)) /\ Zac (fun k => k < w.heap.size) wr 3 1 ao a.length c (ivs a) /\ Kept (fun k => k < w.heap.size) w wr)
 case atStart => exact ⟨[], Q, none, 0, rfl, rfl, rfl, rfl, Zac.nil _ _ _ _, Kept.refl _ _⟩
 case round =>
  obtain ⟨a, b, ao, c, hgh, hab, rfl, rfl, hO, hK⟩ := hrel
  cases b with
  | nil =>
   have e : a = Q := by rw [hab, List.append_nil]
   subst e
   have HO : Hid (Zac (fun k => k < w.heap.size) wr 3 1 ao a.length c (ivs a)) := hO
   have HK : Hid (Kept (fun k => k < w.heap.size) w wr) := hK
   clear hO hK hab hgh HS HLT HL
   go_wp2
   go_ret
   exact ⟨ao, c, rfl, HO.out, HK.out⟩
  | cons i b =>
   have hin : i < n := HLT.out i (by rw [hab]; simp)
   have hal : a.length + 1 <= n := by
    have := HL.out
    rw [hab] at this
    simp at this
    omega
   obtain ⟨la, hla⟩ : ∃ z, a.length = z := ⟨_, rfl⟩
   rw [hla] at hal hO ⊢
   obtain ⟨ao', c', w', hr, hO', hK'⟩ := zow hO (fun k hk => ltl hk hK.size) (by omega) (i : Int)
   have kk := hK.trans hK'
   have hY' := HY.out.kept (hK.trans hK')
   have hnx := HS.out a i b hab
   obtain ⟨-, -, d2, -, -⟩ := hY'.pcell (i := i) (by rw [HNE.out]; exact hin)
   rw [hnx] at d2
   have d1 : w'.cell? ⟨p, 1, none⟩ = some (.slice (some ⟨g, 0, none⟩) n cap) := by have := hY'.c1; rw [HNE.out] at this; exact this
   have HO : Hid (Zac (fun k => k < w.heap.size) w' 3 1 ao' (la + 1) c' (ivs a ++ [.int .i64 (i : Int)])) := hO'
   have HK : Hid (Kept (fun k => k < w.heap.size) w w') := kk
   have HAB : Hid (Q = a ++ i :: b) := hab
   have HLA : Hid (a.length = la) := hla
   have hi0 : ((i : Int) == -1) = false := by simp
   have ri := r1 i hin
   rw [show hdD (i :: b) (-1) = (i : Int) from rfl]
   clear hO hO' hK hK' hY' hnx kk hab hla
   go_wp2_with (first | (at_builtin; refine zak (w' := w') rfl (.tmp 21) (.tmp 23) 33 33 rfl _ _ (.slice ao' (la + 1) c') rfl rfl hr ?_) | (go_at_call 187; refine (ri _ ?_).mono ?_; exact d1; rintro e w2 ⟨rfl, hw2⟩; replace hw2 := hw2.symm; subst hw2))
   go_roundg b.length
   case rel =>
    refine ⟨a ++ [i], b, ao', c', rfl, by rw [HAB.out]; simp, by rw [List.length_append, HLA.out]; rfl, rfl, ?_, HK.out⟩
    rw [List.length_append, HLA.out, ivs, List.map_append]
    exact HO.out
   case measure => rw [hgh]; simp
theorem zsn (K : Nat -> Prop) (p g cap up : Nat) (S : Dm) (R : Nat -> List Nat) (w : World) (h : DY K w p S (some ⟨g, 0, none⟩) cap) (hW : WF S.n S.gf R) (hu : up < S.n) (hn : S.n <= 1000000) :
  Calls Tryz.prog 113 #[chG p, .int .i64 (up : Int)] w fun e w' => ∃ ao c, e = .returned (.slice ao (R up).length c) /\ Zac (fun k => k < w.heap.size) w' 3 1 ao (R up).length c (ivs (R up)) /\ Kept (fun k => k < w.heap.size) w w' := by
 obtain ⟨n, hne⟩ : ∃ n, S.n = n := ⟨_, rfl⟩
 have hlen := hW.len_le hu
 have hlt := hW.lt up hu
 have hf := hW.first up hu
 have hsp : ∀ a i b, R up = a ++ i :: b -> (S.gf i).next = hdD b (-1) := fun a i b e => (hW.split hu e).2
 rw [hne] at hu hn hlen hlt
 have r1 := fun (j : Nat) (hj : j < n) (X : World) (hX : X.cell? ⟨p, 1, none⟩ = some (.slice (some ⟨g, 0, none⟩) n cap)) => zdh p g n cap j X hX hj (by omega)
 have ru := r1 up hu
 have c1 : w.cell? ⟨p, 1, none⟩ = some (.slice (some ⟨g, 0, none⟩) n cap) := by have := h.c1; rw [hne] at this; exact this
 obtain ⟨-, -, -, c3, -⟩ := h.gcell (i := up) (by rw [hne]; exact hu)
 rw [hf] at c3
 have HY : Hid (DY K w p S (some ⟨g, 0, none⟩) cap) := h
 have HNE : Hid (S.n = n) := hne
 have HS : Hid (∀ a i b, R up = a ++ i :: b -> (S.gf i).next = hdD b (-1)) := hsp
 have HLT : Hid (∀ i ∈ R up, i < n) := hlt
 have HL : Hid ((R up).length <= n) := hlen
 obtain ⟨Q, hQ⟩ : ∃ Q, R up = Q := ⟨_, rfl⟩
 rw [hQ] at c3 HS HLT HL ⊢
 clear h hW hne hlen hlt hf hsp hQ
 go_enter Tryz.func113, Tryz.ntmps113
 go_upto_region 3 with (go_at_call 238; refine (ru _ ?_).mono ?_; exact c1; rintro e w2 ⟨rfl, hw2⟩; replace hw2 := hw2.symm; subst hw2)
 go_loopg [5, 6] Q.length (fun gh v5 v6 wr => ∃ a b ao c, gh = b.length /\ Q = a ++ b /\ v5 = .slice ao a.length c /\ v6 = .int .i64 (hdD b (-1)) /\ Zac (fun k => k < w.heap.size) wr 3 1 ao a.length c (ivs a) /\ Kept (fun k => k < w.heap.size) w wr)
 case atStart => exact ⟨[], Q, none, 0, rfl, rfl, rfl, rfl, Zac.nil _ _ _ _, Kept.refl _ _⟩
 case round =>
  obtain ⟨a, b, ao, c, hgh, hab, rfl, rfl, hO, hK⟩ := hrel
  cases b with
  | nil =>
   have e : a = Q := by rw [hab, List.append_nil]
   subst e
   have HO : Hid (Zac (fun k => k < w.heap.size) wr 3 1 ao a.length c (ivs a)) := hO
   have HK : Hid (Kept (fun k => k < w.heap.size) w wr) := hK
   clear hO hK hab hgh HS HLT HL
   go_wp2
   go_ret
   exact ⟨ao, c, rfl, HO.out, HK.out⟩
  | cons i b =>
   have hin : i < n := HLT.out i (by rw [hab]; simp)
   have hal : a.length + 1 <= n := by
    have := HL.out
    rw [hab] at this
    simp at this
    omega
   obtain ⟨la, hla⟩ : ∃ z, a.length = z := ⟨_, rfl⟩
   rw [hla] at hal hO ⊢
   obtain ⟨ao', c', w', hr, hO', hK'⟩ := zow hO (fun k hk => ltl hk hK.size) (by omega) (i : Int)
   have kk := hK.trans hK'
   have hY' := HY.out.kept (hK.trans hK')
   have hnx := HS.out a i b hab
   obtain ⟨-, -, d2, -, -⟩ := hY'.gcell (i := i) (by rw [HNE.out]; exact hin)
   rw [hnx] at d2
   have d1 : w'.cell? ⟨p, 1, none⟩ = some (.slice (some ⟨g, 0, none⟩) n cap) := by have := hY'.c1; rw [HNE.out] at this; exact this
   have HO : Hid (Zac (fun k => k < w.heap.size) w' 3 1 ao' (la + 1) c' (ivs a ++ [.int .i64 (i : Int)])) := hO'
   have HK : Hid (Kept (fun k => k < w.heap.size) w w') := kk
   have HAB : Hid (Q = a ++ i :: b) := hab
   have HLA : Hid (a.length = la) := hla
   have hi0 : ((i : Int) == -1) = false := by simp
   have ri := r1 i hin
   rw [show hdD (i :: b) (-1) = (i : Int) from rfl]
   clear hO hO' hK hK' hY' hnx kk hab hla
   go_wp2_with (first | (at_builtin; refine zak (w' := w') rfl (.tmp 21) (.tmp 23) 33 33 rfl _ _ (.slice ao' (la + 1) c') rfl rfl hr ?_) | (go_at_call 238; refine (ri _ ?_).mono ?_; exact d1; rintro e w2 ⟨rfl, hw2⟩; replace hw2 := hw2.symm; subst hw2))
   go_roundg b.length
   case rel =>
    refine ⟨a ++ [i], b, ao', c', rfl, by rw [HAB.out]; simp, by rw [List.length_append, HLA.out]; rfl, rfl, ?_, HK.out⟩
    rw [List.length_append, HLA.out, ivs, List.map_append]
    exact HO.out
   case measure => rw [hgh]; simp
end
section
open Go.RowKit
section
variable {P : Program}
theorem zjw {K : Nat -> Prop} (w : World) (t tx ty e : TypeId) (i : TypeInfo) (zv : Value) (ht : P.underlying t = some (.slice e)) (hi : P.info? e = some i) (hz : i.zero = some zv) (z : Nat) (hsize : i.size = z) (hzs : zv.cells.size = z) (hby : i.bytes <= 1024)
  {ao : Option Addr} {n cap : Nat} {xs : List Value} (hown : Zac K w e z ao n cap xs) (x : Value) (news : List Value) (hs : Src P z tx x 1 news w)
  (hK : ∀ k, K k -> k < w.heap.size) (hn : n <= 1000000000) :
  ∃ ao' cap' w', (Builtin.append_ #[t, tx] ty #[.slice ao n cap, x]).run P w = .ok (.slice ao' (n + 1) cap') w' /\ Zac K w' e z ao' (n + 1) cap' (xs ++ news) /\ Kept K w w' := by
 subst hsize
 have h63 : n + 1 <= maxLen := by unfold maxLen; omega
 have hbytes : (n + 1) * i.bytes <= 140737488355328 := by
  have : (n + 1) * i.bytes <= (1000000000 + 1) * 1024 := Nat.mul_le_mul (by omega) hby
  omega
 have hnl : news.length = i.size := by simpa using hs.newsLen
 obtain ⟨h1, h2, h3, h4⟩ := hown
 have grow : cap < n + 1 -> (Builtin.firstCells i.size n (.slice ao n cap)).run P w.drew = .ok xs.toArray w.drew ->
   ∃ ao' cap' w', (Builtin.append_ #[t, tx] ty #[.slice ao n cap, x]).run P w = .ok (.slice ao' (n + 1) cap') w' /\ Zac K w' e i.size ao' (n + 1) cap' (xs ++ news) /\ Kept K w w' := by
  intro hg hold
  have hr := run_append_grow_src (P := P) w t tx ty e i zv ht hi hz ao n cap xs hold x 1 news hs hg (by omega) (growslice_fits hg hbytes)
  have hge := grownCap_ge w (n + 1) cap e
  have hlen : (xs ++ news).length = (n + 1) * i.size := by rw [List.length_append, h1, hnl, Nat.succ_mul]
  refine ⟨_, _, _, hr, ⟨hlen, hge, grownCap_le_maxLen w (n + 1) cap e h63, .inr ⟨w.heap.size, _, rfl, fun hk => Nat.lt_irrefl _ (hK _ hk), heap_alloc_new w.drew _, ?_, ?_⟩⟩, (Kept.refl K w).drew.alloc (by simpa using hK) _⟩
  ·rw [Array.size_append, List.size_toArray, hlen, size_zeroCells, hzs, <- Nat.add_mul]
   congr 1
   omega
  ·rw [Array.toList_append]
   rw [<- hlen]
   exact List.take_left
 rcases h4 with ⟨rfl, rfl⟩ | ⟨g, cur, rfl, r2, r3, r4, r5⟩
 ·have hn0 : n = 0 := by omega
  subst hn0
  have hx : xs = [] := List.eq_nil_of_length_eq_zero (by omega)
  subst hx
  exact grow (by omega) (run_firstCells_none w.drew i.size 0 0 0)
 ·have hcells : ∀ j u, xs[j]? = some u -> w.cell? ((⟨g, 0, none⟩ : Addr).add j) = some u := by
   intro j u hj
   have hjl : j < xs.length := by
    rcases Nat.lt_or_ge j xs.length with hl | hg
    ·exact hl
    ·rw [List.getElem?_eq_none hg] at hj; cases hj
   have : (⟨g, 0, none⟩ : Addr).add j = ⟨g, j, none⟩ := by rw [Addr.add_lit, Nat.zero_add]
   rw [this, zaa r3, <- hj, <- r5, List.getElem?_take, if_pos (by omega), Array.getElem?_toList]
  by_cases hroom : n + 1 <= cap
  ·have hfit : n * i.size + i.size <= cur.size := by
    rw [r4, <- Nat.succ_mul]
    exact Nat.mul_le_mul_right _ hroom
   have hr := run_append_room_src (P := P) w t tx ty e i ht hi g 0 n cap x 1 news hs hroom
    (fun j hj => by rw [zaa r3]; rw [Array.getElem?_eq_getElem (by omega)]; rfl)
    (fun j hj => zao r3 _)
   rw [Nat.zero_add] at hr
   obtain ⟨c', q1, q2⟩ := za9 (b := g) (e := e) (f := (0, 0)) news (n * i.size) w cur r3 (by omega)
   have hlen : (xs ++ news).length = (n + 1) * i.size := by rw [List.length_append, h1, hnl, Nat.succ_mul]
   refine ⟨_, _, _, hr, ⟨hlen, hroom, h3, .inr ⟨g, c', rfl, r2, q1, ?_, ?_⟩⟩, ⟨?_, ?_, ?_, ?_, ?_⟩⟩
   ·have := congrArg List.length q2
    rw [List.length_append, List.length_append, List.length_drop, List.length_take] at this
    simp only [Array.length_toList] at this
    omega
   ·rw [q2, r5, <- hlen]
    exact List.take_left
   ·exact World.os_setCells w g _ news
   ·have key : ∀ (vs : List Value) (o : Nat) (v : World), (v.setCells g o vs).tape = v.tape := by
     intro vs
     induction vs with
     | nil => intro o v; rfl
     | cons a r ih => intro o v; rw [World.setCells, ih]; rfl
    exact key news _ w
   ·exact World.output_setCells w g _ news
   ·have key : ∀ (vs : List Value) (o : Nat) (v : World), (v.setCells g o vs).heap.size = v.heap.size := by
     intro vs
     induction vs with
     | nil => intro o v; rfl
     | cons a r ih => intro o v; rw [World.setCells, ih]; simp
    rw [key]; exact Nat.le_refl _
   ·intro k hk
    exact World.heap_setCells_other w g _ news (hK k hk) (fun e => r2 (e ▸ hk))
  ·exact grow (by omega) (run_firstCells_some w.drew i.size n ⟨g, 0, none⟩ n cap xs h1 hcells)
theorem zbf {w w' : World} {ops : Array Oper} {o : Oper} {a : Act} {Kn : Act -> World -> Prop} {Q : Exit -> Act -> World -> Prop} {E : Prop} (hgd : o.guard = none) (s x : Operand) (t tx : TypeId)
  (ho : o.op = .call { callee := .builtin .append, args := #[s, x], argTypes := #[t, tx] }) (vs vx v : Value) (hs : a.eval s = vs) (hx : a.eval x = vx)
  (hr : (Builtin.append_ #[t, tx] o.type #[vs, vx]).run P w = .ok v w') (h : Kn (a.put o.dst v) w') : if Region.wanted o (yielded ops a.tmps) = true then Oper.wp P o a w Kn Q else E := by
 have hw : Region.wanted o (yielded ops a.tmps) = true := by simp [Region.wanted, hgd]
 rw [if_pos hw]
 unfold Oper.wp execOp
 simp only [ho, resolve, invoke, builtin, Sem.run_bind, Sem.run_pure, Result.andThen_ok, List.map_toArray, List.map_cons, List.map_nil, hs, hx, hr]
 exact h
end
theorem zma : (Tryz.prog.info? 114).map (fun i => (i.zero, i.size, i.bytes)) = some (some (.agg #[.int .u8 0, .string ⟨#[]⟩, .string ⟨#[]⟩, .slice none 0 0, .bool false, .bool false, .bool false, .bool false, .bool false, .int .i64 0, .int .i64 0, .int .i64 0, .int .i64 0, .int .i64 0, .int .i64 0, .int .i64 0, .int .i64 0, .int .i64 0, .int .i64 0, .int .i64 0, .int .i64 0, .int .i64 0]), 22, 176) := by kernel_rfl
theorem zm6 (cs : Array Value) (h : cs.size = 22) : ∃ v0 v1 v2 v3 v4 v5 v6 v7 v8 v9 v10 v11 v12 v13 v14 v15 v16 v17 v18 v19 v20 v21, cs = #[v0, v1, v2, v3, v4, v5, v6, v7, v8, v9, v10, v11, v12, v13, v14, v15, v16, v17, v18, v19, v20, v21] := by
 obtain ⟨l⟩ := cs
 have h : l.length = 22 := h
 match l, h with
 | [v0, v1, v2, v3, v4, v5, v6, v7, v8, v9, v10, v11, v12, v13, v14, v15, v16, v17, v18, v19, v20, v21], _ => exact ⟨_, _, _, _, _, _, _, _, _, _, _, _, _, _, _, _, _, _, _, _, _, _, rfl⟩
theorem zrc (z : Array Value) (hz : z.size = 22) (v0 v1 v2 v3 v4 v5 v6 v7 v8 v9 v10 v11 v12 v13 v14 v15 v16 v17 v18 v19 v20 v21 : Value) : Instr.fill (fun i => some (i * 22, 22)) z [(0, .agg #[v0, v1, v2, v3, v4, v5, v6, v7, v8, v9, v10, v11, v12, v13, v14, v15, v16, v17, v18, v19, v20, v21])] = some #[v0, v1, v2, v3, v4, v5, v6, v7, v8, v9, v10, v11, v12, v13, v14, v15, v16, v17, v18, v19, v20, v21] := by
 obtain ⟨z0, z1, z2, z3, z4, z5, z6, z7, z8, z9, z10, z11, z12, z13, z14, z15, z16, z17, z18, z19, z20, z21, rfl⟩ := zm6 z hz
 kernel_rfl
theorem zqe (z cs : Array Value) (hz : z.size = 22) (hc : cs.size = 22) : Instr.fill (fun i => some (i * 22, 22)) z [(0, .agg cs)] = some cs := by
 obtain ⟨v0, v1, v2, v3, v4, v5, v6, v7, v8, v9, v10, v11, v12, v13, v14, v15, v16, v17, v18, v19, v20, v21, rfl⟩ := zm6 cs hc
 exact zrc z hz _ _ _ _ _ _ _ _ _ _ _ _ _ _ _ _ _ _ _ _ _ _
theorem zf0 {ops : Array Oper} {o : Oper} {a : Act} {w : World} {Kn : Act -> World -> Prop} {Q : Exit -> Act -> World -> Prop} {E : Prop} (hgd : o.guard = none) (x : Operand) (ho : o.op = .load 114 x)
  (g : Nat) (hx : a.eval x = .pointer (some ⟨g, 0, none⟩)) (cs : Array Value) (hg : w.heap[g]? = some (.cells cs 114)) (hc : cs.size = 22) (h : Kn (a.put o.dst (.agg cs)) w) : if Region.wanted o (yielded ops a.tmps) = true then Oper.wp Tryz.prog o a w Kn Q else E := by
 have hw : Region.wanted o (yielded ops a.tmps) = true := by simp [Region.wanted, hgd]
 rw [if_pos hw]
 obtain ⟨inf, hi, hip⟩ := Option.map_eq_some_iff.1 zma
 exact wp_load_row 114 x ho g hx 114 cs _ _ hg Tryz.underlying114 rfl (by rw [hi, hc]; exact congrArg some (congrArg (·.2.1) hip)) h
theorem zc3 {ops : Array Oper} {o : Oper} {a : Act} {w : World} {Kn : Act -> World -> Prop} {Q : Exit -> Act -> World -> Prop} {E : Prop} (hgd : o.guard = none) (x : Operand) (ho : o.op = .buildSlice 86 1 #[(0, x)])
  (cs : Array Value) (hx : a.eval x = .agg cs) (hc : cs.size = 22) (h : Kn (a.put o.dst (.slice (some ⟨w.heap.size, 0, none⟩) 1 1)) (w.alloc (.cells cs 114))) : if Region.wanted o (yielded ops a.tmps) = true then Oper.wp Tryz.prog o a w Kn Q else E := by
 have hw : Region.wanted o (yielded ops a.tmps) = true := by simp [Region.wanted, hgd]
 rw [if_pos hw]
 obtain ⟨inf, hi, hip⟩ := Option.map_eq_some_iff.1 zma
 have hz0 : inf.zero = _ := congrArg (·.1) hip
 have hsz : inf.size = 22 := congrArg (·.2.1) hip
 refine wp_buildSlice 86 114 1 #[(0, x)] ho cs inf _ Tryz.underlying86 hi hz0 (by rw [hsz]; decide) (by rw [hsz]; decide) ?_ h
 rw [hsz]
 have e : ((#[(0, x)] : Array (Nat × Operand)).map fun (i, x) => (i, a.eval x)).toList = [(0, .agg cs)] := by
  simp [hx]
 rw [e]
 exact zqe _ _ (by simp) hc
def Nd.new (x : Nd) : Nd := { x with shadow := -1, host := -1, content := -1 }
def Dm.add (S : Dm) (x : Nd) : Dm := { S with n := S.n + 1, nd := fun k => if k = S.n then x.new else S.nd k, pl := zaw S.pl S.n Lk.nil, gf := zaw S.gf S.n Lk.nil }
def zcc (x : Nd) (aa : Option Addr) (ac : Nat) : List Value := zcq x.new Lk.nil Lk.nil aa ac
theorem zqf (S : Dm) (x : Nd) {i : Nat} (h : i < S.n) (aa : Option Addr) (ac : Nat) : (S.add x).cells i aa ac = S.cells i aa ac := by
 have c : ¬ i = S.n := by omega
 simp only [Dm.cells, Dm.add, zaw, if_neg c]
theorem zql (S : Dm) (x : Nd) (aa : Option Addr) (ac : Nat) : (S.add x).cells S.n aa ac = zcc x aa ac := by
 simp only [Dm.cells, Dm.add, zaw, if_pos, zcc]
theorem DY.app {K : Nat -> Prop} {w0 w : World} {p : Nat} {S : Dm} {ga : Option Addr} {cap : Nat} (h : DY K w0 p S ga cap) (hk : Kept (fun k => k < w0.heap.size) w0 w) (hn : S.n <= 1000000) (x : Nd) (aa : Option Addr) (ac : Nat)
  (ha : Zac (fun k => k < w0.heap.size) w 108 2 aa x.attrs.length ac (zab x.attrs)) :
  ∃ ga' cap' w', (Builtin.append_ #[86, 86] 86 #[.slice ga S.n cap, .slice (some ⟨w.heap.size, 0, none⟩) 1 1]).run Tryz.prog (w.alloc (.cells (zcc x aa ac).toArray 114)) = .ok (.slice ga' (S.n + 1) cap') w' /\
   w'.cell? ⟨p, 1, none⟩ = some (.slice ga S.n cap) /\ w'.frozen? ⟨p, 1, none⟩ = false /\ DY K (w'.setCell ⟨p, 1, none⟩ (.slice ga' (S.n + 1) cap')) p (S.add x) ga' cap' /\ Kept K w0 (w'.setCell ⟨p, 1, none⟩ (.slice ga' (S.n + 1) cap')) := by
 obtain ⟨h1, h2, h3, xs, aas, acs, ho, hx, hat, hs⟩ := h
 have hp0 := zad h3
 obtain ⟨inf, hi, hip⟩ := Option.map_eq_some_iff.1 zma
 have hz0 : inf.zero = _ := congrArg (·.1) hip
 have hsz : inf.size = 22 := congrArg (·.2.1) hip
 have hby : inf.bytes = 176 := congrArg (·.2.2) hip
 obtain ⟨W, hW⟩ : ∃ W, w.alloc (.cells (zcc x aa ac).toArray 114) = W := ⟨_, rfl⟩
 rw [hW]
 have hsrc : Src Tryz.prog 22 86 (.slice (some ⟨w.heap.size, 0, none⟩) 1 1) 1 (zcc x aa ac) W := by
  rw [<- hW]
  exact zec w w.heap.size (zcc x aa ac) _ Tryz.underlying86 (zqz _ _ _ _ _) rfl rfl
 have kW : Kept (fun k => k < w.heap.size) w W := by rw [<- hW]; exact (Kept.refl _ w).alloc (fun _ h => h) _
 have k0W : Kept (fun k => k < w0.heap.size) w0 W := kt hk kW
 have hoW : Zac (fun k => k < W.heap.size /\ ¬ zap ga k) W 114 22 ga S.n cap xs := Zac.to ho (fun g hg hh => hh.2 hg) (fun g hg => k0W.block g (ho.out hg).2)
 obtain ⟨ga', cap', w', hrun, ho', hk'⟩ := zjw (P := Tryz.prog) W 86 86 86 114 inf _ Tryz.underlying86 hi hz0 22 hsz rfl (by omega) hoW _ _ hsrc (fun k hk => hk.1) (by omega)
 have hpg : ¬ zap ga p := fun hb => (ho.out hb).1 (.inr rfl)
 have hpW : p < W.heap.size := ltl hp0 k0W.size
 have hb' : w'.heap[p]? = some (.cells #[.int .i64 (S.limit : Int), .slice ga S.n cap] 88 (0, 0)) := by rw [hk'.block p ⟨hpW, hpg⟩, k0W.block p hp0]; exact h3
 have hnew : ∀ g, zap ga' g -> zap ga g \/ W.heap.size <= g := fun g hg => by
  have := (Zac.out ho' hg).1
  by_cases hb : zap ga g
  ·exact .inl hb
  ·exact .inr (Nat.le_of_not_lt fun hl => this ⟨hl, hb⟩)
 have hpg' : ¬ zap ga' p := fun hb => by
  rcases hnew p hb with hh | hh
  ·exact hpg hh
  ·omega
 have kS : ∀ k, k < W.heap.size -> ¬ zap ga k -> k ≠ p -> (w'.setCell ⟨p, 1, none⟩ (.slice ga' (S.n + 1) cap')).heap[k]? = W.heap[k]? := fun k hl hg hp => by
  rw [Below.heap_setCell _ _ _ _ (fun e => hp e)]
  exact hk'.block k ⟨hl, hg⟩
 have kK : Kept K w0 (w'.setCell ⟨p, 1, none⟩ (.slice ga' (S.n + 1) cap')) := by
  refine ((k0W.mono h1).trans (hk'.mono fun k hK => ⟨ltl (h1 k hK) k0W.size, fun hb => (ho.out hb).1 (.inl hK)⟩)).setCell (p := ⟨p, 1, none⟩) h2 _
 refine ⟨ga', cap', w', hrun, by rw [zaa hb']; rfl, zao hb' _, ⟨fun k hK => ltl (h1 k hK) kK.size, h2, ?_, xs ++ zcc x aa ac, fun k => if k = S.n then aa else aas k, fun k => if k = S.n then ac else acs k, ?_, ?_, ?_, ?_⟩, kK⟩
 ·rw [zai hb']; rfl
 ·refine Zac.to ho' (fun g hg hh => ?_) (fun g hg => ?_)
  ·rcases hh with hh | hh
   ·rcases hnew g hg with hq | hq
    ·exact (ho.out hq).1 (.inl hh)
    ·have := h1 g hh
     have := k0W.size
     omega
   ·subst hh; exact hpg' hg
  ·exact Below.heap_setCell _ _ _ _ (fun e => hpg' (by have e : g = p := e; rw [<- e]; exact hg))
 ·intro i hi f u hu
  dsimp only at hu
  have hlx : xs.length = S.n * 22 := ho.1
  by_cases c : i = S.n
  ·subst c
   rw [if_pos rfl, if_pos rfl, zql] at hu
   rw [List.getElem?_append_right (by omega), hlx, show S.n * 22 + f - S.n * 22 = f from by omega]
   exact hu
  ·have hiS : i < S.n := by have : i < S.n + 1 := hi; omega
   rw [if_neg c, if_neg c, zqf S x hiS] at hu
   have := hx i hiS f u hu
   rw [List.getElem?_append_left]
   ·exact this
   ·rcases Nat.lt_or_ge (i * 22 + f) xs.length with hl | hg
    ·exact hl
    ·rw [List.getElem?_eq_none hg] at this; cases this
 ·intro i hi
  dsimp only
  by_cases c : i = S.n
  ·subst c
   rw [if_pos rfl, if_pos rfl]
   have e : ((S.add x).nd S.n).attrs = x.attrs := by simp [Dm.add, Nd.new]
   rw [e]
   have hout := fun g (hg : zap aa g) => Zac.out ha hg
   refine Zac.to ha (fun g hg hh => ?_) (fun g hg => ?_)
   ·have h0 := (hout g hg).1
    have h00 := (hout g hg).2
    rcases hh with hh | hh | hh
    ·exact h0 (h1 g hh)
    ·subst hh; exact h0 hp0
    ·rcases hnew g hh with hq | hq
     ·exact h0 (ho.out hq).2
     ·have := kW.size; omega
   ·have h0 := (hout g hg).1
    have h00 := (hout g hg).2
    rw [kS g (ltl h00 kW.size) (fun hb => h0 (ho.out hb).2) (fun e => h0 (e ▸ hp0)), kW.block g h00]
  ·have hiS : i < S.n := by have : i < S.n + 1 := hi; omega
   rw [if_neg c, if_neg c]
   have e : ((S.add x).nd i).attrs = (S.nd i).attrs := by simp [Dm.add, c]
   rw [e]
   have hout := fun g (hg : zap (aas i) g) => Zac.out (hat i hiS) hg
   refine Zac.to (hat i hiS) (fun g hg hh => ?_) (fun g hg => ?_)
   ·have h0 := (hout g hg).1
    have h00 := (hout g hg).2
    rcases hh with hh | hh | hh
    ·exact h0 (.inl hh)
    ·exact h0 (.inr (.inl hh))
    ·rcases hnew g hh with hq | hq
     ·exact h0 (.inr (.inr hq))
     ·have := k0W.size; omega
   ·have h0 := (hout g hg).1
    have h00 := (hout g hg).2
    rw [kS g (ltl h00 k0W.size) (fun hb => h0 (.inr (.inr hb))) (fun e => h0 (.inr (.inl e))), k0W.block g h00]
 ·intro i j hi hj hij g hg hh
  dsimp only at hg hh
  have cases' : ∀ i, i < (S.add x).n -> i = S.n \/ (i < S.n /\ i ≠ S.n) := fun i hi => by have : i < S.n + 1 := hi; omega
  rcases cases' i hi with rfl | ⟨h1', h2'⟩
  ·rcases cases' j hj with rfl | ⟨h3', h4'⟩
   ·exact hij rfl
   ·rw [if_pos rfl] at hg
    rw [if_neg h4'] at hh
    exact (Zac.out ha hg).1 (Zac.out (hat j h3') hh).2
  ·rcases cases' j hj with rfl | ⟨h3', h4'⟩
   ·rw [if_neg h2'] at hg
    rw [if_pos rfl] at hh
    exact (Zac.out ha hh).1 (Zac.out (hat i h1') hg).2
   ·rw [if_neg h2'] at hg
    rw [if_neg h4'] at hh
    exact hs i j h1' h3' hij g hg hh
theorem zhk (w : World) : Calls Tryz.prog 166 #[] w fun e w' => e = .returned (.agg #[.int .i64 (-1), .int .i64 (-1), .int .i64 (-1), .int .i64 (-1), .int .i64 (-1)]) /\ w' = w.alloc (.cells #[.int .i64 (-1), .int .i64 (-1), .int .i64 (-1), .int .i64 (-1), .int .i64 (-1)] 112) := by
 go_enter Tryz.func166, Tryz.ntmps166
 go_wp2
 exact bodyPost_ret (v := .agg #[.int .i64 (-1), .int .i64 (-1), .int .i64 (-1), .int .i64 (-1), .int .i64 (-1)]) (by simp [results, Tryz.results166, go_sem]) rfl ⟨rfl, rfl⟩
abbrev ndV (x : Nd) (p q : Lk) (aa : Option Addr) (ac : Nat) : Value := .agg (zcq x p q aa ac).toArray
theorem zgu (K : Nat -> Prop) (p : Nat) (S : Dm) (ga : Option Addr) (cap : Nat) (w0 w : World) (h : DY K w0 p S ga cap) (hk : Kept (fun k => k < w0.heap.size) w0 w) (hn : S.n <= 1000000) (x : Nd) (l q : Lk) (aa : Option Addr) (ac : Nat)
  (ha : Zac (fun k => k < w0.heap.size) w 108 2 aa x.attrs.length ac (zab x.attrs)) :
  Calls Tryz.prog 90 #[.pointer (some ⟨p, 0, none⟩), ndV x l q aa ac] w fun e w' => e = .returned (.int .i64 (S.n : Int)) /\ DX K w' p (S.add x) /\ Kept K w0 w' := by
 obtain ⟨m, hm⟩ : ∃ m, x.attrs.length = m := ⟨_, rfl⟩
 have e0 : ndV x l q aa ac = .agg #[.int .u8 (x.kind : Int), sv x.name, sv x.data, .slice aa m ac, .bool x.fl.a, .bool x.fl.b, .bool x.fl.c, .bool x.fl.d, .bool x.fl.e, .int .i64 x.shadow, .int .i64 x.host, .int .i64 x.content,
  .int .i64 l.up, .int .i64 l.prev, .int .i64 l.next, .int .i64 l.first, .int .i64 l.last, .int .i64 q.up, .int .i64 q.prev, .int .i64 q.next, .int .i64 q.first, .int .i64 q.last] := by rw [<- hm]; rfl
 rw [e0]
 clear e0
 obtain ⟨W, hW⟩ : ∃ W, (((w.alloc (.cells #[.int .u8 (x.kind : Int), sv x.name, sv x.data, .slice aa m ac, .bool x.fl.a, .bool x.fl.b, .bool x.fl.c, .bool x.fl.d, .bool x.fl.e, .int .i64 (-1), .int .i64 (-1), .int .i64 (-1), .int .i64 (-1), .int .i64 (-1), .int .i64 (-1), .int .i64 (-1), .int .i64 (-1), .int .i64 (-1), .int .i64 (-1), .int .i64 (-1), .int .i64 (-1), .int .i64 (-1)] 114)).alloc (.cells #[.int .i64 (-1), .int .i64 (-1), .int .i64 (-1), .int .i64 (-1), .int .i64 (-1)] 112)).alloc (.cells #[.int .i64 (-1), .int .i64 (-1), .int .i64 (-1), .int .i64 (-1), .int .i64 (-1)] 112)) = W := ⟨_, rfl⟩
 have kW : Kept (fun k => k < w.heap.size) w W := by
  rw [<- hW]
  exact (((Kept.refl _ w).alloc (fun _ h => h) _).alloc (fun k h => by simp; omega) _).alloc (fun k h => by simp; omega) _
 have hkW : Kept (fun k => k < w0.heap.size) w0 W.drew := (kt hk kW).drew
 have haW : Zac (fun k => k < w0.heap.size) W.drew 108 2 aa x.attrs.length ac (zab x.attrs) := Zac.to ha (fun g hg => (Zac.out ha hg).1) (fun g hg => kW.block g (Zac.out ha hg).2)
 obtain ⟨ga', cap', w', hr, d1, f1, hY, hK⟩ := h.app hkW hn x aa ac haW
 have c1 : W.drew.cell? ⟨p, 1, none⟩ = some (.slice ga S.n cap) := (hkW.cell (p := ⟨p, 1, none⟩) h.plt).trans h.c1
 have ecells : (zcc x aa ac).toArray = #[.int .u8 (x.kind : Int), sv x.name, sv x.data, .slice aa m ac, .bool x.fl.a, .bool x.fl.b, .bool x.fl.c, .bool x.fl.d, .bool x.fl.e, .int .i64 (-1), .int .i64 (-1), .int .i64 (-1), .int .i64 (-1), .int .i64 (-1), .int .i64 (-1), .int .i64 (-1), .int .i64 (-1), .int .i64 (-1), .int .i64 (-1), .int .i64 (-1), .int .i64 (-1), .int .i64 (-1)] := by
  rw [<- hm]; rfl
 rw [ecells] at hr
 obtain ⟨N, hN⟩ : ∃ N, w.heap.size = N := ⟨_, rfl⟩
 obtain ⟨n, hne⟩ : ∃ n, S.n = n := ⟨_, rfl⟩
 rw [hne] at hn hr d1 c1 hY hK ⊢
 have hcs : W.heap[N]? = some (.cells #[.int .u8 (x.kind : Int), sv x.name, sv x.data, .slice aa m ac, .bool x.fl.a, .bool x.fl.b, .bool x.fl.c, .bool x.fl.d, .bool x.fl.e, .int .i64 (-1), .int .i64 (-1), .int .i64 (-1), .int .i64 (-1), .int .i64 (-1), .int .i64 (-1), .int .i64 (-1), .int .i64 (-1), .int .i64 (-1), .int .i64 (-1), .int .i64 (-1), .int .i64 (-1), .int .i64 (-1)] 114) := by
  rw [<- hW, <- hN]
  exact zc1 (zc1 (heap_alloc_new w _) _) _
 have c1b : (W.alloc (.cells #[.int .u8 (x.kind : Int), sv x.name, sv x.data, .slice aa m ac, .bool x.fl.a, .bool x.fl.b, .bool x.fl.c, .bool x.fl.d, .bool x.fl.e, .int .i64 (-1), .int .i64 (-1), .int .i64 (-1), .int .i64 (-1), .int .i64 (-1), .int .i64 (-1), .int .i64 (-1), .int .i64 (-1), .int .i64 (-1), .int .i64 (-1), .int .i64 (-1), .int .i64 (-1), .int .i64 (-1)] 114)).drew.cell? ⟨p, 1, none⟩ = some (.slice ga n cap) := by
  show (W.alloc _).cell? _ = _
  rw [Kept.cell ((Kept.refl (fun k => k < W.heap.size) W).alloc (fun _ h => h) _) (p := ⟨p, 1, none⟩) (ltl h.plt hkW.size)]
  exact c1
 have c1c : (W.alloc (.cells #[.int .u8 (x.kind : Int), sv x.name, sv x.data, .slice aa m ac, .bool x.fl.a, .bool x.fl.b, .bool x.fl.c, .bool x.fl.d, .bool x.fl.e, .int .i64 (-1), .int .i64 (-1), .int .i64 (-1), .int .i64 (-1), .int .i64 (-1), .int .i64 (-1), .int .i64 (-1), .int .i64 (-1), .int .i64 (-1), .int .i64 (-1), .int .i64 (-1), .int .i64 (-1), .int .i64 (-1)] 114)).cell? ⟨p, 1, none⟩ = some (.slice ga n cap) := c1b
 obtain ⟨cs, hcsE⟩ : ∃ cs : Array Value, #[.int .u8 (x.kind : Int), sv x.name, sv x.data, .slice aa m ac, .bool x.fl.a, .bool x.fl.b, .bool x.fl.c, .bool x.fl.d, .bool x.fl.e, .int .i64 (-1), .int .i64 (-1), .int .i64 (-1), .int .i64 (-1), .int .i64 (-1), .int .i64 (-1), .int .i64 (-1), .int .i64 (-1), .int .i64 (-1), .int .i64 (-1), .int .i64 (-1), .int .i64 (-1), .int .i64 (-1)] = cs := ⟨_, rfl⟩
 rw [hcsE] at hcs hr c1b c1c
 have hcsz : cs.size = 22 := by rw [<- hcsE]; rfl
 have HC : Hid (W.heap[N]? = some (.cells cs 114)) := hcs
 have HW : Hid ((((w.alloc (.cells #[.int .u8 (x.kind : Int), sv x.name, sv x.data, .slice aa m ac, .bool x.fl.a, .bool x.fl.b, .bool x.fl.c, .bool x.fl.d, .bool x.fl.e, .int .i64 (-1), .int .i64 (-1), .int .i64 (-1), .int .i64 (-1), .int .i64 (-1), .int .i64 (-1), .int .i64 (-1), .int .i64 (-1), .int .i64 (-1), .int .i64 (-1), .int .i64 (-1), .int .i64 (-1), .int .i64 (-1)] 114)).alloc (.cells #[.int .i64 (-1), .int .i64 (-1), .int .i64 (-1), .int .i64 (-1), .int .i64 (-1)] 112)).alloc (.cells #[.int .i64 (-1), .int .i64 (-1), .int .i64 (-1), .int .i64 (-1), .int .i64 (-1)] 112)) = W) := hW
 have HN : Hid (w.heap.size = N) := hN
 have HY : Hid (DX K (w'.setCell ⟨p, 1, none⟩ (.slice ga' (n + 1) cap')) p (S.add x)) := ⟨ga', cap', hY⟩
 have HK : Hid (Kept K w0 (w'.setCell ⟨p, 1, none⟩ (.slice ga' (n + 1) cap'))) := hK
 clear hY hK hW hN ha hk h kW hkW haW ecells hm hne hcs hcsE
 go_enter Tryz.func90, Tryz.ntmps90
 go_upto_region 3 with (go_at_call 166; refine (zhk _).mono ?_; rintro e w2 ⟨rfl, rfl⟩)
 rw [HW.out, HN.out]
 clear HW HN
 refine wp_region_any (by kernel_rfl) ?_
 change wpAny _ _ _ _ _ _ _ (World.drew _)
 refine wpAny_take (i := 0) (v := .pointer (some ⟨p, 0, none⟩)) rfl (by kernel_rfl) (by kernel_rfl) (by kernel_rfl) (fun _ _ _ h => h) (Or.inl ⟨by rfl, by intro w; go_simp; try with_reducible rfl⟩) ?_
 refine wpAny_take (i := 1) (v := .pointer (some ⟨p, 0, none⟩)) rfl (by kernel_rfl) (by kernel_rfl) (by kernel_rfl) (fun _ _ _ h => h) (Or.inl ⟨by rfl, by intro w; go_simp; try with_reducible rfl⟩) ?_
 refine wpAny_take (i := 2) (v := .pointer (some ⟨p, 0, none⟩)) rfl (by kernel_rfl) (by kernel_rfl) (by kernel_rfl) (fun _ _ _ h => h) (Or.inl ⟨by rfl, by intro w; go_simp; try with_reducible rfl⟩) ?_
 refine wpAny_take (i := 3) (v := .pointer (some ⟨p, 1, none⟩)) rfl (by kernel_rfl) (by kernel_rfl) (by kernel_rfl) (fun _ _ _ h => h) (Or.inl ⟨by rfl, by intro w; go_simp; try with_reducible rfl⟩) ?_
 refine wpAny_ready (rs := [4, 5]) (by kernel_rfl) (by simp) ?_
 refine AllReady.cons rfl (fun K hK => ?_) (AllReady.cons rfl (fun K hK => ?_) AllReady.nil)
 ·go_simp
  refine hK _ _ ?_
  clear hK K
  refine wpAny_ready (rs := [5]) (by kernel_rfl) (by simp) ?_
  refine AllReady.cons rfl (fun K hK => ?_) AllReady.nil
  refine zf0 rfl (.tmp 3) rfl N rfl cs HC.out hcsz ?_
  refine hK _ _ ?_
  clear hK K
  refine wpAny_ready (rs := [6]) (by kernel_rfl) (by simp) ?_
  refine AllReady.cons rfl (fun K hK => ?_) AllReady.nil
  refine zc3 rfl (.tmp 17) rfl cs rfl hcsz ?_
  refine hK _ _ ?_
  clear hK K
  refine wpAny_ready (rs := [7]) (by kernel_rfl) (by simp) ?_
  refine AllReady.cons rfl (fun K hK => ?_) AllReady.nil
  refine zbf (w' := w') rfl (.tmp 16) (.tmp 18) 86 86 rfl _ _ (.slice ga' (n + 1) cap') rfl rfl hr ?_
  refine hK _ _ ?_
  clear hK K
  refine wpAny_take (i := 8) (v := .pointer (some ⟨p, 0, none⟩)) rfl (by kernel_rfl) (by kernel_rfl) (by kernel_rfl) (fun _ _ _ h => h) (Or.inl ⟨by rfl, by intro w; go_simp; try with_reducible rfl⟩) ?_
  refine wpAny_take (i := 9) (v := .pointer (some ⟨p, 1, none⟩)) rfl (by kernel_rfl) (by kernel_rfl) (by kernel_rfl) (fun _ _ _ h => h) (Or.inl ⟨by rfl, by intro w; go_simp; try with_reducible rfl⟩) ?_
  refine wpAny_ready (rs := [10]) (by kernel_rfl) (by simp) ?_
  refine AllReady.cons rfl (fun K hK => ?_) AllReady.nil
  go_simp
  refine hK _ _ ?_
  clear hK K
  refine wpAny_done (by kernel_rfl) ?_ _
  go_wp2
  go_ret
  exact ⟨by simp, HY.out, HK.out⟩
 ·refine zf0 rfl (.tmp 3) rfl N rfl cs HC.out hcsz ?_
  refine hK _ _ ?_
  clear hK K
  refine wpAny_ready (rs := [4, 6]) (by kernel_rfl) (by simp) ?_
  refine AllReady.cons rfl (fun K hK => ?_) (AllReady.cons rfl (fun K hK => ?_) AllReady.nil)
  ·go_simp
   refine hK _ _ ?_
   clear hK K
   refine wpAny_ready (rs := [6]) (by kernel_rfl) (by simp) ?_
   refine AllReady.cons rfl (fun K hK => ?_) AllReady.nil
   refine zc3 rfl (.tmp 17) rfl cs rfl hcsz ?_
   refine hK _ _ ?_
   clear hK K
   refine wpAny_ready (rs := [7]) (by kernel_rfl) (by simp) ?_
   refine AllReady.cons rfl (fun K hK => ?_) AllReady.nil
   refine zbf (w' := w') rfl (.tmp 16) (.tmp 18) 86 86 rfl _ _ (.slice ga' (n + 1) cap') rfl rfl hr ?_
   refine hK _ _ ?_
   clear hK K
   refine wpAny_take (i := 8) (v := .pointer (some ⟨p, 0, none⟩)) rfl (by kernel_rfl) (by kernel_rfl) (by kernel_rfl) (fun _ _ _ h => h) (Or.inl ⟨by rfl, by intro w; go_simp; try with_reducible rfl⟩) ?_
   refine wpAny_take (i := 9) (v := .pointer (some ⟨p, 1, none⟩)) rfl (by kernel_rfl) (by kernel_rfl) (by kernel_rfl) (fun _ _ _ h => h) (Or.inl ⟨by rfl, by intro w; go_simp; try with_reducible rfl⟩) ?_
   refine wpAny_ready (rs := [10]) (by kernel_rfl) (by simp) ?_
   refine AllReady.cons rfl (fun K hK => ?_) AllReady.nil
   go_simp
   refine hK _ _ ?_
   clear hK K
   refine wpAny_done (by kernel_rfl) ?_ _
   go_wp2
   go_ret
   exact ⟨by simp, HY.out, HK.out⟩
  ·refine zc3 rfl (.tmp 17) rfl cs rfl hcsz ?_
   refine hK _ _ ?_
   clear hK K
   refine wpAny_ready (rs := [4]) (by kernel_rfl) (by simp) ?_
   refine AllReady.cons rfl (fun K hK => ?_) AllReady.nil
   go_simp
   refine hK _ _ ?_
   clear hK K
   refine wpAny_ready (rs := [7]) (by kernel_rfl) (by simp) ?_
   refine AllReady.cons rfl (fun K hK => ?_) AllReady.nil
   refine zbf (w' := w') rfl (.tmp 16) (.tmp 18) 86 86 rfl _ _ (.slice ga' (n + 1) cap') rfl rfl hr ?_
   refine hK _ _ ?_
   clear hK K
   refine wpAny_take (i := 8) (v := .pointer (some ⟨p, 0, none⟩)) rfl (by kernel_rfl) (by kernel_rfl) (by kernel_rfl) (fun _ _ _ h => h) (Or.inl ⟨by rfl, by intro w; go_simp; try with_reducible rfl⟩) ?_
   refine wpAny_take (i := 9) (v := .pointer (some ⟨p, 1, none⟩)) rfl (by kernel_rfl) (by kernel_rfl) (by kernel_rfl) (fun _ _ _ h => h) (Or.inl ⟨by rfl, by intro w; go_simp; try with_reducible rfl⟩) ?_
   refine wpAny_ready (rs := [10]) (by kernel_rfl) (by simp) ?_
   refine AllReady.cons rfl (fun K hK => ?_) AllReady.nil
   go_simp
   refine hK _ _ ?_
   clear hK K
   refine wpAny_done (by kernel_rfl) ?_ _
   go_wp2
   go_ret
   exact ⟨by simp, HY.out, HK.out⟩
end
section
open Go.RowKit
theorem zi0 (p n cap : Nat) (ga : Option Addr) (w : World) (hc : w.cell? ⟨p, 1, none⟩ = some (.slice ga n cap)) :
  Calls Tryz.prog 15 #[.pointer (some ⟨p, 0, none⟩)] w fun e w' => e = .returned (.int .i64 (n : Int)) /\ w' = w := by
 go_enter Tryz.func15, Tryz.ntmps15
 go_wp2
 go_ret
 exact ⟨rfl, rfl⟩
theorem zj6 (p n cap L c : Nat) (ga : Option Addr) (w : World) (h0 : w.cell? ⟨p, 0, none⟩ = some (.int .i64 (L : Int))) (hc : w.cell? ⟨p, 1, none⟩ = some (.slice ga n cap)) (hL : L <= 1000000) (hn : n <= 1000000) :
  Calls Tryz.prog 149 #[.pointer (some ⟨p, 0, none⟩), .int .i64 (c : Int)] w fun e w' => e = .returned (.bool (decide (n + c <= L))) /\ Kept (fun k => k < w.heap.size) w w' := by
 by_cases hd : n + c <= L
 ·have e : decide ((L : Int) - (n : Int) >= (c : Int)) = true := decide_eq_true (by omega)
  rw [decide_eq_true hd]
  clear hd
  go_enter Tryz.func149, Tryz.ntmps149
  go_upto_region 1 with fail
  go_quiet (fail)
  go_wp2
  go_ret
  exact ⟨rfl, (Kept.refl _ w).drewN _⟩
 ·have e : decide ((L : Int) - (n : Int) >= (c : Int)) = false := decide_eq_false (by omega)
  rw [decide_eq_false hd]
  clear hd
  go_enter Tryz.func149, Tryz.ntmps149
  go_upto_region 1 with fail
  go_quiet (fail)
  go_wp2
  go_ret
  exact ⟨rfl, (Kept.refl _ w).drewN _⟩
theorem zea (b o kd : Nat) (S T : ByteArray) (w : World) (h0 : w.cell? ⟨b, o, none⟩ = some (.int .u8 (kd : Int))) (h1 : w.cell? ⟨b, o + 1, none⟩ = some (.string S)) :
  Calls Tryz.prog 147 #[.pointer (some ⟨b, o, none⟩), .string T] w fun e w' => e = .returned (.bool (decide (kd = 1) && S.toList == T.toList)) /\ w' = w := by
 by_cases c : kd = 1
 ·subst c
  obtain ⟨q, hq⟩ : ∃ q, (S.toList == T.toList) = q := ⟨_, rfl⟩
  rw [hq]
  cases q
  all_goals
   go_enter Tryz.func147, Tryz.ntmps147
   go_wp2
   go_ret
   exact ⟨rfl, rfl⟩
 ·have e : ((kd : Int) == 1) = false := by
   have : (kd : Int) ≠ 1 := by omega
   simpa using this
  rw [decide_eq_false c]
  clear c
  go_enter Tryz.func147, Tryz.ntmps147
  go_wp2
  go_ret
  exact ⟨rfl, rfl⟩
theorem zgn (b o kd : Nat) (z : Int) (w : World) (h0 : w.cell? ⟨b, o, none⟩ = some (.int .u8 (kd : Int))) (h1 : w.cell? ⟨b, o + 10, none⟩ = some (.int .i64 z)) :
  Calls Tryz.prog 258 #[.pointer (some ⟨b, o, none⟩)] w fun e w' => e = .returned (.bool (decide (kd = 4) && decide (z ≠ -1))) /\ w' = w := by
 by_cases c : kd = 4
 ·subst c
  by_cases c2 : z = -1
  ·subst c2
   go_enter Tryz.func258, Tryz.ntmps258
   go_wp2
   go_ret
   exact ⟨rfl, rfl⟩
  ·have e : (z != -1) = true := by simpa using c2
   rw [decide_eq_true c2]
   clear c2
   go_enter Tryz.func258, Tryz.ntmps258
   go_wp2
   go_ret
   exact ⟨rfl, rfl⟩
 ·have e : ((kd : Int) == 4) = false := by
   have : (kd : Int) ≠ 4 := by omega
   simpa using this
  rw [decide_eq_false c]
  clear c
  go_enter Tryz.func258, Tryz.ntmps258
  go_wp2
  go_ret
  exact ⟨rfl, rfl⟩
def zbp (x : Nd) : Bool := if x.kind = 1 then !ze6 x.name else decide (x.kind = 4) || decide (x.kind = 5)
theorem zi2 (b o : Nat) (x : Nd) (w : World) (h0 : w.cell? ⟨b, o, none⟩ = some (.int .u8 (x.kind : Int))) (h1 : w.cell? ⟨b, o + 1, none⟩ = some (sv x.name)) :
  Calls Tryz.prog 223 #[.pointer (some ⟨b, o, none⟩)] w fun e w' => e = .returned (.bool (zbp x)) /\ Kept (fun k => k < w.heap.size) w w' := by
 obtain ⟨kd, hk⟩ : ∃ k, x.kind = k := ⟨_, rfl⟩
 unfold zbp
 rw [hk] at h0 ⊢
 obtain ⟨S, hS⟩ : ∃ S : ByteArray, (⟨x.name.toArray⟩ : ByteArray) = S := ⟨_, rfl⟩
 have hl : x.name = S.toList := by rw [ByteArray.toList_eq, <- hS]
 rw [hl]
 replace h1 : w.cell? ⟨b, o + 1, none⟩ = some (.string S) := by rw [<- hS]; exact h1
 have rv := zjd S (fun k => k < w.heap.size) w
 obtain ⟨v, hv⟩ : ∃ v, ze6 S.toList = v := ⟨_, rfl⟩
 rw [hv] at rv ⊢
 clear hl hS hv hk
 by_cases c1 : kd = 1
 ·subst c1
  cases v
  all_goals
   go_enter Tryz.func223, Tryz.ntmps223
   go_wp2_with fail
   refine rv.mono ?_
   rintro e w1 ⟨rfl, k1⟩
   clear rv
   go_wp2
   go_ret
   exact ⟨rfl, k1⟩
 ·have e1 : ((kd : Int) == 1) = false := by
   have : (kd : Int) ≠ 1 := by omega
   simpa using this
  rw [if_neg c1]
  clear rv
  by_cases c4 : kd = 4
  ·subst c4
   go_enter Tryz.func223, Tryz.ntmps223
   go_wp2
   go_ret
   exact ⟨rfl, Kept.refl _ _⟩
  ·have e4 : ((kd : Int) == 4) = false := by
    have : (kd : Int) ≠ 4 := by omega
    simpa using this
   by_cases c5 : kd = 5
   ·subst c5
    go_enter Tryz.func223, Tryz.ntmps223
    go_wp2
    go_ret
    exact ⟨rfl, Kept.refl _ _⟩
   ·have e5 : ((kd : Int) == 5) = false := by
     have : (kd : Int) ≠ 5 := by omega
     simpa using this
    rw [decide_eq_false c4, decide_eq_false c5]
    clear c1 c4 c5
    go_enter Tryz.func223, Tryz.ntmps223
    go_wp2
    go_ret
    exact ⟨rfl, Kept.refl _ _⟩
def zfx (S : Dm) (i : Nat) : Bool := (decide (i ≠ 0) && decide ((S.nd i).kind ≠ 5)) && !(decide ((S.nd i).kind = 4) && decide ((S.nd i).host ≠ -1))
theorem zio (K : Nat -> Prop) (p g cap i : Nat) (S : Dm) (w : World) (h : DY K w p S (some ⟨g, 0, none⟩) cap) (hi : i < S.n) (hn : S.n <= 1000000000) :
  Calls Tryz.prog 224 #[.pointer (some ⟨p, 0, none⟩), .int .i64 (i : Int)] w fun e w' => e = .returned (.bool (zfx S i)) /\ w' = w := by
 obtain ⟨aa, ac, hc, -⟩ := h.cell hi
 have c0 : w.cell? ⟨g, i * 22, none⟩ = some (.int .u8 ((S.nd i).kind : Int)) := hc 0 _ rfl
 have c10 : w.cell? ⟨g, i * 22 + 10, none⟩ = some (.int .i64 (S.nd i).host) := hc 10 _ rfl
 have c1 := h.c1
 have r := zgn g (i * 22) (S.nd i).kind (S.nd i).host w c0 c10
 unfold zfx
 obtain ⟨kd, hk⟩ : ∃ k, (S.nd i).kind = k := ⟨_, rfl⟩
 obtain ⟨z, hz⟩ : ∃ k, (S.nd i).host = k := ⟨_, rfl⟩
 obtain ⟨n, hne⟩ : ∃ n, S.n = n := ⟨_, rfl⟩
 rw [hk, hz] at r
 rw [hk] at c0
 rw [hne] at c1 hi hn
 rw [hk, hz]
 obtain ⟨q, hq⟩ : ∃ q, (decide (kd = 4) && decide (z ≠ -1)) = q := ⟨_, rfl⟩
 rw [hq] at r ⊢
 clear h hc c10 hk hz hne hq
 by_cases ci : i = 0
 ·subst ci
  clear r
  go_enter Tryz.func224, Tryz.ntmps224
  go_wp2
  go_ret
  exact ⟨rfl, rfl⟩
 ·have e1 : ((i : Int) != 0) = true := by simp; omega
  rw [decide_eq_true (show i ≠ 0 from ci)]
  by_cases c5 : kd = 5
  ·subst c5
   clear r ci
   go_enter Tryz.func224, Tryz.ntmps224
   go_wp2
   go_ret
   exact ⟨rfl, rfl⟩
  ·have e5 : ((kd : Int) != 5) = true := by
    have : (kd : Int) ≠ 5 := by omega
    simpa using this
   rw [decide_eq_true (show kd ≠ 5 from c5)]
   clear ci c5
   go_enter Tryz.func224, Tryz.ntmps224
   go_wp2_with (go_at_call 258; refine r.mono ?_; rintro e w2 ⟨rfl, rfl⟩)
   go_ret
   exact ⟨rfl, rfl⟩
end
section
open Go.RowKit
section
variable {P : Program}
theorem zee {K : Nat -> Prop} (w : World) (t tx ty e : TypeId) (i : TypeInfo) (zv : Value) (ht : P.underlying t = some (.slice e)) (hi : P.info? e = some i) (hz : i.zero = some zv) (z : Nat) (hsize : i.size = z) (hzs : zv.cells.size = z) (hby : i.bytes <= 128)
  {ao : Option Addr} {n cap : Nat} {xs : List Value} (hown : Zac K w e z ao n cap xs) (x : Value) (m : Nat) (hm0 : 0 < m) (hm : m <= 100000000) (news : List Value) (hs : Src P z tx x m news w)
  (hK : ∀ k, K k -> k < w.heap.size) (hn : n <= 1000000000) :
  ∃ ao' cap' w', (Builtin.append_ #[t, tx] ty #[.slice ao n cap, x]).run P w = .ok (.slice ao' (n + m) cap') w' /\ Zac K w' e z ao' (n + m) cap' (xs ++ news) /\ Kept K w w' := by
 subst hsize
 have h63 : n + m <= maxLen := by unfold maxLen; omega
 have hbytes : (n + m) * i.bytes <= 140737488355328 := by
  have : (n + m) * i.bytes <= (1000000000 + 100000000) * 128 := Nat.mul_le_mul (by omega) hby
  omega
 have hnl : news.length = m * i.size := by simpa using hs.newsLen
 obtain ⟨h1, h2, h3, h4⟩ := hown
 have hlen : (xs ++ news).length = (n + m) * i.size := by rw [List.length_append, h1, hnl, Nat.add_mul]
 have grow : cap < n + m -> (Builtin.firstCells i.size n (.slice ao n cap)).run P w.drew = .ok xs.toArray w.drew ->
   ∃ ao' cap' w', (Builtin.append_ #[t, tx] ty #[.slice ao n cap, x]).run P w = .ok (.slice ao' (n + m) cap') w' /\ Zac K w' e i.size ao' (n + m) cap' (xs ++ news) /\ Kept K w w' := by
  intro hg hold
  have hr := run_append_grow_src (P := P) w t tx ty e i zv ht hi hz ao n cap xs hold x m news hs hg (by omega) (growslice_fits hg hbytes)
  have hge := grownCap_ge w (n + m) cap e
  refine ⟨_, _, _, hr, ⟨hlen, hge, grownCap_le_maxLen w (n + m) cap e h63, .inr ⟨w.heap.size, _, rfl, fun hk => Nat.lt_irrefl _ (hK _ hk), heap_alloc_new w.drew _, ?_, ?_⟩⟩, (Kept.refl K w).drew.alloc (by simpa using hK) _⟩
  ·rw [Array.size_append, List.size_toArray, hlen, size_zeroCells, hzs, <- Nat.add_mul]
   congr 1
   omega
  ·rw [Array.toList_append]
   rw [<- hlen]
   exact List.take_left
 rcases h4 with ⟨rfl, rfl⟩ | ⟨g, cur, rfl, r2, r3, r4, r5⟩
 ·have hn0 : n = 0 := by omega
  subst hn0
  have hx : xs = [] := List.eq_nil_of_length_eq_zero (by omega)
  subst hx
  exact grow (by omega) (run_firstCells_none w.drew i.size 0 0 0)
 ·have hcells : ∀ j u, xs[j]? = some u -> w.cell? ((⟨g, 0, none⟩ : Addr).add j) = some u := by
   intro j u hj
   have hjl : j < xs.length := by
    rcases Nat.lt_or_ge j xs.length with hl | hg
    ·exact hl
    ·rw [List.getElem?_eq_none hg] at hj; cases hj
   have : (⟨g, 0, none⟩ : Addr).add j = ⟨g, j, none⟩ := by rw [Addr.add_lit, Nat.zero_add]
   rw [this, zaa r3, <- hj, <- r5, List.getElem?_take, if_pos (by omega), Array.getElem?_toList]
  by_cases hroom : n + m <= cap
  ·have hfit : n * i.size + m * i.size <= cur.size := by
    rw [r4, <- Nat.add_mul]
    exact Nat.mul_le_mul_right _ hroom
   have hr := run_append_room_src (P := P) w t tx ty e i ht hi g 0 n cap x m news hs hroom
    (fun j hj => by rw [zaa r3]; rw [Array.getElem?_eq_getElem (by omega)]; rfl)
    (fun j hj => zao r3 _)
   rw [Nat.zero_add] at hr
   obtain ⟨c', q1, q2⟩ := za9 (b := g) (e := e) (f := (0, 0)) news (n * i.size) w cur r3 (by omega)
   refine ⟨_, _, _, hr, ⟨hlen, hroom, h3, .inr ⟨g, c', rfl, r2, q1, ?_, ?_⟩⟩, ⟨?_, ?_, ?_, ?_, ?_⟩⟩
   ·have := congrArg List.length q2
    rw [List.length_append, List.length_append, List.length_drop, List.length_take] at this
    simp only [Array.length_toList] at this
    omega
   ·rw [q2, r5, <- hlen]
    exact List.take_left
   ·exact World.os_setCells w g _ news
   ·have key : ∀ (vs : List Value) (o : Nat) (v : World), (v.setCells g o vs).tape = v.tape := by
     intro vs
     induction vs with
     | nil => intro o v; rfl
     | cons a r ih => intro o v; rw [World.setCells, ih]; rfl
    exact key news _ w
   ·exact World.output_setCells w g _ news
   ·have key : ∀ (vs : List Value) (o : Nat) (v : World), (v.setCells g o vs).heap.size = v.heap.size := by
     intro vs
     induction vs with
     | nil => intro o v; rfl
     | cons a r ih => intro o v; rw [World.setCells, ih]; simp
    rw [key]; exact Nat.le_refl _
   ·intro k hk
    exact World.heap_setCells_other w g _ news (hK k hk) (fun e => r2 (e ▸ hk))
  ·exact grow (by omega) (run_firstCells_some w.drew i.size n ⟨g, 0, none⟩ n cap xs h1 hcells)
end
theorem znq : (Tryz.prog.info? 108).map (fun i => (i.zero, i.size, i.bytes)) = some (some (.agg #[.string ⟨#[]⟩, .string ⟨#[]⟩]), 2, 32) := by kernel_rfl
theorem zb7 (l : List Atr) : (zab l).length = l.length * 2 := by
 induction l with
 | nil => rfl
 | cons a r ih =>
  show (sv a.name :: sv a.value :: zab r).length = _
  rw [List.length_cons, List.length_cons, ih, List.length_cons]
  omega
theorem zgp (l : List Atr) : ∀ u ∈ zab l, u.oneCell' = true := by
 intro u hu
 obtain ⟨a, _, h⟩ := List.mem_flatMap.1 hu
 simp at h
 rcases h with rfl | rfl <;> rfl
theorem zep : ∀ (l : List Atr) (j : Nat) (h : j < l.length), (zab l)[j * 2]? = some (sv l[j].name) /\ (zab l)[j * 2 + 1]? = some (sv l[j].value)
 | a :: r, 0, _ => ⟨rfl, rfl⟩
 | a :: r, j + 1, h => by
  obtain ⟨h1, h2⟩ := zep r j (by simpa using h)
  have e : zab (a :: r) = [sv a.name, sv a.value] ++ zab r := rfl
  rw [e]
  constructor
  ·rw [List.getElem?_append_right (by simp; omega)]
   simpa [show (j + 1) * 2 - 2 = j * 2 from by omega] using h1
  ·rw [List.getElem?_append_right (by simp; omega)]
   simpa [show (j + 1) * 2 + 1 - 2 = j * 2 + 1 from by omega] using h2
theorem Zag.cells {K : Nat -> Prop} {w : World} {aa : Option Addr} {l : List Atr} (h : Zag K w aa l) (h0 : 0 < l.length) : ∃ g o, aa = some ⟨g, o, none⟩ /\ K g /\ ∀ j u, (zab l)[j]? = some u -> w.cell? ⟨g, o + j, none⟩ = some u := by
 obtain ⟨g, o, e, hg, -, -⟩ := h 0 h0
 refine ⟨g, o, e, hg, fun j u hj => ?_⟩
 have hjl : j < (zab l).length := by
  rcases Nat.lt_or_ge j (zab l).length with hl | hg
  ·exact hl
  ·rw [List.getElem?_eq_none hg] at hj; cases hj
 rw [zb7] at hjl
 obtain ⟨g', o', e', -, c0, c1⟩ := h (j / 2) (by omega)
 rw [e] at e'
 injection e' with e'
 injection e' with e1 e2
 subst e1 e2
 obtain ⟨a0, a1⟩ := zep l (j / 2) (by omega)
 rcases Nat.mod_two_eq_zero_or_one j with hm | hm
 ·have hj2 : j / 2 * 2 = j := by omega
  rw [hj2] at a0 c0
  rw [a0] at hj
  injection hj with hj
  rw [<- hj]; exact c0
 ·have hj2 : j / 2 * 2 + 1 = j := by omega
  rw [hj2] at a1
  rw [Nat.add_assoc, hj2] at c1
  rw [a1] at hj
  injection hj with hj
  rw [<- hj]; exact c1
theorem Zac.atsAt {K K' : Nat -> Prop} {w : World} {ao : Option Addr} {n cap : Nat} {l : List Atr} (h : Zac K w 108 2 ao n cap (zab l)) (hK : ∀ g, zap ao g -> K' g) : Zag K' w ao l := by
 intro j hj
 obtain ⟨a0, a1⟩ := zep l j hj
 obtain ⟨g, e, c0⟩ := h.cell a0
 obtain ⟨g', e', c1⟩ := h.cell a1
 rw [e] at e'
 injection e' with e'
 injection e' with e1
 subst e1
 exact ⟨g, 0, e, hK g e, by rw [Nat.zero_add]; exact c0, by rw [Nat.zero_add]; exact c1⟩
theorem zft (l : List Atr) (aa : Option Addr) (n ac : Nat) (hln : l.length = n) (hn : n <= 100000000) (w : World) (ha : Zag (fun k => k < w.heap.size) w aa l) :
  Calls Tryz.prog 111 #[.slice aa n ac] w fun e w' => ∃ ao c, e = .returned (.slice ao n c) /\ Zac (fun k => k < w.heap.size) w' 108 2 ao n c (zab l) /\ Kept (fun k => k < w.heap.size) w w' := by
 obtain ⟨i, hi, hip⟩ := Option.map_eq_some_iff.1 znq
 have hz : i.zero = _ := congrArg (·.1) hip
 have hsz : i.size = 2 := congrArg (·.2.1) hip
 have hby : i.bytes = 32 := congrArg (·.2.2) hip
 have hl2 : (zab l).length = n * 2 := by rw [zb7, hln]
 have key : ∃ ao c w', (Builtin.append_ #[44, 44] 44 #[.slice none 0 0, .slice aa n ac]).run Tryz.prog w = .ok (.slice ao n c) w' /\ Zac (fun k => k < w.heap.size) w' 108 2 ao n c (zab l) /\ Kept (fun k => k < w.heap.size) w w' := by
  by_cases h0 : n = 0
  ·subst h0
   have hl0 : l = [] := List.eq_nil_of_length_eq_zero hln
   subst hl0
   have hs : Src Tryz.prog i.size 44 (.slice aa 0 ac) 0 [] w := by
    cases aa with
    | none => exact Src.ofNil w Tryz.underlying44 _
    | some a => exact Src.ofSlice w Tryz.underlying44 a 0 ac [] (by simp) (fun j u hj => by simp at hj) (fun u hu => by cases hu)
   exact ⟨none, 0, w, run_append_nothing w 44 44 44 108 i Tryz.underlying44 hi none 0 0 (Nat.le_refl _) _ hs, Zac.nil _ _ _ _, Kept.refl _ _⟩
  ·obtain ⟨g, o, rfl, hg, hc⟩ := ha.cells (by omega)
   have hs : Src Tryz.prog 2 44 (.slice (some ⟨g, o, none⟩) n ac) n (zab l) w := by
    refine Src.ofSlice w Tryz.underlying44 _ n ac (zab l) (by rw [hl2]) (fun j u hj => ?_) (zgp l)
    rw [Addr.add_lit]
    exact hc j u hj
   obtain ⟨ao, c, w', hr, ho, hk⟩ := zee (P := Tryz.prog) (K := fun k => k < w.heap.size) w 44 44 44 108 i _ Tryz.underlying44 hi hz 2 hsz rfl (by omega) (Zac.nil _ _ _ _) _ n (by omega) hn _ hs (fun _ h => h) (by omega)
   rw [Nat.zero_add] at hr ho
   exact ⟨ao, c, w', hr, ho, hk⟩
 obtain ⟨ao, c, w', hr, ho, hk⟩ := key
 have HO : Hid (Zac (fun k => k < w.heap.size) w' 108 2 ao n c (zab l)) := ho
 have HK : Hid (Kept (fun k => k < w.heap.size) w w') := hk
 clear hip hz hsz hby hl2 ho hk ha hi hln
 go_enter Tryz.func111, Tryz.ntmps111
 go_wp2_with (at_builtin; refine zak (w' := w') rfl (.const (.slice none 0 0)) (.tmp 3) 44 44 rfl _ _ (.slice ao n c) rfl rfl hr ?_)
 go_ret
 exact ⟨ao, c, rfl, HO.out, HK.out⟩
structure Mk where
 kind : Nat
 name : List UInt8
 data : List UInt8
 attrs : List Atr
def Mk.it (x : Mk) : Iz := ⟨0, x.kind, x.name, x.attrs, if x.kind = 2 /\ x.data = [] then [45] else x.data⟩
def zat (x : Mk) : Bool := if x.kind = 4 then (x.name == [] && x.data == []) && decide (x.attrs.length = 0) else za7 [x.it]
structure Rest where
 up : Int
 ka : Option Addr
 kn : Nat
 kc : Nat
 shadow : Int
 host : Int
 content : Int
 fl : Fg
abbrev zlw (kd : Nat) (S D : ByteArray) (aa : Option Addr) (an ac : Nat) (r : Rest) : Value := .agg #[.int .u8 (kd : Int), .string S, .string D, .slice aa an ac, .int .i64 r.up, .slice r.ka r.kn r.kc, .int .i64 r.shadow, .int .i64 r.host, .int .i64 r.content, .bool r.fl.a, .bool r.fl.b, .bool r.fl.c, .bool r.fl.d, .bool r.fl.e]
theorem iz1 (w : World) (N : Nat) (hN : w.heap.size = N) (kd : Nat) (kz : Int) (hkz : kz = (kd : Int)) (S D : ByteArray) (l : List Atr) (aa : Option Addr) (n ac : Nat) (hln : l.length = n) (ha : Zag (fun k => k < w.heap.size) w aa l) (hn : n <= 100000000) (hsz : ∀ x ∈ l, x.name.length <= 1000000000 /\ x.value.length <= 1000000000) :
  Calls Tryz.prog 137 #[.slice (some ⟨N, 0, none⟩) 1 1] (w.alloc (.cells #[.int .i64 0, .int .u8 kz, .string S, .string D, .slice aa n ac] 163)) fun e w' => e = .returned (.bool (za7 [⟨0, kd, S.toList, l, D.toList⟩])) /\ Kept (fun k => k < w.heap.size) w w' := by
 subst hkz
 subst hN
 obtain ⟨V, hV⟩ : ∃ V, w.alloc (.cells #[.int .i64 0, .int .u8 (kd : Int), .string S, .string D, .slice aa n ac] 163) = V := ⟨_, rfl⟩
 have kV : Kept (fun k => k < w.heap.size) w V := by rw [<- hV]; exact (Kept.refl _ w).alloc (fun _ h => h) _
 have sV : w.heap.size < V.heap.size := by rw [<- hV]; simp
 rw [hV]
 have hS : (⟨S.toList.toArray⟩ : ByteArray) = S := by
  apply ByteArray.ext
  rw [ByteArray.toList_eq]
 have hD : (⟨D.toList.toArray⟩ : ByteArray) = D := by
  apply ByteArray.ext
  rw [ByteArray.toList_eq]
 have hZ : Zr9 V (some ⟨w.heap.size, 0, none⟩) [⟨0, kd, S.toList, l, D.toList⟩] := by
  intro j hj
  have : j = 0 := by simp at hj; omega
  subst this
  refine ⟨w.heap.size, aa, ac, rfl, sV, ha.kept kV fun k h => ltl h kV.size, fun i u hi => ?_⟩
  rw [<- hV, Nat.zero_mul, Nat.zero_add, zaa (heap_alloc_new w _), <- Array.getElem?_toList]
  simp only [zeo, List.getElem_cons_zero, sv, hS, hD, hln] at hi
  exact hi
 have r := zl0 [⟨0, kd, S.toList, l, D.toList⟩] (some ⟨w.heap.size, 0, none⟩) 1 1 rfl (by decide) (by intro y hy; simp at hy; subst hy; exact ⟨by rw [hln]; exact hn, hsz⟩) V hZ
 exact r.mono fun e w' h => ⟨h.1, kV.trans (h.2.mono fun k hk => ltl hk kV.size)⟩
theorem zlk (kd : Nat) (S D : ByteArray) (l : List Atr) (aa : Option Addr) (n ac : Nat) (r : Rest) (hln : l.length = n) (w : World) (ha : Zag (fun k => k < w.heap.size) w aa l) (hn : n <= 100000000) (hsz : ∀ x ∈ l, x.name.length <= 1000000000 /\ x.value.length <= 1000000000) :
  Calls Tryz.prog 146 #[zlw kd S D aa n ac r] w fun e w' => e = .returned (.bool (zat ⟨kd, S.toList, D.toList, l⟩)) /\ Kept (fun k => k < w.heap.size) w w' := by
 have kb : ∀ o : Obj, Kept (fun k => k < w.heap.size) w (w.alloc o) := fun o => (Kept.refl _ w).alloc (fun _ h => h) _
 have r1 := fun (o : Obj) (D' : ByteArray) (kz : Int) (hkz : kz = (kd : Int)) => iz1 (w.alloc o) (w.heap.size + 1) (by simp) kd kz hkz S D' l aa n ac hln (ha.kept (kb o) fun k h => ltl h (kb o).size) hn hsz
 unfold zat Mk.it
 dsimp only
 by_cases c4 : kd = 4
 ·subst c4
  rw [if_pos rfl, hln]
  obtain ⟨s0, hs0⟩ : ∃ v, (S.toList == []) = v := ⟨_, rfl⟩
  obtain ⟨d0, hd0⟩ : ∃ v, (D.toList == []) = v := ⟨_, rfl⟩
  rw [hs0, hd0]
  clear r1 ha hsz
  by_cases h0 : n = 0
  ·subst h0
   rw [decide_eq_true rfl]
   cases s0 <;> cases d0
   all_goals
    go_enter Tryz.func146, Tryz.ntmps146
    go_wp2
    go_ret
    exact ⟨rfl, kb _⟩
  ·have hz : ((n : Int) == 0) = false := by
    have : (n : Int) ≠ 0 := by omega
    simpa using this
   rw [decide_eq_false h0]
   cases s0 <;> cases d0
   all_goals
    go_enter Tryz.func146, Tryz.ntmps146
    go_wp2
    go_ret
    exact ⟨rfl, kb _⟩
 ·have e4 : ((kd : Int) == 4) = false := by
   have : (kd : Int) ≠ 4 := by omega
   simpa using this
  rw [if_neg c4]
  by_cases c2 : kd = 2
  ·subst c2
   by_cases hd : D.toList = []
   ·have hd0 : (D.toList == []) = true := by rw [hd]; rfl
    rw [if_pos ⟨rfl, hd⟩]
    have r2 := r1 (.cells #[.int .u8 2, .string S, .string ⟨#[45]⟩, .slice aa n ac, .int .i64 r.up, .slice r.ka r.kn r.kc, .int .i64 r.shadow, .int .i64 r.host, .int .i64 r.content, .bool r.fl.a, .bool r.fl.b, .bool r.fl.c, .bool r.fl.d, .bool r.fl.e] 58) ⟨#[45]⟩ 2 rfl
    obtain ⟨q, hq⟩ : ∃ q, za7 [⟨0, 2, S.toList, l, [45]⟩] = q := ⟨_, rfl⟩
    have e45 : ByteArray.toList ⟨#[45]⟩ = [45] := by rw [ByteArray.toList_eq]
    have hq' : za7 [⟨0, 2, S.toList, l, ByteArray.toList ⟨#[45]⟩⟩] = q := by rw [e45]; exact hq
    rw [hq'] at r2
    rw [hq]
    clear r1 ha hsz hd c4 hq hq' e45
    go_enter Tryz.func146, Tryz.ntmps146
    go_wp2_with fail
    refine r2.mono ?_
    rintro e w1 ⟨rfl, k1⟩
    clear r2
    go_wp2
    go_ret
    exact ⟨rfl, (kb _).trans (k1.mono fun k hk => by simp; omega)⟩
   ·have hd0 : (D.toList == []) = false := by simpa using hd
    rw [if_neg (fun h => hd h.2)]
    have r2 := r1 (.cells #[.int .u8 2, .string S, .string D, .slice aa n ac, .int .i64 r.up, .slice r.ka r.kn r.kc, .int .i64 r.shadow, .int .i64 r.host, .int .i64 r.content, .bool r.fl.a, .bool r.fl.b, .bool r.fl.c, .bool r.fl.d, .bool r.fl.e] 58) D 2 rfl
    obtain ⟨q, hq⟩ : ∃ q, za7 [⟨0, 2, S.toList, l, D.toList⟩] = q := ⟨_, rfl⟩
    rw [hq] at r2 ⊢
    clear r1 ha hsz hd c4 hq
    go_enter Tryz.func146, Tryz.ntmps146
    go_wp2_with fail
    refine r2.mono ?_
    rintro e w1 ⟨rfl, k1⟩
    clear r2
    go_wp2
    go_ret
    exact ⟨rfl, (kb _).trans (k1.mono fun k hk => by simp; omega)⟩
  ·have e2 : ((kd : Int) == 2) = false := by
    have : (kd : Int) ≠ 2 := by omega
    simpa using this
   rw [if_neg (fun h => c2 h.1)]
   have r2 := r1 (.cells #[.int .u8 (kd : Int), .string S, .string D, .slice aa n ac, .int .i64 r.up, .slice r.ka r.kn r.kc, .int .i64 r.shadow, .int .i64 r.host, .int .i64 r.content, .bool r.fl.a, .bool r.fl.b, .bool r.fl.c, .bool r.fl.d, .bool r.fl.e] 58) D (kd : Int) rfl
   obtain ⟨q, hq⟩ : ∃ q, za7 [⟨0, kd, S.toList, l, D.toList⟩] = q := ⟨_, rfl⟩
   rw [hq] at r2 ⊢
   clear r1 ha hsz c4 c2 hq
   go_enter Tryz.func146, Tryz.ntmps146
   go_wp2_with fail
   refine r2.mono ?_
   rintro e w1 ⟨rfl, k1⟩
   clear r2
   go_wp2
   go_ret
   exact ⟨rfl, (kb _).trans (k1.mono fun k hk => by simp; omega)⟩
end
end Go.Proofs.YtfeinppedejlpaaGreat
