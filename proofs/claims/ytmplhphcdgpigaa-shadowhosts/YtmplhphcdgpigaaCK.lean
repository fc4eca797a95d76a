/-
  The walks of Doc.put and Doc.Insert.
-/
import Derived.Test.YtmplhphcdgpigaaCJ
namespace Go.Proofs.Ytmplhphcdgpigaa
open Go.RowKit
set_option linter.unusedVariables false

theorem DY.weaken {K K' : Nat → Prop} {w : World} {p : Nat} {S : Dm} {ga : Option Addr} {cap : Nat} (h : DY K w p S ga cap) (hs : ∀ k, K' k → K k) : DY K' w p S ga cap := h.more (Kept.refl _ w) (fun k hk => .inl (hs k hk)) (fun k hk => h.1 k (hs k hk))

set_option maxRecDepth 20000 in
set_option maxHeartbeats 1000000 in
theorem dput1 (K : Nat → Prop) (p g cap up i : Nat) (bef : Int) (S : Dm) (R : Nat → List Nat) (w : World) (h : DY K w p S (some ⟨g, 0, none⟩) cap) (hP : PutOk S R up i bef) (hk4 : (S.nd i).kind ≠ 4) (hn : S.n ≤ 1000000) :
    Calls Try.prog 24 #[.pointer (some ⟨p, 0, none⟩), .int .i64 (up : Int), .int .i64 (i : Int), .int .i64 bef] w fun e w' => e = .returned (.tuple #[]) ∧ DY K w' p (S.setP (putD S R up i bef)) (some ⟨g, 0, none⟩) cap ∧ Kept K w w' := by
  have eD : putD S R up i bef = putL S.pl up i (if bef = (i : Int) then (S.pl i).next else bef) := if_neg hk4
  rw [eD]
  have hi := hP.hi
  have c1 := h.c1
  obtain ⟨aa, ac, hc, -⟩ := h.cell hi
  have c0 : w.cell? ⟨g, i * 22, none⟩ = some (.int .u8 ((S.nd i).kind : Int)) := hc 0 _ rfl
  have c14 : w.cell? ⟨g, i * 22 + 14, none⟩ = some (.int .i64 (S.pl i).next) := hc 14 _ rfl
  have rp := putP K p g cap up i _ S R w h hP.wf hP.hu hP.hi hP.ne hP.one (by omega)
  obtain ⟨n, hne⟩ : ∃ n, S.n = n := ⟨_, rfl⟩
  obtain ⟨kd, hkd⟩ : ∃ k, (S.nd i).kind = k := ⟨_, rfl⟩
  obtain ⟨nx, hnx⟩ : ∃ k, (S.pl i).next = k := ⟨_, rfl⟩
  rw [hne] at c1 hi hn
  rw [hkd] at c0 hk4
  rw [hnx] at c14 rp ⊢
  have e4 : ((kd : Int) == 4) = false := by
    have : (kd : Int) ≠ 4 := by omega
    simpa using this
  clear h hP eD hc hne hkd hnx hk4
  by_cases cb : bef = (i : Int)
  · subst cb
    rw [if_pos rfl] at rp ⊢
    go_enter Try.func24, Try.ntmps24
    go_wp2_with (first | (go_at_call 28; refine (kids_any _ _).mono ?_; rintro e w2 ⟨rfl, hw2⟩; replace hw2 := hw2.symm; subst hw2) | (go_at_call 35; refine rp.mono ?_; rintro e w2 ⟨rfl, hY, hK⟩))
    go_end0
    exact ⟨rfl, hY, hK⟩
  · rw [if_neg cb] at rp ⊢
    have eb : (bef == (i : Int)) = false := by simpa using cb
    clear cb
    go_enter Try.func24, Try.ntmps24
    go_wp2_with (first | (go_at_call 28; refine (kids_any _ _).mono ?_; rintro e w2 ⟨rfl, hw2⟩; replace hw2 := hw2.symm; subst hw2) | (go_at_call 35; refine rp.mono ?_; rintro e w2 ⟨rfl, hY, hK⟩))
    go_end0
    exact ⟨rfl, hY, hK⟩

theorem putsL_append (L : Nat → Lk) (up : Nat) (bef : Int) (a b : List Nat) : putsL L up bef (a ++ b) = putsL (putsL L up bef a) up bef b := by
  induction a generalizing L with
  | nil => rfl
  | cons x r ih => exact ih _

set_option maxRecDepth 20000 in
set_option maxHeartbeats 1000000 in
theorem dput4 (K : Nat → Prop) (p g cap up i : Nat) (bef : Int) (S : Dm) (R : Nat → List Nat) (w : World) (h : DY K w p S (some ⟨g, 0, none⟩) cap) (hP : PutOk S R up i bef) (hk4 : (S.nd i).kind = 4) (hn : S.n ≤ 1000000) :
    Calls Try.prog 24 #[.pointer (some ⟨p, 0, none⟩), .int .i64 (up : Int), .int .i64 (i : Int), .int .i64 bef] w fun e w' => e = .returned (.tuple #[]) ∧ DY K w' p (S.setP (putD S R up i bef)) (some ⟨g, 0, none⟩) cap ∧ Kept K w w' := by
  have eD : putD S R up i bef = putsL S.pl up bef (R i) := if_pos hk4
  rw [eD]
  have hi := hP.hi
  have hu := hP.hu
  have c1 := h.c1
  obtain ⟨aa, ac, hc, -⟩ := h.cell hi
  have c0 : w.cell? ⟨g, i * 22, none⟩ = some (.int .u8 ((S.nd i).kind : Int)) := hc 0 _ rfl
  rw [hk4] at c0
  have rr := rowP K p g cap i S R w h hP.wf hP.hi (by omega)
  have hlen := hP.wf.len_le hi
  have hF := hP.fr
  have HY0 : Hid (DY K w p S (some ⟨g, 0, none⟩) cap) := h
  obtain ⟨n, hne⟩ : ∃ n, S.n = n := ⟨_, rfl⟩
  have HNE : Hid (S.n = n) := hne
  obtain ⟨Q, hQ⟩ : ∃ Q, R i = Q := ⟨_, rfl⟩
  rw [hQ] at rr hF hlen ⊢
  rw [hne] at c1 hi hn hlen hF hu
  have HF : Hid (FrS n up i bef S.pl R Q) := hF
  clear h hP eD hc hne hQ hk4 hF
  go_enter Try.func24, Try.ntmps24
  go_wp2_with (first | (go_at_call 28; refine (kids_any _ _).mono ?_; rintro e w2 ⟨rfl, hw2⟩; replace hw2 := hw2.symm; subst hw2))
  refine rr.mono ?_
  rintro e w1 ⟨ao, c, rfl, hO, hK1⟩
  clear rr c1 c0
  obtain ⟨K2, hK2⟩ : ∃ K2 : Nat → Prop, (fun k => K k ∨ blkOf ao k) = K2 := ⟨_, rfl⟩
  have hY1 : DY K2 w1 p S (some ⟨g, 0, none⟩) cap := by
    rw [← hK2]
    refine HY0.out.more hK1 (fun k hk => ?_) (fun k hk => ?_)
    · rcases hk with hk | hk
      · exact .inl hk
      · exact .inr (Nat.le_of_not_lt (OwnZ.out hO hk).1)
    · rcases hk with hk | hk
      · exact Nat.lt_of_lt_of_le (HY0.out.1 k hk) hK1.size
      · exact (OwnZ.out hO hk).2
  have HO : Hid (OwnZ (fun k => k < w.heap.size) w1 3 1 ao Q.length c (ivs Q)) := hO
  have HK1 : Hid (Kept (fun k => k < w.heap.size) w w1) := hK1
  have HY1 : Hid (DY K2 w1 p S (some ⟨g, 0, none⟩) cap) := hY1
  have HK2 : Hid ((fun k => K k ∨ blkOf ao k) = K2) := hK2
  obtain ⟨N, hN⟩ : ∃ N, Q.length = N := ⟨_, rfl⟩
  rw [hN] at hlen ⊢
  have HN : Hid (Q.length = N) := hN
  clear hO hK1 hY1 hK2 hN
  go_upto_region 3 with fail
  go_loopg [26] N (fun gh v wr => ∃ (j : Nat) (Rc : Nat → List Nat), gh = N - j ∧ j ≤ N ∧ v = .int .i64 (j : Int) ∧ FrS n up i bef (putsL S.pl up bef (Q.take j)) Rc (Q.drop j) ∧ DY K2 wr p (S.setP (putsL S.pl up bef (Q.take j))) (some ⟨g, 0, none⟩) cap ∧ Kept K2 w1 wr)
  case atStart => exact ⟨0, R, rfl, Nat.zero_le _, rfl, HF.out, HY1.out, Kept.refl _ _⟩
  case round =>
    obtain ⟨j, Rc, hgj, hj, rfl, hfr, hY, hK⟩ := hrel
    by_cases hlt : j < N
    · have hl : j < Q.length := by rw [HN.out]; exact hlt
      rw [List.drop_eq_getElem_cons hl] at hfr
      obtain ⟨q1, q2, q3⟩ := hfr.ok
      have hnx := hfr.next
      have rp := putP K2 p g cap up Q[j] bef (S.setP (putsL S.pl up bef (Q.take j))) Rc wr hY (by show WF S.n _ Rc; rw [HNE.out]; exact hfr.wf) (by show up < S.n; rw [HNE.out]; exact hu) (by show Q[j] < S.n; rw [HNE.out]; exact q1) q2 (by show BefOk S.n _ up _ bef; rw [HNE.out]; exact q3) (by show S.n ≤ _; rw [HNE.out]; omega)
      obtain ⟨ga, hga, hcell⟩ := HO.out.cell (j := j) (u := iv Q[j]) (by simp [ivs, hl])
      have hcw : wr.cell? ⟨ga, j, none⟩ = some (.int .i64 (Q[j] : Int)) := by
        rw [hK.cell (p := ⟨ga, j, none⟩) (by rw [← HK2.out]; exact .inr hga)]
        exact hcell
      have e1 : putL (putsL S.pl up bef (Q.take j)) up Q[j] bef = putsL S.pl up bef (Q.take (j + 1)) := by
        rw [List.take_succ_eq_append_getElem hl, putsL_append]; rfl
      have rp' : Calls Try.prog 35 #[chP p, .int .i64 (up : Int), .int .i64 (Q[j] : Int), .int .i64 bef] wr fun e w' => e = .returned (.tuple #[]) ∧ DY K2 w' p (S.setP (putsL S.pl up bef (Q.take (j + 1)))) (some ⟨g, 0, none⟩) cap ∧ Kept K2 wr w' := by
        rw [← e1]; exact rp
      rw [e1] at hnx
      subst hga
      obtain ⟨q, hq⟩ : ∃ q, Q[j] = q := ⟨_, rfl⟩
      rw [hq] at rp' hcw
      have HNX : Hid (∃ Rd, FrS n up i bef (putsL S.pl up bef (Q.take (j + 1))) Rd (Q.drop (j + 1))) := ⟨_, hnx⟩
      have HK : Hid (Kept K2 w1 wr) := hK
      clear hfr hnx q1 q2 q3 rp hcell e1 hY hK hq
      go_wp2_with fail
      refine rp'.mono ?_
      rintro e w2 ⟨rfl, hY2, hK2'⟩
      have HY2 : Hid (DY K2 w2 p (S.setP (putsL S.pl up bef (Q.take (j + 1)))) (some ⟨g, 0, none⟩) cap) := hY2
      have HKK : Hid (Kept K2 w1 w2) := HK.out.trans hK2'
      clear rp' hY2 hK2' hcw
      go_wp2
      go_roundg (N - (j + 1))
      case rel =>
        obtain ⟨Rd, hRd⟩ := HNX.out
        exact ⟨j + 1, Rd, rfl, by omega, by go_num, hRd, HY2.out, HKK.out⟩
      case measure => omega
    · have hjN : j = N := by omega
      subst hjN
      have hall : Q.take j = Q := List.take_of_length_le (by rw [HN.out]; exact Nat.le_refl _)
      rw [hall] at hY
      have HYF : Hid (DY K wr p (S.setP (putsL S.pl up bef Q)) (some ⟨g, 0, none⟩) cap) := hY.weaken fun k hk => by rw [← HK2.out]; exact .inl hk
      have HKF : Hid (Kept K w wr) := (HK1.out.mono HY0.out.1).trans (hK.mono fun k hk => by rw [← HK2.out]; exact .inl hk)
      clear hfr hY hK hall
      go_wp2
      first
        | go_end0
        | refine bodyPost_ret (results_none rfl _ _ _) rfl ?_
      exact ⟨rfl, HYF.out, HKF.out⟩

theorem dput_any (K : Nat → Prop) (p g cap up i : Nat) (bef : Int) (S : Dm) (R : Nat → List Nat) (w : World) (h : DY K w p S (some ⟨g, 0, none⟩) cap) (hP : PutOk S R up i bef) (hn : S.n ≤ 1000000) :
    Calls Try.prog 24 #[.pointer (some ⟨p, 0, none⟩), .int .i64 (up : Int), .int .i64 (i : Int), .int .i64 bef] w fun e w' => e = .returned (.tuple #[]) ∧ DY K w' p (S.setP (putD S R up i bef)) (some ⟨g, 0, none⟩) cap ∧ Kept K w w' := by
  by_cases c : (S.nd i).kind = 4
  · exact dput4 K p g cap up i bef S R w h hP c hn
  · exact dput1 K p g cap up i bef S R w h hP c hn

set_option maxRecDepth 20000 in
set_option maxHeartbeats 1000000 in
/-- Insert of nodes that are there. -/
theorem insert_in (K : Nat → Prop) (p up i : Nat) (bef : Int) (S : Dm) (R : Nat → List Nat) (rk : Nat → Nat) (w : World) (h : DX K w p S) (hW : WF S.n S.pl R) (ha : Acy S rk) (hu : up < S.n) (hi : i < S.n) (hb : bef = -1 ∨ ∃ m : Nat, m < S.n ∧ bef = (m : Int)) (hn : S.n ≤ 1000000) :
    Calls Try.prog 10 #[.pointer (some ⟨p, 0, none⟩), .int .i64 (up : Int), .int .i64 (i : Int), .int .i64 bef] w fun e w' => Kept K w w' ∧ ((e = .returned (.int .u16 81) ∧ ¬ Fits S up i bef ∧ DX K w' p S) ∨ (e = .returned (.int .u16 0) ∧ Fits S up i bef ∧ DX K w' p (S.setP (putD S R up i bef)))) := by
  obtain ⟨ga, cap, hY⟩ := h
  obtain ⟨g, rfl, -, -, -⟩ := hY.at (by omega)
  have c1 := hY.c1
  have rf := fits_any K p g cap up i bef S rk w hY ha hu hi hb (by omega)
  have rp := fun (hF : Fits S up i bef) X (hX : Kept (fun k => k < w.heap.size) w X) => dput_any K p g cap up i bef S R X (hY.kept hX) (PutOk.of hW ha hu hi hF.2.2.1 hF.2.2.2) hn
  have HY : Hid (DY K w p S (some ⟨g, 0, none⟩) cap) := hY
  have HP : Hid (Fits S up i bef → ∀ X, Kept (fun k => k < w.heap.size) w X → Calls Try.prog 24 #[.pointer (some ⟨p, 0, none⟩), .int .i64 (up : Int), .int .i64 (i : Int), .int .i64 bef] X fun e w' => e = .returned (.tuple #[]) ∧ DY K w' p (S.setP (putD S R up i bef)) (some ⟨g, 0, none⟩) cap ∧ Kept K X w') := rp
  obtain ⟨n, hne⟩ : ∃ n, S.n = n := ⟨_, rfl⟩
  rw [hne] at c1 hu hi hn hb
  have r1 := at_yes p g n cap up w c1 hu (by omega)
  have r2 := at_yes p g n cap i w c1 hi (by omega)
  clear hY hW ha rp hne
  rcases hb with rfl | ⟨m, hm, rfl⟩
  · go_enter Try.func10, Try.ntmps10
    go_upto_region 3 with (first | (go_at_call 22; with_reducible refine r1.mono ?_; rintro e w2 ⟨rfl, hw2⟩; replace hw2 := hw2.symm; subst hw2) | (go_at_call 22; with_reducible refine r2.mono ?_; rintro e w2 ⟨rfl, hw2⟩; replace hw2 := hw2.symm; subst hw2))
    go_wp2_with fail
    refine rf.mono ?_
    rintro e w1 ⟨b, rfl, hb, k1⟩
    have HB : Hid (b = true ↔ Fits S up i (-1)) := hb
    have HK1 : Hid (Kept (fun k => k < w.heap.size) w w1) := k1
    clear rf r1 r2 hb k1 c1
    cases b with
    | false =>
      go_wp2
      go_ret
      exact ⟨HK1.out.mono HY.out.1, .inl ⟨rfl, fun hf => (by have := HB.out.2 hf; simp at this), ⟨_, _, HY.out.kept HK1.out⟩⟩⟩
    | true =>
      have hf := HB.out.1 (by simp)
      have r3 := HP.out hf w1 HK1.out
      have HF : Hid (Fits S up i (-1)) := hf
      clear hf HB HP
      go_wp2_with fail
      refine r3.mono ?_
      rintro e w2 ⟨rfl, hY2, hK2⟩
      have HY2 : Hid (DY K w2 p (S.setP (putD S R up i (-1))) (some ⟨g, 0, none⟩) cap) := hY2
      have HK2 : Hid (Kept K w w2) := (HK1.out.mono HY.out.1).trans hK2
      clear r3 hY2 hK2
      go_wp2
      go_ret
      exact ⟨HK2.out, .inr ⟨rfl, HF.out, ⟨_, _, HY2.out⟩⟩⟩
  · have r4 := at_yes p g n cap m w c1 hm (by omega)
    have em : ((m : Int) != -1) = true := by simp
    have em' : ((m : Int) == -1) = false := by simp
    go_enter Try.func10, Try.ntmps10
    go_upto_region 3 with (first | (go_at_call 22; with_reducible refine r1.mono ?_; rintro e w2 ⟨rfl, hw2⟩; replace hw2 := hw2.symm; subst hw2) | (go_at_call 22; with_reducible refine r2.mono ?_; rintro e w2 ⟨rfl, hw2⟩; replace hw2 := hw2.symm; subst hw2) | (go_at_call 22; with_reducible refine r4.mono ?_; rintro e w2 ⟨rfl, hw2⟩; replace hw2 := hw2.symm; subst hw2))
    go_wp2_with fail
    refine rf.mono ?_
    rintro e w1 ⟨b, rfl, hb, k1⟩
    have HB : Hid (b = true ↔ Fits S up i (m : Int)) := hb
    have HK1 : Hid (Kept (fun k => k < w.heap.size) w w1) := k1
    clear rf r1 r2 r4 hb k1 c1
    cases b with
    | false =>
      go_wp2
      go_ret
      exact ⟨HK1.out.mono HY.out.1, .inl ⟨rfl, fun hf => (by have := HB.out.2 hf; simp at this), ⟨_, _, HY.out.kept HK1.out⟩⟩⟩
    | true =>
      have hf := HB.out.1 (by simp)
      have r3 := HP.out hf w1 HK1.out
      have HF : Hid (Fits S up i (m : Int)) := hf
      clear hf HB HP
      go_wp2_with fail
      refine r3.mono ?_
      rintro e w2 ⟨rfl, hY2, hK2⟩
      have HY2 : Hid (DY K w2 p (S.setP (putD S R up i (m : Int))) (some ⟨g, 0, none⟩) cap) := hY2
      have HK2 : Hid (Kept K w w2) := (HK1.out.mono HY.out.1).trans hK2
      clear r3 hY2 hK2
      go_wp2
      go_ret
      exact ⟨HK2.out, .inr ⟨rfl, HF.out, ⟨_, _, HY2.out⟩⟩⟩
end Go.Proofs.Ytmplhphcdgpigaa
