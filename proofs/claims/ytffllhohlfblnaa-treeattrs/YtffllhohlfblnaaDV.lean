/-
  What the document's reader does at a sign that opens something.
-/
import Derived.Test.YtffllhohlfblnaaDU
namespace Go.Proofs.Ytffllhohlfblnaa
open Go.RowKit Go.Sort

theorem opened_rest {u : TS} {r : List UInt8} (h : u.rest = 60 :: r) (h1 : begL r = false) (h2 : pre [47] r = false) : u.next = if pre [33, 45, 45] r = true then (u.cut 4).comment u.pl else if anyG dtL r = true then (u.cut 9).doctype u.pl else if pre [33] r = true then (u.cut 2).note u.pl else if pre [63] r = true then (u.cut 1).note u.pl else ((u.flt 4 u.pl).cut 1).addT [60] u.pl := by
  rw [next_lt h]
  unfold TS.opened
  have e : (u.cut 1).rest = r := by show u.rest.drop 1 = _; rw [h]; rfl
  rw [e, h1, if_neg (by decide), h2, if_neg (by decide)]
  simp only [cut_cut]
  rfl
theorem lk_lt (t r : List UInt8) : lkL (60 :: t) (60 :: r) = lkL t r := by
  rw [lk_cons (by decide)]
  rfl

set_option maxRecDepth 20000 in
set_option maxHeartbeats 20000000 in
theorem dopens (s : List UInt8) (K : Nat → Prop) (p : Nat) (st : TS) (w : World) (h : DX s K w p st) (hs : s.length < 100000) (hp : pot st ≤ 600000000) (r : List UInt8) (hr : st.rest = 60 :: r) :
    Calls Try.prog 18 #[.pointer (some ⟨p, 0, none⟩)] w fun e w' => e = .returned (.tuple #[]) ∧ ∃ D, Step st D ∧ DX s K w' p D ∧ Kept K w w' := by
  have hne : st.rest ≠ [] := by rw [hr]; exact List.cons_ne_nil _ _
  have hr1 : (st.cut 1).rest = r := by show st.rest.drop 1 = _; rw [hr]; rfl
  have hlen := h.len
  obtain ⟨S, hS⟩ : ∃ S : ByteArray, (⟨s.toArray⟩ : ByteArray) = S := ⟨_, rfl⟩
  have sS : S.size = s.length := by rw [← hS]; exact sv_size _
  have hzS : S.size < 100000 := by omega
  obtain ⟨b, hb⟩ : ∃ b, st.pl = b := ⟨_, rfl⟩
  obtain ⟨c0, c1, -⟩ := h.cells
  replace c0 : w.cell? ⟨p, 0, none⟩ = some (.string S) := by rw [← hS]; exact c0
  rw [hb] at c1
  have hl1 : b + 1 + r.length = S.size := by rw [hr] at hlen; simp only [List.length_cons] at hlen; omega
  have HX : Hid (DX s K w p st) := h
  obtain ⟨b1, hb1⟩ : ∃ x, b + 1 = x := ⟨_, rfl⟩
  have hbi : (b : Int) + 1 = (b1 : Int) := by omega
  have hb1s : b1 < 200000 := by omega
  have hwr : IntKind.i64.wrap (b1 : Int) = (b1 : Int) := IntWalk.i64_in _ (by omega)
  obtain ⟨nb, hnb⟩ : ∃ x : UInt8, r.headD 0 = x := ⟨_, rfl⟩
  have hq1 : begL r = letterP nb := by rw [← hnb]; cases r <;> rfl
  have hq2 : pre [47] r = (nb == 47) := by
    rw [← hnb]
    cases r with
    | nil => rfl
    | cons c r => show (47 == c && pre [] r) = (c == 47); rw [show pre [] r = true from rfl, Bool.and_true]; exact BEq.comm
  have hq5 : pre [33] r = (nb == 33) := by
    rw [← hnb]
    cases r with
    | nil => rfl
    | cons c r => show (33 == c && pre [] r) = (c == 33); rw [show pre [] r = true from rfl, Bool.and_true]; exact BEq.comm
  have hq6 : pre [63] r = (nb == 63) := by
    rw [← hnb]
    cases r with
    | nil => rfl
    | cons c r => show (63 == c && pre [] r) = (c == 63); rw [show pre [] r = true from rfl, Bool.and_true]; exact BEq.comm
  have hlet := fun X => dletter nb X
  have l3 := fun X hX => dlooks s K p st X hX (by omega) [60, 33, 45, 45] (by decide)
  have l4 := fun X hX => dlooks s K p st X hX (by omega) (60 :: dtL) (by decide)
  rw [hr, lk_lt, nl [33, 45, 45] (by decide)] at l3
  rw [hr, lk_lt, show lkL dtL r = anyG dtL r from lk_any (by decide) _ _] at l4
  obtain ⟨q1, hq1e⟩ : ∃ q, letterP nb = q := ⟨_, rfl⟩
  obtain ⟨q3, hq3e⟩ : ∃ q, pre [33, 45, 45] r = q := ⟨_, rfl⟩
  obtain ⟨q4, hq4e⟩ : ∃ q, anyG dtL r = q := ⟨_, rfl⟩
  rw [hq3e] at l3
  rw [hq4e] at l4
  simp only [hq1e] at hlet
  rw [hq1e] at hq1
  have hF : r ≠ [] → ∃ hl : b1 < S.size, S[b1]'hl = nb := by
    intro hrn
    cases r with
    | nil => exact absurd rfl hrn
    | cons c r =>
      obtain ⟨hl, hcc⟩ := h.byteAt (n := 1) (c := c) (r := r) hr1 hS
      have hnb : c = nb := hnb
      subst hb
      subst hb1
      rw [← hnb]
      exact ⟨hl, hcc⟩
  have hF0 : r = [] → nb = 0 ∧ S.size ≤ b1 := by
    intro hrn
    subst hrn
    exact ⟨hnb.symm, by simp only [List.length_nil] at hl1; omega⟩
  have l5 := fun r' (hh : r = 47 :: r') X hX => dcloses s K p st X hX hs (by omega) r' (by rw [hr, hh])
  have l6 := fun X hX hn => dcomment s K p st X hX hs (by omega) hn
  have l7 := fun X hX hn => ddoctype s K p st X hX hs (by omega) hn
  have l8 := fun X hX n hn => dnote s K p st X hX hs (by omega) n hn
  have l9 := fun X hX => dfault s K p st X hX (by omega) 4 b
  have l10 := fun X hX => dtext s K p (st.flt 4 b) X hX [60] 1 (by show 1 ≤ st.rest.length; rw [hr]; simp) (by omega) (by unfold pot at hp ⊢; show st.toks.length + (st.flts ++ [_]).length + st.text.length + 16 * st.rest.length + 1 ≤ _; rw [List.length_append]; simp only [List.length_cons, List.length_nil]; omega)
  have l2 := fun X hX => dtag s K p st X hX hs (by omega) 1 1 (.inl rfl) (by rw [hr]; simp) (by omega)
  rw [hb] at l2 l6 l7 l8
  rw [show (st.flt 4 b).pl = b from hb] at l10
  have HT : Hid (q1 = true → ∀ D, (D = (st.endT.cut 1).tag 1 b ∨ D = ((st.endT.cut 1).tag 1 b).endT) → D.run = ((st.endT.cut 1).tag 1 b).run → Step st D) := by
    intro h0 D h1 h2
    refine step_tag (n := 1) (kind := 1) hr ?_ (by rw [hb]; exact h1) (by rw [hb]; exact h2)
    intro u hu1 hu2
    cases r with
    | nil => rw [h0] at hq1; cases hq1
    | cons c r =>
      refine opened_letter (u := u) (c := c) (r := r) (by rw [hu1, hr]) ?_
      have : begL (c :: r) = true := by rw [hq1, h0]
      exact this
  have HN : Hid (q1 = false → (nb == 47) = false → st.next = if q3 = true then (st.cut 4).comment b else if q4 = true then (st.cut 9).doctype b else if (nb == 33) = true then (st.cut 2).note b else if (nb == 63) = true then (st.cut 1).note b else ((st.flt 4 b).cut 1).addT [60] b) := by
    intro h1 h2
    have := opened_rest hr (by rw [hq1, h1]) (by rw [hq2, h2])
    rw [hq3e, hq4e, hq5, hq6, hb] at this
    exact this
  have HSTEP : Hid (∀ D, D = st.next → Step st D) := fun D hD => step_of hne hD
  have HL4 : Hid (q3 = true → 4 ≤ st.rest.length) := by
    intro h0
    rw [h0] at hq3e
    have := pre_length hq3e
    rw [hr, List.length_cons]
    simp only [List.length_cons, List.length_nil] at this
    omega
  have HL9 : Hid (q4 = true → 9 ≤ st.rest.length) := by
    intro h0
    rw [h0] at hq4e
    unfold anyG at hq4e
    rw [Bool.and_eq_true] at hq4e
    have := of_decide_eq_true hq4e.1
    rw [hr, List.length_cons]
    have e8 : dtL.length = 8 := rfl
    omega
  have HL2 : Hid ((nb == 33) = true → 2 ≤ st.rest.length) := by
    intro h0
    rw [← hq5] at h0
    have := pre_length h0
    rw [hr, List.length_cons]
    simp only [List.length_cons, List.length_nil] at this
    omega
  have HL1 : Hid (1 ≤ st.rest.length) := by show 1 ≤ _; rw [hr]; simp
  have HSL : Hid ((nb == 47) = true → ∃ r', r = 47 :: r') := by
    intro h0
    rw [← hq2] at h0
    cases r with
    | nil => cases h0
    | cons c r =>
      have h0 : (47 == c && pre [] r) = true := h0
      rw [Bool.and_eq_true] at h0
      have : c = 47 := (by simpa using h0.1 : (47 : UInt8) = c).symm
      exact ⟨r, by rw [this]⟩
  have n47 : ((nb.toNat : Int) == 47) = (nb == 47) := by
    by_cases hh : nb = 47
    · rw [hh]; rfl
    · rw [show ((nb.toNat : Int) == 47) = ((nb.toNat : Int) == ((47 : UInt8).toNat : Int)) from rfl, u8_ne (d := 47) hh]; simpa using hh
  have n33 : ((nb.toNat : Int) == 33) = (nb == 33) := by
    by_cases hh : nb = 33
    · rw [hh]; rfl
    · rw [show ((nb.toNat : Int) == 33) = ((nb.toNat : Int) == ((33 : UInt8).toNat : Int)) from rfl, u8_ne (d := 33) hh]; simpa using hh
  have n63 : ((nb.toNat : Int) == 63) = (nb == 63) := by
    by_cases hh : nb = 63
    · rw [hh]; rfl
    · rw [show ((nb.toNat : Int) == 63) = ((nb.toNat : Int) == ((63 : UInt8).toNat : Int)) from rfl, u8_ne (d := 63) hh]; simpa using hh
  obtain ⟨q2, hq2e⟩ : ∃ q, (nb == 47) = q := ⟨_, rfl⟩
  obtain ⟨q5, hq5e⟩ : ∃ q, (nb == 33) = q := ⟨_, rfl⟩
  obtain ⟨q6, hq6e⟩ : ∃ q, (nb == 63) = q := ⟨_, rfl⟩
  rw [hq2e] at n47 HSL
  rw [hq5e] at n33 HL2
  rw [hq6e] at n63
  simp only [hq2e, hq5e, hq6e] at HN
  have HF : Hid ((r ≠ [] → ∃ hl : b1 < S.size, S[b1]'hl = nb) ∧ (r = [] → nb = 0 ∧ S.size ≤ b1)) := ⟨hF, hF0⟩
  have HBB : Hid (st.pl = b) := hb
  clear h hne hr1 hlen hS sS hl1 hb1 hnb hq1 hq2 hq5 hq6 hq1e hq3e hq4e hF hF0 hq2e hq5e hq6e hp hr hb
  go_enter Try.func18, Try.ntmps18
  go_wp2_with fail
  go_quiet (fail)
  go_upto_if 13 with fail
  go_cut [2] (fun s2 wx => s2 = .int .u8 (nb.toNat : Int) ∧ DX s K wx p st ∧ Kept K w wx)
  case first =>
    clear hlet l2 l3 l4 l5 l6 l7 l8 l9 l10 HN HL4 HL9 HL2 HL1 HSL HSTEP HT n47 n33 n63 HBB
    cases r with
    | nil =>
      obtain ⟨rfl, hF0⟩ := HF.out.2 rfl
      have n1 : ¬ b1 < S.size := by omega
      clear HF
      go_wp2
      go_meet
      case rel => exact ⟨rfl, by repeat (first | exact HX.out | refine DX.drewN ?_ _), by repeat (first | exact Kept.refl K w | refine Kept.drewN ?_ _)⟩
    | cons c r =>
      obtain ⟨hl, hcc⟩ := HF.out.1 (List.cons_ne_nil _ _)
      have n1 : b1 < S.size := hl
      have i1 : (b1 : Int) < (S.size : Int) := by omega
      have i2 : decide ((b1 : Int) < (S.size : Int)) = true := decide_eq_true i1
      have HE : Hid (S[b1]'hl = nb) := hcc
      clear HF hcc
      go_wp2_with fail
      go_quiet (fail)
      go_wp2
      go_meet
      case rel => exact ⟨by rw [HE.out], by repeat (first | exact HX.out | refine DX.drewN ?_ _), by repeat (first | exact Kept.refl K w | refine Kept.drewN ?_ _)⟩
  case rest =>
    obtain ⟨rfl, x1, k1⟩ := hcut
    clear HX c0 c1
    cases q1 with
    | true =>
      clear l3 l4 l5 l6 l7 l8 l9 l10 HN HL4 HL9 HL2 HL1 HSL n47 n33 n63 HSTEP
      go_wp2_with fail
      refine (hlet _).mono ?_
      rintro e w2 ⟨rfl, rfl⟩
      replace l2 := l2 _ x1
      clear hlet
      go_wp2_with fail
      refine l2.mono ?_
      rintro e w3 ⟨rfl, D, d1, d2, x3, k3⟩
      have hst := HT.out (by first | trivial | rfl) D d1 d2
      clear l2 HT d1 d2
      go_wp2
      go_end0
      exact ⟨rfl, D, hst, x3, k1.trans k3⟩
    | false =>
      go_wp2_with fail
      refine (hlet _).mono ?_
      rintro e w2 ⟨rfl, rfl⟩
      clear hlet l2 HT
      cases q2 with
      | true =>
        obtain ⟨r', hr'⟩ := HSL.out (by first | trivial | rfl)
        replace l5 := l5 r' hr' _ x1
        clear l3 l4 l6 l7 l8 l9 l10 HN HL4 HL9 HL2 HL1 HSL n33 n63 HSTEP hr' HF
        go_wp2_with fail
        refine l5.mono ?_
        rintro e w3 ⟨rfl, D, d1, x3, k3⟩
        clear l5
        go_wp2
        go_end0
        exact ⟨rfl, D, d1, x3, k1.trans k3⟩
      | false =>
        replace HN := HN.out (by first | trivial | rfl) (by first | trivial | rfl)
        have HN : Hid (st.next = _) := HN
        replace l3 := l3 _ x1
        clear l5 HSL HF
        go_wp2_with fail
        refine l3.mono ?_
        rintro e w4 ⟨rfl, x4, k4⟩
        replace k4 := k1.trans k4
        clear l3 k1
        cases q3 with
        | true =>
          replace l6 := l6 w4 x4 (HL4.out (by first | trivial | rfl))
          have hst : Step st ((st.cut 4).comment b) := HSTEP.out _ (by rw [HN.out]; first | rfl | exact (if_pos rfl).symm)
          clear l4 l7 l8 l9 l10 HN HL4 HL9 HL2 HL1 n33 n63 HSTEP n47 x4
          go_wp2_with fail
          refine l6.mono ?_
          rintro e w5 ⟨rfl, x5, k5⟩
          clear l6
          go_wp2
          go_end0
          exact ⟨rfl, _, hst, x5, k4.trans k5⟩
        | false =>
          replace l4 := l4 w4 x4
          clear l6 HL4 x4
          go_wp2_with fail
          refine l4.mono ?_
          rintro e w5 ⟨rfl, x5, k5⟩
          replace k5 := k4.trans k5
          clear l4 k4
          cases q4 with
          | true =>
            replace l7 := l7 w5 x5 (HL9.out (by first | trivial | rfl))
            have hst : Step st ((st.cut 9).doctype b) := HSTEP.out _ (by rw [HN.out]; first | rfl | simp)
            clear l8 l9 l10 HN HL9 HL2 HL1 n33 n63 HSTEP n47 x5
            go_wp2_with fail
            refine l7.mono ?_
            rintro e w6 ⟨rfl, x6, k6⟩
            clear l7
            go_wp2
            go_end0
            exact ⟨rfl, _, hst, x6, k5.trans k6⟩
          | false =>
            clear l7 HL9
            cases q5 with
            | true =>
              replace l8 := l8 w5 x5 2 (HL2.out (by first | trivial | rfl))
              have hst : Step st ((st.cut 2).note b) := HSTEP.out _ (by rw [HN.out]; first | rfl | simp)
              clear l9 l10 HN HL2 HL1 n63 HSTEP n47 x5
              go_wp2_with fail
              refine l8.mono ?_
              rintro e w6 ⟨rfl, x6, k6⟩
              clear l8
              go_wp2
              go_end0
              exact ⟨rfl, _, hst, x6, k5.trans k6⟩
            | false =>
              cases q6 with
              | true =>
                replace l8 := l8 w5 x5 1 HL1.out
                have hst : Step st ((st.cut 1).note b) := HSTEP.out _ (by rw [HN.out]; first | rfl | simp)
                clear l9 l10 HN HL2 HL1 HSTEP n47 x5
                go_wp2_with fail
                refine l8.mono ?_
                rintro e w6 ⟨rfl, x6, k6⟩
                clear l8
                go_wp2
                go_end0
                exact ⟨rfl, _, hst, x6, k5.trans k6⟩
              | false =>
                have hst : Step st (((st.flt 4 b).cut 1).addT [60] b) := HSTEP.out _ (by rw [HN.out]; first | rfl | simp)
                have d1 : w5.cell? ⟨p, 1, none⟩ = some (.int .i64 (b : Int)) := by rw [← HBB.out]; exact x5.cells.2.1
                replace l9 := l9 w5 x5
                clear l8 HN HL2 HL1 HSTEP n47 x5
                go_wp2_with fail
                refine l9.mono ?_
                rintro e w6 ⟨rfl, x6, k6⟩
                replace l10 := l10 w6 x6
                clear l9 x6 d1
                go_wp2_with fail
                refine l10.mono ?_
                rintro e w7 ⟨rfl, x7, k7⟩
                clear l10
                go_wp2
                go_end0
                exact ⟨rfl, _, hst, x7, (k5.trans k6).trans k7⟩
end Go.Proofs.Ytffllhohlfblnaa
