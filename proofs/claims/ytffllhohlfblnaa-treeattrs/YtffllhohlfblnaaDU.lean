/-
  What the document's reader does at a sign that opens something.
-/
import Derived.Test.YtffllhohlfblnaaDT
namespace Go.Proofs.Ytffllhohlfblnaa
open Go.RowKit Go.Sort

/-- One step of the document's reader: where the program's comes to, but for a text that is ended early. -/
def Step (st D : TS) : Prop := (∃ N, (N = st.next ∨ N = st.endT.next) ∧ (D = N ∨ D = N.endT)) ∧ D.run = st.run
theorem next_lt {st : TS} {r : List UInt8} (h : st.rest = 60 :: r) : st.next = (st.cut 1).opened st.pl := by
  rw [next_cons h, if_pos rfl]
  rfl
theorem step_of {st D : TS} (h : st.rest ≠ []) (hD : D = st.next) : Step st D := ⟨⟨st.next, .inl rfl, .inl hD⟩, by rw [hD]; exact (run_next h).symm⟩
/-- A tag. -/
theorem step_tag {st D : TS} {r : List UInt8} (h : st.rest = 60 :: r) {n kind : Nat} (hN : ∀ u : TS, u.rest = st.rest → u.pl = st.pl → u.next = (u.cut n).tag kind u.pl) (hD : D = (st.endT.cut n).tag kind st.pl ∨ D = ((st.endT.cut n).tag kind st.pl).endT) (hr : D.run = ((st.endT.cut n).tag kind st.pl).run) : Step st D := by
  have hE := endT_rest st
  have e1 : st.endT.next = (st.endT.cut n).tag kind st.pl := by rw [hN st.endT hE.1 hE.2, hE.2]
  have hne : st.rest ≠ [] := by rw [h]; exact List.cons_ne_nil _ _
  refine ⟨⟨st.endT.next, .inr rfl, by rw [e1]; exact hD⟩, ?_⟩
  rw [hr, cut_endT, flush_tag, run_next hne, hN st rfl rfl]
theorem opened_letter {u : TS} {c : UInt8} {r : List UInt8} (h : u.rest = 60 :: c :: r) (hc : letterP c = true) : u.next = (u.cut 1).tag 1 u.pl := by
  rw [next_lt h]
  unfold TS.opened
  have e : (u.cut 1).rest = c :: r := by show u.rest.drop 1 = _; rw [h]; rfl
  rw [e, if_pos (show begL (c :: r) = true from hc)]
theorem opened_slash {u : TS} {r : List UInt8} (h : u.rest = 60 :: 47 :: r) : u.next = (u.cut 2).ending u.pl := by
  rw [next_lt h]
  unfold TS.opened
  have e : (u.cut 1).rest = 47 :: r := by show u.rest.drop 1 = _; rw [h]; rfl
  rw [e, if_neg (show ¬ begL (47 :: r) = true from fun h => by cases (show letterP 47 = true from h)), if_pos (show pre [47] (47 :: r) = true by simp [pre]), cut_cut]
theorem DX.byteAt {s : List UInt8} {K : Nat → Prop} {w : World} {p : Nat} {st : TS} (h : DX s K w p st) {n : Nat} {c : UInt8} {r : List UInt8} (hr : st.rest.drop n = c :: r) {S : ByteArray} (hS : (⟨s.toArray⟩ : ByteArray) = S) : ∃ hl : st.pl + n < S.size, S[st.pl + n]'hl = c := by
  have hlen := h.len
  have h1 := congrArg List.length hr
  rw [List.length_drop, List.length_cons] at h1
  have hl : st.pl + n < S.size := by rw [← hS, sv_size]; omega
  refine ⟨hl, ?_⟩
  subst hS
  show s[st.pl + n] = c
  have h2 := h.near n
  rw [hr, List.drop_eq_getElem_cons (by omega)] at h2
  injection h2 with h2 _

set_option maxRecDepth 20000 in
set_option maxHeartbeats 20000000 in
theorem dcloses (s : List UInt8) (K : Nat → Prop) (p : Nat) (st : TS) (w : World) (h : DX s K w p st) (hs : s.length < 100000) (hp : pot st ≤ 600000000) (r : List UInt8) (hr : st.rest = 60 :: 47 :: r) :
    Calls Try.prog 31 #[.pointer (some ⟨p, 0, none⟩)] w fun e w' => e = .returned (.tuple #[]) ∧ ∃ D, Step st D ∧ DX s K w' p D ∧ Kept K w w' := by
  have hne : st.rest ≠ [] := by rw [hr]; exact List.cons_ne_nil _ _
  have hnx := opened_slash hr
  have hr2 : (st.cut 2).rest = r := by show st.rest.drop 2 = _; rw [hr]; rfl
  have hlen := h.len
  obtain ⟨S, hS⟩ : ∃ S : ByteArray, (⟨s.toArray⟩ : ByteArray) = S := ⟨_, rfl⟩
  have sS : S.size = s.length := by rw [← hS]; exact sv_size _
  have hzS : S.size < 100000 := by omega
  obtain ⟨b, hb⟩ : ∃ b, st.pl = b := ⟨_, rfl⟩
  obtain ⟨c0, c1, -⟩ := h.cells
  replace c0 : w.cell? ⟨p, 0, none⟩ = some (.string S) := by rw [← hS]; exact c0
  rw [hb] at c1
  have hl2 : b + 2 + r.length = S.size := by rw [hr] at hlen; simp only [List.length_cons] at hlen; omega
  have HX : Hid (DX s K w p st) := h
  obtain ⟨b2, hb2⟩ : ∃ x, b + 2 = x := ⟨_, rfl⟩
  have hbi : (b : Int) + 2 = (b2 : Int) := by omega
  have hb2s : b2 < 200000 := by omega
  have hwr : IntKind.i64.wrap (b2 : Int) = (b2 : Int) := IntWalk.i64_in _ (by omega)
  cases r with
  | nil =>
    have e1 : decide ((b2 : Int) ≥ (S.size : Int)) = true := decide_eq_true (by simp only [List.length_nil] at hl2; omega)
    have n1 : S.size ≤ b2 := by simp only [List.length_nil] at hl2; omega
    have HD : Hid (Step st (((st.flt 6 b).cut 2).addT [60, 47] b)) := by
      refine step_of hne ?_
      rw [hnx]
      unfold TS.ending
      rw [hr2, if_neg (show ¬ begL [] = true by decide), if_pos rfl, hb]
      rfl
    have l1 := fun X hX => dfault s K p st X hX (by omega) 6 b
    have l2 := fun X hX => dtext s K p (st.flt 6 b) X hX [60, 47] 2 (by show 2 ≤ st.rest.length; rw [hr]; simp) (by omega) (by unfold pot at hp ⊢; show st.toks.length + (st.flts ++ [_]).length + st.text.length + 16 * st.rest.length + 2 ≤ _; rw [List.length_append]; simp only [List.length_cons, List.length_nil]; omega)
    rw [show (st.flt 6 b).pl = b from hb] at l2
    obtain ⟨D, hDe⟩ : ∃ D, ((st.flt 6 b).cut 2).addT [60, 47] b = D := ⟨_, rfl⟩
    rw [hDe] at HD l2
    clear h hne hnx hr2 hlen hS sS hb hl2 hb2 hr hDe hp
    go_enter Try.func31, Try.ntmps31
    go_wp2_with fail
    go_quiet (fail)
    go_wp2_with fail
    refine Calls.mono (l1 _ (by repeat (first | exact HX.out | refine DX.drewN ?_ _))) ?_
    rintro e w1 ⟨rfl, x1, k1⟩
    replace k1 := Kept.trans (show Kept K w _ by repeat (first | exact Kept.refl K w | refine Kept.drewN ?_ _)) k1
    replace l2 := l2 w1 x1
    clear l1 x1 HX
    go_wp2_with fail
    refine l2.mono ?_
    rintro e w2 ⟨rfl, x2, k2⟩
    clear l2
    go_wp2
    go_end0
    exact ⟨rfl, D, HD.out, x2, k1.trans k2⟩
  | cons c r =>
    have e1 : decide ((b2 : Int) ≥ (S.size : Int)) = false := decide_eq_false (by simp only [List.length_cons] at hl2; omega)
    have hbS : b2 < S.size := by simp only [List.length_cons] at hl2; omega
    have i1 : (b2 : Int) < (S.size : Int) := by omega
    have i2 : decide ((b2 : Int) < (S.size : Int)) = true := decide_eq_true i1
    have n1 : ¬ S.size ≤ b2 := by omega
    obtain ⟨hlt, hcc⟩ := h.byteAt (n := 2) (c := c) (r := r) hr2 hS
    have hcc2 : S[b2]'hbS = c := by
      subst hb
      subst hb2
      exact hcc
    have hlet := fun X => dletter (S[b2]'hbS) X
    obtain ⟨ql, hql⟩ : ∃ q, letterP c = q := ⟨_, rfl⟩
    have hlet2 : ∀ X, Calls Try.prog 29 #[.int .u8 (S[b2]'hbS).toNat] X fun e w' => e = .returned (.bool ql) ∧ w' = X := by rw [← hql, ← hcc2]; exact hlet
    clear hlet
    have hend : (st.cut 2).ending b = if letterP c = true then (st.cut 2).tag 2 b else if pre [62] (c :: r) = true then ((st.cut 2).cut 1).flt 4 b else (st.cut 2).note b := by
      unfold TS.ending
      rw [hr2]
      show (if letterP c = true then _ else _) = _
      by_cases h1 : letterP c = true
      · rw [if_pos h1, if_pos h1]
      · rw [if_neg h1, if_neg h1, if_neg (List.cons_ne_nil _ _)]
    rw [hql] at hend
    rw [hb] at hnx
    cases ql with
    | true =>
      have HT : Hid (∀ D, (D = (st.endT.cut 2).tag 2 b ∨ D = ((st.endT.cut 2).tag 2 b).endT) → D.run = ((st.endT.cut 2).tag 2 b).run → Step st D) := by
        intro D h1 h2
        refine step_tag (n := 2) (kind := 2) hr ?_ (by rw [hb]; exact h1) (by rw [hb]; exact h2)
        intro u hu1 hu2
        rw [opened_slash (u := u) (r := c :: r) (by rw [hu1, hr])]
        unfold TS.ending
        have e : (u.cut 2).rest = c :: r := by show u.rest.drop 2 = _; rw [hu1, hr]; rfl
        rw [e, if_pos (show begL (c :: r) = true from hql)]
      have l1 := fun X hX => dtag s K p st X hX hs (by omega) 2 2 (.inr rfl) (by rw [hr]; simp) (by omega)
      rw [hb] at l1
      clear h hne hnx hr2 hlen hS sS hb hl2 hb2 hr hcc hcc2 hql hend hp hlt
      go_enter Try.func31, Try.ntmps31
      go_wp2_with fail
      go_quiet (fail)
      go_wp2_with fail
      go_quiet ((go_at_call 29; refine (hlet2 _).mono ?_; rintro e w' ⟨rfl, rfl⟩; exact ⟨rfl, _, rfl⟩))
      go_wp2_with fail
      refine Calls.mono (l1 _ (by repeat (first | exact HX.out | refine DX.drewN ?_ _))) ?_
      rintro e w1 ⟨rfl, D, d1, d2, x1, k1⟩
      replace k1 := Kept.trans (show Kept K w _ by repeat (first | exact Kept.refl K w | refine Kept.drewN ?_ _)) k1
      have hst := HT.out D d1 d2
      clear l1 HX HT d1 d2
      go_wp2
      go_end0
      exact ⟨rfl, D, hst, x1, k1⟩
    | false =>
      rw [if_neg (by decide)] at hend
      by_cases h62 : c = 62
      · have e3 : (((S[b2]'hbS).toNat : Int) == 62) = true := by rw [hcc2, h62]; rfl
        have HD : Hid (Step st ((st.flt 4 b).cut 3)) := by
          refine step_of hne ?_
          rw [hnx, hend, h62, if_pos (by simp [pre]), cut_cut]
          rfl
        have l1 := fun X hX => dfault s K p st X hX (by omega) 4 b
        have HC : Hid (∀ X, DX s K X p (st.flt 4 b) → X.cell? ⟨p, 1, none⟩ = some (.int .i64 (b : Int)) ∧ X.frozen? ⟨p, 1, none⟩ = false ∧ DX s K (X.setCell ⟨p, 1, none⟩ (.int .i64 ((b : Int) + 3))) p ((st.flt 4 b).cut 3) ∧ Kept K X (X.setCell ⟨p, 1, none⟩ (.int .i64 ((b : Int) + 3)))) := by
          intro X hX
          obtain ⟨q1, q2⟩ := hX.cutAt (m := 3) (by show 3 ≤ st.rest.length; rw [hr]; simp) (n := (b : Int) + 3) (by show _ = ((st.pl + 3 : Nat) : Int); rw [hb]; omega)
          have c1 := hX.cells.2.1
          rw [show (st.flt 4 b).pl = b from hb] at c1
          exact ⟨c1, hX.cells.2.2 1, q1, q2⟩
        obtain ⟨D, hDe⟩ : ∃ D, (st.flt 4 b).cut 3 = D := ⟨_, rfl⟩
        have hw3 : Hid (wrap64 ((b : Int) + 3) = (b : Int) + 3) := IntWalk.wrap64_in _ (by omega)
        rw [hDe] at HD HC
        clear h hne hnx hr2 hlen hS sS hb hl2 hb2 hr hcc hcc2 hql hend hp hlt h62 hDe
        go_enter Try.func31, Try.ntmps31
        go_wp2_with fail
        go_quiet (fail)
        go_wp2_with fail
        go_quiet ((go_at_call 29; refine (hlet2 _).mono ?_; rintro e w' ⟨rfl, rfl⟩; exact ⟨rfl, _, rfl⟩))
        go_wp2_with fail
        go_quiet (fail)
        go_wp2_with fail
        refine Calls.mono (l1 _ (by repeat (first | exact HX.out | refine DX.drewN ?_ _))) ?_
        rintro e w1 ⟨rfl, x1, k1⟩
        replace k1 := Kept.trans (show Kept K w _ by repeat (first | exact Kept.refl K w | refine Kept.drewN ?_ _)) k1
        obtain ⟨d1, g1, x2, k2⟩ := HC.out w1 x1
        have HF : Hid (DX s K (w1.setCell ⟨p, 1, none⟩ (.int .i64 ((b : Int) + 3))) p D ∧ Kept K w (w1.setCell ⟨p, 1, none⟩ (.int .i64 ((b : Int) + 3)))) := ⟨x2, k1.trans k2⟩
        clear l1 HX HC x1 k1 x2 k2 hbi c0 c1
        go_wp2
        go_end0
        rw [hw3.out]
        exact ⟨rfl, D, HD.out, HF.out.1, HF.out.2⟩
      · have e3 : (((S[b2]'hbS).toNat : Int) == 62) = false := by rw [hcc2]; exact u8_ne (d := 62) h62
        have HD : Hid (Step st ((st.cut 2).note b)) := by
          refine step_of hne ?_
          rw [hnx, hend, if_neg (by simp [pre]; exact fun h => h62 h.symm)]
        have l1 := fun X hX => dnote s K p st X hX hs (by omega) 2 (by rw [hr]; simp)
        rw [hb] at l1
        obtain ⟨D, hDe⟩ : ∃ D, (st.cut 2).note b = D := ⟨_, rfl⟩
        rw [hDe] at HD l1
        clear h hne hnx hr2 hlen hS sS hb hl2 hb2 hr hcc hcc2 hql hend hp hlt h62 hDe
        go_enter Try.func31, Try.ntmps31
        go_wp2_with fail
        go_quiet (fail)
        go_wp2_with fail
        go_quiet ((go_at_call 29; refine (hlet2 _).mono ?_; rintro e w' ⟨rfl, rfl⟩; exact ⟨rfl, _, rfl⟩))
        go_wp2_with fail
        go_quiet (fail)
        go_wp2_with fail
        refine Calls.mono (l1 _ (by repeat (first | exact HX.out | refine DX.drewN ?_ _))) ?_
        rintro e w1 ⟨rfl, x1, k1⟩
        replace k1 := Kept.trans (show Kept K w _ by repeat (first | exact Kept.refl K w | refine Kept.drewN ?_ _)) k1
        clear l1 HX
        go_wp2
        go_end0
        exact ⟨rfl, D, HD.out, x1, k1⟩
end Go.Proofs.Ytffllhohlfblnaa
