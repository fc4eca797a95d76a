/-
  What the document's reader does with comments.
-/
import Derived.Test.YtffllhohlfblnaaDE
namespace Go.Proofs.Ytffllhohlfblnaa
open Go.RowKit Go.Sort

theorem cmt_endT (s : TS) (d : List UInt8) (a : Nat) : s.endT.cmt d a = s.cmt d a := add_endT s _
theorem cmt0 {y : TS} (h : y.text = []) (d : List UInt8) (a : Nat) : y.cmt d a = { y with toks := y.toks ++ [⟨4, [], [], false, cleanL d, a⟩] } := by
  unfold TS.cmt TS.add TS.endT
  rw [if_pos h]
theorem endT_text (s : TS) : s.endT.text = [] := by
  unfold TS.endT
  split
  · rename_i h; exact h
  · rfl
theorem comment_endT (s : TS) (a : Nat) : s.endT.comment a = s.comment a := by
  have hr := (endT_rest s).1
  have hfr : s.endT.front endsC = s.front endsC := by unfold TS.front; rw [hr]
  unfold TS.comment
  rw [hr, hfr]
  split
  · rw [cut_endT, ← endT_flt, cmt_endT]
  · split
    · rw [cut_endT, ← endT_flt, cmt_endT]
    · have e : (s.endT.cutTo endsC).cmtEnd a = ((s.cutTo endsC).cmtEnd a).endT := by
        rw [← endT_cutTo]
        obtain ⟨x, hx⟩ : ∃ x, s.cutTo endsC = x := ⟨_, rfl⟩
        rw [hx]
        unfold TS.cmtEnd
        rw [(endT_rest x).1, (endT_rest x).2]
        split
        · rw [endT_flt]
        · split
          · rw [cut_endT]
          · rw [endT_flt]
            unfold TS.cutIf
            rw [(endT_rest x).1]
            split
            · rw [cut_endT]
            · rfl
      rw [e, cmt_endT]
theorem pot_endT {s : TS} {b : Nat} (hp : pot s ≤ b) : pot s.endT ≤ b := by
  unfold TS.endT
  split
  · exact hp
  · rename_i ht
    have : 0 < s.text.length := List.length_pos_iff.2 ht
    unfold pot at hp ⊢
    simp only [List.length_append, List.length_cons, List.length_nil]
    omega
/-- A comment is appended, at the end of what is read. -/
theorem DX.cmtPack {s : List UInt8} {K : Nat → Prop} {X : World} {p : Nat} {y : TS} (hX : DX s K X p y) (hy : y.text = []) (hn : y.toks.length ≤ 1000000000) (D : List UInt8) (a : Nat) :
    ∃ ta tc, X.drew.cell? ⟨p, 2, none⟩ = some (.slice ta y.toks.length tc) ∧ (X.alloc (.cells #[.int .u8 4, .string ⟨#[]⟩, .slice none 0 0, .bool false, sv (cleanL D), .int .i64 (a : Int)] 43)).drew.cell? ⟨p, 2, none⟩ = some (.slice ta y.toks.length tc) ∧ (X.alloc (.cells #[.int .u8 4, .string ⟨#[]⟩, .slice none 0 0, .bool false, sv (cleanL D), .int .i64 (a : Int)] 43)).cell? ⟨p, 2, none⟩ = some (.slice ta y.toks.length tc) ∧
      ∃ ta' tc' w', (Builtin.append_ #[24, 24] 24 #[.slice ta y.toks.length tc, .slice (some ⟨X.drew.heap.size, 0, none⟩) 1 1]).run Try.prog (X.drew.alloc (.cells #[.int .u8 4, .string ⟨#[]⟩, .slice none 0 0, .bool false, sv (cleanL D), .int .i64 (a : Int)] 43)) = .ok (.slice ta' (y.toks.length + 1) tc') w' ∧
      w'.cell? ⟨p, 2, none⟩ = some (.slice ta y.toks.length tc) ∧ w'.frozen? ⟨p, 2, none⟩ = false ∧ DX s K (w'.setCell ⟨p, 2, none⟩ (.slice ta' (y.toks.length + 1) tc')) p (y.cmt D a) ∧ Kept K X (w'.setCell ⟨p, 2, none⟩ (.slice ta' (y.toks.length + 1) tc')) := by
  obtain ⟨ta, tc, c2, c2a, ta', tc', w', hr, e2, g2, hY, kY⟩ := hX.drew.app4 hn (cleanL D) a
  refine ⟨ta, tc, c2, c2a, c2a, ta', tc', w', hr, e2, g2, ?_, (Kept.refl K X).drew.trans kY⟩
  rw [cmt0 hy]
  exact hY
theorem looks_regrown (s : List UInt8) (K : Nat → Prop) (p : Nat) (st : TS) (w : World) (h : DX s K w p st) (hs : s.length ≤ 1000000) (t : List UInt8) (ht : t.length < 10000) (d : Nat) (os : Array Obj) :
    Calls Try.prog 32 #[.pointer (some ⟨p, 0, none⟩), sv t] (grow (redrawn w d) os) fun e w'' => e = .returned (.bool (lkL t st.rest)) ∧ ∃ q : Regrown, w'' = grow (redrawn w q.d) q.os :=
  Calls.regrown_of ((dlooks0 s K p st _ (h.kept (Kept.regrown (fun _ h => h) d os)) hs t ht).mono fun _ _ ⟨h1, h2⟩ => ⟨h1, h2.below⟩)
theorem DX.regrown {s : List UInt8} {K : Nat → Prop} {w : World} {p : Nat} {st : TS} (h : DX s K w p st) (d : Nat) (os : Array Obj) : DX s K (grow (redrawn w d) os) p st := h.kept (Kept.regrown (fun _ h => h) d os)
theorem find_gt1 {r : List UInt8} (h : pre [62] r = true) : upTo (hdIn [62]) r = 0 := by
  cases r with
  | nil => rfl
  | cons c r =>
    have : c = 62 := by
      have h' : ((62 : UInt8) == c && pre [] r) = true := h
      rw [Bool.and_eq_true] at h'
      exact (by simpa using h'.1 : (62 : UInt8) = c).symm
    rw [this, upTo_cons]
    exact if_pos rfl
theorem find_gt2 {r : List UInt8} (h : pre [45, 62] r = true) : upTo (hdIn [62]) r = 1 := by
  cases r with
  | nil => cases h
  | cons c r =>
    have h' : ((45 : UInt8) == c && pre [62] r) = true := h
    rw [Bool.and_eq_true] at h'
    have hc : c = 45 := (by simpa using h'.1 : (45 : UInt8) = c).symm
    rw [upTo_cons, hc, if_neg (by show ¬ ([62] : List UInt8).contains 45 = true; decide), find_gt1 h'.2]
theorem nl (t : List UInt8) (h : (t.all fun c => !letterP c) = true) (l : List UInt8) : lkL t l = pre t l := lk_pre t l fun c hc => by
  have := List.all_eq_true.1 h c hc
  simpa using this

set_option maxRecDepth 20000 in
set_option maxHeartbeats 40000000 in
theorem dcomment (s : List UInt8) (K : Nat → Prop) (p : Nat) (st : TS) (w : World) (h : DX s K w p st) (hs : s.length < 100000) (hp : pot st ≤ 900000000) (hn : 4 ≤ st.rest.length) :
    Calls Try.prog 33 #[.pointer (some ⟨p, 0, none⟩)] w fun e w' => e = .returned (.tuple #[]) ∧ DX s K w' p ((st.cut 4).comment st.pl) ∧ Kept K w w' := by
  have hlen := h.len
  have hE := endT_rest st
  have hpE := pot_endT hp
  have r1 := ddone s K p st w h (by omega)
  obtain ⟨a, ha⟩ : ∃ a, st.pl = a := ⟨_, rfl⟩
  obtain ⟨y, hy⟩ : ∃ y, st.endT.cut 4 = y := ⟨_, rfl⟩
  have hyt : y.text = [] := by rw [← hy]; exact endT_text st
  have hyp : y.pl = a + 4 := by rw [← hy, ← ha]; show st.endT.pl + 4 = _; rw [hE.2]
  have hyr : y.rest.length + 4 = st.rest.length := by rw [← hy]; show (st.endT.rest.drop 4).length + 4 = _; rw [hE.1, List.length_drop]; omega
  have hypot : pot y ≤ 900000000 := by
    rw [← hy]
    unfold pot at hpE ⊢
    show st.endT.toks.length + st.endT.flts.length + st.endT.text.length + 16 * (st.endT.rest.drop 4).length ≤ _
    rw [List.length_drop]
    omega
  have HZ : Hid ((st.cut 4).comment st.pl = y.comment a) := by
    show _ = _
    rw [← comment_endT, ← cut_endT, hy, ha]
  have HC : Hid (∀ X, DX s K X p st.endT → X.cell? ⟨p, 1, none⟩ = some (.int .i64 (a : Int)) ∧ X.frozen? ⟨p, 1, none⟩ = false ∧ DX s K (X.setCell ⟨p, 1, none⟩ (.int .i64 ((a : Int) + 4))) p y ∧ Kept K X (X.setCell ⟨p, 1, none⟩ (.int .i64 ((a : Int) + 4)))) := by
    intro X hX
    have c1 := hX.cells.2.1
    rw [hE.2, ha] at c1
    obtain ⟨q1, q2⟩ := hX.cutAt (m := 4) (by rw [hE.1]; exact hn) (n := (a : Int) + 4) (by rw [hE.2, ha]; omega)
    rw [hy] at q1
    exact ⟨c1, hX.cells.2.2 1, q1, q2⟩
  rw [HZ.out]
  have ha4 : a + 4 ≤ 100000 := by omega
  rw [ha] at hlen
  obtain ⟨z, hz⟩ : ∃ z, y.comment a = z := ⟨_, rfl⟩
  rw [hz]
  have hz : Hid (y.comment a = z) := hz
  clear h hE hp hpE HZ hn ha hy
  have HY : Hid (y.text = [] ∧ y.pl = a + 4 ∧ pot y ≤ 900000000) := ⟨hyt, hyp, hypot⟩
  clear hyt hypot
  have hyl : y.rest.length < 100000 := by omega
  go_enter Try.func33, Try.ntmps33
  go_wp2_with fail
  refine r1.mono ?_
  rintro e w1 ⟨rfl, x1, k1⟩
  obtain ⟨c1, f1, x2, k2⟩ := HC.out w1 x1
  obtain ⟨W, hW⟩ : ∃ W, w1.setCell ⟨p, 1, none⟩ (.int .i64 ((a : Int) + 4)) = W := ⟨_, rfl⟩
  have HW : Hid (w1.setCell ⟨p, 1, none⟩ (.int .i64 ((a : Int) + 4)) = W) := hW
  rw [hW] at x2 k2
  have kW : Hid (Kept K w W) := k1.trans k2
  have l1 := dlooks s K p y W x2 (by omega) [62] (by decide)
  rw [nl [62] (by decide)] at l1
  clear r1 x1 k1 k2 HC hW
  go_upto_region 4 with fail
  rw [HW.out]
  clear HW c1 f1
  by_cases q1 : pre [62] y.rest = true
  · rw [q1] at l1
    have HZ : Hid (y.comment a = ((y.cut 1).flt 7 a).cmt [] a) := by show _ = _; unfold TS.comment; rw [if_pos q1]
    have hfnd := find_gt1 q1
    have hlong : 1 ≤ y.rest.length := pre_length q1
    have l3 : True := trivial
    replace l3 := fun X hX => dfault s K p y X hX (by have := HY.out.2.2; omega) 7 a
    have l4 := fun X hX => dfind s K p (y.flt 7 a) X hX (by omega) 62 (a + 4) (by omega)
    have e4 : s.drop (a + 4) = y.rest := by rw [← hyp]; exact x2.2.2.1.2.symm
    rw [e4, hfnd] at l4
    obtain ⟨v, hv⟩ : ∃ v, a + 4 + 0 = v := ⟨_, rfl⟩
    replace l4 : ∀ X, DX s K X p (y.flt 7 a) → Calls Try.prog 53 #[.pointer (some ⟨p, 0, none⟩), .int .u8 62, .int .i64 ((a : Int) + 4)] X fun e w' => e = .returned (.int .i64 (v : Int)) ∧ w' = X := by
      intro X hX
      have := l4 X hX
      rw [← hv]
      exact this
    have HP : Hid (∀ X, DX s K X p (y.flt 7 a) → X.frozen? ⟨p, 1, none⟩ = false ∧ X.cell? ⟨p, 1, none⟩ = some (.int .i64 ((a : Int) + 4)) ∧ DX s K (X.setCell ⟨p, 1, none⟩ (.int .i64 ((v : Int) + 1))) p ((y.flt 7 a).cut 1) ∧ Kept K X (X.setCell ⟨p, 1, none⟩ (.int .i64 ((v : Int) + 1)))) := by
      intro X hX
      obtain ⟨z1, z2⟩ := hX.cutAt (m := 1) (by show _ ≤ y.rest.length; exact hlong) (n := (v : Int) + 1) (by show _ = ((y.pl + _ : Nat) : Int); rw [hyp]; omega)
      have c1 := hX.cells.2.1
      have e : (y.flt 7 a).pl = y.pl := rfl
      rw [e, hyp] at c1
      exact ⟨hX.cells.2.2 1, c1, z1, z2⟩
    have HQ : Hid (∀ X, DX s K X p ((y.flt 7 a).cut 1) → ∃ ta tc, X.cell? ⟨p, 2, none⟩ = some (.slice ta y.toks.length tc) ∧ ∃ ta' tc' w', (Builtin.append_ #[24, 24] 24 #[.slice ta y.toks.length tc, .slice (some ⟨X.heap.size, 0, none⟩) 1 1]).run Try.prog (X.alloc (.cells #[.int .u8 4, .string ⟨#[]⟩, .slice none 0 0, .bool false, .string ⟨#[]⟩, .int .i64 (a : Int)] 43)) = .ok (.slice ta' (y.toks.length + 1) tc') w' ∧
        w'.cell? ⟨p, 2, none⟩ = some (.slice ta y.toks.length tc) ∧ w'.frozen? ⟨p, 2, none⟩ = false ∧ DX s K (w'.setCell ⟨p, 2, none⟩ (.slice ta' (y.toks.length + 1) tc')) p (y.comment a) ∧ Kept K X (w'.setCell ⟨p, 2, none⟩ (.slice ta' (y.toks.length + 1) tc'))) := by
      intro X hX
      obtain ⟨ta, tc, c2, -, ta', tc', w', hr, e2, g2, hY, kY⟩ := hX.app4e (by have := HY.out.2.2; unfold pot at this; show y.toks.length ≤ _; omega) a
      refine ⟨ta, tc, c2, ta', tc', w', hr, e2, g2, ?_, kY⟩
      have e : y.comment a = { ((y.flt 7 a).cut 1) with toks := ((y.flt 7 a).cut 1).toks ++ [⟨4, [], [], false, [], a⟩] } := by
        rw [HZ.out]
        have ht : ((y.cut 1).flt 7 a).text = [] := HY.out.1
        rw [cmt0 ht]
        rfl
      rw [e]
      exact hY
    rw [hz.out] at HQ
    obtain ⟨yf, hyf⟩ : ∃ z, y.flt 7 a = z := ⟨_, rfl⟩
    simp only [hyf] at l3 l4 HP HQ
    obtain ⟨k, hk⟩ : ∃ k, y.toks.length = k := ⟨_, rfl⟩
    simp only [hk] at HQ
    have hvs : v < 100010 := by omega
    clear HZ hfnd hlong e4 hyp hyr hz hyf hk q1 hlen hs ha4 hyl x2 hv
    go_wp2_with fail
    refine l1.mono ?_
    rintro e w5 ⟨rfl, x5, k5⟩
    clear l1
    go_wp2_with fail
    refine (l3 _ x5).mono ?_
    rintro e w6 ⟨rfl, x6, k6⟩
    obtain ⟨f6, c6, x7, k7⟩ := HP.out w6 x6
    replace l4 := l4 w6 x6
    obtain ⟨W7, hW7⟩ : ∃ W, w6.setCell ⟨p, 1, none⟩ (.int .i64 ((v : Int) + 1)) = W := ⟨_, rfl⟩
    have HW7 : Hid (w6.setCell ⟨p, 1, none⟩ (.int .i64 ((v : Int) + 1)) = W7) := hW7
    rw [hW7] at x7 k7
    obtain ⟨ta, tc, c2, ta', tc', w', hr, e2, g2, hY, kY⟩ := HQ.out W7 x7
    have HF : Hid (DX s K (w'.setCell ⟨p, 2, none⟩ (.slice ta' (k + 1) tc')) p z ∧ Kept K w (w'.setCell ⟨p, 2, none⟩ (.slice ta' (k + 1) tc'))) := ⟨hY, (((kW.out.trans k5).trans k6).trans k7).trans kY⟩
    clear HP HQ x6 k6 x7 k7 hW7 hY kY x5 k5 kW l3 HY
    go_wp2_with fail
    refine l4.mono ?_
    rintro e w8 ⟨rfl, rfl⟩
    clear l4
    go_upto_region 7 with fail
    rw [HW7.out]
    clear HW7 c6 f6
    go_wp2_with (at_builtin; refine wpList_appR (w' := w') rfl (.tmp 37) (.tmp 40) 24 24 rfl _ _ (.slice ta' (k + 1) tc') rfl rfl hr ?_)
    go_wp2
    refine bodyPost_ret (results_none rfl _ _ _) rfl ?_
    exact ⟨rfl, HF.out.1, HF.out.2⟩
  · replace q1 : pre [62] y.rest = false := by simpa using q1
    rw [q1] at l1
    have l2 := fun X hX => dlooks s K p y X hX (by omega) [45, 62] (by decide)
    rw [nl [45, 62] (by decide)] at l2
    by_cases q2 : pre [45, 62] y.rest = true
    · rw [q2] at l2
      have HZ : Hid (y.comment a = ((y.cut 2).flt 7 a).cmt [] a) := by show _ = _; unfold TS.comment; rw [q1, if_neg (by decide), if_pos q2]
      have hfnd := find_gt2 q2
      have hlong : 2 ≤ y.rest.length := pre_length q2
      have l3 : True := trivial
      replace l3 := fun X hX => dfault s K p y X hX (by have := HY.out.2.2; omega) 7 a
      have l4 := fun X hX => dfind s K p (y.flt 7 a) X hX (by omega) 62 (a + 4) (by omega)
      have e4 : s.drop (a + 4) = y.rest := by rw [← hyp]; exact x2.2.2.1.2.symm
      rw [e4, hfnd] at l4
      obtain ⟨v, hv⟩ : ∃ v, a + 4 + 1 = v := ⟨_, rfl⟩
      replace l4 : ∀ X, DX s K X p (y.flt 7 a) → Calls Try.prog 53 #[.pointer (some ⟨p, 0, none⟩), .int .u8 62, .int .i64 ((a : Int) + 4)] X fun e w' => e = .returned (.int .i64 (v : Int)) ∧ w' = X := by
        intro X hX
        have := l4 X hX
        rw [← hv]
        exact this
      have HP : Hid (∀ X, DX s K X p (y.flt 7 a) → X.frozen? ⟨p, 1, none⟩ = false ∧ X.cell? ⟨p, 1, none⟩ = some (.int .i64 ((a : Int) + 4)) ∧ DX s K (X.setCell ⟨p, 1, none⟩ (.int .i64 ((v : Int) + 1))) p ((y.flt 7 a).cut 2) ∧ Kept K X (X.setCell ⟨p, 1, none⟩ (.int .i64 ((v : Int) + 1)))) := by
        intro X hX
        obtain ⟨z1, z2⟩ := hX.cutAt (m := 2) (by show _ ≤ y.rest.length; exact hlong) (n := (v : Int) + 1) (by show _ = ((y.pl + _ : Nat) : Int); rw [hyp]; omega)
        have c1 := hX.cells.2.1
        have e : (y.flt 7 a).pl = y.pl := rfl
        rw [e, hyp] at c1
        exact ⟨hX.cells.2.2 1, c1, z1, z2⟩
      have HQ : Hid (∀ X, DX s K X p ((y.flt 7 a).cut 2) → ∃ ta tc, X.cell? ⟨p, 2, none⟩ = some (.slice ta y.toks.length tc) ∧ ∃ ta' tc' w', (Builtin.append_ #[24, 24] 24 #[.slice ta y.toks.length tc, .slice (some ⟨X.heap.size, 0, none⟩) 1 1]).run Try.prog (X.alloc (.cells #[.int .u8 4, .string ⟨#[]⟩, .slice none 0 0, .bool false, .string ⟨#[]⟩, .int .i64 (a : Int)] 43)) = .ok (.slice ta' (y.toks.length + 1) tc') w' ∧
          w'.cell? ⟨p, 2, none⟩ = some (.slice ta y.toks.length tc) ∧ w'.frozen? ⟨p, 2, none⟩ = false ∧ DX s K (w'.setCell ⟨p, 2, none⟩ (.slice ta' (y.toks.length + 1) tc')) p (y.comment a) ∧ Kept K X (w'.setCell ⟨p, 2, none⟩ (.slice ta' (y.toks.length + 1) tc'))) := by
        intro X hX
        obtain ⟨ta, tc, c2, -, ta', tc', w', hr, e2, g2, hY, kY⟩ := hX.app4e (by have := HY.out.2.2; unfold pot at this; show y.toks.length ≤ _; omega) a
        refine ⟨ta, tc, c2, ta', tc', w', hr, e2, g2, ?_, kY⟩
        have e : y.comment a = { ((y.flt 7 a).cut 2) with toks := ((y.flt 7 a).cut 2).toks ++ [⟨4, [], [], false, [], a⟩] } := by
          rw [HZ.out]
          have ht : ((y.cut 2).flt 7 a).text = [] := HY.out.1
          rw [cmt0 ht]
          rfl
        rw [e]
        exact hY
      rw [hz.out] at HQ
      obtain ⟨yf, hyf⟩ : ∃ z, y.flt 7 a = z := ⟨_, rfl⟩
      simp only [hyf] at l3 l4 HP HQ
      obtain ⟨k, hk⟩ : ∃ k, y.toks.length = k := ⟨_, rfl⟩
      simp only [hk] at HQ
      have hvs : v < 100010 := by omega
      clear HZ hfnd hlong e4 hyp hyr hz hyf hk q1 q2 hlen hs ha4 hyl x2 hv
      go_wp2_with fail
      refine l1.mono ?_
      rintro e w4 ⟨rfl, x4, k4⟩
      replace l2 := l2 w4 x4
      clear l1
      go_wp2_with fail
      refine l2.mono ?_
      rintro e w5 ⟨rfl, x5, k5'⟩
      have k5 := k4.trans k5'
      clear l2 x4 k4 k5'
      go_wp2_with fail
      refine (l3 _ x5).mono ?_
      rintro e w6 ⟨rfl, x6, k6⟩
      obtain ⟨f6, c6, x7, k7⟩ := HP.out w6 x6
      replace l4 := l4 w6 x6
      obtain ⟨W7, hW7⟩ : ∃ W, w6.setCell ⟨p, 1, none⟩ (.int .i64 ((v : Int) + 1)) = W := ⟨_, rfl⟩
      have HW7 : Hid (w6.setCell ⟨p, 1, none⟩ (.int .i64 ((v : Int) + 1)) = W7) := hW7
      rw [hW7] at x7 k7
      obtain ⟨ta, tc, c2, ta', tc', w', hr, e2, g2, hY, kY⟩ := HQ.out W7 x7
      have HF : Hid (DX s K (w'.setCell ⟨p, 2, none⟩ (.slice ta' (k + 1) tc')) p z ∧ Kept K w (w'.setCell ⟨p, 2, none⟩ (.slice ta' (k + 1) tc'))) := ⟨hY, (((kW.out.trans k5).trans k6).trans k7).trans kY⟩
      clear HP HQ x6 k6 x7 k7 hW7 hY kY x5 k5 kW l3 HY
      go_wp2_with fail
      refine l4.mono ?_
      rintro e w8 ⟨rfl, rfl⟩
      clear l4
      go_upto_region 7 with fail
      rw [HW7.out]
      clear HW7 c6 f6
      go_wp2_with (at_builtin; refine wpList_appR (w' := w') rfl (.tmp 37) (.tmp 40) 24 24 rfl _ _ (.slice ta' (k + 1) tc') rfl rfl hr ?_)
      go_wp2
      refine bodyPost_ret (results_none rfl _ _ _) rfl ?_
      exact ⟨rfl, HF.out.1, HF.out.2⟩
    · replace q2 : pre [45, 62] y.rest = false := by simpa using q2
      rw [q2] at l2
      obtain ⟨R, hR⟩ : ∃ R, y.cutTo endsC = R := ⟨_, rfl⟩
      obtain ⟨D, hDe⟩ : ∃ D, y.front endsC = D := ⟨_, rfl⟩
      have HZ : Hid (y.comment a = (R.cmtEnd a).cmt D a) := by show _ = _; unfold TS.comment; rw [q1, if_neg (by decide), q2, if_neg (by decide), hR, hDe]
      rw [hz.out] at HZ
      obtain ⟨S, hS⟩ : ∃ S : ByteArray, (⟨s.toArray⟩ : ByteArray) = S := ⟨_, rfl⟩
      have sS : S.size = s.length := by rw [← hS]; exact sv_size _
      obtain ⟨fr, hfr⟩ : ∃ fr, a + 4 = fr := ⟨_, rfl⟩
      have hat : (a : Int) + 4 = (fr : Int) := by omega
      have hD := front_extract x2 endsC
      rw [hR, hS, hDe, hyp, hfr] at hD
      have hDl : D.length < 100000 := by rw [← hDe]; unfold TS.front; rw [List.length_take]; omega
      have r4 := fun X => rclean_any ⟨D.toArray⟩ (by rw [sv_size]; exact hDl) X
      have hRf : fr ≤ R.pl := by rw [← hR, ← hfr, ← hyp]; exact Nat.le_add_right _ _
      have hRb : pot R ≤ 900000000 ∧ R.text = [] := by
        rw [← hR]
        refine ⟨?_, HY.out.1⟩
        have := HY.out.2.2
        unfold pot at this ⊢
        show y.toks.length + y.flts.length + y.text.length + 16 * (y.rest.drop _).length ≤ _
        rw [List.length_drop]
        omega
      have HR : Hid (pot R ≤ 900000000 ∧ R.text = []) := hRb
      have HST : Hid (y.cutTo endsC = R) := hR
      have HS : Hid ((⟨s.toArray⟩ : ByteArray) = S) := hS
      have HSS : Hid (S.size = s.length) := sS
      have hzS : S.size < 100000 := by omega
      clear hz q1 q2 hDe hDl hS sS hRb HY hyp hyr hR hfr hlen ha4 x2
      go_wp2_with fail
      refine l1.mono ?_
      rintro e w4 ⟨rfl, x4, k4⟩
      replace l2 := l2 w4 x4
      clear l1
      go_wp2_with fail
      refine l2.mono ?_
      rintro e w5 ⟨rfl, x5, k5'⟩
      have k5 : Hid (Kept K w w5) := kW.out.trans (k4.trans k5')
      clear l2 x4 k4 k5' kW
      have HX5 : Hid (DX s K w5 p y) := x5
      clear x5
      go_wp2_with fail
      go_loopg [44] y.rest.length (fun gm v wr => ∃ st' : TS, gm = st'.rest.length ∧ st'.cutTo endsC = R ∧ DX s K wr p st' ∧ Kept K w wr)
      case atStart => exact ⟨y, rfl, HST.out, HX5.out, k5.out⟩
      case round =>
        clear HST HX5 k5
        obtain ⟨st', hgm, hR, hX, kp⟩ := hrel
        obtain ⟨c0, c1, fz⟩ := hX.cells
        have f1 := fz 1
        replace c0 : wr.cell? ⟨p, 0, none⟩ = some (.string S) := by rw [← HS.out]; exact c0
        have hlen := hX.len
        rw [← HSS.out] at hlen
        have HKp : Hid (Kept K w wr) := kp
        clear kp
        by_cases hE : st'.rest = []
        · have hpS : st'.pl = S.size := by rw [hE] at hlen; simp only [List.length_nil] at hlen; omega
          have e1 : decide ((st'.pl : Int) < (S.size : Int)) = false := decide_eq_false (by omega)
          have n1 : ¬ st'.pl < S.size := by omega
          have n2 : st'.pl ≤ S.size := by omega
          have e2 : ((st'.pl : Int) == (S.size : Int)) = true := by rw [hpS]; simp
          rw [cutTo_here (.inl hE)] at hR
          subst hR
          have l6 := fun X hX => dfault s K p st' X hX (by have := HR.out.1; omega) 6 st'.pl
          have HP : Hid (∀ X, DX s K X p (st'.flt 6 st'.pl) → ∃ ta tc, X.drew.cell? ⟨p, 2, none⟩ = some (.slice ta st'.toks.length tc) ∧ (X.alloc (.cells #[.int .u8 4, .string ⟨#[]⟩, .slice none 0 0, .bool false, sv (cleanL D), .int .i64 (a : Int)] 43)).drew.cell? ⟨p, 2, none⟩ = some (.slice ta st'.toks.length tc) ∧ (X.alloc (.cells #[.int .u8 4, .string ⟨#[]⟩, .slice none 0 0, .bool false, sv (cleanL D), .int .i64 (a : Int)] 43)).cell? ⟨p, 2, none⟩ = some (.slice ta st'.toks.length tc) ∧
              ∃ ta' tc' w', (Builtin.append_ #[24, 24] 24 #[.slice ta st'.toks.length tc, .slice (some ⟨X.drew.heap.size, 0, none⟩) 1 1]).run Try.prog (X.drew.alloc (.cells #[.int .u8 4, .string ⟨#[]⟩, .slice none 0 0, .bool false, sv (cleanL D), .int .i64 (a : Int)] 43)) = .ok (.slice ta' (st'.toks.length + 1) tc') w' ∧
              w'.cell? ⟨p, 2, none⟩ = some (.slice ta st'.toks.length tc) ∧ w'.frozen? ⟨p, 2, none⟩ = false ∧ DX s K (w'.setCell ⟨p, 2, none⟩ (.slice ta' (st'.toks.length + 1) tc')) p z ∧ Kept K X (w'.setCell ⟨p, 2, none⟩ (.slice ta' (st'.toks.length + 1) tc'))) := by
            intro X hX
            have := hX.cmtPack HR.out.2 (by have := HR.out.1; unfold pot at this; show st'.toks.length ≤ _; omega) D a
            rw [HZ.out]
            unfold TS.cmtEnd
            rw [if_pos hE]
            exact this
          obtain ⟨k, hk⟩ : ∃ k, st'.toks.length = k := ⟨_, rfl⟩
          simp only [hk] at HP
          have HX : Hid (∀ m, DX s K (wr.drewN m) p st') := fun m => hX.drewN m
          obtain ⟨b, hb⟩ : ∃ b, st'.pl = b := ⟨_, rfl⟩
          simp only [hb] at c1 e1 n1 n2 e2 hRf hD l6
          obtain ⟨sf, hsf⟩ : ∃ x, st'.flt 6 st'.pl = x := ⟨_, rfl⟩
          rw [hb] at hsf
          rw [hb] at HP
          simp only [hsf] at l6 HP
          clear hX hE hlen hb hgm HS HSS fz f1 hk hsf hpS HR HZ
          go_wp2_with fail
          go_quiet (fail)
          go_wp2_with fail
          go_quiet (fail)
          go_wp2_with fail
          go_quiet (fail)
          go_wp2_with fail
          have HX0 := HX.out 0
          refine Calls.mono (l6 _ (by repeat (first | exact HX.out _ | exact HX0 | refine DX.drewN ?_ _))) ?_
          rintro e w8 ⟨rfl, x8, k8⟩
          replace k8 := Kept.trans (show Kept K w _ by repeat (first | exact HKp.out | refine Kept.drewN ?_ _)) k8
          obtain ⟨ta, tc, p2, p2a, p2c, ta', tc', w', hr, q2, g2, hY, kY⟩ := HP.out w8 x8
          have HF : Hid (DX s K (w'.setCell ⟨p, 2, none⟩ (.slice ta' (k + 1) tc')) p z ∧ Kept K w (w'.setCell ⟨p, 2, none⟩ (.slice ta' (k + 1) tc'))) := ⟨hY, k8.trans kY⟩
          clear HP x8 k8 hY kY HX HX0 HKp l6 hD c0 c1 e1 e2 n1 n2
          go_wp2_with fail
          go_region_law (first | (refine step_call rfl 54 #[.tmp 121] #[9] rfl #[.string ⟨D.toArray⟩] (by first | (simp [Act.eval]; done) | (simp [Act.eval, Act.put]; done)) (enter54 _ _) (sv (cleanL D)) _ (r4 _) ?_; rintro w20 rfl) | (refine step_appR (w' := w') rfl (.tmp 120) (.tmp 125) 24 24 rfl _ _ (.slice ta' (k + 1) tc') rfl rfl hr ?_))
          all_goals
            go_wp2
            go_end0
            exact ⟨rfl, HF.out.1, HF.out.2⟩
        · obtain ⟨c, r, hcr⟩ : ∃ c r, st'.rest = c :: r := by cases hh : st'.rest with | nil => exact absurd hh hE | cons c r => exact ⟨c, r, rfl⟩
          have hpS : st'.pl < S.size := by rw [hcr] at hlen; simp only [List.length_cons] at hlen; omega
          have e1 : decide ((st'.pl : Int) < (S.size : Int)) = true := decide_eq_true (by omega)
          have e2 : ((st'.pl : Int) == (S.size : Int)) = false := by simp; omega
          have n2 : st'.pl ≤ S.size := by omega
          have le1 := looks_regrown s K p st' wr hX (by have := HSS.out; omega) [45, 45, 62] (by decide)
          have le2 := looks_regrown s K p st' wr hX (by have := HSS.out; omega) [45, 45, 33, 62] (by decide)
          rw [nl [45, 45, 62] (by decide)] at le1
          rw [nl [45, 45, 33, 62] (by decide)] at le2
          have c0r := fun d os => cell_regrown c0 d os
          have c1r := fun d os => cell_regrown c1 d os
          have HEC : Hid (endsC st'.rest = (pre [45, 45, 62] st'.rest || pre [45, 45, 33, 62] st'.rest)) := rfl
          by_cases q3 : pre [45, 45, 62] st'.rest = true
          · rw [q3] at le1 HEC
            rw [cutTo_here (.inr (by rw [HEC.out]; rfl))] at hR
            subst hR
            have l7 := fun X hX => dlooks s K p st' X hX (by have := HSS.out; omega) [45, 45, 62] (by decide)
            rw [nl [45, 45, 62] (by decide), q3] at l7
            have hl3 : 3 ≤ st'.rest.length := pre_length q3
            have HP : Hid (∀ X, DX s K X p (st'.cut 3) → ∃ ta tc, X.drew.cell? ⟨p, 2, none⟩ = some (.slice ta st'.toks.length tc) ∧ (X.alloc (.cells #[.int .u8 4, .string ⟨#[]⟩, .slice none 0 0, .bool false, sv (cleanL D), .int .i64 (a : Int)] 43)).drew.cell? ⟨p, 2, none⟩ = some (.slice ta st'.toks.length tc) ∧ (X.alloc (.cells #[.int .u8 4, .string ⟨#[]⟩, .slice none 0 0, .bool false, sv (cleanL D), .int .i64 (a : Int)] 43)).cell? ⟨p, 2, none⟩ = some (.slice ta st'.toks.length tc) ∧
                ∃ ta' tc' w', (Builtin.append_ #[24, 24] 24 #[.slice ta st'.toks.length tc, .slice (some ⟨X.drew.heap.size, 0, none⟩) 1 1]).run Try.prog (X.drew.alloc (.cells #[.int .u8 4, .string ⟨#[]⟩, .slice none 0 0, .bool false, sv (cleanL D), .int .i64 (a : Int)] 43)) = .ok (.slice ta' (st'.toks.length + 1) tc') w' ∧
                w'.cell? ⟨p, 2, none⟩ = some (.slice ta st'.toks.length tc) ∧ w'.frozen? ⟨p, 2, none⟩ = false ∧ DX s K (w'.setCell ⟨p, 2, none⟩ (.slice ta' (st'.toks.length + 1) tc')) p z ∧ Kept K X (w'.setCell ⟨p, 2, none⟩ (.slice ta' (st'.toks.length + 1) tc'))) := by
              intro X hX
              have := hX.cmtPack HR.out.2 (by have := HR.out.1; unfold pot at this; show st'.toks.length ≤ _; omega) D a
              rw [HZ.out]
              unfold TS.cmtEnd
              rw [if_neg hE, if_pos q3]
              exact this
            have HC : Hid (∀ X, DX s K X p st' → X.cell? ⟨p, 1, none⟩ = some (.int .i64 (st'.pl : Int)) ∧ X.frozen? ⟨p, 1, none⟩ = false ∧ DX s K (X.setCell ⟨p, 1, none⟩ (.int .i64 ((st'.pl : Int) + 3))) p (st'.cut 3) ∧ Kept K X (X.setCell ⟨p, 1, none⟩ (.int .i64 ((st'.pl : Int) + 3)))) := by
              intro X hX
              obtain ⟨q1, q2⟩ := hX.cutAt (m := 3) hl3 (n := (st'.pl : Int) + 3) (by omega)
              exact ⟨hX.cells.2.1, hX.cells.2.2 1, q1, q2⟩
            obtain ⟨k, hk⟩ : ∃ k, st'.toks.length = k := ⟨_, rfl⟩
            simp only [hk] at HP
            have HX : Hid (∀ d os, DX s K (grow (redrawn wr d) os) p st' ∧ Kept K w (grow (redrawn wr d) os)) := fun d os => ⟨hX.regrown d os, HKp.out.trans ((Kept.regrown (fun _ h => h) d os).mono hX.lt)⟩
            obtain ⟨b, hb⟩ : ∃ b, st'.pl = b := ⟨_, rfl⟩
            simp only [hb] at c1 c1r e1 e2 n2 hRf hD HC hpS
            obtain ⟨s3, hs3⟩ : ∃ x, st'.cut 3 = x := ⟨_, rfl⟩
            simp only [hs3] at HP HC
            have HSv : Hid ((⟨s.toArray⟩ : ByteArray) = S) := HS.out
            have HB : Hid (st'.pl = b) := hb
            clear hX hE hlen hb hgm HS HSS fz f1 hk hs3 HR HZ hcr q3 HEC hl3 le2
            go_wp2_with fail
            refine wp_region_quiet_below (by kernel_rfl) (by kernel_rfl) ?_
            repeat (go_big_quiet_step (exact le1 _ _))
            refine wpQuiet_nil ?_
            intro wq hw'
            obtain ⟨xq, kq⟩ : DX s K wq p st' ∧ Kept K w wq := by
              obtain ⟨⟨dq, osq⟩, hw''⟩ := hw'
              rw [hw'']
              exact HX.out dq osq
            have d0 : wq.cell? ⟨p, 0, none⟩ = some (.string S) := by rw [← HSv.out]; exact xq.cells.1
            have d1 : wq.cell? ⟨p, 1, none⟩ = some (.int .i64 (b : Int)) := by have := xq.cells.2.1; rw [HB.out] at this; exact this
            clear hw' HX c0 c1 c0r c1r le1 HKp HB HSv
            go_wp2_with fail
            go_quiet (fail)
            go_wp2_with fail
            go_quiet (fail)
            go_wp2_with fail
            refine Calls.mono (l7 _ (by repeat (first | exact xq | refine DX.drewN ?_ _))) ?_
            rintro e w9 ⟨rfl, x9, k9⟩
            have k9' : Kept K w w9 := Kept.trans (show Kept K w _ by repeat (first | exact kq | refine Kept.drewN ?_ _)) k9
            obtain ⟨g1, g2', x10, k10⟩ := HC.out w9 x9
            obtain ⟨W, hW⟩ : ∃ W, w9.setCell ⟨p, 1, none⟩ (.int .i64 ((b : Int) + 3)) = W := ⟨_, rfl⟩
            have HW : Hid (w9.setCell ⟨p, 1, none⟩ (.int .i64 ((b : Int) + 3)) = W) := hW
            rw [hW] at x10 k10
            obtain ⟨ta, tc, p2, p2a, p2c, ta', tc', w', hr, q2, g2, hY, kY⟩ := HP.out W x10
            have HF : Hid (DX s K (w'.setCell ⟨p, 2, none⟩ (.slice ta' (k + 1) tc')) p z ∧ Kept K w (w'.setCell ⟨p, 2, none⟩ (.slice ta' (k + 1) tc'))) := ⟨hY, (k9'.trans k10).trans kY⟩
            clear HP x9 k9 k9' hY kY x10 k10 hW xq kq l7 HC d0 d1 hD e1 e2 n2
            go_upto_region 17 with fail
            rw [HW.out]
            clear HW g1 g2'
            go_region_law (first | (refine step_call rfl 54 #[.tmp 121] #[9] rfl #[.string ⟨D.toArray⟩] (by first | (simp [Act.eval]; done) | (simp [Act.eval, Act.put]; done)) (enter54 _ _) (sv (cleanL D)) _ (r4 _) ?_; rintro w20 rfl) | (refine step_appR (w' := w') rfl (.tmp 120) (.tmp 125) 24 24 rfl _ _ (.slice ta' (k + 1) tc') rfl rfl hr ?_))
            all_goals
              go_wp2
              go_end0
              exact ⟨rfl, HF.out.1, HF.out.2⟩
          · replace q3 : pre [45, 45, 62] st'.rest = false := by simpa using q3
            rw [q3] at le1 HEC
            by_cases q4 : pre [45, 45, 33, 62] st'.rest = true
            · rw [q4] at le2 HEC
              rw [cutTo_here (.inr (by rw [HEC.out]; rfl))] at hR
              subst hR
              have l7 := fun X hX => dlooks s K p st' X hX (by have := HSS.out; omega) [45, 45, 62] (by decide)
              rw [nl [45, 45, 62] (by decide), q3] at l7
              have l8 := fun X hX => dfault s K p st' X hX (by have := HR.out.1; omega) 7 a
              have hl4 : 4 ≤ st'.rest.length := pre_length q4
              have HP : Hid (∀ X, DX s K X p ((st'.flt 7 a).cut 4) → ∃ ta tc, X.drew.cell? ⟨p, 2, none⟩ = some (.slice ta st'.toks.length tc) ∧ (X.alloc (.cells #[.int .u8 4, .string ⟨#[]⟩, .slice none 0 0, .bool false, sv (cleanL D), .int .i64 (a : Int)] 43)).drew.cell? ⟨p, 2, none⟩ = some (.slice ta st'.toks.length tc) ∧ (X.alloc (.cells #[.int .u8 4, .string ⟨#[]⟩, .slice none 0 0, .bool false, sv (cleanL D), .int .i64 (a : Int)] 43)).cell? ⟨p, 2, none⟩ = some (.slice ta st'.toks.length tc) ∧
                  ∃ ta' tc' w', (Builtin.append_ #[24, 24] 24 #[.slice ta st'.toks.length tc, .slice (some ⟨X.drew.heap.size, 0, none⟩) 1 1]).run Try.prog (X.drew.alloc (.cells #[.int .u8 4, .string ⟨#[]⟩, .slice none 0 0, .bool false, sv (cleanL D), .int .i64 (a : Int)] 43)) = .ok (.slice ta' (st'.toks.length + 1) tc') w' ∧
                  w'.cell? ⟨p, 2, none⟩ = some (.slice ta st'.toks.length tc) ∧ w'.frozen? ⟨p, 2, none⟩ = false ∧ DX s K (w'.setCell ⟨p, 2, none⟩ (.slice ta' (st'.toks.length + 1) tc')) p z ∧ Kept K X (w'.setCell ⟨p, 2, none⟩ (.slice ta' (st'.toks.length + 1) tc'))) := by
                intro X hX
                have := hX.cmtPack HR.out.2 (by have := HR.out.1; unfold pot at this; show st'.toks.length ≤ _; omega) D a
                rw [HZ.out]
                unfold TS.cmtEnd TS.cutIf
                rw [if_neg hE, q3, if_neg (by decide), if_pos q4]
                exact this
              have HC : Hid (∀ X, DX s K X p (st'.flt 7 a) → X.cell? ⟨p, 1, none⟩ = some (.int .i64 (st'.pl : Int)) ∧ X.frozen? ⟨p, 1, none⟩ = false ∧ DX s K (X.setCell ⟨p, 1, none⟩ (.int .i64 ((st'.pl : Int) + 4))) p ((st'.flt 7 a).cut 4) ∧ Kept K X (X.setCell ⟨p, 1, none⟩ (.int .i64 ((st'.pl : Int) + 4)))) := by
                intro X hX
                obtain ⟨q1, q2⟩ := hX.cutAt (m := 4) hl4 (n := (st'.pl : Int) + 4) (by show _ = ((st'.pl + 4 : Nat) : Int); omega)
                exact ⟨hX.cells.2.1, hX.cells.2.2 1, q1, q2⟩
              obtain ⟨k, hk⟩ : ∃ k, st'.toks.length = k := ⟨_, rfl⟩
              simp only [hk] at HP
              have HX : Hid (∀ d os, DX s K (grow (redrawn wr d) os) p st' ∧ Kept K w (grow (redrawn wr d) os)) := fun d os => ⟨hX.regrown d os, HKp.out.trans ((Kept.regrown (fun _ h => h) d os).mono hX.lt)⟩
              obtain ⟨b, hb⟩ : ∃ b, st'.pl = b := ⟨_, rfl⟩
              simp only [hb] at c1 c1r e1 e2 n2 hRf hD HC hpS
              obtain ⟨sf, hsf⟩ : ∃ x, st'.flt 7 a = x := ⟨_, rfl⟩
              simp only [hsf] at HP HC l8
              obtain ⟨s3, hs3⟩ : ∃ x, sf.cut 4 = x := ⟨_, rfl⟩
              simp only [hs3] at HP HC
              have HSv : Hid ((⟨s.toArray⟩ : ByteArray) = S) := HS.out
              have HB : Hid (st'.pl = b) := hb
              clear hX hE hlen hb hgm HS HSS fz f1 hk hs3 hsf HR HZ hcr q3 q4 HEC hl4
              go_wp2_with fail
              refine wp_region_quiet_below (by kernel_rfl) (by kernel_rfl) ?_
              repeat (go_big_quiet_step (first | with_reducible exact le1 _ _ | with_reducible exact le2 _ _))
              refine wpQuiet_nil ?_
              intro wq hw'
              obtain ⟨xq, kq⟩ : DX s K wq p st' ∧ Kept K w wq := by
                obtain ⟨⟨dq, osq⟩, hw''⟩ := hw'
                rw [hw'']
                exact HX.out dq osq
              have d0 : wq.cell? ⟨p, 0, none⟩ = some (.string S) := by rw [← HSv.out]; exact xq.cells.1
              have d1 : wq.cell? ⟨p, 1, none⟩ = some (.int .i64 (b : Int)) := by have := xq.cells.2.1; rw [HB.out] at this; exact this
              clear hw' HX c0 c1 c0r c1r le1 le2 HKp HB HSv
              go_wp2_with fail
              go_quiet (fail)
              go_wp2_with fail
              go_quiet (fail)
              go_wp2_with fail
              refine Calls.mono (l7 _ (by repeat (first | exact xq | refine DX.drewN ?_ _))) ?_
              rintro e w9 ⟨rfl, x9, k9⟩
              have k9' : Kept K w w9 := Kept.trans (show Kept K w _ by repeat (first | exact kq | refine Kept.drewN ?_ _)) k9
              replace l8 := l8 w9 x9
              clear l7 xq kq d0 d1 k9
              go_wp2_with fail
              refine l8.mono ?_
              rintro e w10 ⟨rfl, x10, k10⟩
              have k10' := k9'.trans k10
              obtain ⟨g1, g2', x11, k11⟩ := HC.out w10 x10
              obtain ⟨W, hW⟩ : ∃ W, w10.setCell ⟨p, 1, none⟩ (.int .i64 ((b : Int) + 4)) = W := ⟨_, rfl⟩
              have HW : Hid (w10.setCell ⟨p, 1, none⟩ (.int .i64 ((b : Int) + 4)) = W) := hW
              rw [hW] at x11 k11
              obtain ⟨ta, tc, p2, p2a, p2c, ta', tc', w', hr, q2, g2, hY, kY⟩ := HP.out W x11
              have HF : Hid (DX s K (w'.setCell ⟨p, 2, none⟩ (.slice ta' (k + 1) tc')) p z ∧ Kept K w (w'.setCell ⟨p, 2, none⟩ (.slice ta' (k + 1) tc'))) := ⟨hY, (k10'.trans k11).trans kY⟩
              clear HP x9 k9' hY kY x10 k10 k10' x11 k11 hW HC hD e1 e2 n2 l8
              go_upto_region 17 with fail
              rw [HW.out]
              clear HW g1 g2'
              go_region_law (first | (refine step_call rfl 54 #[.tmp 121] #[9] rfl #[.string ⟨D.toArray⟩] (by first | (simp [Act.eval]; done) | (simp [Act.eval, Act.put]; done)) (enter54 _ _) (sv (cleanL D)) _ (r4 _) ?_; rintro w20 rfl) | (refine step_appR (w' := w') rfl (.tmp 120) (.tmp 125) 24 24 rfl _ _ (.slice ta' (k + 1) tc') rfl rfl hr ?_))
              all_goals
                go_wp2
                go_end0
                exact ⟨rfl, HF.out.1, HF.out.2⟩
            · replace q4 : pre [45, 45, 33, 62] st'.rest = false := by simpa using q4
              rw [q4] at le2 HEC
              have hno : endsC st'.rest = false := HEC.out
              have HRR : Hid ((st'.cut 1).cutTo endsC = R) := by show _ = R; rw [← hR, ← cutTo_on hE hno]
              have hgm2 : (st'.cut 1).rest.length + 1 = gk := by rw [hgm, hcr]; show (st'.rest.drop 1).length + 1 = _; rw [hcr]; rfl
              have HC : Hid (∀ X, DX s K X p st' → X.cell? ⟨p, 1, none⟩ = some (.int .i64 (st'.pl : Int)) ∧ X.frozen? ⟨p, 1, none⟩ = false ∧ DX s K (X.setCell ⟨p, 1, none⟩ (.int .i64 ((st'.pl : Int) + 1))) p (st'.cut 1) ∧ Kept K X (X.setCell ⟨p, 1, none⟩ (.int .i64 ((st'.pl : Int) + 1)))) := by
                intro X hX
                obtain ⟨q1, q2⟩ := hX.cutAt (m := 1) (by rw [hcr]; simp) (n := (st'.pl : Int) + 1) (by omega)
                exact ⟨hX.cells.2.1, hX.cells.2.2 1, q1, q2⟩
              have HX : Hid (∀ d os, DX s K (grow (redrawn wr d) os) p st' ∧ Kept K w (grow (redrawn wr d) os)) := fun d os => ⟨hX.regrown d os, HKp.out.trans ((Kept.regrown (fun _ h => h) d os).mono hX.lt)⟩
              obtain ⟨b, hb⟩ : ∃ b, st'.pl = b := ⟨_, rfl⟩
              simp only [hb] at c1 c1r e1 e2 n2 HC hpS
              obtain ⟨s3, hs3⟩ : ∃ x, st'.cut 1 = x := ⟨_, rfl⟩
              simp only [hs3] at HC HRR hgm2
              clear hX hE hlen hb hgm HS HSS fz f1 hs3 HR HZ hcr q3 q4 HEC hno hR hD e2
              go_wp2_with fail
              refine wp_region_quiet_below (by kernel_rfl) (by kernel_rfl) ?_
              repeat (go_big_quiet_step (first | with_reducible exact le1 _ _ | with_reducible exact le2 _ _))
              refine wpQuiet_nil ?_
              intro wq hw'
              obtain ⟨xq, kq⟩ : DX s K wq p st' ∧ Kept K w wq := by
                obtain ⟨⟨dq, osq⟩, hw''⟩ := hw'
                rw [hw'']
                exact HX.out dq osq
              obtain ⟨d1, g1, xz, kz⟩ := HC.out wq xq
              have HXZ : Hid (DX s K (wq.setCell ⟨p, 1, none⟩ (.int .i64 ((b : Int) + 1))) p s3 ∧ Kept K w (wq.setCell ⟨p, 1, none⟩ (.int .i64 ((b : Int) + 1)))) := ⟨xz, kq.trans kz⟩
              clear hw' HX c0 c1 c0r c1r le1 le2 HKp xz kz xq kq HC
              go_wp2
              go_roundg s3.rest.length
              case rel => exact ⟨s3, rfl, HRR.out, HXZ.out.1, HXZ.out.2⟩
              case measure => omega
end Go.Proofs.Ytffllhohlfblnaa
