/-
  What the document's reader does with a doctype.
-/
import Derived.Test.YtffllhohlfblnaaDF
namespace Go.Proofs.Ytffllhohlfblnaa
open Go.RowKit Go.Sort

theorem doctype_endT (s : TS) (a : Nat) : s.endT.doctype a = s.doctype a := by
  have hr : ∀ (u : TS) (P : List UInt8 → Bool), u.endT.cutTo P = (u.cutTo P).endT := fun u P => (endT_cutTo u P).symm
  have hd : ∀ u : TS, u.endT.dtEnd = u.dtEnd.endT := fun u => by
    unfold TS.dtEnd
    rw [(endT_rest u).1, (endT_rest u).2]
    split
    · rw [cut_endT]
    · rw [endT_flt]
  have hf : ∀ (u : TS) (P : List UInt8 → Bool), u.endT.front P = u.front P := fun u P => by unfold TS.front; rw [(endT_rest u).1]
  unfold TS.doctype
  rw [hr, hr, hr, hd, add_endT, hf]
theorem add0 {y : TS} (h : y.text = []) (t : Tk) : y.add t = { y with toks := y.toks ++ [t] } := by
  unfold TS.add TS.endT
  rw [if_pos h]
theorem gt_here {y : TS} (hne : (y.cutTo (hdIn [62])).rest ≠ []) : pre [62] (y.cutTo (hdIn [62])).rest = true := by
  have e : (y.cutTo (hdIn [62])).rest = y.rest.drop (upTo (hdIn [62]) y.rest) := rfl
  rw [e] at hne ⊢
  rcases upTo_spec (hdIn [62]) y.rest with h | h
  · exact absurd h hne
  · cases hl : y.rest.drop (upTo (hdIn [62]) y.rest) with
    | nil => exact absurd hl hne
    | cons c r =>
      rw [hl] at h
      have e3 : ([62] : List UInt8).contains c = true := h
      have e : c = 62 := by simpa using e3
      rw [e]
      simp [pre]
theorem pot_cutTo {s : TS} {b : Nat} (h : pot s ≤ b) (P : List UInt8 → Bool) : pot (s.cutTo P) ≤ b := by
  unfold pot at h ⊢
  show s.toks.length + s.flts.length + s.text.length + 16 * (s.rest.drop _).length ≤ _
  rw [List.length_drop]
  omega
theorem pot_cut {s : TS} {b : Nat} (h : pot s ≤ b) (n : Nat) : pot (s.cut n) ≤ b := by
  unfold pot at h ⊢
  show s.toks.length + s.flts.length + s.text.length + 16 * (s.rest.drop _).length ≤ _
  rw [List.length_drop]
  omega

set_option maxRecDepth 20000 in
set_option maxHeartbeats 20000000 in
theorem ddoctype (s : List UInt8) (K : Nat → Prop) (p : Nat) (st : TS) (w : World) (h : DX s K w p st) (hs : s.length < 100000) (hp : pot st ≤ 900000000) (hn : 9 ≤ st.rest.length) :
    Calls Try.prog 34 #[.pointer (some ⟨p, 0, none⟩)] w fun e w' => e = .returned (.tuple #[]) ∧ DX s K w' p ((st.cut 9).doctype st.pl) ∧ Kept K w w' := by
  have hlen := h.len
  have hE := endT_rest st
  have hpE := pot_endT hp
  have r1 := ddone s K p st w h (by omega)
  obtain ⟨a, ha⟩ : ∃ a, st.pl = a := ⟨_, rfl⟩
  obtain ⟨y, hy⟩ : ∃ y, st.endT.cut 9 = y := ⟨_, rfl⟩
  have hyt : y.text = [] := by rw [← hy]; exact endT_text st
  have hypot : pot y ≤ 900000000 := by rw [← hy]; exact pot_cut hpE 9
  have HZ : Hid ((st.cut 9).doctype st.pl = y.doctype a) := by
    show _ = _
    rw [← doctype_endT, ← cut_endT, hy, ha]
  have HC : Hid (∀ X, DX s K X p st.endT → X.cell? ⟨p, 1, none⟩ = some (.int .i64 (a : Int)) ∧ X.frozen? ⟨p, 1, none⟩ = false ∧ DX s K (X.setCell ⟨p, 1, none⟩ (.int .i64 ((a : Int) + 9))) p y ∧ Kept K X (X.setCell ⟨p, 1, none⟩ (.int .i64 ((a : Int) + 9)))) := by
    intro X hX
    have c1 := hX.cells.2.1
    rw [hE.2, ha] at c1
    obtain ⟨q1, q2⟩ := hX.cutAt (m := 9) (by rw [hE.1]; exact hn) (n := (a : Int) + 9) (by rw [hE.2, ha]; omega)
    rw [hy] at q1
    exact ⟨c1, hX.cells.2.2 1, q1, q2⟩
  rw [HZ.out]
  have ha9 : a + 9 ≤ 100000 := by omega
  -- the states
  obtain ⟨y1, hy1⟩ : ∃ x, y.cutTo (hdOut blk) = x := ⟨_, rfl⟩
  obtain ⟨y2, hy2⟩ : ∃ x, y1.cutTo (hdIn (blk ++ [62])) = x := ⟨_, rfl⟩
  obtain ⟨y3, hy3⟩ : ∃ x, y2.cutTo (hdIn [62]) = x := ⟨_, rfl⟩
  obtain ⟨nm, hnm⟩ : ∃ x, nmL (y1.front (hdIn (blk ++ [62]))) = x := ⟨_, rfl⟩
  obtain ⟨z, hz⟩ : ∃ z, y.doctype a = z := ⟨_, rfl⟩
  have HZ2 : Hid (z = y3.dtEnd.add ⟨5, nm, [], false, [], a⟩) := by
    show z = _
    rw [← hz, ← hnm, ← hy3, ← hy2, ← hy1]
    rfl
  rw [hz]
  have q2 := fun X hX => dblanks s K p y X hX (by omega)
  rw [hy1] at q2
  have q3 := fun X hX => dname s K p y1 X hX hs [62] (by decide)
  rw [hy2, hnm] at q3
  have hb2 : pot y2 ≤ 900000000 := by rw [← hy2, ← hy1]; exact pot_cutTo (pot_cutTo hypot _) _
  have ht3 : y3.text = [] := by rw [← hy3, ← hy2, ← hy1]; exact hyt
  have hb3 : pot y3 ≤ 900000000 := by rw [← hy3]; exact pot_cutTo hb2 _
  obtain ⟨S, hS⟩ : ∃ S : ByteArray, (⟨s.toArray⟩ : ByteArray) = S := ⟨_, rfl⟩
  have sS : S.size = s.length := by rw [← hS]; exact sv_size _
  obtain ⟨b2, hb2e⟩ : ∃ x, y2.pl = x := ⟨_, rfl⟩
  obtain ⟨b3, hb3e⟩ : ∃ x, y3.pl = x := ⟨_, rfl⟩
  have HB : Hid (∀ X, DX s K X p y2 → X.cell? ⟨p, 1, none⟩ = some (.int .i64 (b2 : Int)) ∧ X.frozen? ⟨p, 1, none⟩ = false ∧ b2 < 100000 ∧ b3 ≤ S.size ∧ (Calls Try.prog 53 #[.pointer (some ⟨p, 0, none⟩), .int .u8 62, .int .i64 (b2 : Int)] X fun e w' => e = .returned (.int .i64 (b3 : Int)) ∧ w' = X) ∧ DX s K (X.setCell ⟨p, 1, none⟩ (.int .i64 (b3 : Int))) p y3 ∧ Kept K X (X.setCell ⟨p, 1, none⟩ (.int .i64 (b3 : Int)))) := by
    intro X hX
    have hl := hX.len
    have c1 := hX.cells.2.1
    rw [hb2e] at c1 hl
    have f := dfind s K p y2 X hX (by omega) 62 b2 (by omega)
    have e : s.drop b2 = y2.rest := by rw [← hb2e]; exact hX.2.2.1.2.symm
    rw [e] at f
    have hu := upTo_le (hdIn [62]) y2.rest
    have e3 : b2 + upTo (hdIn [62]) y2.rest = b3 := by rw [← hb3e, ← hy3, ← hb2e]; rfl
    rw [e3] at f
    obtain ⟨z1, z2⟩ := hX.cutAt (m := upTo (hdIn [62]) y2.rest) hu (n := (b3 : Int)) (by rw [hb2e, e3])
    have e4 : y2.cut (upTo (hdIn [62]) y2.rest) = y3 := by rw [← hy3]; rfl
    rw [e4] at z1
    exact ⟨c1, hX.cells.2.2 1, by omega, by omega, f, z1, z2⟩
  have HD : Hid (∀ X, DX s K X p y3.dtEnd → ∃ ta tc, X.cell? ⟨p, 2, none⟩ = some (.slice ta y3.toks.length tc) ∧ ∃ ta' tc' w', (Builtin.append_ #[24, 24] 24 #[.slice ta y3.toks.length tc, .slice (some ⟨X.heap.size, 0, none⟩) 1 1]).run Try.prog (X.alloc (.cells #[.int .u8 5, sv nm, .slice none 0 0, .bool false, .string ⟨#[]⟩, .int .i64 (a : Int)] 43)) = .ok (.slice ta' (y3.toks.length + 1) tc') w' ∧
      w'.cell? ⟨p, 2, none⟩ = some (.slice ta y3.toks.length tc) ∧ w'.frozen? ⟨p, 2, none⟩ = false ∧ DX s K (w'.setCell ⟨p, 2, none⟩ (.slice ta' (y3.toks.length + 1) tc')) p z ∧ Kept K X (w'.setCell ⟨p, 2, none⟩ (.slice ta' (y3.toks.length + 1) tc'))) := by
    intro X hX
    have e1 : y3.dtEnd.toks = y3.toks := by unfold TS.dtEnd; split <;> rfl
    have e2 : y3.dtEnd.text = [] := by unfold TS.dtEnd; split <;> exact ht3
    obtain ⟨ta, tc, c2, -, ta', tc', w', hr, e2', g2, hY, kY⟩ := hX.app5 (by rw [e1]; unfold pot at hb3; omega) nm a
    rw [e1] at c2 hr e2' hY kY
    refine ⟨ta, tc, c2, ta', tc', w', hr, e2', g2, ?_, kY⟩
    rw [HZ2.out, add0 e2, e1]
    exact hY
  have HN : Hid (y3.rest ≠ [] → pre [62] y3.rest = true) := by rw [← hy3]; exact gt_here
  have HP3 : Hid (pot y3 ≤ 900000000) := hb3
  have HS : Hid ((⟨s.toArray⟩ : ByteArray) = S) := hS
  have HSS : Hid (S.size = s.length) := sS
  have HB3 : Hid (y3.pl = b3) := hb3e
  have hzS : S.size < 100000 := by omega
  obtain ⟨k, hk⟩ : ∃ k, y3.toks.length = k := ⟨_, rfl⟩
  simp only [hk] at HD
  clear h hlen hE hp hpE hn ha hy hyt hypot HZ hy1 hy2 hy3 hnm hz HZ2 hb2 ht3 hb3 hS sS hb2e hb3e hk
  go_enter Try.func34, Try.ntmps34
  go_wp2_with fail
  refine r1.mono ?_
  rintro e w1 ⟨rfl, x1, k1⟩
  obtain ⟨c1, f1, x2, k2⟩ := HC.out w1 x1
  obtain ⟨W, hW⟩ : ∃ W, w1.setCell ⟨p, 1, none⟩ (.int .i64 ((a : Int) + 9)) = W := ⟨_, rfl⟩
  have HW : Hid (w1.setCell ⟨p, 1, none⟩ (.int .i64 ((a : Int) + 9)) = W) := hW
  rw [hW] at x2 k2
  have kW : Hid (Kept K w W) := k1.trans k2
  replace q2 := q2 W x2
  clear r1 x1 k1 k2 HC hW x2
  go_upto_region 3 with fail
  rw [HW.out]
  clear HW c1 f1
  go_wp2_with fail
  refine q2.mono ?_
  rintro e w2 ⟨rfl, x2, k2⟩
  replace q3 := q3 w2 x2
  have kW2 : Hid (Kept K w w2) := kW.out.trans k2
  clear q2 x2 k2 kW
  go_wp2_with fail
  refine q3.mono ?_
  rintro e w3 ⟨rfl, x3, k3⟩
  obtain ⟨d1, g1, zb, zb3, q4, x4, k4⟩ := HB.out w3 x3
  obtain ⟨W4, hW4⟩ : ∃ W, w3.setCell ⟨p, 1, none⟩ (.int .i64 (b3 : Int)) = W := ⟨_, rfl⟩
  have HW4 : Hid (w3.setCell ⟨p, 1, none⟩ (.int .i64 (b3 : Int)) = W4) := hW4
  rw [hW4] at x4 k4
  have kW4 : Hid (Kept K w W4) := (kW2.out.trans k3).trans k4
  clear q3 x3 k3 k4 kW2 HB hW4
  go_wp2_with fail
  refine q4.mono ?_
  rintro e w5 ⟨rfl, rfl⟩
  clear q4
  go_upto_region 6 with fail
  rw [HW4.out]
  clear HW4 d1 g1
  have c0 : W4.cell? ⟨p, 0, none⟩ = some (.string S) := by rw [← HS.out]; exact x4.cells.1
  have c1 : W4.cell? ⟨p, 1, none⟩ = some (.int .i64 (b3 : Int)) := by rw [← HB3.out]; exact x4.cells.2.1
  have hl4 := x4.len
  rw [HB3.out, ← HSS.out] at hl4
  by_cases hE : y3.rest = []
  · have hbS : b3 = S.size := by rw [hE] at hl4; simpa using hl4
    have e2 : ((b3 : Int) == (S.size : Int)) = true := by rw [hbS]; simp
    have q5 := fun X hX => dfault s K p y3 X hX (by have := HP3.out; omega) 6 b3
    have HDE : Hid (y3.dtEnd = y3.flt 6 b3) := by show _ = _; unfold TS.dtEnd; rw [hE, if_neg (by decide), HB3.out]
    have HX4 : Hid (DX s K W4 p y3) := x4
    clear hl4 hE hbS x4 HN HS HSS HB3 HP3
    go_wp2_with fail
    go_quiet (fail)
    go_wp2_with fail
    refine Calls.mono (q5 _ (by repeat (first | exact HX4.out | refine DX.drewN ?_ _))) ?_
    rintro e w6 ⟨rfl, x6, k6⟩
    rw [← HDE.out] at x6
    replace k6 := Kept.trans (show Kept K w _ by repeat (first | exact kW4.out | refine Kept.drewN ?_ _)) k6
    obtain ⟨ta, tc, p2, ta', tc', w', hr, q2', g2, hY, kY⟩ := HD.out w6 x6
    have HF : Hid (DX s K (w'.setCell ⟨p, 2, none⟩ (.slice ta' (k + 1) tc')) p z ∧ Kept K w (w'.setCell ⟨p, 2, none⟩ (.slice ta' (k + 1) tc'))) := ⟨hY, k6.trans kY⟩
    clear HD q5 HDE HX4 kW4 x6 k6 hY kY c0 c1
    go_wp2_with (at_builtin; refine wpList_appR (w' := w') rfl (.tmp 57) (.tmp 61) 24 24 rfl _ _ (.slice ta' (k + 1) tc') rfl rfl hr ?_)
    go_wp2
    go_end0
    exact ⟨rfl, HF.out.1, HF.out.2⟩
  · have hpos : 0 < y3.rest.length := List.length_pos_iff.2 hE
    have e2 : ((b3 : Int) == (S.size : Int)) = false := by simp; omega
    have HDE : Hid (y3.dtEnd = y3.cut 1) := by show _ = _; unfold TS.dtEnd; rw [if_pos (HN.out hE)]
    have HX4 : Hid (∀ m, (W4.drewN m).frozen? ⟨p, 1, none⟩ = false ∧ DX s K ((W4.drewN m).setCell ⟨p, 1, none⟩ (.int .i64 ((b3 : Int) + 1))) p y3.dtEnd ∧ Kept K w ((W4.drewN m).setCell ⟨p, 1, none⟩ (.int .i64 ((b3 : Int) + 1)))) := by
      intro m
      obtain ⟨z1, z2⟩ := (x4.drewN m).cutAt (m := 1) hpos (n := (b3 : Int) + 1) (by rw [HB3.out]; omega)
      rw [HDE.out]
      exact ⟨(x4.drewN m).cells.2.2 1, z1, (kW4.out.drewN m).trans z2⟩
    clear hl4 hE x4 HN HS HSS HB3 HP3 HDE hpos kW4
    go_wp2_with fail
    go_quiet (fail)
    obtain ⟨g1, x6, k6⟩ := HX4.out nq
    obtain ⟨W6, hW6⟩ : ∃ W, (W4.drewN nq).setCell ⟨p, 1, none⟩ (.int .i64 ((b3 : Int) + 1)) = W := ⟨_, rfl⟩
    have HW6 : Hid ((W4.drewN nq).setCell ⟨p, 1, none⟩ (.int .i64 ((b3 : Int) + 1)) = W6) := hW6
    rw [hW6] at x6 k6
    obtain ⟨ta, tc, p2, ta', tc', w', hr, q2', g2, hY, kY⟩ := HD.out W6 x6
    have HF : Hid (DX s K (w'.setCell ⟨p, 2, none⟩ (.slice ta' (k + 1) tc')) p z ∧ Kept K w (w'.setCell ⟨p, 2, none⟩ (.slice ta' (k + 1) tc'))) := ⟨hY, k6.trans kY⟩
    clear HD HX4 x6 k6 hY kY c0 hW6
    go_upto_region 9 with fail
    rw [HW6.out]
    clear HW6 g1 c1
    go_wp2_with (at_builtin; refine wpList_appR (w' := w') rfl (.tmp 57) (.tmp 61) 24 24 rfl _ _ (.slice ta' (k + 1) tc') rfl rfl hr ?_)
    go_wp2
    go_end0
    exact ⟨rfl, HF.out.1, HF.out.2⟩
end Go.Proofs.Ytffllhohlfblnaa
