/-
  What the document's reader takes as a value.
-/
import Derived.Test.YtffllhohlfblnaaDF
namespace Go.Proofs.Ytffllhohlfblnaa
open Go.RowKit Go.Sort

theorem quo_ok (q : UInt8) (r : List UInt8) : pre [q] (r.drop (upTo (hdIn [q]) r)) = decide (upTo (hdIn [q]) r < r.length) := by
  have hle := upTo_le (hdIn [q]) r
  rcases upTo_spec (hdIn [q]) r with h | h
  · rw [h]
    have : r.length ≤ upTo (hdIn [q]) r := by
      have := congrArg List.length h
      rw [List.length_drop] at this
      simp at this
      omega
    rw [decide_eq_false (by omega)]
    rfl
  · cases hr : r.drop (upTo (hdIn [q]) r) with
    | nil => rw [hr] at h; cases h
    | cons c r2 =>
      rw [hr] at h
      have e3 : ([q] : List UInt8).contains c = true := h
      have e : c = q := by simpa using e3
      have := congrArg List.length hr
      rw [List.length_drop, List.length_cons] at this
      rw [decide_eq_true (by omega), e]
      simp [pre]
theorem quo_st (x : TS) (q : UInt8) : (x.quoted q).st = x.cut (min (upTo (hdIn [q]) x.rest + 1) x.rest.length) := by
  have hle := upTo_le (hdIn [q]) x.rest
  have h1 : (x.quoted q).st = (x.cut (upTo (hdIn [q]) x.rest)).cutIf [q] := rfl
  rw [h1]
  unfold TS.cutIf
  have h2 : (x.cut (upTo (hdIn [q]) x.rest)).rest = x.rest.drop (upTo (hdIn [q]) x.rest) := rfl
  rw [h2, quo_ok]
  by_cases h : upTo (hdIn [q]) x.rest < x.rest.length
  · rw [decide_eq_true h, if_pos rfl, cut_cut, Nat.min_eq_left (by omega)]
    rfl
  · rw [decide_eq_false h, if_neg (by decide)]
    congr 1
    omega

theorem clean_regrown (t : List UInt8) (ht : t.length < 100000) (w : World) (d : Nat) (os : Array Obj) :
    Calls Try.prog 54 #[sv t] (grow (redrawn w d) os) fun e w'' => e = .returned (sv (cleanL t)) ∧ ∃ q : Regrown, w'' = grow (redrawn w q.d) q.os :=
  regrown_calls (fun X => (rclean_any ⟨t.toArray⟩ (by rw [sv_size]; exact ht) X).mono fun _ _ ⟨h1, h2⟩ => ⟨h1, by rw [h2]; exact Kept.refl _ _⟩) d os
theorem all_regrown (t : List UInt8) (attr : Bool) (ht : t.length < 1000000) (w : World) (d : Nat) (os : Array Obj) :
    Calls Try.prog 79 #[sv t, .bool attr] (grow (redrawn w d) os) fun e w'' => e = .returned (sv (allL attr t)) ∧ ∃ q : Regrown, w'' = grow (redrawn w q.d) q.os :=
  regrown_calls (fun X => rall_any ⟨t.toArray⟩ attr (fun k => k < X.heap.size) X (fun _ h => h) (by rw [sv_size]; exact ht)) d os

set_option maxRecDepth 20000 in
set_option maxHeartbeats 20000000 in
theorem dvalue (s : List UInt8) (K : Nat → Prop) (p : Nat) (y : TS) (w : World) (h : DX s K w p y) (hs : s.length < 100000) (hp : pot y ≤ 900000000) :
    Calls Try.prog 77 #[.pointer (some ⟨p, 0, none⟩)] w fun e w' => e = .returned (.tuple #[sv (allL true (cleanL (y.cutTo (hdOut blk)).val2.v)), .bool (y.cutTo (hdOut blk)).val2.ok]) ∧ DX s K w' p (y.cutTo (hdOut blk)).val2.st ∧ Kept K w w' := by
  have q1 := dblanks s K p y w h (by omega)
  obtain ⟨x, hx⟩ : ∃ x, y.cutTo (hdOut blk) = x := ⟨_, rfl⟩
  rw [hx] at q1 ⊢
  have hpx : pot x ≤ 900000000 := by
    rw [← hx]
    unfold pot at hp ⊢
    show y.toks.length + y.flts.length + y.text.length + 16 * (y.rest.drop _).length ≤ _
    rw [List.length_drop]
    omega
  clear h hx hp
  obtain ⟨V, hV⟩ : ∃ V, x.val2 = V := ⟨_, rfl⟩
  rw [hV]
  have HV0 : Hid (x.val2 = V) := hV
  clear hV
  obtain ⟨S, hS⟩ : ∃ S : ByteArray, (⟨s.toArray⟩ : ByteArray) = S := ⟨_, rfl⟩
  have sS : S.size = s.length := by rw [← hS]; exact sv_size _
  have hzS : S.size < 100000 := by omega
  obtain ⟨b, hb⟩ : ∃ b, x.pl = b := ⟨_, rfl⟩
  have HC : Hid (∀ X, DX s K X p x → X.cell? ⟨p, 0, none⟩ = some (.string S) ∧ X.cell? ⟨p, 1, none⟩ = some (.int .i64 (b : Int)) ∧ b + x.rest.length = S.size) := by
    intro X hX
    have := hX.len
    exact ⟨by rw [← hS]; exact hX.cells.1, by rw [← hb]; exact hX.cells.2.1, by rw [← hb, sS]; exact this⟩
  have HSS : Hid (S.size = s.length) := sS
  have HS : Hid ((⟨s.toArray⟩ : ByteArray) = S) := hS
  have HB : Hid (x.pl = b) := hb
  have HP : Hid (pot x ≤ 900000000) := hpx
  clear hS sS hb hpx
  go_enter Try.func77, Try.ntmps77
  go_wp2_with fail
  refine q1.mono ?_
  rintro e w1 ⟨rfl, x1, k1⟩
  obtain ⟨c0, c1, hl⟩ := HC.out w1 x1
  clear q1 HC
  by_cases hE : x.rest = []
  · have hbS : b = S.size := by rw [hE] at hl; simpa using hl
    have e2 : ((b : Int) == (S.size : Int)) = true := by rw [hbS]; simp
    have HV : Hid (x.val2 = ⟨x, [], true⟩) := by
      show _ = _
      unfold TS.val2
      rw [hE, if_neg (by decide), if_neg (by decide), if_neg (by decide), cutTo_here (.inl hE)]
      unfold TS.front
      rw [hE]
      rfl
    rw [HV0.out] at HV
    clear hl hE hbS HSS HS HB HP HV0
    go_wp2_with fail
    go_quiet (fail)
    go_wp2
    go_ret2
    rw [HV.out]
    exact ⟨rfl, x1.drewN _, k1.drewN _⟩
  · obtain ⟨c, r, hr⟩ : ∃ c r, x.rest = c :: r := by cases hh : x.rest with | nil => exact absurd hh hE | cons c r => exact ⟨c, r, rfl⟩
    obtain ⟨hlt, hc⟩ := x1.byte hr HS.out
    have hb' := HB.out
    simp only [hb'] at hlt hc
    have e2 : ((b : Int) == (S.size : Int)) = false := by simp; omega
    by_cases h62 : c = 62
    · have e3 : (((S[b]'hlt).toNat : Int) == 62) = true := by rw [hc, h62]; rfl
      have HV : Hid (x.val2 = ⟨x.flt 5 b, [], true⟩) := by
        show _ = _
        unfold TS.val2
        rw [hr, h62, if_neg (show ¬ pre [34] (62 :: r) = true by simp [pre]), if_neg (show ¬ pre [39] (62 :: r) = true by simp [pre]), if_pos (show pre [62] (62 :: r) = true by simp [pre]), HB.out]
      rw [HV0.out] at HV
      have q2 := fun X hX => dfault s K p x X hX (by have := HP.out; omega) 5 b
      have HX : Hid (DX s K w1 p x ∧ Kept K w w1) := ⟨x1, k1⟩
      clear hl hE HSS HS HB HP HV0 hr hc h62 hb' x1 k1
      go_wp2_with fail
      go_quiet (fail)
      go_wp2_with fail
      go_quiet (fail)
      go_wp2_with fail
      refine Calls.mono (q2 _ (by repeat (first | exact HX.out.1 | refine DX.drewN ?_ _))) ?_
      rintro e w2 ⟨rfl, x2, k2⟩
      replace k2 := Kept.trans (show Kept K w _ by repeat (first | exact HX.out.2 | refine Kept.drewN ?_ _)) k2
      clear q2 HX
      go_wp2
      go_ret2
      rw [HV.out]
      exact ⟨rfl, x2, k2⟩
    · have e3 : (((S[b]'hlt).toNat : Int) == 62) = false := by rw [hc]; exact u8_ne (d := 62) h62
      by_cases hq : c = 34 ∨ c = 39
      · have e4 : (((S[b]'hlt).toNat : Int) == 34) = decide (c = 34) := by
          rw [hc]
          by_cases h34 : c = 34
          · rw [h34]; rfl
          · rw [decide_eq_false h34]; exact u8_ne (d := 34) h34
        have e5 : c ≠ 34 → (((S[b]'hlt).toNat : Int) == 39) = true := by
          intro h34
          rcases hq with h | h
          · exact absurd h h34
          · rw [hc, h]; rfl
        have hv : x.val2 = (x.cut 1).quoted c := by
          unfold TS.val2
          rw [hr]
          rcases hq with h | h
          · rw [h, if_pos (show pre [34] (34 :: r) = true by simp [pre])]
          · rw [h, if_neg (show ¬ pre [34] (39 :: r) = true by simp [pre]), if_pos (show pre [39] (39 :: r) = true by simp [pre])]
        have hr1 : (x.cut 1).rest = r := by show x.rest.drop 1 = r; rw [hr]; rfl
        obtain ⟨u, hu⟩ : ∃ u, upTo (hdIn [c]) r = u := ⟨_, rfl⟩
        have hule := upTo_le (hdIn [c]) r
        rw [hu] at hule
        have hrl : b + 1 + r.length = S.size := by rw [hr] at hl; simp only [List.length_cons] at hl; omega
        have hvs : ((x.cut 1).quoted c).st = x.cut (1 + min (u + 1) r.length) := by rw [quo_st, hr1, hu, cut_cut]
        have hvv : ((x.cut 1).quoted c).v = r.take u := by show (x.cut 1).front (hdIn [c]) = _; unfold TS.front; rw [hr1, hu]
        have hvo : ((x.cut 1).quoted c).ok = decide (u < r.length) := by
          show pre [c] ((x.cut 1).rest.drop (upTo (hdIn [c]) (x.cut 1).rest)) = _
          rw [hr1, quo_ok, hu]
        obtain ⟨D, hD⟩ : ∃ D, r.take u = D := ⟨_, rfl⟩
        rw [hD] at hvv
        have hDl : D.length < 100000 := by rw [← hD, List.length_take]; omega
        obtain ⟨f, hf⟩ : ∃ f, b + 1 = f := ⟨_, rfl⟩
        obtain ⟨t, ht⟩ : ∃ t, f + u = t := ⟨_, rfl⟩
        have hbf : (b : Int) + 1 = (f : Int) := by omega
        have q2 : ∀ X, DX s K X p x → Calls Try.prog 53 #[.pointer (some ⟨p, 0, none⟩), .int .u8 (S[b]'hlt).toNat, .int .i64 (f : Int)] X fun e w' => e = .returned (.int .i64 (t : Int)) ∧ w' = X := by
          intro X hX
          have := dfind s K p x X hX (by have := HSS.out; omega) c f (by have := HSS.out; omega)
          have e : s.drop f = r := by
            have := hX.near 1
            rw [HB.out, hr, hf] at this
            exact this
          rw [e, hu, ht] at this
          rw [hc]
          exact this
        have hDe : S.extract f t = ⟨D.toArray⟩ := by
          rw [← HS.out, sv_extract, List.drop_take, ← ht, Nat.add_sub_cancel_left, ← hD]
          have := x1.near 1
          rw [HB.out, hr, hf] at this
          rw [this]
          rfl
        have HX : Hid (DX s K w1 p x ∧ Kept K w w1) := ⟨x1, k1⟩
        have hok : decide (u < r.length) = decide (t < S.size) := by
          by_cases h : u < r.length
          · rw [decide_eq_true h, decide_eq_true (by omega)]
          · rw [decide_eq_false h, decide_eq_false (by omega)]
        rw [hok] at hvo
        have z1 : f ≤ t := by omega
        have z2 : t ≤ S.size := by omega
        have HM : Hid (∀ X, DX s K X p x → ∀ v : Int, v = ((min (t + 1) S.size : Nat) : Int) → DX s K (X.setCell ⟨p, 1, none⟩ (.int .i64 v)) p (x.cut (1 + min (u + 1) r.length)) ∧ Kept K X (X.setCell ⟨p, 1, none⟩ (.int .i64 v))) := by
          intro X hX v hv
          exact hX.cutAt (m := 1 + min (u + 1) r.length) (by rw [hr]; simp only [List.length_cons]; omega) (n := v) (by rw [hv, HB.out]; omega)
        obtain ⟨z, hz⟩ : ∃ z, x.cut (1 + min (u + 1) r.length) = z := ⟨_, rfl⟩
        rw [hz] at HM hvs
        have HV : Hid (V.v = D ∧ V.ok = decide (t < S.size) ∧ V.st = z) := by
          rw [← HV0.out, hv]
          exact ⟨hvv, hvo, hvs⟩
        have HSv : Hid ((⟨s.toArray⟩ : ByteArray) = S) := HS.out
        have HBx : Hid (x.pl = b) := HB.out
        have HD1 : Hid (D.length < 100000) := hDl
        have eq1 : c = 34 ∨ c ≠ 34 := by by_cases h : c = 34; exact .inl h; exact .inr h
        clear hl hE HSS HS HB HP hv hvs hvv hvo hr1 hu hule hrl hD hf ht hok hz hr h62 hc hb' x1 k1 HV0 hDl
        have tail : ∀ X, DX s K X p x → Kept K w X → True := fun _ _ _ => trivial
        clear tail
        rcases eq1 with h34 | h34
        · rw [decide_eq_true h34] at e4
          have n4 : ((((S[b]'hlt).toNat : Int)) != 34) = false := by show (!_) = _; rw [e4]; rfl
          clear e5 h34 hq e4
          go_wp2_with fail
          go_quiet (fail)
          go_wp2_with fail
          go_quiet (fail)
          go_wp2_with fail
          refine Calls.mono (q2 _ (by repeat (first | exact HX.out.1 | refine DX.drewN ?_ _))) ?_
          rintro e w2 ⟨rfl, hw2⟩
          obtain ⟨x2, k2⟩ : DX s K w2 p x ∧ Kept K w w2 := by
            rw [hw2]
            exact ⟨by repeat (first | exact HX.out.1 | refine DX.drewN ?_ _), by repeat (first | exact HX.out.2 | refine Kept.drewN ?_ _)⟩
          have d0 : w2.cell? ⟨p, 0, none⟩ = some (.string S) := by rw [← HSv.out]; exact x2.cells.1
          have d1 : w2.cell? ⟨p, 1, none⟩ = some (.int .i64 (b : Int)) := by rw [← HBx.out]; exact x2.cells.2.1
          have g1 := fun m => (x2.drewN m).cells.2.2 1
          have HX2 : Hid (DX s K w2 p x ∧ Kept K w w2) := ⟨x2, k2⟩
          clear hw2 HX q2 x2 k2 c0 c1 HBx
          go_wp2_with fail
          go_quiet (fail)
          by_cases hv : t + 1 ≤ S.size
          · obtain ⟨x3, k3⟩ := HM.out (w2.drewN nq) (HX2.out.1.drewN nq) ((t : Int) + 1) (by rw [Nat.min_eq_left hv]; omega)
            have k4 := (HX2.out.2.drewN nq).trans k3
            have g1' := g1 nq
            obtain ⟨W, hW⟩ : ∃ W, (w2.drewN nq).setCell ⟨p, 1, none⟩ (.int .i64 ((t : Int) + 1)) = W := ⟨_, rfl⟩
            have HW : Hid ((w2.drewN nq).setCell ⟨p, 1, none⟩ (.int .i64 ((t : Int) + 1)) = W) := hW
            rw [hW] at x3 k4
            have d3 : W.cell? ⟨p, 0, none⟩ = some (.string S) := by rw [← HSv.out]; exact x3.cells.1
            have d3r := fun d os => cell_regrown d3 d os
            have clR := clean_regrown D HD1.out W
            have alR := all_regrown (cleanL D) true (by have := cleanL_length D; have := HD1.out; omega) W
            have HX3 : Hid (∀ d os, DX s K (grow (redrawn W d) os) p z ∧ Kept K w (grow (redrawn W d) os)) := fun d os => ⟨x3.regrown d os, k4.trans ((Kept.regrown (fun _ h => h) d os).mono x3.lt)⟩
            clear x3 k3 k4 hW HX2 HM HSv g1 d3
            go_upto_region 13 with fail
            rw [HW.out]
            clear HW g1' d0 d1
            refine wp_region_quiet_below (by kernel_rfl) (by kernel_rfl) ?_
            repeat (go_big_quiet_step (first | with_reducible exact clR _ _ | with_reducible exact alR _ _))
            refine wpQuiet_nil ?_
            intro wq hw'
            obtain ⟨xq, kq⟩ : DX s K wq p z ∧ Kept K w wq := by
              obtain ⟨⟨dq, osq⟩, hw''⟩ := hw'
              rw [hw'']
              exact HX3.out dq osq
            clear hw' HX3 clR alR d3r
            go_wp2
            go_ret2
            rw [HV.out.1, HV.out.2.1, HV.out.2.2]
            exact ⟨rfl, xq, kq⟩
          · have hvi : (S.size : Int) < (t : Int) + 1 := by omega
            obtain ⟨x3, k3⟩ := HM.out (w2.drewN nq) (HX2.out.1.drewN nq) (S.size : Int) (by rw [Nat.min_eq_right (by omega)])
            have k4 := (HX2.out.2.drewN nq).trans k3
            have g1' := g1 nq
            obtain ⟨W, hW⟩ : ∃ W, (w2.drewN nq).setCell ⟨p, 1, none⟩ (.int .i64 ((S.size : Int))) = W := ⟨_, rfl⟩
            have HW : Hid ((w2.drewN nq).setCell ⟨p, 1, none⟩ (.int .i64 ((S.size : Int))) = W) := hW
            rw [hW] at x3 k4
            have d3 : W.cell? ⟨p, 0, none⟩ = some (.string S) := by rw [← HSv.out]; exact x3.cells.1
            have d3r := fun d os => cell_regrown d3 d os
            have clR := clean_regrown D HD1.out W
            have alR := all_regrown (cleanL D) true (by have := cleanL_length D; have := HD1.out; omega) W
            have HX3 : Hid (∀ d os, DX s K (grow (redrawn W d) os) p z ∧ Kept K w (grow (redrawn W d) os)) := fun d os => ⟨x3.regrown d os, k4.trans ((Kept.regrown (fun _ h => h) d os).mono x3.lt)⟩
            clear x3 k3 k4 hW HX2 HM HSv g1 d3
            go_upto_region 13 with fail
            rw [HW.out]
            clear HW g1' d0 d1
            refine wp_region_quiet_below (by kernel_rfl) (by kernel_rfl) ?_
            repeat (go_big_quiet_step (first | with_reducible exact clR _ _ | with_reducible exact alR _ _))
            refine wpQuiet_nil ?_
            intro wq hw'
            obtain ⟨xq, kq⟩ : DX s K wq p z ∧ Kept K w wq := by
              obtain ⟨⟨dq, osq⟩, hw''⟩ := hw'
              rw [hw'']
              exact HX3.out dq osq
            clear hw' HX3 clR alR d3r
            go_wp2
            go_ret2
            rw [HV.out.1, HV.out.2.1, HV.out.2.2]
            exact ⟨rfl, xq, kq⟩
        · rw [decide_eq_false h34] at e4
          replace e5 := e5 h34
          have n4 : ((((S[b]'hlt).toNat : Int)) != 34) = true := by show (!_) = _; rw [e4]; rfl
          have n5 : ((((S[b]'hlt).toNat : Int)) != 39) = false := by show (!_) = _; rw [e5]; rfl
          clear h34 hq e4 e5
          go_wp2_with fail
          go_quiet (fail)
          go_wp2_with fail
          go_quiet (fail)
          go_wp2_with fail
          refine Calls.mono (q2 _ (by repeat (first | exact HX.out.1 | refine DX.drewN ?_ _))) ?_
          rintro e w2 ⟨rfl, hw2⟩
          obtain ⟨x2, k2⟩ : DX s K w2 p x ∧ Kept K w w2 := by
            rw [hw2]
            exact ⟨by repeat (first | exact HX.out.1 | refine DX.drewN ?_ _), by repeat (first | exact HX.out.2 | refine Kept.drewN ?_ _)⟩
          have d0 : w2.cell? ⟨p, 0, none⟩ = some (.string S) := by rw [← HSv.out]; exact x2.cells.1
          have d1 : w2.cell? ⟨p, 1, none⟩ = some (.int .i64 (b : Int)) := by rw [← HBx.out]; exact x2.cells.2.1
          have g1 := fun m => (x2.drewN m).cells.2.2 1
          have HX2 : Hid (DX s K w2 p x ∧ Kept K w w2) := ⟨x2, k2⟩
          clear hw2 HX q2 x2 k2 c0 c1 HBx
          go_wp2_with fail
          go_quiet (fail)
          by_cases hv : t + 1 ≤ S.size
          · obtain ⟨x3, k3⟩ := HM.out (w2.drewN nq) (HX2.out.1.drewN nq) ((t : Int) + 1) (by rw [Nat.min_eq_left hv]; omega)
            have k4 := (HX2.out.2.drewN nq).trans k3
            have g1' := g1 nq
            obtain ⟨W, hW⟩ : ∃ W, (w2.drewN nq).setCell ⟨p, 1, none⟩ (.int .i64 ((t : Int) + 1)) = W := ⟨_, rfl⟩
            have HW : Hid ((w2.drewN nq).setCell ⟨p, 1, none⟩ (.int .i64 ((t : Int) + 1)) = W) := hW
            rw [hW] at x3 k4
            have d3 : W.cell? ⟨p, 0, none⟩ = some (.string S) := by rw [← HSv.out]; exact x3.cells.1
            have d3r := fun d os => cell_regrown d3 d os
            have clR := clean_regrown D HD1.out W
            have alR := all_regrown (cleanL D) true (by have := cleanL_length D; have := HD1.out; omega) W
            have HX3 : Hid (∀ d os, DX s K (grow (redrawn W d) os) p z ∧ Kept K w (grow (redrawn W d) os)) := fun d os => ⟨x3.regrown d os, k4.trans ((Kept.regrown (fun _ h => h) d os).mono x3.lt)⟩
            clear x3 k3 k4 hW HX2 HM HSv g1 d3
            go_upto_region 13 with fail
            rw [HW.out]
            clear HW g1' d0 d1
            refine wp_region_quiet_below (by kernel_rfl) (by kernel_rfl) ?_
            repeat (go_big_quiet_step (first | with_reducible exact clR _ _ | with_reducible exact alR _ _))
            refine wpQuiet_nil ?_
            intro wq hw'
            obtain ⟨xq, kq⟩ : DX s K wq p z ∧ Kept K w wq := by
              obtain ⟨⟨dq, osq⟩, hw''⟩ := hw'
              rw [hw'']
              exact HX3.out dq osq
            clear hw' HX3 clR alR d3r
            go_wp2
            go_ret2
            rw [HV.out.1, HV.out.2.1, HV.out.2.2]
            exact ⟨rfl, xq, kq⟩
          · have hvi : (S.size : Int) < (t : Int) + 1 := by omega
            obtain ⟨x3, k3⟩ := HM.out (w2.drewN nq) (HX2.out.1.drewN nq) (S.size : Int) (by rw [Nat.min_eq_right (by omega)])
            have k4 := (HX2.out.2.drewN nq).trans k3
            have g1' := g1 nq
            obtain ⟨W, hW⟩ : ∃ W, (w2.drewN nq).setCell ⟨p, 1, none⟩ (.int .i64 ((S.size : Int))) = W := ⟨_, rfl⟩
            have HW : Hid ((w2.drewN nq).setCell ⟨p, 1, none⟩ (.int .i64 ((S.size : Int))) = W) := hW
            rw [hW] at x3 k4
            have d3 : W.cell? ⟨p, 0, none⟩ = some (.string S) := by rw [← HSv.out]; exact x3.cells.1
            have d3r := fun d os => cell_regrown d3 d os
            have clR := clean_regrown D HD1.out W
            have alR := all_regrown (cleanL D) true (by have := cleanL_length D; have := HD1.out; omega) W
            have HX3 : Hid (∀ d os, DX s K (grow (redrawn W d) os) p z ∧ Kept K w (grow (redrawn W d) os)) := fun d os => ⟨x3.regrown d os, k4.trans ((Kept.regrown (fun _ h => h) d os).mono x3.lt)⟩
            clear x3 k3 k4 hW HX2 HM HSv g1 d3
            go_upto_region 13 with fail
            rw [HW.out]
            clear HW g1' d0 d1
            refine wp_region_quiet_below (by kernel_rfl) (by kernel_rfl) ?_
            repeat (go_big_quiet_step (first | with_reducible exact clR _ _ | with_reducible exact alR _ _))
            refine wpQuiet_nil ?_
            intro wq hw'
            obtain ⟨xq, kq⟩ : DX s K wq p z ∧ Kept K w wq := by
              obtain ⟨⟨dq, osq⟩, hw''⟩ := hw'
              rw [hw'']
              exact HX3.out dq osq
            clear hw' HX3 clR alR d3r
            go_wp2
            go_ret2
            rw [HV.out.1, HV.out.2.1, HV.out.2.2]
            exact ⟨rfl, xq, kq⟩
      · have h34 : c ≠ 34 := fun h => hq (.inl h)
        have h39 : c ≠ 39 := fun h => hq (.inr h)
        have e4 : (((S[b]'hlt).toNat : Int) == 34) = false := by rw [hc]; exact u8_ne (d := 34) h34
        have e5 : (((S[b]'hlt).toNat : Int) == 39) = false := by rw [hc]; exact u8_ne (d := 39) h39
        have n4 : ((((S[b]'hlt).toNat : Int)) != 34) = true := by show (!_) = _; rw [e4]; rfl
        have n5 : ((((S[b]'hlt).toNat : Int)) != 39) = true := by show (!_) = _; rw [e5]; rfl
        clear e4 e5
        have hv : x.val2 = ⟨x.cutTo (hdIn (blk ++ [62])), x.front (hdIn (blk ++ [62])), true⟩ := by
          unfold TS.val2
          rw [hr, if_neg (show ¬ pre [34] (c :: r) = true by simp [pre]; exact fun h => h34 h.symm), if_neg (show ¬ pre [39] (c :: r) = true by simp [pre]; exact fun h => h39 h.symm), if_neg (show ¬ pre [62] (c :: r) = true by simp [pre]; exact fun h => h62 h.symm)]
          rfl
        have q2 := fun X hX => dword s K p x X hX (by have := HSS.out; omega) [62] (by decide)
        obtain ⟨z, hz⟩ : ∃ z, x.cutTo (hdIn (blk ++ [62])) = z := ⟨_, rfl⟩
        obtain ⟨D, hD⟩ : ∃ z, x.front (hdIn (blk ++ [62])) = z := ⟨_, rfl⟩
        rw [hz, hD] at hv q2
        have hDl : D.length < 100000 := by rw [← hD]; unfold TS.front; rw [List.length_take]; omega
        have HV : Hid (V = ⟨z, D, true⟩) := by rw [← HV0.out]; exact hv
        have q3 := fun X hX => drclean s K p z X hX D hDl
        have q4 := fun X hX => drall s K p z X hX (cleanL D) true (by have := cleanL_length D; omega)
        have HX : Hid (DX s K w1 p x ∧ Kept K w w1) := ⟨x1, k1⟩
        clear hl hE HSS HS HB HP hv hz hD hr h62 hb' x1 k1 HV0 h34 h39 hq hc hDl
        go_wp2_with fail
        go_quiet (fail)
        go_wp2_with fail
        go_quiet (fail)
        go_wp2_with fail
        refine Calls.mono (q2 _ (by repeat (first | exact HX.out.1 | refine DX.drewN ?_ _))) ?_
        rintro e w2 ⟨rfl, x2, k2⟩
        replace k2 := Kept.trans (show Kept K w _ by repeat (first | exact HX.out.2 | refine Kept.drewN ?_ _)) k2
        replace q3 := q3 w2 x2
        clear q2 HX x2
        go_wp2_with fail
        refine q3.mono ?_
        rintro e w3 ⟨rfl, x3, k3⟩
        replace q4 := q4 w3 x3
        clear q3 x3
        go_wp2_with fail
        refine q4.mono ?_
        rintro e w4 ⟨rfl, x4, k4⟩
        clear q4
        go_wp2
        go_ret2
        rw [HV.out]
        exact ⟨rfl, x4, (k2.trans k3).trans k4⟩
end Go.Proofs.Ytffllhohlfblnaa
