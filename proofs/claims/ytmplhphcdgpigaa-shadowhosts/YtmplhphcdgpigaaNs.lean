/-
  The walk of ShadowNested.
-/
import Derived.Test.YtmplhphcdgpigaaSb
import Derived.Test.YtmplhphcdgpigaaCQ
namespace Go.Proofs.Ytmplhphcdgpigaa
open Go.RowKit
set_option linter.unusedVariables false

theorem wi_new {M : Dm} {R : Nat → List Nat} {rk : Nat → Nat} (hG : Good M R rk) (x : Nd) {u : Nat} (hu : u < M.n) : ¬ Wi (M.add x) M.n u := by
  intro h
  generalize hi : M.n = i at h
  have key : ∀ v, Wi (M.add x) i v → v < M.n → False := by
    intro v hv
    induction hv with
    | here => intro hh; omega
    | @up k m e _ ih =>
      intro hk
      rw [add_par hk] at e
      rcases hG.acy k hk with h0 | ⟨m', h1, h2, _⟩
      · omega
      · have : m = m' := by have := e.symm.trans h2; injection this
        subst this
        exact ih h1
  exact key u h hu
theorem add_nd_old {M : Dm} {x : Nd} {k : Nat} (h : k ≠ M.n) : (M.add x).nd k = M.nd k := if_neg h
theorem add_nd_new {M : Dm} {x : Nd} : (M.add x).nd M.n = x.new := if_pos rfl
theorem add_pl_old {M : Dm} {x : Nd} {k : Nat} (h : k ≠ M.n) : (M.add x).pl k = M.pl k := updL_ne _ _ h
theorem add_pl_new {M : Dm} {x : Nd} : (M.add x).pl M.n = Lk.nil := updL_same _ _ _

/-- The document of the walk: so many hosts, each in the root of the one ahead. -/
structure NInv (M : Dm) (j : Nat) : Prop where
  len : M.n = 2 * j + 1
  lim : M.limit = 300
  top : (M.pl (2 * j)).up = -1
  hold : holdB (M.nd (2 * j)) = true
  kind : (M.nd (2 * j)).kind = 5 ↔ j ≠ 0
theorem NInv.new : NInv (Dm.new 300) 0 := ⟨rfl, rfl, rfl, by kernel_rfl, by show (4 : Nat) = 5 ↔ _; simp⟩
abbrev n2 (M : Dm) (j : Nat) : Dm := (M.add divN).setP (putL (M.add divN).pl (2 * j) (2 * j + 1) (-1))
section
variable {M : Dm} {R : Nat → List Nat} {rk : Nat → Nat} {j : Nat}
theorem NInv.fits (h : NInv M j) (hG : Good M R rk) : Fits (M.add divN) (2 * j) (2 * j + 1) (-1) := by
  have hl := h.len
  refine ⟨?_, ?_, ?_, .inl rfl⟩
  · rw [add_nd_old (by omega)]; exact h.hold
  · unfold moveB
    rw [← hl, add_nd_new, decide_eq_true (show M.n ≠ 0 by omega)]
    rfl
  · rw [← hl]; exact wi_new hG divN (by omega)
theorem NInv.putD (h : NInv M j) : Ytmplhphcdgpigaa.putD (M.add divN) (updR R M.n []) (2 * j) (2 * j + 1) (-1) = putL (M.add divN).pl (2 * j) (2 * j + 1) (-1) := by
  have hl := h.len
  unfold Ytmplhphcdgpigaa.putD
  rw [if_neg, if_neg (by omega)]
  rw [← hl, add_nd_new]
  show (1 : Nat) ≠ 4
  decide
theorem NInv.nd2 (h : NInv M j) : (n2 M j).nd (2 * j + 1) = divN.new := by
  show (M.add divN).nd (2 * j + 1) = _
  rw [← h.len]; exact add_nd_new
theorem NInv.nd2o (h : NInv M j) : (n2 M j).nd (2 * j) = M.nd (2 * j) := add_nd_old (by rw [h.len]; omega)
theorem NInv.pl2 (h : NInv M j) : ((n2 M j).pl (2 * j + 1)).up = ((2 * j : Nat) : Int) := put_up_same
theorem NInv.pl2o (h : NInv M j) : ((n2 M j).pl (2 * j)).up = -1 := by
  show (putL (M.add divN).pl (2 * j) (2 * j + 1) (-1) (2 * j)).up = -1
  rw [put_up (by omega), add_pl_old (by rw [h.len]; omega)]
  exact h.top
variable (f : Fg)
theorem NInv.n2n (h : NInv M j) : (n2 M j).n = 2 * j + 2 := by show M.n + 1 = _; rw [h.len]
theorem NInv.of3 (h : NInv M j) : OfOf ((n2 M j).addR (2 * j + 1) f) (2 * j + 1) (if j = 0 then -1 else ((2 * j : Nat) : Int)) := by
  have hn := h.n2n
  have hT : TopOf ((n2 M j).addR (2 * j + 1) f) (2 * j + 1) (2 * j) := by
    refine .up (m := 2 * j) ?_ (.here ?_)
    · rw [addR_pl, updL_ne _ _ (by omega)]; exact h.pl2
    · rw [addR_pl, updL_ne _ _ (by omega)]; exact h.pl2o
  have hk : (((n2 M j).addR (2 * j + 1) f).nd (2 * j)) = M.nd (2 * j) := by
    rw [addR_old _ _ _ (by omega) (by omega)]; exact h.nd2o
  by_cases c : j = 0
  · rw [if_pos c]
    exact .no hT (by rw [hk]; exact fun hh => (h.kind.1 hh) c)
  · rw [if_neg c]
    exact .yes hT (by rw [hk]; exact h.kind.2 c)
theorem NInv.sh3 (h : NInv M j) : (((n2 M j).addR (2 * j + 1) f).nd (2 * j + 1)).shadow = ((2 * j + 2 : Nat) : Int) := by
  have hn := h.n2n
  rw [addR_host _ _ _ (by omega), hn]
theorem NInv.new3 (h : NInv M j) : ((n2 M j).addR (2 * j + 1) f).nd (2 * j + 2) = { (shN f).new with host := ((2 * j + 1 : Nat) : Int) } := by
  have hn := h.n2n
  rw [← hn]; exact addR_new _ _ _ (by omega)
theorem NInv.open3 (h : NInv M j) : openI ((n2 M j).addR (2 * j + 1) f) (2 * j + 1) = if f.a = true then -1 else ((2 * j + 2 : Nat) : Int) := by
  unfold openI
  rw [h.sh3 f, if_neg (by omega), Int.toNat_natCast, h.new3 f]
  rfl
theorem NInv.next (h : NInv M j) : NInv ((n2 M j).addR (2 * j + 1) f) (j + 1) := by
  have hn := h.n2n
  have e : 2 * (j + 1) = 2 * j + 2 := by omega
  refine ⟨by rw [addR_n, hn]; omega, h.lim, ?_, ?_, ?_⟩
  · rw [e, addR_pl, ← hn, updL_same]; rfl
  · rw [e, h.new3 f]; kernel_rfl
  · rw [e, h.new3 f]
    exact ⟨fun _ => by omega, fun _ => rfl⟩
theorem NInv.good (h : NInv M j) (hG : Good M R rk) : ∃ R2 rk2, Good (n2 M j) R2 rk2 := by
  have hl := h.len
  obtain ⟨rk2, hG2⟩ := (hG.add divN (Nat.zero_le _)).ins (up := 2 * j) (i := 2 * j + 1) (bef := -1) (by show 2 * j < M.n + 1; omega) (by show 2 * j + 1 < M.n + 1; omega) (h.fits hG)
  rw [h.putD] at hG2
  exact ⟨_, rk2, hG2⟩
end
theorem host_div : hostP [100, 105, 118] = true := by kernel_rfl
abbrev clF (c : Bool) : Fg := ⟨c, false, false, false, false⟩
set_option maxRecDepth 20000 in
set_option maxHeartbeats 2000000 in
theorem nested_go (T : Nat) (hT : T ≤ 60) (n : Int) (hn0 : 0 ≤ n) (hn1 : n ≤ 255) (hmod : n.tmod 60 = (T : Int) - 1) (hT0 : 1 ≤ T) (c : Bool) (w : World) :
    Calls Try.prog 4 #[.int .u8 n, .bool c] w fun e w' => e = .returned (.bool true) ∧ Kept (fun k => k < w.heap.size) w w' := by
  have r0 := new_yes 300 w (by decide) (by decide)
  have hmod2 : n.tmod 60 + 1 = (T : Int) := by omega
  have hm0 : 0 ≤ n.tmod 60 := by omega
  have hm1 : n.tmod 60 ≤ 59 := by omega
  obtain ⟨m, hm⟩ : ∃ m : Int, n.tmod 60 = m := ⟨_, rfl⟩
  rw [hm] at hm0 hm1 hmod2
  have hm2 : 1 + m = (T : Int) := by omega
  clear hmod hmod2
  go_enter Try.func4, Try.ntmps4
  go_wp2_with fail
  refine r0.mono ?_
  rintro e w1 ⟨p, rfl, hp, hX1, hK1⟩
  have HX1 : Hid (DX (fun k => k < w.heap.size) w1 p (Dm.new 300)) := hX1
  have HK1 : Hid (Kept (fun k => k < w.heap.size) w w1) := hK1
  clear r0 hX1 hK1
  go_upto_region 7 with fail
  go_loopg [6, 7, 8] T (fun gh v6 v7 v8 wr => ∃ (j : Nat) (M : Dm) (R : Nat → List Nat) (rk : Nat → Nat), gh = T - j ∧ j ≤ T ∧ v8 = .int .i64 (j : Int) ∧ v6 = .int .i64 ((2 * j : Nat) : Int) ∧ v7 = .int .i64 (if j = 0 then -1 else ((2 * j : Nat) : Int)) ∧ DX (fun k => k < w.heap.size) wr p M ∧ Good M R rk ∧ NInv M j ∧ Kept (fun k => k < w.heap.size) w wr)
  case atStart => exact ⟨0, Dm.new 300, fun _ => [], fun _ => 0, rfl, Nat.zero_le _, rfl, rfl, rfl, HX1.out, Good.new 300, NInv.new, HK1.out⟩
  case round =>
    clear HX1 HK1
    obtain ⟨j, M, R, rk, hgj, hj, rfl, rfl, rfl, hX, hG, hI, hK⟩ := hrel
    have HK : Hid (Kept (fun k => k < w.heap.size) w wr) := hK
    have HI : Hid (NInv M j) := hI
    have HG : Hid (Good M R rk) := hG
    by_cases hlt : j < T
    · have rm := make1 (fun k => k < w.heap.size) p M wr 1 1 divB ⟨#[]⟩ [100, 105, 118] [] rfl divB_list empB_list hX (by rw [hI.len]; omega) (by rw [hI.lim]; omega) sound_div (by decide) (by rw [hI.len, hI.lim]; omega)
      rw [hI.len] at rm
      obtain ⟨z7, hz7⟩ : ∃ z7 : Int, (if j = 0 then -1 else ((2 * j : Nat) : Int)) = z7 := ⟨_, rfl⟩
      have HZ7 : Hid ((if j = 0 then -1 else ((2 * j : Nat) : Int)) = z7) := hz7
      rw [hz7]
      clear hX hG hI hK hz7
      have hjT : (j : Int) < 1 + m := by omega
      go_upto_region 9 with fail
      go_wp2_with fail
      refine rm.mono ?_
      rintro e w2 ⟨rfl, hX2, hK2⟩
      have hXn : DX (fun k => k < w.heap.size) w2 p (M.add divN) := hX2
      have hl := HI.out.len
      have ri := insert_in (fun k => k < w.heap.size) p (2 * j) (2 * j + 1) (-1) (M.add divN) (updR R M.n []) rk w2 hXn (HG.out.add divN (Nat.zero_le _)).wf (HG.out.add divN (Nat.zero_le _)).acy (by show 2 * j < M.n + 1; omega) (by show 2 * j + 1 < M.n + 1; omega) (.inl rfl) (by show M.n + 1 ≤ _; omega)
      have ri' : Calls Try.prog 10 #[.pointer (some ⟨p, 0, none⟩), .int .i64 ((2 * j : Nat) : Int), .int .i64 ((2 * j + 1 : Nat) : Int), .int .i64 (-1)] w2 fun e w' => e = .returned (.int .u16 0) ∧ DX (fun k => k < w.heap.size) w' p (n2 M j) ∧ Kept (fun k => k < w.heap.size) w2 w' := ri.mono fun e w' h => by
        rcases h with ⟨hK, ⟨_, h, _⟩ | ⟨h1, _, h2⟩⟩
        · exact absurd (HI.out.fits HG.out) h
        · rw [HI.out.putD] at h2
          exact ⟨h1, h2, hK⟩
      have HK2 : Hid (Kept (fun k => k < w.heap.size) w w2) := HK.out.trans hK2
      clear ri rm hX2 hK2 hXn hl
      go_upto_region 10 with fail
      go_wp2_with fail
      refine ri'.mono ?_
      rintro e w3 ⟨rfl, hX3, hK3⟩
      obtain ⟨R2, rk2, hG2⟩ := HI.out.good HG.out
      have hn2 := HI.out.n2n
      have hl2 : (n2 M j).limit = 300 := HI.out.lim
      have ra := attach_in (fun k => k < w.heap.size) p (2 * j + 1) (n2 M j) R2 rk2 (clF c) w3 hX3 hG2 (by omega) (by omega) (by omega)
      have ra' : Calls Try.prog 8 #[.pointer (some ⟨p, 0, none⟩), .int .i64 ((2 * j + 1 : Nat) : Int), fgV (clF c)] w3 fun e w' => e = .returned (.tuple #[.int .i64 ((2 * j + 2 : Nat) : Int), .int .u16 0]) ∧ DX (fun k => k < w.heap.size) w' p ((n2 M j).addR (2 * j + 1) (clF c)) ∧ Kept (fun k => k < w.heap.size) w3 w' := ra.mono fun e w' hh => by
        rcases hh with ⟨h1, h2⟩
        have hd := HI.out.nd2
        cases h2 with
        | host q1 _ _ => exact absurd ⟨by rw [hd]; rfl, by rw [hd]; exact host_div⟩ q1
        | root _ _ q =>
          cases q with
          | host q1 _ _ => exact absurd (by rw [hd]; rfl) q1
          | twice _ q2 _ _ => exact absurd (by rw [hd]; rfl) q2
          | full _ _ q3 _ _ => omega
          | made _ _ _ q4 q5 => rw [hn2] at q4; exact ⟨q4, q5, h1⟩
      have HG3 : Hid (∃ R3 rk3, Good ((n2 M j).addR (2 * j + 1) (clF c)) R3 rk3) := ⟨_, _, hG2.addR (2 * j + 1) (clF c) (by omega)⟩
      have HK3 : Hid (Kept (fun k => k < w.heap.size) w w3) := HK2.out.trans hK3
      have HN2 : Hid ((n2 M j).n = 2 * j + 2) := hn2
      clear ri' hX3 hK3 ra hG2 hn2 hl2
      go_upto_region 11 with fail
      go_wp2_with fail
      refine ra'.mono ?_
      rintro e w4 ⟨rfl, hX4, hK4⟩
      obtain ⟨R3, rk3, hG3⟩ := HG3.out
      have hn3 : ((n2 M j).addR (2 * j + 1) (clF c)).n = 2 * j + 3 := by rw [addR_n, HN2.out]
      have rof := of_any (fun k => k < w.heap.size) p (2 * j + 1) _ R3 rk3 w4 hX4 hG3 (by omega) (by omega)
      have rof' : Calls Try.prog 9 #[.pointer (some ⟨p, 0, none⟩), .int .i64 ((2 * j + 1 : Nat) : Int)] w4 fun e w' => e = .returned (.int .i64 z7) ∧ Kept (fun k => k < w4.heap.size) w4 w' := rof.mono fun e w' hh => by
        obtain ⟨z, h1, h2, h3⟩ := hh
        rw [h1.one (HI.out.of3 (clF c)), HZ7.out] at h2
        exact ⟨h2, h3⟩
      have rop := fun (X : World) (hk : Kept (fun k => k < w4.heap.size) w4 X) => open_any (fun k => k < w.heap.size) p (2 * j + 1) _ R3 rk3 X (hX4.kept hk) hG3 (by omega) (by omega) (.inr ⟨2 * j + 2, by omega, HI.out.sh3 (clF c)⟩)
      rw [HI.out.open3 (clF c)] at rop
      have HX4 : Hid (DX (fun k => k < w.heap.size) w4 p ((n2 M j).addR (2 * j + 1) (clF c))) := hX4
      have HK4 : Hid (Kept (fun k => k < w.heap.size) w w4) := HK3.out.trans hK4
      have HG4 : Hid (Good ((n2 M j).addR (2 * j + 1) (clF c)) R3 rk3) := hG3
      clear ra' hX4 hK4 rof hn3 hG3 HG3
      go_upto_region 12 with fail
      go_wp2_with fail
      refine rof'.mono ?_
      rintro e w5 ⟨rfl, hK5⟩
      have rop' := rop w5 hK5
      have HK5 : Hid (Kept (fun k => k < w4.heap.size) w4 w5) := hK5
      clear rop hK5 rof'
      have fin : ∀ w6, Kept (fun k => k < w5.heap.size) w5 w6 → DX (fun k => k < w.heap.size) w6 p ((n2 M j).addR (2 * j + 1) (clF c)) ∧ Kept (fun k => k < w.heap.size) w w6 := fun w6 hk6 =>
        ⟨(HX4.out.kept HK5.out).kept hk6, (HK4.out.trans (HK5.out.mono fun k h => Nat.lt_of_lt_of_le h HK4.out.size)).trans (hk6.mono fun k h => Nat.lt_of_lt_of_le h (Nat.le_trans HK4.out.size HK5.out.size))⟩
      have HFIN : Hid (∀ w6, Kept (fun k => k < w5.heap.size) w5 w6 → DX (fun k => k < w.heap.size) w6 p ((n2 M j).addR (2 * j + 1) (clF c)) ∧ Kept (fun k => k < w.heap.size) w w6) := fin
      clear fin
      cases c with
      | true =>
        have rop2 : Calls Try.prog 11 #[.pointer (some ⟨p, 0, none⟩), .int .i64 ((2 * j + 1 : Nat) : Int)] w5 fun e w' => e = .returned (.int .i64 (-1)) ∧ Kept (fun k => k < w5.heap.size) w5 w' := rop'
        have e1 : ((-1 : Int) == 2 * (j : Int) + 2) = false := by simp; omega
        have e2 : ¬ (-1 : Int) = 2 * (j : Int) + 2 := by omega
        clear rop'
        go_wp2_with (go_at_call 11; refine rop2.mono ?_; rintro e w6 ⟨rfl, hk6⟩)
        obtain ⟨hX6, hK6⟩ := HFIN.out w6 hk6
        go_roundg (T - (j + 1))
        case rel => exact ⟨j + 1, _, R3, rk3, rfl, by omega, by go_num, by go_num, by rw [if_neg (by omega)]; go_num, hX6, HG4.out, HI.out.next _, hK6⟩
        case measure => omega
      | false =>
        have rop2 : Calls Try.prog 11 #[.pointer (some ⟨p, 0, none⟩), .int .i64 ((2 * j + 1 : Nat) : Int)] w5 fun e w' => e = .returned (.int .i64 ((2 * j + 2 : Nat) : Int)) ∧ Kept (fun k => k < w5.heap.size) w5 w' := rop'
        clear rop'
        go_wp2_with (go_at_call 11; refine rop2.mono ?_; rintro e w6 ⟨rfl, hk6⟩)
        obtain ⟨hX6, hK6⟩ := HFIN.out w6 hk6
        go_roundg (T - (j + 1))
        case rel => exact ⟨j + 1, _, R3, rk3, rfl, by omega, by go_num, by go_num, by rw [if_neg (by omega)]; go_num, hX6, HG4.out, HI.out.next _, hK6⟩
        case measure => omega
    · have hjN : j = T := by omega
      subst hjN
      have hjT : ¬ (j : Int) < 1 + m := by omega
      clear hX hG hI hK
      go_wp2
      go_ret
      exact ⟨rfl, HK.out⟩
end Go.Proofs.Ytmplhphcdgpigaa
