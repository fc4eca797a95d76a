/-
  What the document's reader looks for: looks, blanks, word, name.
-/
import Derived.Test.YtffllhohlfblnaaDB
namespace Go.Proofs.Ytffllhohlfblnaa
open Go.RowKit Go.Sort

set_option maxRecDepth 20000 in
set_option maxHeartbeats 1000000 in
theorem dlooks0 (s : List UInt8) (K : Nat → Prop) (p : Nat) (st : TS) (w : World) (h : DX s K w p st) (hs : s.length ≤ 1000000) (t : List UInt8) (ht : t.length < 10000) :
    Calls Try.prog 32 #[.pointer (some ⟨p, 0, none⟩), sv t] w fun e w' => e = .returned (.bool (lkL t st.rest)) ∧ Kept (fun k => k < w.heap.size) w w' := by
  have hlen := h.len
  have hre := h.2.2.1.2
  obtain ⟨c0, c1, -⟩ := h.cells
  obtain ⟨S, hS⟩ : ∃ S : ByteArray, (⟨s.toArray⟩ : ByteArray) = S := ⟨_, rfl⟩
  obtain ⟨T, hT⟩ : ∃ S : ByteArray, (⟨t.toArray⟩ : ByteArray) = S := ⟨_, rfl⟩
  have sS : S.size = s.length := by rw [← hS]; exact sv_size _
  have sT : T.size = t.length := by rw [← hT]; exact sv_size _
  have HT : Hid (t = T.data.toList) := by show _ = _; rw [← hT]
  have hpl : p < w.heap.size := by
    obtain ⟨_, _, _, A, ta, tc, tcs, fa, fc, ba, bc, z, _, hb, _⟩ := h
    exact lt_block hb
  replace c0 : w.cell? ⟨p, 0, none⟩ = some (.string S) := by rw [← hS]; exact c0
  show Calls Try.prog 32 #[_, .string ⟨t.toArray⟩] w _
  by_cases h1 : t.length ≤ st.rest.length
  · have e1 : decide (((S.size : Int) - (st.pl : Int)) ≥ (T.size : Int)) = true := decide_eq_true (by omega)
    have z1 : st.pl + T.size ≤ S.size := by omega
    have z2 : S.size ≤ 1000000 := by omega
    have hU : ∀ X, Calls Try.prog 52 #[.string (S.extract st.pl (st.pl + T.size))] X fun e w' => e = .returned (sv (lowL (st.rest.take t.length))) ∧ Kept (fun k => k < X.heap.size) X w' := by
      intro X
      have := rlower_any (S.extract st.pl (st.pl + T.size)) (fun k => k < X.heap.size) X (fun _ h => h) (by rw [ByteArray.size_extract]; omega)
      have e : (S.extract st.pl (st.pl + T.size)).data.toList = st.rest.take t.length := by
        rw [sT, ← hS, sv_extract, hre, List.drop_take, Nat.add_sub_cancel_left]
      rw [e] at this
      exact this
    have HR : Hid (lkL t st.rest = (lowL (st.rest.take t.length) == t)) := by
      show lkL _ _ = _
      unfold lkL
      rw [decide_eq_true h1]
      rfl
    rw [hT]
    obtain ⟨U, hUe⟩ : ∃ U : ByteArray, (⟨(lowL (st.rest.take t.length)).toArray⟩ : ByteArray) = U := ⟨_, rfl⟩
    have hU : ∀ d os, Calls Try.prog 52 #[.string (S.extract st.pl (st.pl + T.size))] (grow (redrawn w d) os) fun e w'' => e = .returned (.string U) ∧ ∃ p : Regrown, w'' = grow (redrawn w p.d) p.os := by rw [← hUe]; exact regrown_calls hU
    have HU : Hid (lowL (st.rest.take t.length) = U.data.toList) := by show _ = _; rw [← hUe]
    obtain ⟨q, hq⟩ : ∃ q, lkL t st.rest = q := ⟨_, rfl⟩
    rw [hq] at HR ⊢
    have HQ : Hid (q = (U.data.toList == T.data.toList)) := by show q = _; rw [HR.out, HU.out, ← HT.out]
    obtain ⟨a, ha⟩ : ∃ a, st.pl = a := ⟨_, rfl⟩
    rw [ha] at c1 e1 z1 hU
    clear hS hT sS sT h1 HT HR HU hUe hq h hre hlen hs ht ha
    have c0r := fun d os => cell_regrown c0 d os
    have c1r := fun d os => cell_regrown c1 d os
    go_enter Try.func32, Try.ntmps32
    go_wp2_with fail
    refine wp_region_quiet_below (by kernel_rfl) (by kernel_rfl) ?_
    repeat (go_big_quiet_step (exact hU _ _))
    refine wpQuiet_nil ?_
    intro _ hw'
    obtain ⟨⟨dq, osq⟩, hw''⟩ := hw'
    subst hw''
    go_wp2
    go_ret
    exact ⟨by rw [HQ.out, ← ByteArray.toList_eq, ← ByteArray.toList_eq]; rfl, Kept.regrown (fun _ h => h) _ _⟩
  · have e1 : decide (((S.size : Int) - (st.pl : Int)) ≥ (T.size : Int)) = false := decide_eq_false (by omega)
    have z2 : S.size ≤ 1000000 := by omega
    have z3 : ¬ st.pl + T.size ≤ S.size := by omega
    have z4 : st.pl ≤ S.size := by omega
    have HR : Hid (lkL t st.rest = false) := by
      show lkL _ _ = _
      unfold lkL
      rw [decide_eq_false h1]
      rfl
    rw [hT]
    obtain ⟨q, hq⟩ : ∃ q, lkL t st.rest = q := ⟨_, rfl⟩
    rw [hq] at HR ⊢
    obtain ⟨a, ha⟩ : ∃ a, st.pl = a := ⟨_, rfl⟩
    rw [ha] at c1 e1 z3 z4
    clear hS hT sS sT h1 HT hq h hre hlen hs ht ha
    go_enter Try.func32, Try.ntmps32
    go_wp2_with fail
    go_quiet (fail)
    go_wp2
    go_ret
    exact ⟨by rw [HR.out]; rfl, (Kept.refl _ w).drewN _⟩
theorem dlooks (s : List UInt8) (K : Nat → Prop) (p : Nat) (st : TS) (w : World) (h : DX s K w p st) (hs : s.length ≤ 1000000) (t : List UInt8) (ht : t.length < 10000) :
    Calls Try.prog 32 #[.pointer (some ⟨p, 0, none⟩), sv t] w fun e w' => e = .returned (.bool (lkL t st.rest)) ∧ DX s K w' p st ∧ Kept K w w' := by
  refine (dlooks0 s K p st w h hs t ht).mono ?_
  rintro e w' ⟨rfl, hk⟩
  exact ⟨rfl, h.kept hk, hk.mono h.lt⟩

/-- Where something stands, its byte. -/
theorem DX.byte {s : List UInt8} {K : Nat → Prop} {w : World} {p : Nat} {st : TS} (h : DX s K w p st) {c : UInt8} {r : List UInt8} (hr : st.rest = c :: r) {S : ByteArray} (hS : (⟨s.toArray⟩ : ByteArray) = S) : ∃ hl : st.pl < S.size, S[st.pl]'hl = c := by
  have hlen := h.len
  have hre := h.2.2.1.2
  rw [hr] at hlen
  simp only [List.length_cons] at hlen
  have hl : st.pl < S.size := by rw [← hS, sv_size]; omega
  refine ⟨hl, ?_⟩
  subst hS
  show s[st.pl] = c
  rw [hr, List.drop_eq_getElem_cons (by omega)] at hre
  injection hre with h1 _
  exact h1.symm
theorem cutTo_here {st : TS} {P : List UInt8 → Bool} (h : st.rest = [] ∨ P st.rest = true) : st.cutTo P = st := by
  have e : upTo P st.rest = 0 := by
    rcases h with h | h
    · rw [h]; rfl
    · cases hr : st.rest with
      | nil => rfl
      | cons c r => rw [upTo_cons, ← hr, if_pos h]
  unfold TS.cutTo
  rw [e]
  rfl
theorem cutTo_on {st : TS} {P : List UInt8 → Bool} (h0 : st.rest ≠ []) (h : P st.rest = false) : st.cutTo P = (st.cut 1).cutTo P := by
  cases hr : st.rest with
  | nil => exact absurd hr h0
  | cons c r =>
    have e : upTo P st.rest = upTo P r + 1 := by rw [hr, upTo_cons, ← hr, h, if_neg (by decide)]
    have e2 : (st.cut 1).rest = r := by show st.rest.drop 1 = r; rw [hr]; rfl
    unfold TS.cutTo
    rw [e, e2, cut_cut, Nat.add_comm]

set_option maxRecDepth 20000 in
set_option maxHeartbeats 1000000 in
theorem dblanks (s : List UInt8) (K : Nat → Prop) (p : Nat) (st : TS) (w : World) (h : DX s K w p st) (hs : s.length ≤ 1000000) :
    Calls Try.prog 55 #[.pointer (some ⟨p, 0, none⟩)] w fun e w' => e = .returned (.tuple #[]) ∧ DX s K w' p (st.cutTo (hdOut blk)) ∧ Kept K w w' := by
  obtain ⟨R, hR⟩ : ∃ R, st.cutTo (hdOut blk) = R := ⟨_, rfl⟩
  rw [hR]
  obtain ⟨S, hS⟩ : ∃ S : ByteArray, (⟨s.toArray⟩ : ByteArray) = S := ⟨_, rfl⟩
  have sS : S.size = s.length := by rw [← hS]; exact sv_size _
  have hz : S.size ≤ 1000000 := by omega
  have HST : Hid (st.cutTo (hdOut blk) = R ∧ DX s K w p st) := ⟨hR, h⟩
  have HS : Hid ((⟨s.toArray⟩ : ByteArray) = S) := hS
  have HSS : Hid (S.size = s.length) := sS
  clear hR h hS sS hs
  go_enter Try.func55, Try.ntmps55
  go_wp2_with fail
  go_loopg [2] st.rest.length (fun gm v wr => ∃ st' : TS, gm = st'.rest.length ∧ st'.cutTo (hdOut blk) = R ∧ DX s K wr p st' ∧ Kept K w wr)
  case atStart => exact ⟨st, rfl, HST.out.1, HST.out.2, Kept.refl _ _⟩
  case round =>
    clear HST
    obtain ⟨st', hgm, hR, hX, kp⟩ := hrel
    obtain ⟨c0, c1, fz⟩ := hX.cells
    have f1 := fz 1
    replace c0 : wr.cell? ⟨p, 0, none⟩ = some (.string S) := by rw [← HS.out]; exact c0
    have hlen := hX.len
    rw [← HSS.out] at hlen
    by_cases hE : st'.rest = []
    · have e1 : decide ((st'.pl : Int) < (S.size : Int)) = false := decide_eq_false (by rw [hE] at hlen; simp only [List.length_nil] at hlen; omega)
      have n1 : ¬ st'.pl < S.size := by rw [hE] at hlen; simp only [List.length_nil] at hlen; omega
      have HX : Hid (DX s K wr p R) := by show DX _ _ _ _ _; rw [← hR, cutTo_here (.inl hE)]; exact hX
      obtain ⟨a, ha⟩ : ∃ a, st'.pl = a := ⟨_, rfl⟩
      rw [ha] at c1 e1 n1
      clear hX hR hE hlen ha hgm HS HSS fz f1
      go_wp2_with fail
      go_quiet (fail)
      go_wp2
      go_end0
      exact ⟨rfl, HX.out.drewN _, kp.drewN _⟩
    · obtain ⟨c, r, hr⟩ : ∃ c r, st'.rest = c :: r := by cases hh : st'.rest with | nil => exact absurd hh hE | cons c r => exact ⟨c, r, rfl⟩
      obtain ⟨hl, hc⟩ := hX.byte hr HS.out
      have e1 : decide ((st'.pl : Int) < (S.size : Int)) = true := decide_eq_true (by omega)
      by_cases hb : blankP c = true
      · have hq := fun X => dblank (S[st'.pl]'hl) X
        rw [hc, hb] at hq
        have hno : hdOut blk st'.rest = false := by
          rw [hr]
          show (!blk.contains c) = false
          unfold blankP at hb
          rw [hb]
          rfl
        have hX2 := fun X (hXX : DX s K X p st') => hXX.cutAt (m := 1) (by rw [hr]; simp) (n := ((st'.pl + 1 : Nat) : Int)) rfl
        have HR : Hid ((st'.cut 1).cutTo (hdOut blk) = R) := by show _ = R; rw [← hR, ← cutTo_on hE hno]
        have hgm2 : (st'.cut 1).rest.length + 1 = gk := by rw [hgm, hr]; show (st'.rest.drop 1).length + 1 = _; rw [hr]; rfl
        have HX : Hid (∀ m, DX s K ((wr.drewN m).setCell ⟨p, 1, none⟩ (.int .i64 ((st'.pl + 1 : Nat) : Int))) p (st'.cut 1) ∧ Kept K w ((wr.drewN m).setCell ⟨p, 1, none⟩ (.int .i64 ((st'.pl + 1 : Nat) : Int)))) :=
          fun m => ⟨(hX2 _ (hX.drewN m)).1, (kp.drewN m).trans (hX2 _ (hX.drewN m)).2⟩
        obtain ⟨s2, hs2⟩ : ∃ s2, st'.cut 1 = s2 := ⟨_, rfl⟩
        rw [hs2] at HX HR hgm2
        obtain ⟨a, ha⟩ : ∃ a, st'.pl = a := ⟨_, rfl⟩
        simp only [ha] at c1 e1 hl hc HX
        have hq2 : ∀ X, Calls Try.prog 47 #[.int .u8 (S[a]'hl).toNat] X fun e w' => e = .returned (.bool true) ∧ w' = X := by rw [hc]; exact hq
        clear hX hR hE hlen ha hgm HS HSS fz hX2 hs2 hno hb hr hc hq
        go_wp2_with fail
        go_quiet ((go_at_call 47; exact Calls.quiet_of_same (hq2 _)))
        go_wp2
        go_roundg s2.rest.length
        case rel => exact ⟨s2, rfl, HR.out, (HX.out _).1, (HX.out _).2⟩
        case measure => omega
      · replace hb : blankP c = false := by simpa using hb
        have hq := fun X => dblank (S[st'.pl]'hl) X
        rw [hc, hb] at hq
        have hyes : hdOut blk st'.rest = true := by
          rw [hr]
          show (!blk.contains c) = true
          unfold blankP at hb
          rw [hb]
          rfl
        have HX : Hid (DX s K wr p R) := by show DX _ _ _ _ _; rw [← hR, cutTo_here (.inr hyes)]; exact hX
        obtain ⟨a, ha⟩ : ∃ a, st'.pl = a := ⟨_, rfl⟩
        simp only [ha] at c1 e1 hl hc
        have hq2 : ∀ X, Calls Try.prog 47 #[.int .u8 (S[a]'hl).toNat] X fun e w' => e = .returned (.bool false) ∧ w' = X := by rw [hc]; exact hq
        clear hX hR hE hlen ha hgm HS HSS fz hb hr hc hq hyes f1
        go_wp2_with fail
        go_quiet ((go_at_call 47; exact Calls.quiet_of_same (hq2 _)))
        go_wp2
        go_end0
        exact ⟨rfl, HX.out.drewN _, kp.drewN _⟩
end Go.Proofs.Ytffllhohlfblnaa
