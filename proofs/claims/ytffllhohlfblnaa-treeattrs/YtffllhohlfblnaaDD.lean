/-
  What the document's reader takes: word, name.
-/
import Derived.Test.YtffllhohlfblnaaDC
namespace Go.Proofs.Ytffllhohlfblnaa
open Go.RowKit Go.Sort

theorem in_app (ends : List UInt8) (c : UInt8) (r : List UInt8) : hdIn (blk ++ ends) (c :: r) = (blankP c || ends.contains c) := by
  show (blk ++ ends).contains c = _
  unfold blankP
  simp [List.contains_eq_mem, Bool.decide_or]
theorem front_extract {s : List UInt8} {K : Nat → Prop} {w : World} {p : Nat} {st : TS} (h : DX s K w p st) (P : List UInt8 → Bool) : (⟨s.toArray⟩ : ByteArray).extract st.pl (st.cutTo P).pl = ⟨(st.front P).toArray⟩ := by
  rw [sv_extract]
  unfold TS.front
  rw [h.2.2.1.2, List.drop_take]
  have e : (st.cutTo P).pl = st.pl + upTo P (s.drop st.pl) := by rw [← h.2.2.1.2]; rfl
  rw [e, Nat.add_sub_cancel_left]

set_option maxRecDepth 20000 in
set_option maxHeartbeats 2000000 in
theorem dword (s : List UInt8) (K : Nat → Prop) (p : Nat) (st : TS) (w : World) (h : DX s K w p st) (hs : s.length ≤ 1000000) (ends : List UInt8) (hn : ends.length < 1000) :
    Calls Try.prog 76 #[.pointer (some ⟨p, 0, none⟩), sv ends] w fun e w' => e = .returned (sv (st.front (hdIn (blk ++ ends)))) ∧ DX s K w' p (st.cutTo (hdIn (blk ++ ends))) ∧ Kept K w w' := by
  obtain ⟨R, hR⟩ : ∃ R, st.cutTo (hdIn (blk ++ ends)) = R := ⟨_, rfl⟩
  rw [hR]
  obtain ⟨S, hS⟩ : ∃ S : ByteArray, (⟨s.toArray⟩ : ByteArray) = S := ⟨_, rfl⟩
  have sS : S.size = s.length := by rw [← hS]; exact sv_size _
  have hz : S.size ≤ 1000000 := by omega
  have hex := front_extract h (hdIn (blk ++ ends))
  rw [hR, hS] at hex
  have HEX : Hid (S.extract st.pl R.pl = ⟨(st.front (hdIn (blk ++ ends))).toArray⟩) := hex
  have hlenS := h.len
  have hRpl : st.pl ≤ R.pl := by rw [← hR]; exact Nat.le_add_right _ _
  have hRle : R.pl ≤ S.size := by
    rw [← hR]
    show st.pl + upTo _ st.rest ≤ _
    have := upTo_le (hdIn (blk ++ ends)) st.rest
    omega
  have HST : Hid (st.cutTo (hdIn (blk ++ ends)) = R ∧ DX s K w p st) := ⟨hR, h⟩
  have HS : Hid ((⟨s.toArray⟩ : ByteArray) = S) := hS
  have HSS : Hid (S.size = s.length) := sS
  have d1 := h.cells.2.1
  obtain ⟨F, hF⟩ : ∃ F, st.front (hdIn (blk ++ ends)) = F := ⟨_, rfl⟩
  rw [hF] at HEX ⊢
  have hlen0 : st.rest.length ≤ 1000000 := by omega
  clear hR h hS sS hs hex hlenS hF
  obtain ⟨a0, ha0⟩ : ∃ a, st.pl = a := ⟨_, rfl⟩
  rw [ha0] at d1 HEX hRpl
  clear ha0
  go_enter Try.func76, Try.ntmps76
  go_wp2_with fail
  go_loopg [10] st.rest.length (fun gm v wr => ∃ st' : TS, gm = st'.rest.length ∧ st'.cutTo (hdIn (blk ++ ends)) = R ∧ DX s K wr p st' ∧ Kept K w wr)
  case atStart => exact ⟨st, rfl, HST.out.1, HST.out.2, Kept.refl _ _⟩
  case round =>
    clear HST d1
    obtain ⟨st', hgm, hR, hX, kp⟩ := hrel
    obtain ⟨c0, c1, fz⟩ := hX.cells
    have f1 := fz 1
    replace c0 : wr.cell? ⟨p, 0, none⟩ = some (.string S) := by rw [← HS.out]; exact c0
    have hlen := hX.len
    rw [← HSS.out] at hlen
    by_cases hE : st'.rest = []
    · have e1 : decide ((st'.pl : Int) < (S.size : Int)) = false := decide_eq_false (by rw [hE] at hlen; simp only [List.length_nil] at hlen; omega)
      have n1 : ¬ st'.pl < S.size := by rw [hE] at hlen; simp only [List.length_nil] at hlen; omega
      rw [cutTo_here (.inl hE)] at hR
      subst hR
      have HX : Hid (DX s K wr p st') := hX
      obtain ⟨a, ha⟩ : ∃ a, st'.pl = a := ⟨_, rfl⟩
      rw [ha] at c1 e1 n1 HEX hRpl hRle
      clear hX hE hlen ha hgm HS HSS fz f1
      go_wp2_with fail
      go_quiet (fail)
      go_wp2_with fail
      go_quiet (fail)
      go_wp2
      go_ret
      exact ⟨congrArg (fun x => Ending.returned (.string x)) HEX.out, (HX.out.drewN _).drewN _, (kp.drewN _).drewN _⟩
    · obtain ⟨c, r, hr⟩ : ∃ c r, st'.rest = c :: r := by cases hh : st'.rest with | nil => exact absurd hh hE | cons c r => exact ⟨c, r, rfl⟩
      obtain ⟨hl, hc⟩ := hX.byte hr HS.out
      have e1 : decide ((st'.pl : Int) < (S.size : Int)) = true := decide_eq_true (by omega)
      have hhd := in_app ends c r
      rw [← hr] at hhd
      have hq := fun X => dblank (S[st'.pl]'hl) X
      have hq' := fun X => din ends (S[st'.pl]'hl) (by omega) X
      rw [hc] at hq hq'
      obtain ⟨b1, hb1⟩ : ∃ b, blankP c = b := ⟨_, rfl⟩
      obtain ⟨b2, hb2⟩ : ∃ b, ends.contains c = b := ⟨_, rfl⟩
      rw [hb1] at hhd
      rw [hb2] at hhd
      simp only [hb1] at hq
      simp only [hb2] at hq'
      by_cases hb : (b1 || b2) = true
      · rw [hb] at hhd
        rw [cutTo_here (.inr hhd)] at hR
        subst hR
        have HX : Hid (DX s K wr p st') := hX
        obtain ⟨a, ha⟩ : ∃ a, st'.pl = a := ⟨_, rfl⟩
        simp only [ha] at c1 e1 hl hc HEX hRpl hRle
        have hq2 : ∀ X, Calls Try.prog 47 #[.int .u8 (S[a]'hl).toNat] X fun e w' => e = .returned (.bool b1) ∧ w' = X := by rw [hc]; exact hq
        have hq3 : ∀ X, Calls Try.prog 98 #[sv ends, .int .u8 (S[a]'hl).toNat] X fun e w' => e = .returned (.bool b2) ∧ w' = X := by rw [hc]; exact hq'
        clear hX hE hlen ha hgm HS HSS fz hb1 hb2 hr hc hq hq' hhd f1
        cases b1 with
        | true =>
          go_wp2_with fail
          go_quiet ((first | (go_at_call 47; exact Calls.quiet_of_same (hq2 _)) | (go_at_call 98; exact Calls.quiet_of_same (hq3 _))))
          go_wp2_with fail
          go_quiet (fail)
          go_wp2
          go_ret
          exact ⟨congrArg (fun x => Ending.returned (.string x)) HEX.out, (HX.out.drewN _).drewN _, (kp.drewN _).drewN _⟩
        | false =>
          cases b2 with
          | false => cases hb
          | true =>
            go_wp2_with fail
            go_quiet ((first | (go_at_call 47; exact Calls.quiet_of_same (hq2 _)) | (go_at_call 98; exact Calls.quiet_of_same (hq3 _))))
            go_wp2_with fail
            go_quiet (fail)
            go_wp2
            go_ret
            exact ⟨congrArg (fun x => Ending.returned (.string x)) HEX.out, (HX.out.drewN _).drewN _, (kp.drewN _).drewN _⟩
      · have hbf : b1 = false ∧ b2 = false := by cases b1 <;> cases b2 <;> simp_all
        obtain ⟨rfl, rfl⟩ := hbf
        have hno : hdIn (blk ++ ends) st'.rest = false := hhd
        have hX2 := fun X (hXX : DX s K X p st') => hXX.cutAt (m := 1) (by rw [hr]; simp) (n := ((st'.pl + 1 : Nat) : Int)) rfl
        have HR : Hid ((st'.cut 1).cutTo (hdIn (blk ++ ends)) = R) := by show _ = R; rw [← hR, ← cutTo_on hE hno]
        have hgm2 : (st'.cut 1).rest.length + 1 = gk := by rw [hgm, hr]; show (st'.rest.drop 1).length + 1 = _; rw [hr]; rfl
        have HX : Hid (∀ m, DX s K ((wr.drewN m).setCell ⟨p, 1, none⟩ (.int .i64 ((st'.pl + 1 : Nat) : Int))) p (st'.cut 1) ∧ Kept K w ((wr.drewN m).setCell ⟨p, 1, none⟩ (.int .i64 ((st'.pl + 1 : Nat) : Int)))) :=
          fun m => ⟨(hX2 _ (hX.drewN m)).1, (kp.drewN m).trans (hX2 _ (hX.drewN m)).2⟩
        obtain ⟨s2, hs2⟩ : ∃ s2, st'.cut 1 = s2 := ⟨_, rfl⟩
        rw [hs2] at HX HR hgm2
        obtain ⟨a, ha⟩ : ∃ a, st'.pl = a := ⟨_, rfl⟩
        simp only [ha] at c1 e1 hl hc HX
        have hq2 : ∀ X, Calls Try.prog 47 #[.int .u8 (S[a]'hl).toNat] X fun e w' => e = .returned (.bool false) ∧ w' = X := by rw [hc]; exact hq
        have hq3 : ∀ X, Calls Try.prog 98 #[sv ends, .int .u8 (S[a]'hl).toNat] X fun e w' => e = .returned (.bool false) ∧ w' = X := by rw [hc]; exact hq'
        clear hX hR hE hlen ha hgm HS HSS fz hX2 hs2 hno hb hb1 hb2 hr hc hq hq' hhd HEX
        go_wp2_with fail
        go_quiet ((first | (go_at_call 47; exact Calls.quiet_of_same (hq2 _)) | (go_at_call 98; exact Calls.quiet_of_same (hq3 _))))
        go_wp2
        go_roundg s2.rest.length
        case rel => exact ⟨s2, rfl, HR.out, (HX.out _).1, (HX.out _).2⟩
        case measure => omega

theorem drlower (s : List UInt8) (K : Nat → Prop) (p : Nat) (st : TS) (w : World) (h : DX s K w p st) (t : List UInt8) (ht : t.length < 1000000) :
    Calls Try.prog 52 #[sv t] w fun e w' => e = .returned (sv (lowL t)) ∧ DX s K w' p st ∧ Kept K w w' := by
  refine (rlower_any ⟨t.toArray⟩ (fun k => k < w.heap.size) w (fun _ h => h) (by rw [sv_size]; exact ht)).mono ?_
  rintro e w' ⟨rfl, hk⟩
  exact ⟨rfl, h.kept hk, hk.mono h.lt⟩
theorem drclean (s : List UInt8) (K : Nat → Prop) (p : Nat) (st : TS) (w : World) (h : DX s K w p st) (t : List UInt8) (ht : t.length < 100000) :
    Calls Try.prog 54 #[sv t] w fun e w' => e = .returned (sv (cleanL t)) ∧ DX s K w' p st ∧ Kept K w w' := by
  refine (rclean_any ⟨t.toArray⟩ (by rw [sv_size]; exact ht) w).mono ?_
  rintro e w' ⟨rfl, rfl⟩
  exact ⟨rfl, h, Kept.refl _ _⟩
theorem drall (s : List UInt8) (K : Nat → Prop) (p : Nat) (st : TS) (w : World) (h : DX s K w p st) (t : List UInt8) (attr : Bool) (ht : t.length < 1000000) :
    Calls Try.prog 79 #[sv t, .bool attr] w fun e w' => e = .returned (sv (allL attr t)) ∧ DX s K w' p st ∧ Kept K w w' := by
  refine (rall_any ⟨t.toArray⟩ attr (fun k => k < w.heap.size) w (fun _ h => h) (by rw [sv_size]; exact ht)).mono ?_
  rintro e w' ⟨rfl, hk⟩
  exact ⟨rfl, h.kept hk, hk.mono h.lt⟩

theorem dname (s : List UInt8) (K : Nat → Prop) (p : Nat) (st : TS) (w : World) (h : DX s K w p st) (hs : s.length < 100000) (ends : List UInt8) (hn : ends.length < 1000) :
    Calls Try.prog 46 #[.pointer (some ⟨p, 0, none⟩), sv ends] w fun e w' => e = .returned (sv (nmL (st.front (hdIn (blk ++ ends))))) ∧ DX s K w' p (st.cutTo (hdIn (blk ++ ends))) ∧ Kept K w w' := by
  have hl : (st.front (hdIn (blk ++ ends))).length < 100000 := by
    have := h.len
    unfold TS.front
    rw [List.length_take]
    omega
  have h1 := dword s K p st w h (by omega) ends hn
  obtain ⟨R, hR⟩ : ∃ R, st.cutTo (hdIn (blk ++ ends)) = R := ⟨_, rfl⟩
  obtain ⟨F, hF⟩ : ∃ F, st.front (hdIn (blk ++ ends)) = F := ⟨_, rfl⟩
  rw [hR, hF] at h1
  rw [hF] at hl
  rw [hR, hF]
  have h2 := fun X hX => drlower s K p R X hX F (by omega)
  have h3 := fun X hX => drclean s K p R X hX (lowL F) (by rw [lowL_length]; exact hl)
  clear h hR hF
  go_enter Try.func46, Try.ntmps46
  go_wp2_with fail
  refine h1.mono ?_
  rintro e w1 ⟨rfl, x1, k1⟩
  go_wp2_with fail
  refine (h2 w1 x1).mono ?_
  rintro e w2 ⟨rfl, x2, k2⟩
  go_wp2_with fail
  refine (h3 w2 x2).mono ?_
  rintro e w3 ⟨rfl, x3, k3⟩
  go_wp2
  go_ret
  exact ⟨rfl, x3, (k1.trans k2).trans k3⟩
end Go.Proofs.Ytffllhohlfblnaa
