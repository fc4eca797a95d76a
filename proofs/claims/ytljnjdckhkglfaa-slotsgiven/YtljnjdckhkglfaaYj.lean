/-
  A node is put in ahead of another one, or taken out; what is shown in slots of names.
-/
import Derived.Test.YtljnjdckhkglfaaYg
namespace Go.Proofs.Ytljnjdckhkglfaa
open Go.RowKit
set_option linter.unusedVariables false
section
variable {K : Nat → Prop} {w w' : World} {p : Nat} {xs : List Nd} {Q : Nat → List Nat} {M : Dm} {R G : Nat → List Nat} {rk : Nat → Nat}
theorem Dst.insBef (h : Dst K w p xs Q) (up i m : Nat) (l : List Nat) (hu : up < xs.length) (hi : i < xs.length) (hui : up ≠ i) (hh : holdB xs[up] = true) (h0 : i ≠ 0) (hk5 : xs[i].kind ≠ 5) (hk4 : xs[i].kind ≠ 4) (hf : ∀ u, u < xs.length → i ∉ Q u) (hq : Q i = []) (hho : ∀ k (h : k < xs.length), xs[k].host ≠ (i : Int)) (hm : m < xs.length) (hQ : Q up = m :: l) :
    Calls Try.prog 17 #[.pointer (some ⟨p, 0, none⟩), .int .i64 (up : Int), .int .i64 (i : Int), .int .i64 (m : Int)] w fun e w' => e = .returned (.int .u16 0) ∧ Dst K w' p xs (updR Q up (i :: m :: l)) ∧ Kept K w w' := by
  obtain ⟨M, R, G, hK, hd⟩ := h
  obtain ⟨rk, hI⟩ := hK.inv
  have hfree := hd.free hI hi hf
  have hmu := hd.up hI (i := m) hu (by rw [hQ]; exact List.mem_cons_self ..)
  have hmi : m ≠ i := fun e => hf up hu (by rw [hQ, e]; exact List.mem_cons_self ..)
  have hF : Fits M up i (m : Int) := by
    refine ⟨by rw [hd.nd up hu]; exact hh, ?_, fun hw => ?_, .inr ⟨m, by rw [hd.n]; exact hm, rfl, hmu⟩⟩
    · unfold moveB
      rw [hd.nd i hi]
      simp [h0, hk5, hk4]
    · refine hui (wi_leaf hI.good.acy (fun k hk e => ?_) hw (by rw [hd.n]; exact hu))
      unfold parI at e
      by_cases c : (M.pl k).up = -1
      · rw [if_pos c, hd.nd k (by rw [← hd.n]; exact hk)] at e
        exact hho k _ e
      · rw [if_neg c] at e
        rcases hI.good.wf.inn k hk with e' | ⟨u, hu', e', hm'⟩
        · exact c e'
        · have : u = i := by omega
          subst this
          rw [hd.r, hq] at hm'
          cases hm'
  refine (hK.ins (m : Int) (by rw [hd.n]; exact hu) (by rw [hd.n]; exact hi) (.inr ⟨m, by rw [hd.n]; exact hm, rfl⟩) hF).mono ?_
  rintro e w' ⟨rfl, hK', hkk⟩
  refine ⟨rfl, ⟨_, _, _, hK', hd.lim, hd.n, hd.nd, ?_, hd.g⟩, hkk⟩
  unfold putDR
  rw [if_neg (by rw [hd.nd i hi]; exact hk4), if_neg (by omega)]
  unfold Ytljnjdckhkglfaa.putR outR
  rw [if_pos hfree, hd.r, hQ]
  unfold insB
  simp
theorem Dst.remove (h : Dst K w p xs Q) (i u : Nat) (hi : i < xs.length) (hu : u < xs.length) (hm : i ∈ Q u) :
    Calls Try.prog 18 #[.pointer (some ⟨p, 0, none⟩), .int .i64 (i : Int)] w fun e w' => e = .returned (.int .u16 0) ∧ Dst K w' p xs (updR Q u ((Q u).erase i)) ∧ Kept K w w' := by
  obtain ⟨M, R, G, hK, hd⟩ := h
  obtain ⟨rk, hI⟩ := hK.inv
  have hup := hd.up hI hu hm
  have hin : i < M.n := by rw [hd.n]; exact hi
  have hle : M.n ≤ 100000 := Nat.le_trans hK.le hK.lim
  refine (remove_in K p i M R w hK.d hI.good.wf hin (by omega)).mono ?_
  rintro e w' ⟨hk, ⟨h1, _, _⟩ | ⟨_, rfl, hX⟩⟩
  · omega
  · refine ⟨rfl, ⟨_, _, _, ⟨hX, ⟨rk, hI.out hin⟩, hK.lim, hK.le⟩, hd.lim, hd.n, hd.nd, ?_, hd.g⟩, hk⟩
    unfold outR
    rw [if_neg (by omega), hup, Int.toNat_natCast, hd.r]
end
/-- Those that ask for a name, of what came in. -/
def askL (a : Nat) (T : List UInt8) (t : Nat) : List Nat := (List.range' (3 + a) T.length).filter fun k => asksB (nmQ t) (kidC (T.getD (k - (3 + a)) 0))
theorem askL_len (a : Nat) (T : List UInt8) (t : Nat) : (askL a T t).length ≤ T.length := by
  unfold askL
  refine Nat.le_trans (List.length_filter_le ..) ?_
  rw [List.length_range']; exact Nat.le_refl _
section
variable {K : Nat → Prop} {w w' : World} {p : Nat} {M : Dm} {R G : Nat → List Nat} {rk : Nat → Nat} {S T : List UInt8} {E : List Nd} {Q : Nat → List Nat} {sl : List Nat} {t : Nat}
theorem xsE_len : (xsH (S.map nmC) (T.map kidC ++ E)).length = 3 + S.length + T.length + E.length := by
  rw [xsH_len]; simp; omega
theorem xsE_s {i : Nat} (hi : i < S.length) (h : 3 + i < (xsH (S.map nmC) (T.map kidC ++ E)).length) : (xsH (S.map nmC) (T.map kidC ++ E))[3 + i] = slN1 (nmC S[i]) := by
  rw [xsH_s (by rw [List.length_map]; exact hi), List.getElem_map]
theorem xsE_t {j : Nat} (hj : j < T.length) (h : 3 + S.length + j < (xsH (S.map nmC) (T.map kidC ++ E)).length) : (xsH (S.map nmC) (T.map kidC ++ E))[3 + S.length + j] = kidC T[j] := by
  have hh : 3 + (S.map nmC).length + j < (xsH (S.map nmC) (T.map kidC ++ E)).length := by rw [List.length_map]; exact h
  have := xsH_t (S := S.map nmC) (T := T.map kidC ++ E) (j := j) (by simp; omega) hh
  simp only [List.length_map] at this
  rw [this, List.getElem_append_left (by rw [List.length_map]; exact hj), List.getElem_map]
theorem ask_eq (hd : Ds M R G (xsH (S.map nmC) (T.map kidC ++ E)) Q) (t : Nat) : (List.range' (3 + S.length) T.length).filter (fun k => asksB (nmQ t) (M.nd k)) = askL S.length T t := by
  unfold askL
  refine List.filter_congr fun k hk => ?_
  rw [List.mem_range'_1] at hk
  have hl := xsE_len (S := S) (T := T) (E := E)
  obtain ⟨j, rfl⟩ : ∃ j, k = 3 + S.length + j := ⟨k - (3 + S.length), by omega⟩
  have hj : j < T.length := by omega
  rw [hd.nd _ (by omega), xsE_t hj, Nat.add_sub_cancel_left]
  congr 2
  simp [hj]
theorem namesE_fst (hd : Ds M R G (xsH (S.map nmC) (T.map kidC ++ E)) Q) {t : Nat} (ht : t < 4) : fstO (fun j => slNm (nmQ t) (M.nd j)) (List.range' 3 S.length) = plcT (S.map tOf) t := by
  have hl := xsE_len (S := S) (T := T) (E := E)
  have := fst_plc (fun j => slNm (nmQ t) (M.nd j)) t (S.map tOf) 3 fun i h => by
    rw [List.length_map] at h
    have e := hd.nd (3 + i) (by omega)
    rw [xsE_s h] at e
    show slNm (nmQ t) (M.nd (3 + i)) = _
    rw [e, List.getElem_map]
    show (true && decide (nmC S[i] = nmQ t)) = _
    rw [Bool.true_and]
    by_cases c : tOf S[i] = t
    · rw [decide_eq_true c, decide_eq_true (by unfold nmC; rw [c])]
    · rw [decide_eq_false c, decide_eq_false (show nmC S[i] ≠ nmQ t from nmQ_ne (tOf_lt _) ht c)]
  rw [List.length_map] at this
  rw [this]
  rcases plcT_ge (S.map tOf) t with e | e
  · rw [if_pos e, e]
  · rw [if_neg (by omega)]; omega
/-- What is shown in a slot of names that came in. -/
theorem namesE_asg (hd : Ds M R G (xsH (S.map nmC) (T.map kidC ++ E)) (QH (List.range' 3 S.length) (List.range' (3 + S.length) T.length))) (hI : Inv M R G rk) {i : Nat} (hi : i < S.length) :
    asgI M R G ((3 + i : Nat) : Int) = if plcT (S.map tOf) (tOf S[i]) = 3 + (i : Int) then askL S.length T (tOf S[i]) else [] := by
  have hl := xsE_len (S := S) (T := T) (E := E)
  rw [host_asg hd hI (by omega) (fun k hk => by rw [List.mem_range'_1] at hk; omega) (fun hk => by rw [List.mem_range'_1] at hk; omega) (xsH_2 _) (i := 3 + i) (by omega) (by rw [List.mem_range'_1]; omega) (nm := nmQ (tOf S[i])) (by rw [xsE_s hi]; rfl), namesE_fst hd (tOf_lt _), ask_eq hd]
  rfl
/-- One more slot, ahead of all. -/
theorem aheadE_new (hd : Ds M R G (xsH (S.map nmC) (T.map kidC ++ [slN1 (nmQ t)])) (QH ((3 + S.length + T.length) :: List.range' 3 S.length) (List.range' (3 + S.length) T.length))) (hI : Inv M R G rk) :
    asgI M R G ((3 + S.length + T.length : Nat) : Int) = askL S.length T t ∧ ∀ i, i < S.length → tOf (S.getD i 0) = t → asgI M R G ((3 + i : Nat) : Int) = [] := by
  have hl := xsE_len (S := S) (T := T) (E := [slN1 (nmQ t)])
  rw [List.length_singleton] at hl
  have ex : (xsH (S.map nmC) (T.map kidC ++ [slN1 (nmQ t)]))[3 + S.length + T.length]'(by omega) = slN1 (nmQ t) := by
    have := xsH_t (S := S.map nmC) (T := T.map kidC ++ [slN1 (nmQ t)]) (j := T.length) (by simp) (by rw [List.length_map]; omega)
    simp only [List.length_map] at this
    rw [this, List.getElem_append_right (by simp)]
    simp
  have hsl : ∀ j ∈ (3 + S.length + T.length) :: List.range' 3 S.length, 3 ≤ j ∧ j < (xsH (S.map nmC) (T.map kidC ++ [slN1 (nmQ t)])).length := fun k hk => by
    rcases List.mem_cons.1 hk with rfl | hk
    · omega
    · rw [List.mem_range'_1] at hk; omega
  have hkd : 2 ∉ List.range' (3 + S.length) T.length := fun hk => by rw [List.mem_range'_1] at hk; omega
  have hP : slNm (nmQ t) (M.nd (3 + S.length + T.length)) = true := by
    rw [hd.nd _ (by omega), ex]
    show (true && decide (nmQ t = nmQ t)) = true
    rw [decide_eq_true rfl]; rfl
  have hfst : fstO (fun j => slNm (nmQ t) (M.nd j)) ((3 + S.length + T.length) :: List.range' 3 S.length) = ((3 + S.length + T.length : Nat) : Int) := by
    rw [fstO_cns, if_pos hP]
  refine ⟨?_, fun i hi et => ?_⟩
  · rw [host_asg hd hI (by omega) hsl hkd (xsH_2 _) (i := 3 + S.length + T.length) (by omega) (List.mem_cons_self ..) (nm := nmQ t) ex, hfst, if_pos rfl, ask_eq hd]
  · have eg : S.getD i 0 = S[i] := by simp [hi]
    rw [eg] at et
    rw [host_asg hd hI (by omega) hsl hkd (xsH_2 _) (i := 3 + i) (by omega) (List.mem_cons_of_mem _ (by rw [List.mem_range'_1]; omega)) (nm := nmQ t) (by rw [xsE_s hi, ← et]; rfl), hfst, if_neg (by omega)]
/-- Taken out it shows nothing. -/
theorem aheadE_out (hd : Ds M R G (xsH (S.map nmC) (T.map kidC ++ E)) (QH (List.range' 3 S.length) (List.range' (3 + S.length) T.length))) (hI : Inv M R G rk) {x : Nat} (hx : x = 3 + S.length + T.length) (hl : x < (xsH (S.map nmC) (T.map kidC ++ E)).length) (h5 : (xsH (S.map nmC) (T.map kidC ++ E))[x].kind ≠ 5) :
    asgI M R G (x : Int) = [] := by
  have hxn : x < M.n := by rw [hd.n]; exact hl
  rw [asgI_in hxn]
  refine asg_not ?_
  have hf := hd.free hI hl (fun u _ h => by rcases QH_mem h with ⟨a, _⟩ | ⟨a, _⟩ <;> (rw [List.mem_range'_1] at a; omega))
  have : ofZ M (x : Int) = -1 := ofZ_eq hxn (.no (.here hf) (by rw [hd.nd x hl]; exact h5))
  unfold isS
  rw [this]
  simp
theorem QH_ahead (sl kd : List Nat) (i : Nat) : updR (QH sl kd) 2 (i :: sl) = QH (i :: sl) kd := by
  funext k
  unfold updR
  by_cases c : k = 2
  · rw [if_pos c]; subst c; rfl
  · rw [if_neg c]; unfold QH; rw [if_neg c, if_neg c]
theorem QH_back (sl kd : List Nat) (i : Nat) : updR (QH (i :: sl) kd) 2 ((QH (i :: sl) kd 2).erase i) = QH sl kd := by
  funext k
  unfold updR
  by_cases c : k = 2
  · rw [if_pos c]; subst c
    show (i :: sl).erase i = sl
    simp
  · rw [if_neg c]; unfold QH; rw [if_neg c, if_neg c]
/-- The steps of the slot that is put in ahead of all. -/
theorem stA_make (h : Dst K w p (xsH (S.map nmC) (T.map kidC)) (QH (List.range' 3 S.length) (List.range' (3 + S.length) T.length))) (hA : S.length + T.length < 200) :
    Calls Try.prog 16 #[.pointer (some ⟨p, 0, none⟩), plainV 1 slotBB ⟨#[]⟩] w fun e w' => e = .returned (.tuple #[.int .i64 ((3 + S.length + T.length : Nat) : Int), .int .u16 0]) ∧ Dst K w' p (xsH (S.map nmC) (T.map kidC) ++ [elD slotN]) (QH (List.range' 3 S.length) (List.range' (3 + S.length) T.length)) ∧ Kept K w w' := by
  have hl : (xsH (S.map nmC) (T.map kidC)).length = 3 + S.length + T.length := by rw [xsH_len]; simp
  refine (h.make 1 1 slotBB ⟨#[]⟩ [115, 108, 111, 116] [] rfl slotBB_list empB_list sound_sl (by decide) (QH_far (by omega)) (by omega)).mono ?_
  rintro e w' ⟨rfl, h', hk⟩
  exact ⟨by rw [hl], h', hk⟩
theorem stA_in (h : Dst K w p (xsH (S.map nmC) (T.map kidC ++ [slN1 (nmQ t)])) (QH (List.range' 3 S.length) (List.range' (3 + S.length) T.length))) (hS : 0 < S.length) :
    Calls Try.prog 17 #[.pointer (some ⟨p, 0, none⟩), .int .i64 2, .int .i64 ((3 + S.length + T.length : Nat) : Int), .int .i64 3] w fun e w' => e = .returned (.int .u16 0) ∧ Dst K w' p (xsH (S.map nmC) (T.map kidC ++ [slN1 (nmQ t)])) (QH ((3 + S.length + T.length) :: List.range' 3 S.length) (List.range' (3 + S.length) T.length)) ∧ Kept K w w' := by
  have hl := xsE_len (S := S) (T := T) (E := [slN1 (nmQ t)])
  rw [List.length_singleton] at hl
  have ex : (xsH (S.map nmC) (T.map kidC ++ [slN1 (nmQ t)]))[3 + S.length + T.length]'(by omega) = slN1 (nmQ t) := by
    have := xsH_t (S := S.map nmC) (T := T.map kidC ++ [slN1 (nmQ t)]) (j := T.length) (by simp) (by rw [List.length_map]; omega)
    simp only [List.length_map] at this
    rw [this, List.getElem_append_right (by simp)]
    simp
  obtain ⟨l, hlr⟩ : ∃ l, List.range' 3 S.length = 3 :: l := by
    obtain ⟨n, hn⟩ : ∃ n, S.length = n + 1 := ⟨S.length - 1, by omega⟩
    exact ⟨List.range' 4 n, by rw [hn]; rfl⟩
  refine (h.insBef 2 (3 + S.length + T.length) 3 l (by omega) (by omega) (by omega) (by rw [xsH_2]; rfl) (by omega) (by rw [ex]; show (1 : Nat) ≠ 5; decide) (by rw [ex]; show (1 : Nat) ≠ 4; decide) (fun u _ hm => ?_) (QH_far (by omega)) (fun k hk => ?_) (by omega) hlr).mono ?_
  · rcases QH_mem hm with ⟨a, _⟩ | ⟨a, _⟩ <;> (rw [List.mem_range'_1] at a; omega)
  · have := xsH_host (S := S.map nmC) (T := T.map kidC ++ [slN1 (nmQ t)]) (fun y hy => by
      rcases List.mem_append.1 hy with hy | hy
      · obtain ⟨c, _, rfl⟩ := List.mem_map.1 hy; exact (kidC_ok c).host
      · rw [List.mem_singleton.1 hy]; rfl) hk
    omega
  rintro e' w' ⟨rfl, h', hk⟩
  rw [← hlr, QH_ahead] at h'
  exact ⟨rfl, h', hk⟩
theorem stA_out (h : Dst K w p (xsH (S.map nmC) (T.map kidC ++ [slN1 (nmQ t)])) (QH ((3 + S.length + T.length) :: List.range' 3 S.length) (List.range' (3 + S.length) T.length))) :
    Calls Try.prog 18 #[.pointer (some ⟨p, 0, none⟩), .int .i64 ((3 + S.length + T.length : Nat) : Int)] w fun e w' => e = .returned (.int .u16 0) ∧ Dst K w' p (xsH (S.map nmC) (T.map kidC ++ [slN1 (nmQ t)])) (QH (List.range' 3 S.length) (List.range' (3 + S.length) T.length)) ∧ Kept K w w' := by
  have hl := xsE_len (S := S) (T := T) (E := [slN1 (nmQ t)])
  rw [List.length_singleton] at hl
  refine (h.remove (3 + S.length + T.length) 2 (by omega) (by omega) (List.mem_cons_self ..)).mono ?_
  rintro e w' ⟨rfl, h', hk⟩
  rw [QH_back] at h'
  exact ⟨rfl, h', hk⟩
end
end Go.Proofs.Ytljnjdckhkglfaa
