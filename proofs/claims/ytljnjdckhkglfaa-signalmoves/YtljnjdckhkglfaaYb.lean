/-
  A host with a root, a slot in it with nodes of its own, and nodes in the host (pure).
-/
import Derived.Test.YtljnjdckhkglfaaYa
namespace Go.Proofs.Ytljnjdckhkglfaa
open Go.RowKit
set_option linter.unusedVariables false
def elD (nm : List UInt8) : Nd := (Mk.nd ⟨1, nm, [], []⟩).new
def txD (d : List UInt8) : Nd := (Mk.nd ⟨2, [], d, []⟩).new
def divS : Nd := { elD [100, 105, 118] with shadow := 2 }
def slA (l : List Atr) : Nd := { elD slotN with attrs := l }
abbrev bs (f : Fg) (l : List Atr) : List Nd := [frag0.new, divS, rtN f 1, slA l]
def rw4 (own kids : List Nat) : Nat → List Nat := fun k => if k = 3 then own else if k = 1 then kids else if k = 2 then [3] else []
abbrev xsR (f : Fg) (l : List Atr) (N J : Nat) : List Nd := (bs f l ++ List.replicate N (txD [120])) ++ List.replicate J (txD [121])
theorem xsR_len (f : Fg) (l : List Atr) (N J : Nat) : (xsR f l N J).length = 4 + N + J := by
  unfold xsR; rw [List.length_append, List.length_append, List.length_replicate, List.length_replicate]; rfl
theorem xsR_1 {f : Fg} {l : List Atr} {N J : Nat} (h : 1 < (xsR f l N J).length) : (xsR f l N J)[1] = divS := by
  unfold xsR; rw [List.getElem_append_left (by simp [bs] <;> omega), List.getElem_append_left (by simp [bs])]; rfl
theorem xsR_2 {f : Fg} {l : List Atr} {N J : Nat} (h : 2 < (xsR f l N J).length) : (xsR f l N J)[2] = rtN f 1 := by
  unfold xsR; rw [List.getElem_append_left (by simp [bs] <;> omega), List.getElem_append_left (by simp [bs])]; rfl
theorem xsR_3 {f : Fg} {l : List Atr} {N J : Nat} (h : 3 < (xsR f l N J).length) : (xsR f l N J)[3] = slA l := by
  unfold xsR; rw [List.getElem_append_left (by simp [bs] <;> omega), List.getElem_append_left (by simp [bs])]; rfl
theorem xsR_own {f : Fg} {l : List Atr} {N J k : Nat} (h : k < (xsR f l N J).length) (h4 : 4 ≤ k) : ∃ d, (xsR f l N J)[k] = txD d := by
  have hl := xsR_len f l N J
  unfold xsR
  by_cases c : k < 4 + N
  · refine ⟨[120], ?_⟩
    rw [List.getElem_append_left (by simp [bs] <;> omega), List.getElem_append_right (by simp [bs] <;> omega), List.getElem_replicate]
  · refine ⟨[121], ?_⟩
    rw [List.getElem_append_right (by simp [bs] <;> omega), List.getElem_replicate]
theorem xsR_host {f : Fg} {l : List Atr} {N J k : Nat} (h : k < (xsR f l N J).length) : (xsR f l N J)[k].host = -1 ∨ (xsR f l N J)[k].host = 1 := by
  by_cases c : 4 ≤ k
  · obtain ⟨d, e⟩ := xsR_own h c; rw [e]; exact .inl rfl
  · have : k = 0 ∨ k = 1 ∨ k = 2 ∨ k = 3 := by omega
    rcases this with rfl | rfl | rfl | rfl
    · left; unfold xsR; rw [List.getElem_append_left (by simp [bs] <;> omega), List.getElem_append_left (by simp [bs])]; rfl
    · rw [xsR_1]; exact .inl rfl
    · rw [xsR_2]; exact .inr rfl
    · rw [xsR_3]; exact .inl rfl
abbrev ownN (N : Nat) : List Nat := List.range' 4 N
abbrev kidN (N J : Nat) : List Nat := List.range' (4 + N) J
abbrev QR (N J : Nat) : Nat → List Nat := rw4 (ownN N) (kidN N J)
theorem QR_mem {N J k u : Nat} (h : k ∈ QR N J u) : k < 4 + N + J ∧ 3 ≤ k ∧ (k = 3 → u = 2) ∧ (4 ≤ k → k < 4 + N → u = 3) ∧ (4 + N ≤ k → u = 1) := by
  unfold QR rw4 at h
  by_cases c3 : u = 3
  · rw [if_pos c3, List.mem_range'_1] at h; omega
  · rw [if_neg c3] at h
    by_cases c1 : u = 1
    · rw [if_pos c1, List.mem_range'_1] at h; omega
    · rw [if_neg c1] at h
      by_cases c2 : u = 2
      · rw [if_pos c2, List.mem_singleton] at h; omega
      · rw [if_neg c2] at h; cases h
theorem QR_far {N J k : Nat} (h : 4 ≤ k) : QR N J k = [] := by
  unfold QR rw4; rw [if_neg (by omega), if_neg (by omega), if_neg (by omega)]
theorem QR_own (N J : Nat) : updR (QR N J) 3 (QR N J 3 ++ [4 + N]) = rw4 (ownN (N + 1)) (kidN N J) := by
  funext k
  unfold updR
  by_cases c : k = 3
  · rw [if_pos c]; subst c
    unfold rw4
    rw [if_pos rfl, ownN, List.range'_1_concat]; rfl
  · rw [if_neg c]; show rw4 _ _ k = rw4 _ _ k; unfold rw4; simp only [if_neg c]
theorem QR_kid (N J : Nat) : updR (QR N J) 1 (QR N J 1 ++ [4 + N + J]) = QR N (J + 1) := by
  funext k
  unfold updR
  by_cases c : k = 1
  · rw [if_pos c]; subst c
    unfold QR rw4
    rw [if_neg (by decide), if_pos rfl, if_neg (by decide), if_pos rfl, kidN, kidN, List.range'_1_concat]
  · rw [if_neg c]; show rw4 _ _ k = rw4 _ _ k; unfold rw4; simp only [if_neg c]
section
variable {K : Nat → Prop} {w w' : World} {p : Nat} {M : Dm} {R G : Nat → List Nat} {rk : Nat → Nat} {l : List Atr} {N J : Nat}
theorem rest_tree (hd : Ds M R G (xsR fg0 l N J) (QR N J)) (hI : Inv M R G rk) : tr M.n (QR N J) 2 = 2 :: 3 :: ownN N := by
  have hn : M.n = 4 + N + J := hd.n.trans (xsR_len ..)
  have hF : Falls M.n (QR N J) rk := by have := hI.good.falls; rw [hd.r] at this; exact this
  rw [tr_eq hF (by omega)]
  show 2 :: [3].flatMap (tr M.n (QR N J)) = _
  rw [List.flatMap_singleton, tr_row hF (by omega) fun j hj => ?_]
  · rfl
  · have := QR_mem hj
    have h3 : 4 ≤ j := by have h : j ∈ ownN N := hj; rw [List.mem_range'_1] at h; omega
    exact ⟨by omega, QR_far h3⟩
theorem rest_fst (hd : Ds M R G (xsR fg0 l N J) (QR N J)) (hI : Inv M R G rk) (nm : List UInt8) : fstO (fun j => slNm nm (M.nd j)) (tr M.n (QR N J) 2) = if atV nameN l = nm then 3 else -1 := by
  have hl := xsR_len fg0 l N J
  rw [rest_tree hd hI]
  have e2 : slNm nm (M.nd 2) = false := by rw [hd.nd 2 (by omega), xsR_2]; rfl
  have e3 : slNm nm (M.nd 3) = decide (atV nameN l = nm) := by rw [hd.nd 3 (by omega), xsR_3]; rfl
  have eo : ∀ j ∈ ownN N, slNm nm (M.nd j) = false := fun j hj => by
    rw [List.mem_range'_1] at hj
    obtain ⟨d, e⟩ := xsR_own (f := fg0) (l := l) (N := N) (J := J) (k := j) (by omega) (by omega)
    rw [hd.nd j (by omega), e]; rfl
  unfold fstO
  rw [List.find?_cons, e2, List.find?_cons, e3]
  by_cases c : atV nameN l = nm
  · rw [decide_eq_true c, if_pos c]; rfl
  · rw [decide_eq_false c, if_neg c, List.find?_eq_none.2 (fun j hj => by rw [eo j hj]; decide)]
theorem rest_asg (hd : Ds M R G (xsR fg0 l N J) (QR N J)) (hI : Inv M R G rk) : asgL M R G 3 = if atV nameN l = [] then kidN N J else [] := by
  have hl := xsR_len fg0 l N J
  have ho : ofZ M ((3 : Nat) : Int) = ((2 : Nat) : Int) := hd.of hI (i := 3) (s := 2) (by omega) (by omega) (List.mem_singleton.2 rfl) (by rw [xsR_2]; rfl) (fun u _ h => by have := QR_mem h; omega)
  rw [hd.asg hI (i := 3) (s := 2) (o := 1) (by omega) (by omega) (by rw [xsR_3]; rfl) ho (by rw [xsR_2]; rfl) (by rw [xsR_2]; rfl), xsR_3]
  show (if fstO (fun j => slNm (atV nameN l) (M.nd j)) (tr M.n (QR N J) 2) = 3 then (kidN N J).filter (fun k => asksB (atV nameN l) (M.nd k)) else []) = _
  rw [rest_fst hd hI, if_pos rfl, if_pos rfl]
  have ek : ∀ k ∈ kidN N J, asksB (atV nameN l) (M.nd k) = decide ([] = atV nameN l) := fun k hk => by
    rw [List.mem_range'_1] at hk
    obtain ⟨d, e⟩ := xsR_own (f := fg0) (l := l) (N := N) (J := J) (k := k) (by omega) (by omega)
    rw [hd.nd k (by omega), e]; rfl
  by_cases c : atV nameN l = []
  · rw [if_pos c, List.filter_eq_self.2 (fun k hk => by rw [ek k hk, c]; rfl)]
  · rw [if_neg c, List.filter_eq_nil_iff.2 (fun k hk => by rw [ek k hk, decide_eq_false (fun h => c h.symm)]; decide)]
theorem rest_kids (hd : Ds M R G (xsR fg0 l N J) (QR N J)) (hI : Inv M R G rk) : fKI M R G 3 = if atV nameN l = [] ∧ J ≠ 0 then kidN N J else ownN N := by
  have hl := xsR_len fg0 l N J
  have e := fKI_in (M := M) (R := R) (G := G) (i := 3) (by rw [hd.n]; omega)
  refine Eq.trans e ?_
  unfold fK
  rw [hd.nd 3 (by omega), xsR_3, if_neg (by show ¬ ((-1 : Int) ≠ -1); decide), rest_asg hd hI, hd.r]
  by_cases c : atV nameN l = []
  · rw [if_pos c]
    cases J with
    | zero => rw [if_pos (show kidN N 0 = [] from rfl), if_neg (by simp)]; rfl
    | succ j => rw [if_neg (by simp), if_pos ⟨c, by omega⟩]
  · rw [if_neg c, if_pos rfl, if_neg (fun h => c h.1)]; rfl
theorem rest_upk (hd : Ds M R G (xsR fg0 l N J) (QR N J)) (hI : Inv M R G rk) (hJ : 0 < J) : upI M R G ((4 + N : Nat) : Int) = if atV nameN l = [] then 3 else -1 := by
  have hl := xsR_len fg0 l N J
  have hm : 4 + N ∈ QR N J 1 := by show 4 + N ∈ kidN N J; rw [List.mem_range'_1]; omega
  have e := upI_in (M := M) (R := R) (G := G) (i := 4 + N) (by rw [hd.n]; omega)
  have eu := hd.up hI (u := 1) (by omega) hm
  refine Eq.trans e ?_
  unfold upZ
  rw [eu, if_neg (by omega), Int.toNat_natCast, hd.nd 1 (by omega), xsR_1, if_neg (by decide), if_pos (by decide)]
  obtain ⟨d, ed⟩ := xsR_own (f := fg0) (l := l) (N := N) (J := J) (k := 4 + N) (by omega) (by omega)
  rw [hd.find hI (k := 4 + N) (u := 1) (s := 2) (by omega) (by omega) (by omega) hm (by rw [xsR_1]; rfl) (by rw [xsR_2]; rfl) (by rw [ed]; rfl), ed]
  exact rest_fst hd hI []
theorem rest_upo (hd : Ds M R G (xsR fg0 l N J) (QR N J)) (hI : Inv M R G rk) (hN : 0 < N) : upI M R G ((4 : Nat) : Int) = if atV nameN l = [] ∧ J ≠ 0 then -1 else 3 := by
  have hl := xsR_len fg0 l N J
  have hm : 4 ∈ QR N J 3 := by show 4 ∈ ownN N; rw [List.mem_range'_1]; omega
  have e := upI_in (M := M) (R := R) (G := G) (i := 4) (by rw [hd.n]; omega)
  have eu := hd.up hI (u := 3) (by omega) hm
  refine Eq.trans e ?_
  unfold upZ
  rw [eu, if_neg (by omega), Int.toNat_natCast, hd.nd 3 (by omega), xsR_3, if_neg (by show ¬ ((1 : Nat) = 5); decide), if_neg (by show ¬ ((-1 : Int) ≠ -1); decide), rest_asg hd hI]
  by_cases c : atV nameN l = []
  · rw [if_pos c]
    cases J with
    | zero => rw [if_pos (show kidN N 0 = [] from rfl), if_neg (by simp)]; rfl
    | succ j => rw [if_neg (by simp), if_pos ⟨c, by omega⟩]
  · rw [if_neg c, if_pos rfl, if_neg (fun h => c h.1)]; rfl
/-- One more of its own. -/
theorem Dst.own (h : Dst K w p (xsR fg0 l N 0) (QR N 0)) (hN : N < 20) : Calls Try.prog 16 #[.pointer (some ⟨p, 0, none⟩), plainV 2 ⟨#[]⟩ ⟨#[120]⟩] w fun e w' => e = .returned (.tuple #[.int .i64 ((4 + N : Nat) : Int), .int .u16 0]) ∧ Dst K w' p (xsR fg0 l (N + 1) 0) (QR N 0) ∧ Kept K w w' := by
  have hl := xsR_len fg0 l N 0
  refine (h.make 2 2 ⟨#[]⟩ ⟨#[120]⟩ [] [120] rfl empB_list xB_list sound_txt (by decide) (by rw [hl]; exact QR_far (by omega)) (by omega)).mono ?_
  rintro e w' ⟨rfl, h', hk⟩
  refine ⟨by rw [hl, Nat.add_zero], ?_, hk⟩
  have : xsR fg0 l N 0 ++ [(Mk.nd ⟨2, [], [120], []⟩).new] = xsR fg0 l (N + 1) 0 := by
    unfold xsR; rw [List.replicate_succ']; simp only [List.replicate_zero, List.append_nil, List.append_assoc]; rfl
  rw [this] at h'; exact h'
theorem Dst.kid (h : Dst K w p (xsR fg0 l N J) (QR N J)) (hN : N < 20) (hJ : J < 20) : Calls Try.prog 16 #[.pointer (some ⟨p, 0, none⟩), plainV 2 ⟨#[]⟩ ⟨#[121]⟩] w fun e w' => e = .returned (.tuple #[.int .i64 ((4 + N + J : Nat) : Int), .int .u16 0]) ∧ Dst K w' p (xsR fg0 l N (J + 1)) (QR N J) ∧ Kept K w w' := by
  have hl := xsR_len fg0 l N J
  refine (h.make 2 2 ⟨#[]⟩ ⟨#[121]⟩ [] [121] rfl empB_list (by rw [ByteArray.toList_eq]) (by kernel_rfl) (by decide) (by rw [hl]; exact QR_far (by omega)) (by omega)).mono ?_
  rintro e w' ⟨rfl, h', hk⟩
  refine ⟨by rw [hl], ?_, hk⟩
  have : xsR fg0 l N J ++ [(Mk.nd ⟨2, [], [121], []⟩).new] = xsR fg0 l N (J + 1) := by
    unfold xsR; rw [List.replicate_succ', List.append_assoc, List.append_assoc, List.append_assoc]; rfl
  rw [this] at h'; exact h'
theorem Dst.ownIn (h : Dst K w p (xsR fg0 l (N + 1) 0) (QR N 0)) (hN : N < 20) : Calls Try.prog 17 #[.pointer (some ⟨p, 0, none⟩), .int .i64 3, .int .i64 ((4 + N : Nat) : Int), .int .i64 (-1)] w fun e w' => e = .returned (.int .u16 0) ∧ Dst K w' p (xsR fg0 l (N + 1) 0) (QR (N + 1) 0) ∧ Kept K w w' := by
  have hl := xsR_len fg0 l (N + 1) 0
  obtain ⟨d, ed⟩ := xsR_own (f := fg0) (l := l) (N := N + 1) (J := 0) (k := 4 + N) (by omega) (by omega)
  refine (h.ins 3 (4 + N) (by omega) (by omega) (by omega) (by rw [xsR_3]; rfl) (by omega) (by rw [ed]; show (2 : Nat) ≠ 5; decide) (by rw [ed]; show (2 : Nat) ≠ 4; decide) (fun u _ hm => by have := QR_mem hm; omega) (QR_far (by omega)) (fun k hk => by have := xsR_host hk; omega)).mono ?_
  rintro e w' ⟨rfl, h', hk⟩
  refine ⟨rfl, ?_, hk⟩
  rw [QR_own N 0] at h'
  exact h'
theorem Dst.kidIn (h : Dst K w p (xsR fg0 l N (J + 1)) (QR N J)) (hN : N < 20) (hJ : J < 20) : Calls Try.prog 17 #[.pointer (some ⟨p, 0, none⟩), .int .i64 1, .int .i64 ((4 + N + J : Nat) : Int), .int .i64 (-1)] w fun e w' => e = .returned (.int .u16 0) ∧ Dst K w' p (xsR fg0 l N (J + 1)) (QR N (J + 1)) ∧ Kept K w w' := by
  have hl := xsR_len fg0 l N (J + 1)
  obtain ⟨d, ed⟩ := xsR_own (f := fg0) (l := l) (N := N) (J := J + 1) (k := 4 + N + J) (by omega) (by omega)
  refine (h.ins 1 (4 + N + J) (by omega) (by omega) (by omega) (by rw [xsR_1]; rfl) (by omega) (by rw [ed]; show (2 : Nat) ≠ 5; decide) (by rw [ed]; show (2 : Nat) ≠ 4; decide) (fun u _ hm => by have := QR_mem hm; omega) (QR_far (by omega)) (fun k hk => by have := xsR_host hk; omega)).mono ?_
  rintro e w' ⟨rfl, h', hk⟩
  refine ⟨rfl, ?_, hk⟩
  rw [QR_kid N J] at h'
  exact h'
end
end Go.Proofs.Ytljnjdckhkglfaa
