/-
  DomFragments: what is made, and what is wanted (pure); the first loop.
-/
import Derived.Test.YtbbknbipppaemaaFa
import Derived.Test.YtbbknbipppaemaaOn
namespace Go.Proofs.Ytbbknbipppaemaa
open Go.RowKit
set_option linter.unusedVariables false

theorem frag_mk : Mk.nd ⟨4, [], [], []⟩ = frag0 := rfl
theorem sound_frag : soundN ⟨4, [], [], []⟩ = true := by kernel_rfl
def ownL (n j : Nat) : List Nat := (List.range j).map (· + (n + 2))
def kidL (n : Nat) : List Nat := (List.range n).map (· + 1)
theorem ownL_succ (n j : Nat) : ownL n (j + 1) = ownL n j ++ [j + (n + 2)] := by unfold ownL; rw [List.range_succ, List.map_append]; rfl
theorem ownL_len (n j : Nat) : (ownL n j).length = j := by simp [ownL]
theorem kidL_len (n : Nat) : (kidL n).length = n := by simp [kidL]
theorem kidL_get (n i : Nat) (h : i < n) : (kidL n)[i]'(by rw [kidL_len]; exact h) = i + 1 := by simp [kidL]
/-- n elements in the Fragment 0, the Fragment n + 1, j texts in that. -/
structure FrD (M : Dm) (R : Nat → List Nat) (n j : Nat) : Prop where
  len : M.n = n + 2 + j
  lim : M.limit = 300
  zero : M.nd 0 = frag0.new
  frag : M.nd (n + 1) = frag0.new
  txts : ∀ k, n + 2 ≤ k → k < n + 2 + j → M.nd k = txtN.new
  row0 : R 0 = kidL n
  rowf : R (n + 1) = ownL n j
  top0 : (M.pl 0).up = -1
  topf : (M.pl (n + 1)).up = -1
theorem FrD.start {M : Dm} {R : Nat → List Nat} {n : Nat} (hD : Divs M n) (hS : Side M R n) : FrD (M.add frag0) (updR R M.n []) n 0 := by
  have hl := hD.len
  refine ⟨by show M.n + 1 = _; omega, hD.lim, ?_, ?_, fun k h1 h2 => by omega, ?_, ?_, ?_, ?_⟩
  · show (if 0 = M.n then frag0.new else M.nd 0) = _
    rw [if_neg (by omega)]; exact hD.zero
  · show (if n + 1 = M.n then frag0.new else M.nd (n + 1)) = _
    rw [if_pos (by omega)]
  · rw [updR_ne _ _ (by omega)]; exact hS.row
  · rw [← hl, updR_same]; rfl
  · show (updL M.pl M.n Lk.nil 0).up = -1
    rw [updL_ne _ _ (by omega)]; exact hS.top
  · show (updL M.pl M.n Lk.nil (n + 1)).up = -1
    rw [← hl, updL_same]; rfl
theorem txt_move : ((decide (txtN.new.kind ≠ 5)) && !(decide (txtN.new.kind = 4) && decide (txtN.new.host ≠ -1))) = true := by kernel_rfl
theorem FrD.fits {M : Dm} {R : Nat → List Nat} {n j : Nat} (h : FrD M R n j) : Fits (M.add txtN) (n + 1) (n + 2 + j) (-1) := by
  have hl := h.len
  have e1 : (M.add txtN).nd (n + 1) = frag0.new := by
    show (if n + 1 = M.n then txtN.new else M.nd (n + 1)) = _
    rw [if_neg (by omega)]; exact h.frag
  have e2 : (M.add txtN).nd (n + 2 + j) = txtN.new := by
    show (if n + 2 + j = M.n then txtN.new else M.nd (n + 2 + j)) = _
    rw [if_pos (by omega)]
  refine ⟨by rw [e1]; exact hold_frag, ?_, Wi.none (by omega) ?_, .inl rfl⟩
  · unfold moveB
    rw [e2, decide_eq_true (show n + 2 + j ≠ 0 by omega)]
    rfl
  · rw [add_par (by omega)]
    unfold parI
    rw [h.topf, if_pos rfl, h.frag]
    rfl
theorem FrD.put {M : Dm} {R : Nat → List Nat} {n j : Nat} (h : FrD M R n j) : putD (M.add txtN) (updR R M.n []) (n + 1) (n + 2 + j) (-1) = putL (M.add txtN).pl (n + 1) (n + 2 + j) (-1) ∧ putDR (M.add txtN) (updR R M.n []) (n + 1) (n + 2 + j) (-1) = putR (M.add txtN).pl (updR R M.n []) (n + 1) (n + 2 + j) (-1) := by
  have hl := h.len
  have e2 : ((M.add txtN).nd (n + 2 + j)).kind ≠ 4 := by
    show (if n + 2 + j = M.n then txtN.new else M.nd (n + 2 + j)).kind ≠ 4
    rw [if_pos (by omega)]
    show (2 : Nat) ≠ 4
    decide
  unfold putD putDR
  rw [if_neg e2, if_neg e2, if_neg (by omega)]
  exact ⟨rfl, rfl⟩
theorem FrD.next {M : Dm} {R : Nat → List Nat} {n j : Nat} (h : FrD M R n j) : FrD ((M.add txtN).setP (putL (M.add txtN).pl (n + 1) (n + 2 + j) (-1))) (putR (M.add txtN).pl (updR R M.n []) (n + 1) (n + 2 + j) (-1)) n (j + 1) := by
  have hl := h.len
  have hfree : ((M.add txtN).pl (n + 2 + j)).up = -1 := by
    show (updL M.pl M.n Lk.nil (n + 2 + j)).up = -1
    rw [← hl, updL_same]; rfl
  have old : ∀ k, k < M.n → (M.add txtN).nd k = M.nd k := fun k hk => by
    show (if k = M.n then txtN.new else M.nd k) = _
    rw [if_neg (by omega)]
  have oldp : ∀ k, k < M.n → ((M.add txtN).pl k) = M.pl k := fun k hk => updL_ne _ _ (by omega)
  rw [putR_free hfree]
  refine ⟨by show M.n + 1 = _; omega, h.lim, (old 0 (by omega)).trans h.zero, (old (n + 1) (by omega)).trans h.frag, fun k h1 h2 => ?_, ?_, ?_, ?_, ?_⟩
  · by_cases c : k = M.n
    · show (if k = M.n then txtN.new else M.nd k) = _
      rw [if_pos c]
    · exact (old k (by omega)).trans (h.txts k h1 (by omega))
  · rw [updR_ne _ _ (by omega), updR_ne _ _ (by omega)]; exact h.row0
  · rw [updR_same, updR_ne _ _ (by omega), h.rowf, ownL_succ, show n + 2 + j = j + (n + 2) from by omega]
  · show (putL (M.add txtN).pl (n + 1) (n + 2 + j) (-1) 0).up = -1
    rw [put_up (by omega), oldp 0 (by omega)]; exact h.top0
  · show (putL (M.add txtN).pl (n + 1) (n + 2 + j) (-1) (n + 1)).up = -1
    rw [put_up (by omega), oldp (n + 1) (by omega)]; exact h.topf
/-- Ahead of which one, and what is wanted. -/
def befF (n at_ : Nat) : Int := if at_ < n then ((at_ + 1 : Nat) : Int) else -1
def wantF (n m at_ : Nat) : List Nat := (kidL n).take at_ ++ ownL n m ++ (kidL n).drop at_
theorem FrD.fitsF {M : Dm} {R : Nat → List Nat} {rk : Nat → Nat} {n j at_ : Nat} (h : FrD M R n j) (hG : Good M R rk) : Fits M 0 (n + 1) (befF n at_) := by
  have hl := h.len
  refine ⟨by rw [h.zero]; exact hold_frag, ?_, Wi.none (by omega) ?_, ?_⟩
  · unfold moveB
    rw [h.frag, decide_eq_true (show n + 1 ≠ 0 by omega)]
    rfl
  · unfold parI
    rw [h.top0, if_pos rfl, h.zero]
    rfl
  · unfold befF
    by_cases c : at_ < n
    · rw [if_pos c]
      refine .inr ⟨at_ + 1, by omega, rfl, ?_⟩
      refine hG.wf.up (u := 0) (by omega) ?_
      rw [h.row0]
      unfold kidL
      exact List.mem_map.2 ⟨at_, List.mem_range.2 c, rfl⟩
    · rw [if_neg c]; exact .inl rfl
theorem FrD.endF {M : Dm} {R : Nat → List Nat} {rk : Nat → Nat} {n j at_ : Nat} (h : FrD M R n j) (hG : Good M R rk) : putDR M R 0 (n + 1) (befF n at_) 0 = wantF n j at_ ∧ putDR M R 0 (n + 1) (befF n at_) (n + 1) = [] ∧ (putD M R 0 (n + 1) (befF n at_) (n + 1)).up = -1 := by
  have hl := h.len
  have hF := h.fitsF (at_ := at_) hG
  have hP := PutOk.of hG.wf hG.acy (show 0 < M.n by omega) (show n + 1 < M.n by omega) hF.2.2.1 hF.2.2.2
  have hk : (M.nd (n + 1)).kind = 4 := by rw [h.frag]; rfl
  have hat : At (R 0) (befF n at_) ((kidL n).take at_) ((kidL n).drop at_) := by
    rw [h.row0]
    unfold befF
    by_cases c : at_ < n
    · rw [if_pos c]
      have e : (kidL n).drop at_ = (at_ + 1) :: (kidL n).drop (at_ + 1) := by
        rw [List.drop_eq_getElem_cons (by rw [kidL_len]; exact c), kidL_get n at_ c]
      rw [e]
      exact .mid rfl (by rw [← e, List.take_append_drop])
    · rw [if_neg c, List.take_of_length_le (by rw [kidL_len]; omega), List.drop_eq_nil_of_le (by rw [kidL_len]; omega)]
      exact .last rfl
  obtain ⟨q1, q2, -⟩ := FrS.rows (R (n + 1)) hP.fr hat
  unfold putDR putD
  rw [if_pos hk, if_pos hk]
  refine ⟨by rw [q1, h.rowf]; rfl, q2, ?_⟩
  rw [(puts_up 0 (befF n at_) (R (n + 1)) M.pl (n + 1)).1 (fun hm => by
    rw [h.rowf] at hm
    obtain ⟨x, _, e⟩ := List.mem_map.1 hm
    omega)]
  exact h.topf
/-- What is wanted, so far. -/
def wantI (n m at_ i : Nat) : List Nat := if at_ < i then (kidL n).take at_ ++ ownL n m ++ ((kidL n).take i).drop at_ else (kidL n).take i
def befI (n at_ i : Nat) : Int := if at_ < i then ((at_ + 1 : Nat) : Int) else -1
theorem wantI_len {n m at_ i : Nat} (hi : i ≤ n) (hm : m ≤ 100) (hn : n ≤ 100) : (wantI n m at_ i).length ≤ 300 := by
  unfold wantI
  split <;> simp [kidL_len, ownL_len] <;> omega
theorem wantI_at {n m at_ : Nat} (h : at_ < n) : wantI n m at_ (at_ + 1) = wantI n m at_ at_ ++ ownL n m ++ [at_ + 1] := by
  unfold wantI
  rw [if_pos (by omega), if_neg (by omega)]
  congr 1
  rw [List.take_succ_eq_append_getElem (by rw [kidL_len]; exact h), List.drop_append_of_le_length (by simp [kidL_len]; omega), List.drop_eq_nil_of_le (by rw [List.length_take]; omega), kidL_get n at_ h]
  rfl
theorem wantI_ne {n m at_ i : Nat} (h : i < n) (hne : i ≠ at_) : wantI n m at_ (i + 1) = wantI n m at_ i ++ [i + 1] := by
  unfold wantI
  have e : (kidL n).take (i + 1) = (kidL n).take i ++ [i + 1] := by
    rw [List.take_succ_eq_append_getElem (by rw [kidL_len]; exact h), kidL_get n i h]
  by_cases c : at_ < i
  · rw [if_pos (by omega), if_pos c, e, List.drop_append_of_le_length (by simp [kidL_len]; omega)]
    simp
  · rw [if_neg (by omega), if_neg c, e]
theorem wantI_end {n m at_ : Nat} : (if at_ < n then wantI n m at_ n else wantI n m at_ n ++ ownL n m) = wantF n m at_ := by
  unfold wantI wantF
  have e : (kidL n).take n = kidL n := List.take_of_length_le (by rw [kidL_len]; exact Nat.le_refl _)
  by_cases c : at_ < n
  · rw [if_pos c, if_pos c, e]
  · rw [if_neg c, if_neg c, e, List.take_of_length_le (by rw [kidL_len]; omega), List.drop_eq_nil_of_le (by rw [kidL_len]; omega), List.append_nil]
set_option maxRecDepth 20000 in
/-- A whole row is appended to a row. -/
theorem appRow {K : Nat → Prop} {w : World} {ao bo : Option Addr} {n cap m bc : Nat} {xs ys : List Value} {K2 : Nat → Prop} (h : OwnZ K w 3 1 ao n cap xs) (h2 : OwnZ K2 w 3 1 bo m bc ys) (hone : ∀ u ∈ ys, u.oneCell' = true) (hKl : ∀ k, K k → k < w.heap.size) (hn : n + m ≤ 1000000) :
    ∃ ao' cap' w', (Builtin.append_ #[32, 32] 32 #[.slice ao n cap, .slice bo m bc]).run Try.prog w = .ok (.slice ao' (n + m) cap') w' ∧ OwnZ K w' 3 1 ao' (n + m) cap' (xs ++ ys) ∧ Kept K w w' := by
  obtain ⟨i, hi, hip⟩ := Option.map_eq_some_iff.1 infoInt
  have hz : i.zero = some (.int .i64 0) := congrArg (·.1) hip
  have hsz : i.size = 1 := congrArg (·.2.1) hip
  have hby : i.bytes = 8 := congrArg (·.2.2) hip
  have hlm : ys.length = m := by have := h2.1; omega
  have hs : Src Try.prog 1 32 (.slice bo m bc) m ys w := by
    cases bo with
    | none =>
      have : m = 0 := by
        obtain ⟨_, q2, _, q4⟩ := h2
        rcases q4 with ⟨_, q⟩ | ⟨g, cur, q, _⟩
        · omega
        · cases q
      subst this
      have : ys = [] := List.eq_nil_of_length_eq_zero hlm
      subst this
      exact Src.ofNil w Try.underlying32 _
    | some x =>
      refine Src.ofSlice w Try.underlying32 x m bc ys (by omega) (fun j u hj => ?_) hone
      obtain ⟨g, e, hc⟩ := h2.cell hj
      injection e with e
      subst e
      rw [Addr.add_lit, Nat.zero_add]
      exact hc
  obtain ⟨ao', cap', w', hr, ho, hk, -⟩ := run_app (P := Try.prog) (K := K) w 32 32 32 3 i _ Try.underlying32 hi hz hsz rfl (OwnZ.one.1 h) _ m ys hs hKl (by unfold maxLen; omega) (by rw [hby]; omega)
  exact ⟨ao', cap', w', hr, OwnZ.one.2 ho, hk⟩
end Go.Proofs.Ytbbknbipppaemaa
