/-
  The walk of SerialAttrs.
-/
import Derived.Test.YteccdijjpmeeaaaSa
import Derived.Test.YteccdijjpmeeaaaOw
import Derived.Laws.Runes
import Derived.Deep.LoopGhost
namespace Go.Proofs.Yteccdijjpmeeaaa
open Go.RowKit
set_option linter.unusedVariables false
set_option maxRecDepth 100000
set_option maxHeartbeats 8000000
def leB (c : UInt8) : UInt8 := UInt8.ofNat (97 + c.toNat % 26)
def leL (l : List UInt8) : List UInt8 := l.map leB
abbrev txt (l : List UInt8) : ByteArray := ⟨l.toArray⟩
theorem leL_snoc (l : List UInt8) (c : UInt8) : leL (l ++ [c]) = leL l ++ [leB c] := by simp [leL]
theorem leB_eq (c : UInt8) : leB c = 97 + UInt8.ofNat (c.toNat % 26) := by
  apply UInt8.toNat_inj.1
  simp [leB, UInt8.toNat_add]
theorem le_all (l : List UInt8) : ∀ c ∈ leL l, 97 ≤ c.toNat ∧ c.toNat ≤ 122 := by
  intro b hb
  obtain ⟨c, _, rfl⟩ := List.mem_map.1 hb
  have := Nat.mod_lt c.toNat (show 0 < 26 by decide)
  have e : (leB c).toNat = 97 + c.toNat % 26 := by
    unfold leB
    rw [UInt8.toNat_ofNat']
    omega
  omega
theorem conv_new (X : World) (n : Int) (N : Nat) (hN : N = X.heap.size) : (convert 42 9 (.slice (some ⟨N, 0, none⟩) 1 1)).run Try.prog (X.alloc (.cells #[.int .u8 n] 5)) = .ok (.string ⟨#[UInt8.ofNat n.toNat]⟩) (X.alloc (.cells #[.int .u8 n] 5)) := by
  subst hN
  rw [run_convert_bytes_string _ 42 9 5 _ 1 1 Try.underlying42 Try.underlying5 Try.underlying9]
  have hl := run_loadCells_list (P := Try.prog) (X.alloc (.cells #[.int .u8 n] 5)) ⟨X.heap.size, 0, none⟩ ([n].map (Value.int .u8)) (fun j v hj => by
    match j, hj with
    | 0, hj =>
      simp at hj
      subst hj
      rw [Addr.add_lit]
      simp)
  exact run_bytesToString _ _ 1 1 [n] hl
theorem conv_new2 (X : World) (n m : Int) (N : Nat) (hN : N = X.heap.size) : (convert 42 9 (.slice (some ⟨N, 0, none⟩) 2 2)).run Try.prog (X.alloc (.cells #[.int .u8 n, .int .u8 m] 5)) = .ok (.string ⟨#[UInt8.ofNat n.toNat, UInt8.ofNat m.toNat]⟩) (X.alloc (.cells #[.int .u8 n, .int .u8 m] 5)) := by
  subst hN
  rw [run_convert_bytes_string _ 42 9 5 _ 2 2 Try.underlying42 Try.underlying5 Try.underlying9]
  have hl := run_loadCells_list (P := Try.prog) (X.alloc (.cells #[.int .u8 n, .int .u8 m] 5)) ⟨X.heap.size, 0, none⟩ ([n, m].map (Value.int .u8)) (fun j v hj => by
    match j, hj with
    | 0, hj =>
      simp at hj
      subst hj
      rw [Addr.add_lit]
      simp
    | 1, hj =>
      simp at hj
      subst hj
      rw [Addr.add_lit]
      simp)
  exact run_bytesToString _ _ 2 2 [n, m] hl
/-- The names of the attributes, and their values. -/
def nmA (i : Nat) : List UInt8 := [107, UInt8.ofNat (97 + i % 26), UInt8.ofNat (97 + i / 26)]
def atA (l : List ByteArray) (j : Nat) : List Atr := (List.range j).map fun i => ⟨nmA i, leL (l.getD i ⟨#[]⟩).data.toList⟩
theorem atA_succ (l : List ByteArray) (j : Nat) : atA l (j + 1) = atA l j ++ [⟨nmA j, leL (l.getD j ⟨#[]⟩).data.toList⟩] := by
  unfold atA; rw [List.range_succ, List.map_append]; rfl
theorem atA_len (l : List ByteArray) (j : Nat) : (atA l j).length = j := by simp [atA]
theorem nmA_ne : ∀ i, i < 40 → ∀ j, j < 40 → i ≠ j → nmA i ≠ nmA j := by decide +kernel
theorem nmA_wr : ∀ i, i < 40 → writP ⟨nmA i, []⟩ = true := by decide +kernel
theorem allW_snoc : ∀ (l : List Atr) (A : List (List UInt8)) (a : Atr), allW A l = true → writP a = true → A.contains a.name = false → (∀ x ∈ l, x.name ≠ a.name) → allW A (l ++ [a]) = true
  | [], A, a, _, hw, hc, _ => by
    show ((writP a && !A.contains a.name) && true) = true
    rw [hw, hc]; rfl
  | x :: l, A, a, h, hw, hc, hn => by
    have h' : ((writP x && !A.contains x.name) && allW (x.name :: A) l) = true := h
    rw [Bool.and_eq_true] at h'
    show ((writP x && !A.contains x.name) && allW (x.name :: A) (l ++ [a])) = true
    rw [h'.1, allW_snoc l (x.name :: A) a h'.2 hw (by
      rw [List.contains_cons, hc, Bool.or_false]
      have := hn x List.mem_cons_self
      simpa using fun e => this e.symm) fun y hy => hn y (List.mem_cons_of_mem _ hy)]
    rfl
theorem atA_new {l : List ByteArray} {j : Nat} (hj : j < 40) : ∀ x ∈ atA l j, x.name ≠ nmA j := by
  intro x hx
  obtain ⟨i, hi, rfl⟩ := List.mem_map.1 hx
  have := List.mem_range.1 hi
  exact nmA_ne i (by omega) j hj (by omega)
theorem atA_sound {l : List ByteArray} (hl : ∀ i, i < 40 → (l.getD i ⟨#[]⟩).size ≤ 2000) : ∀ j, j ≤ 40 → soundA (atA l j) = true
  | 0, _ => rfl
  | j + 1, hj => by
    have ih := atA_sound hl j (by omega)
    unfold soundA at ih ⊢
    rw [Bool.and_eq_true] at ih
    rw [Bool.and_eq_true]
    refine ⟨decide_eq_true (by rw [atA_len]; omega), ?_⟩
    rw [atA_succ]
    refine allW_snoc _ _ _ ih.2 ?_ rfl (atA_new (by omega))
    have hw := nmA_wr j (by omega)
    unfold writP at hw ⊢
    simp only [Bool.and_eq_true] at hw ⊢
    refine ⟨hw.1, decide_eq_true ?_⟩
    have := hl j (by omega)
    have e : (leL (l.getD j ⟨#[]⟩).data.toList).length = (l.getD j ⟨#[]⟩).size := by unfold leL; rw [List.length_map]; rfl
    show (leL (l.getD j ⟨#[]⟩).data.toList).length ≤ 2000
    omega
abbrev brN : List UInt8 := [98, 114]
theorem atrL_let {n v : List UInt8} (h : ∀ c ∈ v, 97 ≤ c.toNat ∧ c.toNat ≤ 122) : atrL ⟨n, v⟩ = [32] ++ (n ++ ([61, 34] ++ (v ++ [34]))) := by
  unfold atrL; rw [esc_letters true v h]
/-- What the statement lays together. -/
def wA (l : List ByteArray) (j : Nat) : List UInt8 := [60, 98, 114] ++ atsL (atA l j)
theorem wA_succ (l : List ByteArray) (j : Nat) : wA l (j + 1) = wA l j ++ ([32] ++ (nmA j ++ ([61, 34] ++ (leL (l.getD j ⟨#[]⟩).data.toList ++ [34])))) := by
  unfold wA
  rw [atA_succ]
  have e : atsL (atA l j ++ [⟨nmA j, leL (l.getD j ⟨#[]⟩).data.toList⟩]) = atsL (atA l j) ++ atrL ⟨nmA j, leL (l.getD j ⟨#[]⟩).data.toList⟩ := by
    unfold atsL; rw [List.flatMap_append, List.flatMap_singleton]
  rw [e, atrL_let (le_all _), List.append_assoc]
theorem wA_len {l : List ByteArray} (hl : ∀ i, i < 40 → (l.getD i ⟨#[]⟩).size ≤ 2000) : ∀ j, j ≤ 40 → (wA l j).length ≤ 3 + 3000 * j
  | 0, _ => by show (3 : Nat) ≤ 3 + 3000 * 0; decide
  | j + 1, hj => by
    have ih := wA_len hl j (by omega)
    have := hl j (by omega)
    have e : (leL (l.getD j ⟨#[]⟩).data.toList).length = (l.getD j ⟨#[]⟩).size := by unfold leL; rw [List.length_map]; rfl
    rw [wA_succ]
    simp only [List.length_append, List.length_cons, List.length_nil, nmA]
    omega
def brx (l : List Atr) : Nd := (Mk.nd ⟨1, brN, [], l⟩).new
abbrev xB (l : List Atr) : List Nd := [frag0.new, brx l]
theorem szB {l : List ByteArray} (hl : ∀ i, i < 40 → (l.getD i ⟨#[]⟩).size ≤ 2000) {j : Nat} (hj : j ≤ 40) : ∀ x ∈ xB (atA l j), Szd x := by
  intro x hx
  simp only [List.mem_cons, List.not_mem_nil, or_false] at hx
  rcases hx with rfl | rfl
  · exact szd_frag
  · refine szd_new (by show (atA l j).length ≤ 1000; rw [atA_len]; omega) (fun a ha => ?_) (by simp) (by simp)
    obtain ⟨i, hi, rfl⟩ := List.mem_map.1 ha
    have := List.mem_range.1 hi
    have := hl i (by omega)
    have e : (leL (l.getD i ⟨#[]⟩).data.toList).length = (l.getD i ⟨#[]⟩).size := by unfold leL; rw [List.length_map]; rfl
    show (leL (l.getD i ⟨#[]⟩).data.toList).length < 1000000
    omega
theorem bOuter {K : Nat → Prop} {w : World} {p : Nat} {l : List ByteArray} (hl : ∀ i, i < 40 → (l.getD i ⟨#[]⟩).size ≤ 2000) {j : Nat} (hj : j ≤ 40) (s : Dq 20 K w p (xB (atA l j)) (fun _ => [])) :
    Calls Try.prog 14 #[.pointer (some ⟨p, 0, none⟩), .int .i64 1, .agg #[.bool false, .slice none 0 0]] w fun e w' => e = .returned (.string ⟨(wA l j ++ [62]).toArray⟩) ∧ Kept (fun k => k < w.heap.size) w w' := by
  have hlen := wA_len hl j hj
  refine s.outer (szB hl hj) 1 (by simp) false (.inr ⟨fun u _ h => (by cases h), rfl⟩) (opt0 w) (wA l j ++ [62]) (by rw [List.length_append]; simp; omega) fun M F h => ?_
  show staL brN (atA l j) ++ (if voidP brN = true then [] else _) = _
  rw [if_pos (by decide +kernel), List.append_nil]
  unfold staL wA
  simp
theorem bInner {K : Nat → Prop} {w : World} {p : Nat} {l : List ByteArray} (hl : ∀ i, i < 40 → (l.getD i ⟨#[]⟩).size ≤ 2000) {j : Nat} (hj : j ≤ 40) (s : Dq 20 K w p (xB (atA l j)) (fun _ => [])) :
    Calls Try.prog 11 #[.pointer (some ⟨p, 0, none⟩), .int .i64 1, .agg #[.bool false, .slice none 0 0]] w fun e w' => e = .returned (.string ⟨#[]⟩) ∧ Kept (fun k => k < w.heap.size) w w' := by
  refine s.inner (szB hl hj) 1 (by simp) (opt0 w) [] (by simp) fun M F h => ?_
  have e1 : M.nd 1 = brx (atA l j) := h 1 (by simp)
  show innW _ M _ _ 1 = []
  unfold innW
  rw [e1, if_pos (by show (true && voidP brN) = true; decide +kernel)]
theorem bSet {K : Nat → Prop} {w : World} {p : Nat} {l : List ByteArray} (hl : ∀ i, i < 40 → (l.getD i ⟨#[]⟩).size ≤ 2000) {j : Nat} (hj : j < 40) (s : Dq 20 K w p (xB (atA l j)) (fun _ => [])) (S T : ByteArray) (hS : S.toList = nmA j) (hT : T.toList = leL (l.getD j ⟨#[]⟩).data.toList) :
    Calls Try.prog 13 #[.pointer (some ⟨p, 0, none⟩), .int .i64 1, .string S, .string T] w fun e w' => e = .returned (.int .u16 0) ∧ Dq 20 K w' p (xB (atA l (j + 1))) (fun _ => []) ∧ Kept K w w' := by
  have lS : S.toList.length = S.size := by rw [ByteArray.toList_eq]; rfl
  have lT : T.toList.length = T.size := by rw [ByteArray.toList_eq]; rfl
  have e : (leL (l.getD j ⟨#[]⟩).data.toList).length = (l.getD j ⟨#[]⟩).size := by unfold leL; rw [List.length_map]; rfl
  have := hl j hj
  refine s.set 1 S T (by simp) rfl rfl (atA l (j + 1)) ?_ (atA_sound hl (j + 1) (by omega)) (fun x hx => ?_) (by rw [← lS, hS]; simp [nmA]) (by rw [← lT, hT]; omega)
  · rw [hS, hT, atA_succ]
    exact setA_no _ _ (atA_new hj)
  · have := (szB hl (Nat.le_of_lt hj) (brx (atA l j)) (by simp)).v x hx
    obtain ⟨i, hi, rfl⟩ := List.mem_map.1 hx
    exact ⟨by simp [nmA], by omega⟩
end Go.Proofs.Yteccdijjpmeeaaa
