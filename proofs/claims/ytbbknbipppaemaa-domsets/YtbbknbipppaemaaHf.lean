/-
  DomSets: what is sound stays sound where a value is set anew; a row of names that grows beside a document.
-/
import Derived.Test.YtbbknbipppaemaaHe
import Derived.Test.YtbbknbipppaemaaFa
namespace Go.Proofs.Ytbbknbipppaemaa
open Go.RowKit
set_option linter.unusedVariables false

abbrev divNm : List UInt8 := [100, 105, 118]
theorem sound_div_iff (l : List Atr) : soundL [⟨0, 1, divNm, l, []⟩] = soundA l := by
  have hv : validP divNm = true := by kernel_rfl
  show (decide (1 ≤ 5000) && soundP 0 true [⟨0, 1, divNm, l, []⟩]) = soundA l
  simp [soundP, kindP, hv]
theorem allW_set : ∀ (l : List Atr) (L : List (List UInt8)) (k : Nat) (h : k < l.length) (a : Atr), a.name = l[k].name → a.value.length ≤ 2000 → allW L l = true → allW L (l.set k a) = true
  | x :: r, L, 0, h, a, hn, hv, ha => by
    have hn' : a.name = x.name := hn
    show allW L (a :: r) = true
    simp only [allW, Bool.and_eq_true] at ha ⊢
    refine ⟨?_, by rw [hn']; exact ha.2⟩
    have h1 := ha.1
    rw [show x = ⟨x.name, x.value⟩ from rfl, writP_eq] at h1
    rw [show a = ⟨a.name, a.value⟩ from rfl, writP_eq, hn', decide_eq_true hv]
    simp only [Bool.and_eq_true] at h1 ⊢
    exact ⟨⟨h1.1.1, trivial⟩, h1.2⟩
  | x :: r, L, k + 1, h, a, hn, hv, ha => by
    show allW L (x :: r.set k a) = true
    simp only [allW, Bool.and_eq_true] at ha ⊢
    exact ⟨ha.1, allW_set r _ k (by simpa using h) a hn hv ha.2⟩
/-- None of these names comes again. -/
theorem allW_no : ∀ (l : List Atr) (L : List (List UInt8)), allW L l = true → ∀ x ∈ l, ¬ x.name ∈ L
  | y :: r, L, ha, x, hx => by
    simp only [allW, Bool.and_eq_true] at ha
    rcases List.mem_cons.1 hx with rfl | hx
    · have := ha.1
      simpa using fun h => by simp [h] at this
    · exact fun h => allW_no r _ ha.2 x hx (List.mem_cons_of_mem _ h)
theorem allW_behind : ∀ (l : List Atr) (L : List (List UInt8)) (k : Nat) (h : k < l.length), allW L l = true → ∀ x ∈ l.drop (k + 1), x.name ≠ l[k].name
  | y :: r, L, 0, h, ha, x, hx => by
    simp only [allW, Bool.and_eq_true] at ha
    exact fun e => allW_no r _ ha.2 x hx (by rw [e]; exact List.mem_cons_self ..)
  | y :: r, L, k + 1, h, ha, x, hx => by
    simp only [allW, Bool.and_eq_true] at ha
    exact allW_behind r _ k (by simpa using h) ha.2 x hx
/-- A name that is there. -/
def Has (l : List Atr) (nm : List UInt8) : Prop := ∃ x ∈ l, x.name = nm
theorem Has.at {l : List Atr} {nm : List UInt8} (h : Has l nm) : ∃ k, ∃ hk : k < l.length, l[k].name = nm ∧ ∀ x ∈ l.take k, x.name ≠ nm := by
  induction l with
  | nil => obtain ⟨x, hx, _⟩ := h; cases hx
  | cons y r ih =>
    by_cases c : y.name = nm
    · exact ⟨0, by simp, c, fun x hx => by simp at hx⟩
    · obtain ⟨x, hx, hn⟩ := h
      rcases List.mem_cons.1 hx with rfl | hx
      · exact absurd hn c
      · obtain ⟨k, hk, h1, h2⟩ := ih ⟨x, hx, hn⟩
        refine ⟨k + 1, by simpa using hk, by simpa using h1, fun z hz => ?_⟩
        rw [List.take_succ_cons] at hz
        rcases List.mem_cons.1 hz with rfl | hz
        · exact c
        · exact h2 z hz
theorem setA_has {l : List Atr} {a : Atr} {nm : List UInt8} (h : Has l nm) : Has (setA l a) nm := by
  induction l with
  | nil => obtain ⟨x, hx, _⟩ := h; cases hx
  | cons y r ih =>
    rw [show setA (y :: r) a = if y.name = a.name then a :: r else y :: setA r a from rfl]
    obtain ⟨x, hx, hn⟩ := h
    by_cases c : y.name = a.name
    · rw [if_pos c]
      rcases List.mem_cons.1 hx with rfl | hx
      · exact ⟨a, List.mem_cons_self .., by rw [← c]; exact hn⟩
      · exact ⟨x, List.mem_cons_of_mem _ hx, hn⟩
    · rw [if_neg c]
      rcases List.mem_cons.1 hx with rfl | hx
      · exact ⟨x, List.mem_cons_self .., hn⟩
      · obtain ⟨z, hz, hzn⟩ := ih ⟨x, hx, hn⟩
        exact ⟨z, List.mem_cons_of_mem _ hz, hzn⟩
theorem setA_self (l : List Atr) (a : Atr) : a ∈ setA l a := by
  induction l with
  | nil => exact List.mem_cons_self ..
  | cons y r ih =>
    rw [show setA (y :: r) a = if y.name = a.name then a :: r else y :: setA r a from rfl]
    by_cases c : y.name = a.name
    · rw [if_pos c]; exact List.mem_cons_self ..
    · rw [if_neg c]; exact List.mem_cons_of_mem _ ih
/-- An attribute that is there, set anew: sound, and as many as before. -/
theorem setA_again {l : List Atr} {a : Atr} (hs : soundA l = true) (hh : Has l a.name) (hv : a.value.length ≤ 2000) : soundA (setA l a) = true ∧ (setA l a).length = l.length := by
  obtain ⟨k, hk, h1, h2⟩ := hh.at
  rw [setA_at l a k hk h1 h2]
  unfold soundA at hs ⊢
  simp only [Bool.and_eq_true] at hs ⊢
  exact ⟨⟨by rw [List.length_set]; exact hs.1, allW_set l [] k hk a h1.symm hv hs.2⟩, List.length_set ..⟩
/-- Taken away it is there no more. -/
theorem erase_no {l : List Atr} (hs : soundA l = true) {k : Nat} (hk : k < l.length) {nm : List UInt8} (h1 : l[k].name = nm) (h2 : ∀ x ∈ l.take k, x.name ≠ nm) : ∀ x ∈ l.eraseIdx k, x.name ≠ nm := by
  intro x hx
  rw [List.eraseIdx_eq_take_drop_succ] at hx
  unfold soundA at hs
  simp only [Bool.and_eq_true] at hs
  rcases List.mem_append.1 hx with h | h
  · exact h2 x h
  · rw [← h1]; exact allW_behind l [] k hk hs.2 x h
theorem infoStr : (Try.prog.info? 9).map (fun i => (i.zero, i.size, i.bytes)) = some (some (.string ⟨#[]⟩), 1, 16) := by kernel_rfl
theorem appS {K : Nat → Prop} {w : World} {ao : Option Addr} {n cap : Nat} {xs : List Value} (h : OwnZ K w 9 1 ao n cap xs) (hKl : ∀ k, K k → k < w.heap.size) (hn : n ≤ 1000000000) (x : ByteArray) :
    ∃ ao' cap' w', (Builtin.append_ #[28, 28] 28 #[.slice ao n cap, .slice (some ⟨w.heap.size, 0, none⟩) 1 1]).run Try.prog (w.alloc (.cells #[.string x] 9)) = .ok (.slice ao' (n + 1) cap') w' ∧ OwnZ K w' 9 1 ao' (n + 1) cap' (xs ++ [.string x]) ∧ Kept K w w' := by
  obtain ⟨i, hi, hip⟩ := Option.map_eq_some_iff.1 infoStr
  have hz : i.zero = some (.string ⟨#[]⟩) := congrArg (·.1) hip
  have hsz : i.size = 1 := congrArg (·.2.1) hip
  have hby : i.bytes = 16 := congrArg (·.2.2) hip
  obtain ⟨W, hW⟩ : ∃ W, w.alloc (.cells #[.string x] 9) = W := ⟨_, rfl⟩
  rw [hW]
  have hsrc : Src Try.prog 1 28 (.slice (some ⟨w.heap.size, 0, none⟩) 1 1) 1 [.string x] W := by
    rw [← hW]
    exact src_newZ w w.heap.size [.string x] _ Try.underlying28 (by intro u hu; rw [List.mem_singleton.1 hu]; rfl) rfl rfl
  have keep : ∀ g, g < w.heap.size → W.heap[g]? = w.heap[g]? := fun g hg => by rw [← hW]; exact Below.heap_alloc _ _ _ hg
  have hsW : w.heap.size ≤ W.heap.size := by rw [← hW]; simp
  obtain ⟨ao', cap', w', hr, ho, hk⟩ := run_appZ (P := Try.prog) W 28 28 28 9 i _ Try.underlying28 hi hz 1 hsz rfl (by omega)
    (h.to (w' := W) (fun g hg => (h.out hg).1) (fun g hg => keep g (h.out hg).2)) _ _ hsrc (fun g hg => Nat.lt_of_lt_of_le (hKl g hg) hsW) hn
  refine ⟨ao', cap', w', hr, ho, Kept.trans ?_ hk⟩
  rw [← hW]
  exact (Kept.refl _ w).alloc hKl _
theorem own_appKS {K0 : Nat → Prop} {w : World} {p : Nat} {M : Dm} {ao : Option Addr} {n cap : Nat} {xs : List Value} (hX : DX (fun k => K0 k ∨ blkOf ao k) w p M) (hB : ∀ k, K0 k → k < w.heap.size) (hO : OwnZ K0 w 9 1 ao n cap xs) (hn : n ≤ 1000000) (x : ByteArray) :
    ∃ ao' cap' w', (Builtin.append_ #[28, 28] 28 #[.slice ao n cap, .slice (some ⟨w.heap.size, 0, none⟩) 1 1]).run Try.prog (w.alloc (.cells #[.string x] 9)) = .ok (.slice ao' (n + 1) cap') w' ∧ OwnZ K0 w' 9 1 ao' (n + 1) cap' (xs ++ [.string x]) ∧ DX (fun k => K0 k ∨ blkOf ao' k) w' p M ∧ Kept K0 w w' := by
  have hO' : OwnZ (fun k => k < w.heap.size ∧ ¬ blkOf ao k) w 9 1 ao n cap xs := OwnZ.to hO (fun g hg hh => hh.2 hg) (fun _ _ => rfl)
  obtain ⟨ao', cap', w', hr, hO2, hk⟩ := appS hO' (fun k hk => hk.1) (by omega) x
  have hnew : ∀ g, blkOf ao' g → blkOf ao g ∨ w.heap.size ≤ g := fun g hg => by
    have := (OwnZ.out hO2 hg).1
    by_cases hb : blkOf ao g
    · exact .inl hb
    · exact .inr (Nat.le_of_not_lt fun hl => this ⟨hl, hb⟩)
  have hkB : Kept K0 w w' := hk.mono fun k hk' => ⟨hB k hk', fun hb => (OwnZ.out hO hb).1 hk'⟩
  obtain ⟨ga, gc, hY⟩ := hX
  have hY' := hY.keptBut (hk.mono fun k hk' => ⟨hk'.1, fun hb => hk'.2 (.inr hb)⟩)
  refine ⟨ao', cap', w', hr, OwnZ.to hO2 (fun g hg hh => ?_) (fun _ _ => rfl), ⟨ga, gc, ?_⟩, hkB⟩
  · rcases hnew g hg with h | h
    · exact (OwnZ.out hO h).1 hh
    · have := hB g hh
      omega
  · -- the new block is none of the document's
    obtain ⟨h1, h2, h3, ys, aa, ac, ho, hx, ha, hs⟩ := hY'
    obtain ⟨i1, i2, i3, ys', aa', ac', ho', hx', ha', hs'⟩ := hY
    have hsz := hk.size
    have key : ∀ g, (blkOf ao' g) → g < w.heap.size → blkOf ao g := fun g hg hl => by
      rcases hnew g hg with h | h
      · exact h
      · omega
    have hpw := lt_block i3
    refine ⟨fun k hk' => ?_, fun hh => ?_, h3, ys', aa', ac', OwnZ.to ho' (fun g hg hh => ?_) (fun g hg => hk.block g ⟨(ho'.out hg).2, fun hb => (ho'.out hg).1 (.inl (.inr hb))⟩), hx', fun i hi => OwnZ.to (ha' i hi) (fun g hg hh => ?_) (fun g hg => hk.block g ⟨((ha' i hi).out hg).2, fun hb => ((ha' i hi).out hg).1 (.inl (.inr hb))⟩), hs'⟩
    · rcases hk' with h | h
      · have := hB k h
        omega
      · exact (OwnZ.out hO2 h).2
    · rcases hh with h | h
      · exact i2 (.inl h)
      · exact i2 (.inr (key p h hpw))
    · rcases hh with (h | h) | h
      · exact (ho'.out hg).1 (.inl (.inl h))
      · exact (ho'.out hg).1 (.inl (.inr (key g h (ho'.out hg).2)))
      · exact (ho'.out hg).1 (.inr h)
    · rcases hh with (h | h) | h
      · exact ((ha' i hi).out hg).1 (.inl (.inl h))
      · exact ((ha' i hi).out hg).1 (.inl (.inr (key g h ((ha' i hi).out hg).2)))
      · exact ((ha' i hi).out hg).1 (.inr h)


end Go.Proofs.Ytbbknbipppaemaa
