/-
  Two documents side by side: the program's and the document's own, over the same nodes.
  The statements' own small calls: inside, Names, Node.
  Each call does the same to both documents: Root, Give, Make.
-/
import Derived.Test.YtbhfnbplbkncmaaGreatYT31
import Derived.Test.YtbhfnbplbkncmaaGreatZ29
import Derived.Deep.LoopGhost
import Derived.Deep.QuietTactic
import Derived.BigQuiet
import Derived.Test.YtbhfnbplbkncmaaGreatYT34
namespace Go.Proofs.YtbhfnbplbkncmaaGreat
open Go.RowKit
set_option linter.unusedVariables false
section
variable {K K' : Nat → Prop} {w w' : World} {p : Nat} {M : Dm} {R G : Nat → List Nat} {A : RA}
theorem DY.move {ga : Option Addr} {cap : Nat} (h : DY K w p M ga cap) (hb : ∀ g, g < w.heap.size → ¬ K g → w'.heap[g]? = w.heap[g]?) (hs : ∀ k, k < w.heap.size → K' k → K k) (hl : ∀ k, K' k → k < w'.heap.size) : DY K' w' p M ga cap := by
  obtain ⟨h1, h2, h3, xs, aa, ac, ho, hx, ha, hsp⟩ := h
  have hp := lt_block h3
  have hoK : ∀ g, blkOf ga g → g < w.heap.size ∧ ¬ K g := fun g hg => ⟨(ho.out hg).2, fun hk => (ho.out hg).1 (.inl hk)⟩
  have haK : ∀ i, i < M.n → ∀ g, blkOf (aa i) g → g < w.heap.size ∧ ¬ K g := fun i hi g hg => ⟨((ha i hi).out hg).2, fun hk => ((ha i hi).out hg).1 (.inl hk)⟩
  refine ⟨hl, fun hh => h2 (hs p hp hh), by rw [hb p hp h2]; exact h3, xs, aa, ac, OwnZ.to ho (fun g hg hh => ?_) (fun g hg => hb g (hoK g hg).1 (hoK g hg).2), hx, fun i hi => OwnZ.to (ha i hi) (fun g hg hh => ?_) (fun g hg => hb g (haK i hi g hg).1 (haK i hi g hg).2), hsp⟩
  · rcases hh with hh | hh
    · exact (hoK g hg).2 (hs g (hoK g hg).1 hh)
    · exact (ho.out hg).1 (.inr hh)
  · rcases hh with hh | hh
    · exact (haK i hi g hg).2 (hs g (haK i hi g hg).1 hh)
    · exact ((ha i hi).out hg).1 (.inr hh)
theorem DX.move (h : DX K w p M) (hb : ∀ g, g < w.heap.size → ¬ K g → w'.heap[g]? = w.heap[g]?) (hs : ∀ k, k < w.heap.size → K' k → K k) (hl : ∀ k, K' k → k < w'.heap.size) : DX K' w' p M := by
  obtain ⟨ga, cap, h⟩ := h
  exact ⟨ga, cap, h.move hb hs hl⟩
theorem RY.move (h : RY K w p M R G A) (hb : ∀ g, g < w.heap.size → ¬ K g → w'.heap[g]? = w.heap[g]?) (hz : w.heap.size ≤ w'.heap.size) (hs : ∀ k, k < w.heap.size → K' k → K k) (hl : ∀ k, K' k → k < w'.heap.size) : RY K' w' p M R G A := by
  have hp := h.plt
  have bad : ∀ g, g < w.heap.size → ¬ A.bad K p M.n g → ¬ A.bad K' p M.n g := fun g hg hb hb' => by
    rcases hb' with h1 | h1
    · exact hb (.inl (hs g hg h1))
    · exact hb (.inr h1)
  obtain ⟨xs, ho, hx⟩ := h.nown
  obtain ⟨ys, hq, hy⟩ := h.qown
  have hoK : ∀ g, blkOf A.na g → g < w.heap.size ∧ ¬ K g := fun g hg => ⟨(ho.out hg).2, fun hk => (ho.out hg).1 (.inl hk)⟩
  have hqK : ∀ g, blkOf A.qa g → g < w.heap.size ∧ ¬ K g := fun g hg => ⟨(hq.out hg).2, fun hk => (hq.out hg).1 (.inl hk)⟩
  have hgK : ∀ i, i < M.n → ∀ g, blkOf (A.ga i) g → g < w.heap.size ∧ ¬ K g := fun i hi g hg => ⟨((h.gown i hi).out hg).2, fun hk => ((h.gown i hi).out hg).1 (.inl hk)⟩
  refine ⟨hl, fun hh => h.pk (hs p hp hh), by rw [hb p hp h.pk]; exact h.blk, ⟨xs, OwnZ.to ho (fun g hg hh => ?_) (fun g hg => hb g (hoK g hg).1 (hoK g hg).2), hx⟩, ⟨ys, OwnZ.to hq (fun g hg hh => ?_) (fun g hg => hb g (hqK g hg).1 (hqK g hg).2), hy⟩,
    fun i hi => OwnZ.to (h.gown i hi) (fun g hg hh => ?_) (fun g hg => hb g (hgK i hi g hg).1 (hgK i hi g hg).2), h.gsep, fun i hi => (h.ats i hi).to (fun g hg => ⟨Nat.lt_of_lt_of_le hg.1 hz, bad g hg.1 hg.2⟩) (fun g hg => hb g hg.1 fun hk => hg.2 (.inl hk)), h.acl,
    fun i hi => (h.kid i hi).to (fun g hg => ⟨Nat.lt_of_lt_of_le hg.1 hz, bad g hg.1 hg.2⟩) (fun g hg => hb g hg.1 fun hk => hg.2 (.inl hk)), h.kcl⟩
  · rcases hh with hh | hh
    · exact (hoK g hg).2 (hs g (hoK g hg).1 hh)
    · exact (ho.out hg).1 (.inr hh)
  · rcases hh with hh | hh
    · exact (hqK g hg).2 (hs g (hqK g hg).1 hh)
    · exact (hq.out hg).1 (.inr hh)
  · rcases hh with hh | hh
    · exact (hgK i hi g hg).2 (hs g (hgK i hi g hg).1 hh)
    · exact ((h.gown i hi).out hg).1 (.inr hh)
theorem RX.move (h : RX K w p M R G) (hb : ∀ g, g < w.heap.size → ¬ K g → w'.heap[g]? = w.heap[g]?) (hz : w.heap.size ≤ w'.heap.size) (hs : ∀ k, k < w.heap.size → K' k → K k) (hl : ∀ k, K' k → k < w'.heap.size) : RX K' w' p M R G := by
  obtain ⟨A, h⟩ := h
  exact ⟨A, h.move hb hz hs hl⟩
end
/-- What the program's document must not touch: K, and the document's own E. -/
def TK (K E : Nat → Prop) (k : Nat) : Prop := K k ∨ E k
/-- What the document's own must not touch: K, and all that is not its own. -/
def TL (K E : Nat → Prop) (w : World) (k : Nat) : Prop := K k ∨ (k < w.heap.size ∧ ¬ E k)
/-- BOTH DOCUMENTS, apart from K. -/
structure Two (K E : Nat → Prop) (w : World) (p r : Nat) (M : Dm) (R G : Nat → List Nat) : Prop where
  d : DX (TK K E) w p M
  r : RX (TL K E w) w r M R G
  nk : ∀ k, E k → ¬ K k
theorem Two.lt {K E : Nat → Prop} {w : World} {p r : Nat} {M : Dm} {R G : Nat → List Nat} (h : Two K E w p r M R G) : ∀ k, K k → k < w.heap.size := fun k hk => h.d.lt k (.inl hk)
/-- Behind what only makes. -/
theorem Two.kept {K E : Nat → Prop} {w w' : World} {p r : Nat} {M : Dm} {R G : Nat → List Nat} (h : Two K E w p r M R G) (hk : Kept (fun k => k < w.heap.size) w w') : Two K E w' p r M R G :=
  ⟨h.d.kept hk, h.r.move (fun g hg _ => hk.block g hg) hk.size (fun k hl hh => by
    rcases hh with hh | hh
    · exact .inl hh
    · exact .inr ⟨hl, hh.2⟩) (fun k hh => by
    rcases hh with hh | hh
    · exact Nat.lt_of_lt_of_le (h.lt k hh) hk.size
    · exact hh.1), h.nk⟩
/-- Behind a call on the program's document. -/
theorem Two.byD {K E : Nat → Prop} {w w' : World} {p r : Nat} {M M' : Dm} {R G : Nat → List Nat} (h : Two K E w p r M R G) (hk : Kept (TK K E) w w') (hd : DX (TK K E) w' p M') : DX (TK K E) w' p M' ∧ RX (TL K E w') w' r M R G ∧ Kept K w w' := by
  refine ⟨hd, h.r.move (fun g hg hn => hk.block g ?_) hk.size (fun k hl hh => ?_) (fun k hh => ?_), hk.mono fun k hk => .inl hk⟩
  · by_cases c : E g
    · exact .inr c
    · exact absurd (.inr ⟨hg, c⟩) hn
  · rcases hh with hh | hh
    · exact .inl hh
    · exact .inr ⟨hl, hh.2⟩
  · rcases hh with hh | hh
    · exact Nat.lt_of_lt_of_le (h.lt k hh) hk.size
    · exact hh.1
/-- Behind a call on the document's own. -/
theorem Two.byR {K E : Nat → Prop} {w w' : World} {p r : Nat} {M M' : Dm} {R R' G G' : Nat → List Nat} (hd : DX (TK K E) w p M') (hnk : ∀ k, E k → ¬ K k) (hk : Kept (TL K E w) w w') (hr : RX (TL K E w) w' r M' R' G') :
    Two K (fun k => k < w'.heap.size ∧ ¬ K k ∧ (E k ∨ w.heap.size ≤ k)) w' p r M' R' G' ∧ Kept K w w' := by
  refine ⟨⟨hd.move (fun g hg hn => hk.block g (.inr ⟨hg, fun he => hn (.inr he)⟩)) (fun k hl hh => ?_) (fun k hh => ?_), hr.more (Kept.refl _ _) (fun k hh => ?_) (fun k hh => ?_), fun k hh => hh.2.1⟩, hk.mono fun k hk => .inl hk⟩
  · rcases hh with hh | ⟨-, -, hh | hh⟩
    · exact .inl hh
    · exact .inr hh
    · omega
  · rcases hh with hh | hh
    · exact Nat.lt_of_lt_of_le (hd.lt k (.inl hh)) hk.size
    · exact hh.1
  · rcases hh with hh | ⟨h1, h2⟩
    · exact .inl (.inl hh)
    · by_cases ck : K k
      · exact .inl (.inl ck)
      · refine .inl (.inr ⟨?_, fun he => h2 ⟨h1, ck, .inl he⟩⟩)
        exact Nat.lt_of_not_le fun hw => h2 ⟨h1, ck, .inr hw⟩
  · rcases hh with hh | hh
    · exact Nat.lt_of_lt_of_le (hd.lt k (.inl hh)) hk.size
    · exact hh.1
end Go.Proofs.YtbhfnbplbkncmaaGreat

namespace Go.Proofs.YtbhfnbplbkncmaaGreat
open Go.RowKit
set_option linter.unusedVariables false
theorem inside_any (k : Int) (n : Nat) (h1 : 1 ≤ n) (hn : n ≤ 1000000) (w : World) : Calls Tryz.prog 147 #[.int .i64 k, .int .i64 (n : Int)] w fun e w' => e = .returned (.int .i64 ((k.toNat % n : Nat) : Int)) ∧ w' = w := by
  have n0 : ((n : Int) == 0) = false := by simp; omega
  by_cases hk : k < 0
  · have e2 : k.toNat % n = 0 := by
      have : k.toNat = 0 := by omega
      rw [this, Nat.zero_mod]
    have hk' : ¬ 0 ≤ k := by omega
    rw [e2]
    clear e2
    go_enter Tryz.func147, Tryz.ntmps147
    go_wp2
    go_ret
    exact ⟨rfl, rfl⟩
  · obtain ⟨m, rfl⟩ : ∃ m : Nat, k = (m : Int) := ⟨k.toNat, by omega⟩
    clear hk
    go_enter Tryz.func147, Tryz.ntmps147
    go_wp2
    go_ret
    exact ⟨by simp, rfl⟩
def nameT : List ByteArray := [⟨#[100, 105, 118]⟩, ⟨#[115, 112, 97, 110]⟩, ⟨#[115, 108, 111, 116]⟩, ⟨#[116, 101, 109, 112, 108, 97, 116, 101]⟩, ⟨#[120, 45, 97]⟩, ⟨#[115, 101, 99, 116, 105, 111, 110]⟩, ⟨#[112]⟩, ⟨#[98, 114]⟩, ⟨#[98]⟩, ⟨#[97, 114, 116, 105, 99, 108, 101]⟩]
def nameB (i : Nat) : ByteArray := nameT.getD i ⟨#[]⟩
set_option maxRecDepth 20000 in
theorem names_any (k : Nat) (hk : k < 256) (w : World) : Calls Tryz.prog 168 #[.int .u8 (k : Int)] w fun e w' => e = .returned (.string (nameB (k % 10))) ∧ Kept (fun j => j < w.heap.size) w w' := by
  have HK : Hid (∀ o, Kept (fun k => k < w.heap.size) w (w.alloc o)) := fun o => (Kept.refl _ w).alloc (fun _ h => h) o
  obtain ⟨r, hr⟩ : ∃ r, k % 10 = r := ⟨_, rfl⟩
  have hr' : (k : Int).tmod 10 = (r : Int) := by rw [← hr]; rfl
  have h10 : r < 10 := by omega
  rw [hr]
  clear hr hk
  go_enter Tryz.func168, Tryz.ntmps168
  go_wp2
  go_ret
  refine ⟨?_, HK.out _⟩
  match r, h10 with
  | 0, _ => rfl
  | 1, _ => rfl
  | 2, _ => rfl
  | 3, _ => rfl
  | 4, _ => rfl
  | 5, _ => rfl
  | 6, _ => rfl
  | 7, _ => rfl
  | 8, _ => rfl
  | 9, _ => rfl
/-- What is to be made. -/
def Opx.nKind (o : Opx) : Nat := if o.inn = false then o.nk else if o.nk % 8 = 1 ∨ o.nk % 8 = 2 then 2 else if o.nk % 8 = 3 then 4 else 1
def Opx.nName (o : Opx) : ByteArray := if o.inn = false then o.nn else if o.nk % 8 = 1 ∨ o.nk % 8 = 2 ∨ o.nk % 8 = 3 then ⟨#[]⟩ else nameB ((o.nn.size % 256 + o.nk / 8) % 256 % 10)
def Opx.nData (o : Opx) : ByteArray := if o.inn = false then o.nd else if o.nk % 8 = 1 ∨ o.nk % 8 = 2 then o.nd else ⟨#[]⟩
def Opx.nAts (o : Opx) : List Atr := if o.inn = false then o.ats else []
def OpA.nAa (A : OpA) (o : Opx) : Option Addr := if o.inn = false then A.aa else none
def OpA.nAc (A : OpA) (o : Opx) : Nat := if o.inn = false then A.ac else 0
abbrev nodeC (kd : Int) (S D : ByteArray) (aa : Option Addr) (an ac : Nat) : Array Value := #[.int .u8 kd, .string S, .string D, .slice aa an ac, .int .i64 0, .slice none 0 0, .int .i64 0, .int .i64 0, .int .i64 0, .bool false, .bool false, .bool false, .bool false, .bool false]
theorem builtN4 (kd : Int) (S D : ByteArray) (aa : Option Addr) (an ac : Nat) : Tryz.prog.built 36 [(0, .int .u8 kd), (1, .string S), (2, .string D), (3, .slice aa an ac)] = some (nodeC kd S D aa an ac) := by kernel_rfl
theorem builtN2 (S : ByteArray) : Tryz.prog.built 36 [(0, .int .u8 1), (1, .string S)] = some (nodeC 1 S ⟨#[]⟩ none 0 0) := by kernel_rfl
theorem builtNt (D : ByteArray) : Tryz.prog.built 36 [(0, .int .u8 2), (2, .string D)] = some (nodeC 2 ⟨#[]⟩ D none 0 0) := by kernel_rfl
theorem builtNf : Tryz.prog.built 36 [(0, .int .u8 4)] = some (nodeC 4 ⟨#[]⟩ ⟨#[]⟩ none 0 0) := by kernel_rfl
theorem heap_three (w : World) (a b c : Obj) : (((w.alloc a).alloc b).alloc c).heap[w.heap.size + 1]? = some b := by
  rw [Below.heap_alloc _ _ _ (by simp)]
  have := heap_alloc_new (w.alloc a) b
  simpa using this
theorem kept_three (w : World) (a b c : Obj) : Kept (fun j => j < w.heap.size) w (((w.alloc a).alloc b).alloc c) :=
  (((Kept.refl _ w).alloc (fun _ h => h) a).alloc (fun k h => by simp; omega) b).alloc (fun k h => by simp; omega) c
set_option maxRecDepth 20000 in
theorem node_out (o : Opx) (A : OpA) (ho : o.inn = false) (w : World) : Calls Tryz.prog 101 #[.agg #[.int .u8 (o.nk : Int), .string o.nn, .string o.nd, .slice A.aa o.ats.length A.ac], .bool o.inn] w fun e w' => e = .returned (.agg (nodeC (o.nKind : Int) o.nName o.nData (A.nAa o) o.nAts.length (A.nAc o))) ∧ Kept (fun j => j < w.heap.size) w w' := by
  have e1 : o.nKind = o.nk := if_pos ho
  have e2 : o.nName = o.nn := if_pos ho
  have e3 : o.nData = o.nd := if_pos ho
  have e4 : o.nAts = o.ats := if_pos ho
  have e5 : A.nAa o = A.aa := if_pos ho
  have e6 : A.nAc o = A.ac := if_pos ho
  rw [e1, e2, e3, e4, e5, e6, ho]
  obtain ⟨n, hn⟩ : ∃ n, o.ats.length = n := ⟨_, rfl⟩
  rw [hn]
  have hbu := builtN4 (o.nk : Int) o.nn o.nd A.aa n A.ac
  clear ho e1 e2 e3 e4 e5 e6 hn
  go_enter Tryz.func101, Tryz.ntmps101
  go_wp2
  refine bodyPost_ret (results_cell_row (p := 4) (ty := 36) rfl _ _ (w.heap.size + 1) 36 _ _ _ rfl (heap_three _ _ _ _) Tryz.underlying36 rfl (by kernel_rfl)) rfl ?_
  exact ⟨rfl, kept_three _ _ _ _⟩
/-- The memory of Node: what came in, the answer, the node. -/
def NodeSt (w : World) (N : Nat) (m : Array Value) (y : Array Value) (X : World) : Prop :=
  X.heap[N]? = some (.cells m 52 (0, 0)) ∧ (∃ z : Array Value, z.size = 14 ∧ X.heap[N + 1]? = some (.cells z 36 (0, 0))) ∧ X.heap[N + 1 + 1]? = some (.cells y 36 (0, 0)) ∧ Kept (fun j => j < N) w X
theorem NodeSt.kept {w X X' : World} {N : Nat} {m y : Array Value} (h : NodeSt w N m y X) (hk : Kept (fun j => j < X.heap.size) X X') (hN : w.heap.size = N) : NodeSt w N m y X' := by
  obtain ⟨h1, ⟨z, hz, h2⟩, h3, h4⟩ := h
  have l1 := lt_block h1
  have l2 := lt_block h2
  have l3 := lt_block h3
  exact ⟨by rw [hk.block N l1]; exact h1, ⟨z, hz, by rw [hk.block (N + 1) l2]; exact h2⟩, by rw [hk.block (N + 1 + 1) l3]; exact h3, h4.trans (hk.mono fun k h => by omega)⟩
theorem NodeSt.row {w X : World} {N : Nat} {m y : Array Value} (h : NodeSt w N m y X) (y' : Array Value) : NodeSt w N m y' (X.setRow (N + 1 + 1) y') := by
  obtain ⟨h1, ⟨z, hz, h2⟩, h3, h4⟩ := h
  exact ⟨by rw [setRow_other _ _ _ _ (by omega)]; exact h1, ⟨z, hz, by rw [setRow_other _ _ _ _ (by omega)]; exact h2⟩, setRow_heap _ _ _ _ _ _ h3, kept_setRow h4 (by omega) _⟩
theorem NodeSt.ans {w X : World} {N : Nat} {m y : Array Value} (h : NodeSt w N m y X) (y' : Array Value) : (X.setRow (N + 1) y').heap[N + 1]? = some (.cells y' 36 (0, 0)) ∧ Kept (fun j => j < N) w (X.setRow (N + 1) y') := by
  obtain ⟨h1, ⟨z, hz, h2⟩, h3, h4⟩ := h
  exact ⟨setRow_heap _ _ _ _ _ _ h2, kept_setRow h4 (by omega) _⟩
theorem size45 (cs : Array Value) (h : cs.size = 14) : (Tryz.prog.info? 36).map (·.size) = some cs.size := by rw [h]; kernel_rfl
theorem nodeC_one (kd : Int) (S D : ByteArray) (aa : Option Addr) (an ac : Nat) : (nodeC kd S D aa an ac).all (·.oneCell') = true := by kernel_rfl
set_option maxRecDepth 20000 in
set_option maxHeartbeats 2000000 in
theorem node_in (o : Opx) (A : OpA) (ho : o.inn = true) (hk : o.nk < 256) (hs : o.nn.size ≤ 1000000) (w : World) : Calls Tryz.prog 101 #[.agg #[.int .u8 (o.nk : Int), .string o.nn, .string o.nd, .slice A.aa o.ats.length A.ac], .bool o.inn] w fun e w' => e = .returned (.agg (nodeC (o.nKind : Int) o.nName o.nData (A.nAa o) o.nAts.length (A.nAc o))) ∧ Kept (fun j => j < w.heap.size) w w' := by
  have hi : ¬ o.inn = false := by rw [ho]; decide
  have e4 : o.nAts = [] := if_neg hi
  have e5 : A.nAa o = none := if_neg hi
  have e6 : A.nAc o = 0 := if_neg hi
  rw [e4, e5, e6]
  unfold Opx.nKind Opx.nName Opx.nData
  simp only [if_neg hi]
  rw [ho]
  obtain ⟨n, hn⟩ : ∃ n, o.ats.length = n := ⟨_, rfl⟩
  obtain ⟨nk, hnk⟩ : ∃ nk, o.nk = nk := ⟨_, rfl⟩
  obtain ⟨nn, hnn⟩ : ∃ nn, o.nn = nn := ⟨_, rfl⟩
  obtain ⟨nd, hnd⟩ : ∃ nd, o.nd = nd := ⟨_, rfl⟩
  obtain ⟨aa, haa⟩ : ∃ aa, A.aa = aa := ⟨_, rfl⟩
  obtain ⟨ac, hac⟩ : ∃ ac, A.ac = ac := ⟨_, rfl⟩
  rw [hn, hnk, hnn, hnd, haa, hac]
  rw [hnk] at hk
  rw [hnn] at hs
  clear hn hnk hnn hnd e4 e5 e6 hi ho haa hac
  obtain ⟨r, hr⟩ : ∃ r, nk % 8 = r := ⟨_, rfl⟩
  have hr' : (nk : Int).tmod 8 = (r : Int) := by rw [← hr]; rfl
  have h8 : r < 8 := by omega
  obtain ⟨q, hqe⟩ : ∃ q, nk / 8 = q := ⟨_, rfl⟩
  have hq : (nk : Int).tdiv 8 = (q : Int) := by rw [← hqe]; rfl
  have hq32 : q < 32 := by omega
  obtain ⟨m, hm⟩ : ∃ m, nn.size % 256 = m := ⟨_, rfl⟩
  have hm6 : m < 256 := by omega
  obtain ⟨x, hx⟩ : ∃ x, (m + q) % 256 = x := ⟨_, rfl⟩
  have hx6 : x < 256 := by omega
  rw [hr, hm, hqe, hx]
  obtain ⟨kd', hkd'⟩ : ∃ k : Nat, (if r = 1 ∨ r = 2 then 2 else if r = 3 then 4 else 1) = k := ⟨_, rfl⟩
  obtain ⟨S', hS'⟩ : ∃ k : ByteArray, (if r = 1 ∨ r = 2 ∨ r = 3 then ⟨#[]⟩ else nameB (x % 10)) = k := ⟨_, rfl⟩
  obtain ⟨D', hD'⟩ : ∃ k : ByteArray, (if r = 1 ∨ r = 2 then nd else ⟨#[]⟩) = k := ⟨_, rfl⟩
  rw [hkd', hS', hD']
  have HKD : Hid ((if r = 1 ∨ r = 2 then 2 else if r = 3 then 4 else 1) = kd') := hkd'
  have HSN : Hid ((if r = 1 ∨ r = 2 ∨ r = 3 then ⟨#[]⟩ else nameB (x % 10)) = S') := hS'
  have HDT : Hid ((if r = 1 ∨ r = 2 then nd else ⟨#[]⟩) = D') := hD'
  clear hkd' hS' hD'
  have rn := fun X => names_any x hx6 X
  obtain ⟨N, hN⟩ : ∃ N, w.heap.size = N := ⟨_, rfl⟩
  have HN : Hid (w.heap.size = N) := hN
  have bu4 := builtN4 (nk : Int) nn nd aa n ac
  have bu2 := fun S => builtN2 S
  have but := builtNt nd
  have buf := builtNf
  obtain ⟨W3, hW3⟩ : ∃ W3, ((w.alloc (.cells #[.int .u8 (nk : Int), .string nn, .string nd, .slice aa n ac] 52)).alloc (.cells (nodeC 0 ⟨#[]⟩ ⟨#[]⟩ none 0 0) 36)).alloc (.cells (nodeC (nk : Int) nn nd aa n ac) 36) = W3 := ⟨_, rfl⟩
  have HW3 : Hid (((w.alloc (.cells #[.int .u8 (nk : Int), .string nn, .string nd, .slice aa n ac] 52)).alloc (.cells (nodeC 0 ⟨#[]⟩ ⟨#[]⟩ none 0 0) 36)).alloc (.cells (nodeC (nk : Int) nn nd aa n ac) 36) = W3) := hW3
  have st3 : NodeSt w N #[.int .u8 (nk : Int), .string nn, .string nd, .slice aa n ac] (nodeC (nk : Int) nn nd aa n ac) W3 := by
    rw [← hW3, ← hN]
    refine ⟨?_, ⟨_, rfl, heap_three _ _ _ _⟩, ?_, kept_three _ _ _ _⟩
    · rw [Below.heap_alloc _ _ _ (by simp; omega), Below.heap_alloc _ _ _ (by simp)]
      exact heap_alloc_new w _
    · have := heap_alloc_new ((w.alloc (.cells #[.int .u8 (nk : Int), .string nn, .string nd, .slice aa n ac] 52)).alloc (.cells (nodeC 0 ⟨#[]⟩ ⟨#[]⟩ none 0 0) 36)) (.cells (nodeC (nk : Int) nn nd aa n ac) 36)
      simpa using this
  have c0 : W3.cell? ⟨N, 0, none⟩ = some (.int .u8 (nk : Int)) := by rw [cell_block st3.1]; rfl
  have c1 : W3.cell? ⟨N, 1, none⟩ = some (.string nn) := by rw [cell_block st3.1]; rfl
  have ST3 : Hid (NodeSt w N #[.int .u8 (nk : Int), .string nn, .string nd, .slice aa n ac] (nodeC (nk : Int) nn nd aa n ac) W3) := st3
  have HX : Hid ((m + q) % 256 = x) := hx
  have HM : Hid (nn.size % 256 = m) := hm
  clear hr hqe hN hW3 st3 hx hm
  have hcv : (convert 3 5 (.int .i64 (nn.size : Int))).run Tryz.prog W3 = .ok (.int .u8 (m : Int)) W3 := by
    rw [← HM.out]
    have : ((nn.size % 256 : Nat) : Int) = IntKind.u8.wrap (nn.size : Int) := by simp [IntKind.wrap, IntKind.bits, IntKind.signed]
    rw [this]
    simp [convert, Conv.intToInt]
  have hwr : IntKind.u8.wrap ((m : Int) + (q : Int)) = (x : Int) := by
    rw [← HX.out]
    simp [IntKind.wrap, IntKind.bits, IntKind.signed]
  go_enter Tryz.func101, Tryz.ntmps101
  go_upto_region 3 with fail
  rw [HW3.out, HN.out]
  clear HW3
  go_wp2_with fail
  refine (rn W3).mono ?_
  rintro e w1 ⟨rfl, k1⟩
  have st1 := ST3.out.kept k1 HN.out
  have ST1 : Hid (NodeSt w N #[.int .u8 (nk : Int), .string nn, .string nd, .slice aa n ac] (nodeC (nk : Int) nn nd aa n ac) w1) := st1
  obtain ⟨S, hS⟩ : ∃ S, nameB (x % 10) = S := ⟨_, rfl⟩
  rw [hS]
  have HS : Hid (nameB (x % 10) = S) := hS
  have bu2' := bu2 S
  have hN2 := st1.2.2.1
  have st2 := st1.row (nodeC 1 S ⟨#[]⟩ none 0 0)
  obtain ⟨W4, hW4⟩ : ∃ W4, w1.setRow (N + 1 + 1) (nodeC 1 S ⟨#[]⟩ none 0 0) = W4 := ⟨_, rfl⟩
  rw [hW4] at st2
  have d0 : W4.cell? ⟨N, 0, none⟩ = some (.int .u8 (nk : Int)) := by rw [cell_block st2.1]; rfl
  have d2 : W4.cell? ⟨N, 2, none⟩ = some (.string nd) := by rw [cell_block st2.1]; rfl
  have HW4 : Hid (w1.setRow (N + 1 + 1) (nodeC 1 S ⟨#[]⟩ none 0 0) = W4) := hW4
  have HST : Hid (NodeSt w N #[.int .u8 (nk : Int), .string nn, .string nd, .slice aa n ac] (nodeC 1 S ⟨#[]⟩ none 0 0) W4) := st2
  clear rn hcv hwr c0 c1 k1 st1 st2 bu4 bu2 hS hW4
  go_upto_region 4 with (refine wpList_store_row rfl 36 _ _ rfl (N + 1 + 1) (nodeC 1 S ⟨#[]⟩ none 0 0) rfl rfl 36 _ hN2 (size45 _ rfl) rfl (nodeC_one _ _ _ _ _ _) ?_)
  rw [HW4.out]
  clear HW4 hN2 bu2' HX HM
  by_cases r1 : r = 1
  · subst r1
    have hN4 := HST.out.2.2.1
    have st5 := HST.out.row (nodeC 2 ⟨#[]⟩ nd none 0 0)
    obtain ⟨Wf, hWf⟩ : ∃ Wf, W4.setRow (N + 1 + 1) (nodeC 2 ⟨#[]⟩ nd none 0 0) = Wf := ⟨_, rfl⟩
    rw [hWf] at st5
    have f0 : Wf.cell? ⟨N, 0, none⟩ = some (.int .u8 (nk : Int)) := by rw [cell_block st5.1]; rfl
    have HWf : Hid (W4.setRow (N + 1 + 1) (nodeC 2 ⟨#[]⟩ nd none 0 0) = Wf) := hWf
    have HSTf : Hid (NodeSt w N #[.int .u8 (nk : Int), .string nn, .string nd, .slice aa n ac] (nodeC 2 ⟨#[]⟩ nd none 0 0) Wf) := st5
    clear st5 hWf
    go_upto_region 6 with (refine wpList_store_row rfl 36 _ _ rfl (N + 1 + 1) (nodeC 2 ⟨#[]⟩ nd none 0 0) rfl rfl 36 _ hN4 (size45 _ rfl) rfl (nodeC_one _ _ _ _ _ _) ?_)
    rw [HWf.out]
    clear HWf hN4
    obtain ⟨z, hz, hz1⟩ := HSTf.out.2.1
    have hy := HSTf.out.2.2.1
    obtain ⟨ha, hka⟩ := HSTf.out.ans (nodeC 2 ⟨#[]⟩ nd none 0 0)
    have HA : Hid ((Wf.setRow (N + 1) (nodeC 2 ⟨#[]⟩ nd none 0 0)).heap[N + 1]? = some (.cells (nodeC 2 ⟨#[]⟩ nd none 0 0) 36 (0, 0))) := ha
    have HKA : Hid (Kept (fun j => j < N) w (Wf.setRow (N + 1) (nodeC 2 ⟨#[]⟩ nd none 0 0))) := hka
    clear ha hka
    go_wp2_with (first | (refine wpList_load_row rfl 36 _ rfl (N + 1 + 1) rfl 36 (nodeC 2 ⟨#[]⟩ nd none 0 0) (0, 0) _ hy Tryz.underlying36 rfl (size45 _ rfl) ?_) | (refine wpList_store_row rfl 36 _ _ rfl (N + 1) (nodeC 2 ⟨#[]⟩ nd none 0 0) rfl rfl 36 z hz1 (size45 _ rfl) hz (nodeC_one _ _ _ _ _ _) ?_))
    refine bodyPost_ret (results_cell_row (p := 4) (ty := 36) rfl _ _ (N + 1) 36 _ _ _ rfl HA.out Tryz.underlying36 rfl (size45 _ rfl)) rfl ?_
    exact ⟨by rw [← HKD.out, ← HSN.out, ← HDT.out, if_pos (by simp), if_pos (by simp), if_pos (by simp)]; rfl, by rw [HN.out]; exact HKA.out⟩
  by_cases r2 : r = 2
  · subst r2
    have hN4 := HST.out.2.2.1
    have st5 := HST.out.row (nodeC 2 ⟨#[]⟩ nd none 0 0)
    obtain ⟨Wf, hWf⟩ : ∃ Wf, W4.setRow (N + 1 + 1) (nodeC 2 ⟨#[]⟩ nd none 0 0) = Wf := ⟨_, rfl⟩
    rw [hWf] at st5
    have f0 : Wf.cell? ⟨N, 0, none⟩ = some (.int .u8 (nk : Int)) := by rw [cell_block st5.1]; rfl
    have HWf : Hid (W4.setRow (N + 1 + 1) (nodeC 2 ⟨#[]⟩ nd none 0 0) = Wf) := hWf
    have HSTf : Hid (NodeSt w N #[.int .u8 (nk : Int), .string nn, .string nd, .slice aa n ac] (nodeC 2 ⟨#[]⟩ nd none 0 0) Wf) := st5
    clear st5 hWf
    go_upto_region 6 with (refine wpList_store_row rfl 36 _ _ rfl (N + 1 + 1) (nodeC 2 ⟨#[]⟩ nd none 0 0) rfl rfl 36 _ hN4 (size45 _ rfl) rfl (nodeC_one _ _ _ _ _ _) ?_)
    rw [HWf.out]
    clear HWf hN4
    obtain ⟨z, hz, hz1⟩ := HSTf.out.2.1
    have hy := HSTf.out.2.2.1
    obtain ⟨ha, hka⟩ := HSTf.out.ans (nodeC 2 ⟨#[]⟩ nd none 0 0)
    have HA : Hid ((Wf.setRow (N + 1) (nodeC 2 ⟨#[]⟩ nd none 0 0)).heap[N + 1]? = some (.cells (nodeC 2 ⟨#[]⟩ nd none 0 0) 36 (0, 0))) := ha
    have HKA : Hid (Kept (fun j => j < N) w (Wf.setRow (N + 1) (nodeC 2 ⟨#[]⟩ nd none 0 0))) := hka
    clear ha hka
    go_wp2_with (first | (refine wpList_load_row rfl 36 _ rfl (N + 1 + 1) rfl 36 (nodeC 2 ⟨#[]⟩ nd none 0 0) (0, 0) _ hy Tryz.underlying36 rfl (size45 _ rfl) ?_) | (refine wpList_store_row rfl 36 _ _ rfl (N + 1) (nodeC 2 ⟨#[]⟩ nd none 0 0) rfl rfl 36 z hz1 (size45 _ rfl) hz (nodeC_one _ _ _ _ _ _) ?_))
    refine bodyPost_ret (results_cell_row (p := 4) (ty := 36) rfl _ _ (N + 1) 36 _ _ _ rfl HA.out Tryz.underlying36 rfl (size45 _ rfl)) rfl ?_
    exact ⟨by rw [← HKD.out, ← HSN.out, ← HDT.out, if_pos (by simp), if_pos (by simp), if_pos (by simp)]; rfl, by rw [HN.out]; exact HKA.out⟩
  have n1 : ((r : Int) == 1) = false := by simp; omega
  have n2 : ((r : Int) == 2) = false := by simp; omega
  by_cases r3 : r = 3
  · subst r3
    have hN4 := HST.out.2.2.1
    have st5 := HST.out.row (nodeC 4 ⟨#[]⟩ ⟨#[]⟩ none 0 0)
    obtain ⟨Wf, hWf⟩ : ∃ Wf, W4.setRow (N + 1 + 1) (nodeC 4 ⟨#[]⟩ ⟨#[]⟩ none 0 0) = Wf := ⟨_, rfl⟩
    rw [hWf] at st5
    have f0 : Wf.cell? ⟨N, 0, none⟩ = some (.int .u8 (nk : Int)) := by rw [cell_block st5.1]; rfl
    have HWf : Hid (W4.setRow (N + 1 + 1) (nodeC 4 ⟨#[]⟩ ⟨#[]⟩ none 0 0) = Wf) := hWf
    have HSTf : Hid (NodeSt w N #[.int .u8 (nk : Int), .string nn, .string nd, .slice aa n ac] (nodeC 4 ⟨#[]⟩ ⟨#[]⟩ none 0 0) Wf) := st5
    clear st5 hWf
    go_upto_region 8 with (refine wpList_store_row rfl 36 _ _ rfl (N + 1 + 1) (nodeC 4 ⟨#[]⟩ ⟨#[]⟩ none 0 0) rfl rfl 36 _ hN4 (size45 _ rfl) rfl (nodeC_one _ _ _ _ _ _) ?_)
    rw [HWf.out]
    clear HWf hN4
    obtain ⟨z, hz, hz1⟩ := HSTf.out.2.1
    have hy := HSTf.out.2.2.1
    obtain ⟨ha, hka⟩ := HSTf.out.ans (nodeC 4 ⟨#[]⟩ ⟨#[]⟩ none 0 0)
    have HA : Hid ((Wf.setRow (N + 1) (nodeC 4 ⟨#[]⟩ ⟨#[]⟩ none 0 0)).heap[N + 1]? = some (.cells (nodeC 4 ⟨#[]⟩ ⟨#[]⟩ none 0 0) 36 (0, 0))) := ha
    have HKA : Hid (Kept (fun j => j < N) w (Wf.setRow (N + 1) (nodeC 4 ⟨#[]⟩ ⟨#[]⟩ none 0 0))) := hka
    clear ha hka
    go_wp2_with (first | (refine wpList_load_row rfl 36 _ rfl (N + 1 + 1) rfl 36 (nodeC 4 ⟨#[]⟩ ⟨#[]⟩ none 0 0) (0, 0) _ hy Tryz.underlying36 rfl (size45 _ rfl) ?_) | (refine wpList_store_row rfl 36 _ _ rfl (N + 1) (nodeC 4 ⟨#[]⟩ ⟨#[]⟩ none 0 0) rfl rfl 36 z hz1 (size45 _ rfl) hz (nodeC_one _ _ _ _ _ _) ?_))
    refine bodyPost_ret (results_cell_row (p := 4) (ty := 36) rfl _ _ (N + 1) 36 _ _ _ rfl HA.out Tryz.underlying36 rfl (size45 _ rfl)) rfl ?_
    exact ⟨by rw [← HKD.out, ← HSN.out, ← HDT.out, if_neg (by simp), if_pos trivial, if_pos (by simp), if_neg (by simp)]; rfl, by rw [HN.out]; exact HKA.out⟩
  · have n3 : ((r : Int) == 3) = false := by simp; omega
    obtain ⟨Wf, hWf⟩ : ∃ Wf, W4 = Wf := ⟨_, rfl⟩
    have HSTf : Hid (NodeSt w N #[.int .u8 (nk : Int), .string nn, .string nd, .slice aa n ac] (nodeC 1 S ⟨#[]⟩ none 0 0) Wf) := by rw [← hWf]; exact HST
    subst hWf
    go_upto_region 8 with fail
    obtain ⟨z, hz, hz1⟩ := HSTf.out.2.1
    have hy := HSTf.out.2.2.1
    obtain ⟨ha, hka⟩ := HSTf.out.ans (nodeC 1 S ⟨#[]⟩ none 0 0)
    have HA : Hid ((W4.setRow (N + 1) (nodeC 1 S ⟨#[]⟩ none 0 0)).heap[N + 1]? = some (.cells (nodeC 1 S ⟨#[]⟩ none 0 0) 36 (0, 0))) := ha
    have HKA : Hid (Kept (fun j => j < N) w (W4.setRow (N + 1) (nodeC 1 S ⟨#[]⟩ none 0 0))) := hka
    clear ha hka
    go_wp2_with (first | (refine wpList_load_row rfl 36 _ rfl (N + 1 + 1) rfl 36 (nodeC 1 S ⟨#[]⟩ none 0 0) (0, 0) _ hy Tryz.underlying36 rfl (size45 _ rfl) ?_) | (refine wpList_store_row rfl 36 _ _ rfl (N + 1) (nodeC 1 S ⟨#[]⟩ none 0 0) rfl rfl 36 z hz1 (size45 _ rfl) hz (nodeC_one _ _ _ _ _ _) ?_))
    refine bodyPost_ret (results_cell_row (p := 4) (ty := 36) rfl _ _ (N + 1) 36 _ _ _ rfl HA.out Tryz.underlying36 rfl (size45 _ rfl)) rfl ?_
    exact ⟨by rw [← HKD.out, ← HSN.out, ← HDT.out, if_neg (by omega), if_neg (by omega), if_neg (by omega), if_neg (by omega), HS.out]; rfl, by rw [HN.out]; exact HKA.out⟩
end Go.Proofs.YtbhfnbplbkncmaaGreat

namespace Go.Proofs.YtbhfnbplbkncmaaGreat
open Go.RowKit
set_option linter.unusedVariables false
theorem Gives.ex (M : Dm) (slot : Int) (l : List Int) : ∃ z, Gives M slot l z := by
  by_cases h1 : inN M.n slot
  · by_cases h2 : ∀ x ∈ l, inN M.n x
    · have n2 : ¬ ∃ x ∈ l, ¬ inN M.n x := fun ⟨x, hx, hn⟩ => hn (h2 x hx)
      by_cases h3 : (M.nd slot.toNat).kind = 1 ∧ (M.nd slot.toNat).name = slotN
      · by_cases h4 : ∀ x ∈ l, shows M x
        · have n4 : ¬ ∃ x ∈ l, ¬ shows M x := fun ⟨x, hx, hn⟩ => hn (h4 x hx)
          by_cases h5 : l.length ≤ 200
          · exact ⟨0, fun h => absurd h1 h, fun _ h => absurd h n2, fun _ _ h => by
              rcases h with h | h
              · exact absurd h3.1 h
              · exact absurd h3.2 h, fun _ _ _ _ h => absurd h n4, fun _ _ _ _ _ h => by omega, fun _ _ _ _ _ _ => rfl⟩
          · exact ⟨1, fun h => absurd h1 h, fun _ h => absurd h n2, fun _ _ h => by
              rcases h with h | h
              · exact absurd h3.1 h
              · exact absurd h3.2 h, fun _ _ _ _ h => absurd h n4, fun _ _ _ _ _ _ => rfl, fun _ _ _ _ _ h => absurd h h5⟩
        · exact ⟨81, fun h => absurd h1 h, fun _ h => absurd h n2, fun _ _ h => by
            rcases h with h | h
            · exact absurd h3.1 h
            · exact absurd h3.2 h, fun _ _ _ _ _ => rfl, fun _ _ _ _ h => absurd h h4, fun _ _ _ _ h => absurd h h4⟩
      · exact ⟨110, fun h => absurd h1 h, fun _ h => absurd h n2, fun _ _ _ => rfl, fun _ _ a b => absurd ⟨a, b⟩ h3, fun _ _ a b => absurd ⟨a, b⟩ h3, fun _ _ a b => absurd ⟨a, b⟩ h3⟩
    · exact ⟨80, fun _ => rfl, fun _ _ => rfl, fun _ h => absurd h h2, fun _ h => absurd h h2, fun _ h => absurd h h2, fun _ h => absurd h h2⟩
  · exact ⟨80, fun _ => rfl, fun h => absurd h h1, fun h => absurd h h1, fun h => absurd h h1, fun h => absurd h h1, fun h => absurd h h1⟩
theorem Gives.le {M : Dm} {slot : Int} {l : List Int} {z : Int} (h : Gives M slot l z) : 0 ≤ z ∧ z ≤ 200 := by
  by_cases h1 : inN M.n slot
  · by_cases h2 : ∃ x ∈ l, ¬ inN M.n x
    · rw [h.gOne h1 h2]; decide
    · have h2 : ∀ x ∈ l, inN M.n x := fun x hx => Classical.byContradiction fun c => h2 ⟨x, hx, c⟩
      by_cases h3 : (M.nd slot.toNat).kind = 1 ∧ (M.nd slot.toNat).name = slotN
      · by_cases h4 : ∃ x ∈ l, ¬ shows M x
        · rw [h.gShow h1 h2 h3.1 h3.2 h4]; decide
        · have h4 : ∀ x ∈ l, shows M x := fun x hx => Classical.byContradiction fun c => h4 ⟨x, hx, c⟩
          by_cases h5 : l.length ≤ 200
          · rw [h.gOk h1 h2 h3.1 h3.2 h4 h5]; decide
          · rw [h.gMany h1 h2 h3.1 h3.2 h4 (by omega)]; decide
      · rw [h.gSlot h1 h2 (by
          by_cases c1 : (M.nd slot.toNat).kind = 1
          · exact .inr fun c2 => h3 ⟨c1, c2⟩
          · exact .inl c1)]; decide
  · rw [h.gNone h1]; decide
theorem Gives.all {M : Dm} {slot : Int} {l : List Int} (h : Gives M slot l 0) : inN M.n slot ∧ (∀ x ∈ l, inN M.n x) ∧ l.length ≤ 200 := by
  have h1 : inN M.n slot := Classical.byContradiction fun c => by have := h.gNone c; cases this
  have h2 : ∀ x ∈ l, inN M.n x := fun x hx => Classical.byContradiction fun c => by have := h.gOne h1 ⟨x, hx, c⟩; cases this
  have h3 : (M.nd slot.toNat).kind = 1 ∧ (M.nd slot.toNat).name = slotN := Classical.byContradiction fun c => by
    have := h.gSlot h1 h2 (by
      by_cases c1 : (M.nd slot.toNat).kind = 1
      · exact .inr fun c2 => c ⟨c1, c2⟩
      · exact .inl c1)
    cases this
  have h4 : ∀ x ∈ l, shows M x := fun x hx => Classical.byContradiction fun c => by have := h.gShow h1 h2 h3.1 h3.2 ⟨x, hx, c⟩; cases this
  refine ⟨h1, h2, Nat.le_of_not_lt fun c => ?_⟩
  have := h.gMany h1 h2 h3.1 h3.2 h4 c
  cases this
set_option maxRecDepth 20000 in
theorem rgive_no (K : Nat → Prop) (p : Nat) (slot : Int) (l : List Int) (n : Nat) (hln : l.length = n) (hnl : n ≤ 1000000) (a : Option Addr) (cap : Nat) (M : Dm) (R G : Nat → List Nat) (w : World) (h : RX K w p M R G) (hn : M.n ≤ 1000000) (hr : IntsZ (fun k => k < w.heap.size) w a l) (z : Int) (hz : Gives M slot l z) (hz0 : z ≠ 0) :
    Calls Tryz.prog 100 #[.pointer (some ⟨p, 0, none⟩), .int .i64 slot, .slice a n cap] w fun e w' => e = .returned (.int .i64 z) ∧ Kept (fun k => k < w.heap.size) w w' := by
  have rm : Calls Tryz.prog 166 #[.pointer (some ⟨p, 0, none⟩), .int .i64 slot, .slice a n cap] w fun e w' => e = .returned (.int .i64 z) ∧ Kept (fun k => k < w.heap.size) w w' := by
    by_cases hs : slot < 0 ∨ (M.n : Int) ≤ slot
    · have : z = 80 := hz.gNone (by unfold inN; omega)
      subst this
      refine (rgives_none K p M R G slot a n cap w h hs).mono ?_
      rintro e w' ⟨rfl, rfl⟩
      exact ⟨rfl, Kept.refl _ _⟩
    · obtain ⟨s, hs', rfl⟩ := int_nat hs
      exact rgives_in K p s M R G l a n cap w h hs' hn hln hnl hr z hz
  have hzn : (z != 0) = true := by simpa using hz0
  clear h hr hz hln
  go_enter Tryz.func100, Tryz.ntmps100
  go_wp2_with (go_at_call 166; refine rm.mono ?_; rintro e w1 ⟨rfl, k1⟩)
  go_ret
  exact ⟨rfl, k1⟩
theorem addR_grows {M : Dm} {host : Nat} {f : Fg} (hh : host < M.n) (hs : (M.nd host).shadow = -1) (hL : M.n + 1 ≤ M.limit) : Grows M (M.addR host f) := by
  have hne : host ≠ M.n := by omega
  have old : ∀ i, i < M.n → i ≠ host → (M.addR host f).nd i = M.nd i := fun i hi c => addR_old M host f (by omega) c
  have hot := addR_host M host f hne
  refine ⟨Nat.le_succ _, rfl, fun _ => hL, fun i hi => ?_, fun i hi => ?_, fun i hi => ?_, fun i hi => ?_, fun i hi hsi => ?_⟩ <;> (by_cases c : i = host)
  · subst c; rw [hot]
  · rw [old i hi c]
  · subst c; rw [hot]
  · rw [old i hi c]
  · subst c; rw [hot]
  · rw [old i hi c]
  · subst c; rw [hot]
  · rw [old i hi c]
  · subst c; exact absurd hs hsi
  · rw [old i hi c]
theorem add_grows {M : Dm} {x : Nd} (hL : M.n + 1 ≤ M.limit) : Grows M (M.add x) := by
  have old : ∀ i, i < M.n → (M.add x).nd i = M.nd i := fun i hi => add_nd_old M x (by omega)
  exact ⟨Nat.le_succ _, rfl, fun _ => hL, fun i hi => by rw [old i hi], fun i hi => by rw [old i hi], fun i hi => by rw [old i hi], fun i hi => by rw [old i hi], fun i hi _ => by rw [old i hi]⟩
theorem addT_grows {M : Dm} {x : Nd} (hL : M.n + 2 ≤ M.limit) : Grows M (M.addT x) := by
  have old : ∀ i, i < M.n → (M.addT x).nd i = M.nd i := fun i hi => by
    rw [addT_old M x (by omega) (by omega), add_nd_old _ _ (by show i ≠ M.n + 1; omega), add_nd_old _ _ (by omega)]
  exact ⟨by show M.n ≤ M.n + 2; omega, rfl, fun _ => hL, fun i hi => by rw [old i hi], fun i hi => by rw [old i hi], fun i hi => by rw [old i hi], fun i hi => by rw [old i hi], fun i hi _ => by rw [old i hi]⟩
section
variable {M : Dm} {R G : Nat → List Nat} {rk : Nat → Nat}
theorem both_root (hI : Inv M R G rk) (hn : M.n ≤ 100000) (hL : M.limit ≤ 100000) (i : Int) (f : Fg) : ∃ v z M' R' G' rk', Inv M' R' G' rk' ∧ Grows M M' ∧ (z = 0 ∨ (M' = M ∧ R' = R ∧ G' = G)) ∧ (0 ≤ z ∧ z ≤ 200) ∧
    (∀ K w p, DX K w p M → Calls Tryz.prog 91 #[.pointer (some ⟨p, 0, none⟩), .int .i64 i, fgV f] w fun e w' => e = .returned (.tuple #[.int .i64 v, .int .u16 z]) ∧ DX K w' p M' ∧ Kept K w w') ∧
    (∀ K w p, RX K w p M R G → Calls Tryz.prog 92 #[.pointer (some ⟨p, 0, none⟩), .int .i64 i, fgV f] w fun e w' => e = .returned (.tuple #[.int .i64 v, .int .i64 z]) ∧ RX K w' p M' R' G' ∧ Kept K w w') := by
  by_cases hno : i < 0 ∨ (M.n : Int) ≤ i
  · refine ⟨0, 80, M, R, G, rk, hI, .refl M, .inr ⟨rfl, rfl, rfl⟩, ⟨by decide, by decide⟩, fun K w p h => (root_none K p M i f w h hno (by omega)).mono ?_, fun K w p h => (rroot_none K p M R G i f w h hno).mono ?_⟩
    · rintro e w' ⟨rfl, hK⟩; exact ⟨rfl, h.kept hK, hK.mono h.lt⟩
    · rintro e w' ⟨rfl, hK⟩; exact ⟨rfl, h.kept hK, hK.mono h.lt⟩
  · obtain ⟨k, hk, rfl⟩ := int_nat hno
    have pd := fun K w p h => root_in K p k M f w h hk hn hL
    have hsh : (M.nd k).shadow = -1 ∨ 0 ≤ (M.nd k).shadow := by
      rcases hI.core.shad k hk with e | ⟨q, -, e, -⟩
      · exact .inl e
      · exact .inr (by omega)
    have pr := fun K w p h => rroot_in K p k M R G f w h hk hn hL hsh
    by_cases c1 : (M.nd k).kind = 1
    · by_cases c2 : (M.nd k).shadow = -1
      · by_cases c3 : M.n + 1 ≤ M.limit
        · obtain ⟨rk', hI'⟩ := hI.addR f hk c1 c2
          refine ⟨(M.n : Int), 0, _, _, _, rk', hI', addR_grows hk c2 c3, .inl rfl, ⟨by decide, by decide⟩, fun K w p h => (pd K w p h).mono ?_, fun K w p h => (pr K w p h).mono ?_⟩
          · rintro e w' ⟨hK, hR⟩
            cases hR with
            | host a _ _ => exact absurd c1 a
            | twice _ a _ _ => exact absurd c2 a
            | full _ _ a _ _ => omega
            | made _ _ _ e hX => exact ⟨e, hX, hK⟩
          · rintro e w' ⟨hK, hR⟩
            cases hR with
            | host a _ _ => exact absurd c1 a
            | twice _ a _ _ => exact absurd c2 a
            | full _ _ a _ _ => omega
            | made _ _ _ e hX => exact ⟨e, hX, hK⟩
        · refine ⟨0, 3, M, R, G, rk, hI, .refl M, .inr ⟨rfl, rfl, rfl⟩, ⟨by decide, by decide⟩, fun K w p h => (pd K w p h).mono ?_, fun K w p h => (pr K w p h).mono ?_⟩
          · rintro e w' ⟨hK, hR⟩
            cases hR with
            | host a _ _ => exact absurd c1 a
            | twice _ a _ _ => exact absurd c2 a
            | full _ _ a e hX => exact ⟨e, hX, hK⟩
            | made _ _ a _ _ => omega
          · rintro e w' ⟨hK, hR⟩
            cases hR with
            | host a _ _ => exact absurd c1 a
            | twice _ a _ _ => exact absurd c2 a
            | full _ _ a e hX => exact ⟨e, hX, hK⟩
            | made _ _ a _ _ => omega
      · refine ⟨0, 101, M, R, G, rk, hI, .refl M, .inr ⟨rfl, rfl, rfl⟩, ⟨by decide, by decide⟩, fun K w p h => (pd K w p h).mono ?_, fun K w p h => (pr K w p h).mono ?_⟩
        · rintro e w' ⟨hK, hR⟩
          cases hR with
          | host a _ _ => exact absurd c1 a
          | twice _ a e hX => exact ⟨e, hX, hK⟩
          | full _ a _ _ _ => exact absurd a c2
          | made _ a _ _ _ => exact absurd a c2
        · rintro e w' ⟨hK, hR⟩
          cases hR with
          | host a _ _ => exact absurd c1 a
          | twice _ a e hX => exact ⟨e, hX, hK⟩
          | full _ a _ _ _ => exact absurd a c2
          | made _ a _ _ _ => exact absurd a c2
    · refine ⟨0, 100, M, R, G, rk, hI, .refl M, .inr ⟨rfl, rfl, rfl⟩, ⟨by decide, by decide⟩, fun K w p h => (pd K w p h).mono ?_, fun K w p h => (pr K w p h).mono ?_⟩
      · rintro e w' ⟨hK, hR⟩
        cases hR with
        | host a e hX => exact ⟨e, hX, hK⟩
        | twice a _ _ _ => exact absurd a c1
        | full a _ _ _ _ => exact absurd a c1
        | made a _ _ _ _ => exact absurd a c1
      · rintro e w' ⟨hK, hR⟩
        cases hR with
        | host a e hX => exact ⟨e, hX, hK⟩
        | twice a _ _ _ => exact absurd a c1
        | full a _ _ _ _ => exact absurd a c1
        | made a _ _ _ _ => exact absurd a c1
theorem both_give (hI : Inv M R G rk) (hn : M.n ≤ 100000) (slot : Int) (l : List Int) (n : Nat) (hln : l.length = n) (hnl : n ≤ 1000000) (a : Option Addr) (cap : Nat) : ∃ z M' G' rk', Inv M' R G' rk' ∧ Grows M M' ∧ (z = 0 ∨ (M' = M ∧ G' = G)) ∧ (0 ≤ z ∧ z ≤ 200) ∧
    (∀ K w p, DX K w p M → IntsZ K w a l → Calls Tryz.prog 99 #[.pointer (some ⟨p, 0, none⟩), .int .i64 slot, .slice a n cap] w fun e w' => e = .returned (.int .u16 z) ∧ DX K w' p M' ∧ Kept K w w') ∧
    (∀ K w p, RX K w p M R G → IntsZ K w a l → Calls Tryz.prog 100 #[.pointer (some ⟨p, 0, none⟩), .int .i64 slot, .slice a n cap] w fun e w' => e = .returned (.int .i64 z) ∧ RX K w' p M' R G' ∧ Kept K w w') := by
  obtain ⟨z, hz⟩ := Gives.ex M slot l
  by_cases h0 : z = 0
  · subst h0
    obtain ⟨hs, hall, hfew⟩ := hz.all
    obtain ⟨s, rfl⟩ : ∃ s : Nat, slot = (s : Int) := ⟨slot.toNat, by have := hs.1; omega⟩
    have hsn : s < M.n := by have := hs.2; omega
    obtain ⟨l', rfl⟩ : ∃ l' : List Nat, l = l'.map fun k : Nat => (k : Int) := ⟨l.map Int.toNat, by
      rw [List.map_map]
      symm
      have : ∀ x ∈ l, ((fun k : Nat => (k : Int)) ∘ Int.toNat) x = x := fun x hx => by have := (hall x hx).1; show ((x.toNat : Nat) : Int) = x; omega
      rw [List.map_congr_left this, List.map_id']⟩
    rw [List.length_map] at hln hfew
    have hl' : ∀ i ∈ l', i < M.n := fun i hi => by have := (hall (i : Int) (List.mem_map.2 ⟨i, hi, rfl⟩)).2; omega
    have hW0 := WF.outs hsn (G s) hI.gw rfl
    have hW1 := hW0.gs hsn l' hl'
    refine ⟨0, M.setG (addsL (outsL M.gf (G s)) s l'), gsR s (outsL M.gf (G s)) (updR G s []) l', rk, hI.setG hW1, .same rfl rfl (fun _ => rfl), .inl rfl, ⟨by decide, by decide⟩, fun K w p h hr => ?_, fun K w p h hr => ?_⟩
    · have hR : RowI w a l' := fun j hj => by
        obtain ⟨g, o, e, -, hc⟩ := hr j (by rw [List.length_map]; exact hj)
        rw [List.getElem_map] at hc
        exact ⟨g, o, e, hc⟩
      have hRA : ∀ g o, a = some ⟨g, o, none⟩ → l' ≠ [] → K g := fun g o e hne => by
        obtain ⟨g', o', e', hg, -⟩ := hr 0 (by rw [List.length_map]; exact List.length_pos_iff.2 hne)
        rw [e] at e'
        injection e' with e'
        injection e' with e1 e2
        rw [e1]; exact hg
      refine (give_ok2 K p s l' n hln a cap M G w h hI.gw ⟨hsn, hl', by rw [hln]; omega, hz⟩ (by omega) hR hRA).mono ?_
      rintro e w' ⟨rfl, hX, hK⟩
      exact ⟨rfl, hX, hK⟩
    · refine (rgive_ok K p s l' n hln hnl a cap M R G w h hI.gw hsn (by omega) hl' hz (fun j hj => by
        obtain ⟨g, o, e, hg, hc⟩ := hr j (by rw [List.length_map]; exact hj)
        rw [List.getElem_map] at hc
        exact ⟨g, o, e, hg, hc⟩)).mono ?_
      rintro e w' ⟨rfl, hX, hK⟩
      exact ⟨rfl, hX.congr rfl rfl (fun _ _ => rfl) (fun _ _ => rfl) (fun _ _ => rfl) (fun _ _ => rfl), hK⟩
  · refine ⟨z, M, G, rk, hI, .refl M, .inr ⟨rfl, rfl⟩, hz.le, fun K w p h hr => (give_no K p slot l n hln hnl a cap M w h (by omega) (fun j hj => by
      obtain ⟨g, o, e, hg, hc⟩ := hr j hj
      exact ⟨g, o, e, h.lt g hg, hc⟩) z hz h0).mono ?_, fun K w p h hr => (rgive_no K p slot l n hln hnl a cap M R G w h (by omega) (fun j hj => by
      obtain ⟨g, o, e, hg, hc⟩ := hr j hj
      exact ⟨g, o, e, h.lt g hg, hc⟩) z hz h0).mono ?_⟩
    · rintro e w' ⟨rfl, hK⟩; exact ⟨rfl, h.kept hK, hK.mono h.lt⟩
    · rintro e w' ⟨rfl, hK⟩; exact ⟨rfl, h.kept hK, hK.mono h.lt⟩
theorem both_make (hI : Inv M R G rk) (hn : M.n ≤ 100000) (hL : M.limit ≤ 100000) (kd : Nat) (S D : ByteArray) (l : List Atr) (n : Nat) (hln : l.length = n) (hnl : n ≤ 1000000) (hsz : ∀ x ∈ l, x.name.length < 1000000 ∧ x.value.length < 1000000) (hS : S.size < 1000000) (aa : Option Addr) (ac : Nat) (hac : n ≤ ac) : ∃ v z M' R' G' rk', Inv M' R' G' rk' ∧ Grows M M' ∧ (z = 0 ∨ (M' = M ∧ R' = R ∧ G' = G)) ∧ (0 ≤ z ∧ z ≤ 200) ∧
    (∀ K w p, DX K w p M → AtsAt (fun k => k < w.heap.size) w aa l → Calls Tryz.prog 75 #[.pointer (some ⟨p, 0, none⟩), .agg (nodeC (kd : Int) S D aa n ac)] w fun e w' => e = .returned (.tuple #[.int .i64 v, .int .u16 z]) ∧ DX K w' p M' ∧ Kept K w w') ∧
    (∀ K w p, RX K w p M R G → AtsAt (fun k => k < w.heap.size) w aa l → Calls Tryz.prog 102 #[.pointer (some ⟨p, 0, none⟩), .agg (nodeC (kd : Int) S D aa n ac)] w fun e w' => e = .returned (.tuple #[.int .i64 v, .int .i64 z]) ∧ RX K w' p M' R' G' ∧ Kept K w w') := by
  have pd : ∀ K w p, DX K w p M → AtsAt (fun k => k < w.heap.size) w aa l → Calls Tryz.prog 75 #[.pointer (some ⟨p, 0, none⟩), .agg (nodeC (kd : Int) S D aa n ac)] w fun e w' => Kept K w w' ∧ Makes K p M ⟨kd, S.toList, D.toList, l⟩ e w' := fun K w p h ha => make_any K p kd S D l aa n ac ⟨0, none, 0, 0, 0, 0, 0, ⟨false, false, false, false, false⟩⟩ w M h hn hL hln (by omega) ha (fun x hx => by have := hsz x hx; omega)
  have pr : ∀ K w p, RX K w p M R G → AtsAt (fun k => k < w.heap.size) w aa l → Calls Tryz.prog 102 #[.pointer (some ⟨p, 0, none⟩), .agg (nodeC (kd : Int) S D aa n ac)] w fun e w' => Kept K w w' ∧ RMakes K p M R G ⟨kd, S.toList, D.toList, l⟩ e w' := fun K w p h ha => rmake_any K p kd S D l aa n ac w M R G h hn hL hln hnl hac ha (fun x hx => (hsz x hx).1) hS
  cases hs : soundN ⟨kd, S.toList, D.toList, l⟩ with
  | false =>
    refine ⟨0, 1, M, R, G, rk, hI, .refl M, .inr ⟨rfl, rfl, rfl⟩, ⟨by decide, by decide⟩, fun K w p h ha => (pd K w p h ha).mono ?_, fun K w p h ha => (pr K w p h ha).mono ?_⟩
    · rintro e w' ⟨hK, hM⟩
      cases hM with
      | arg _ e hX => exact ⟨e, hX, hK⟩
      | full a => rw [hs] at a; cases a
      | two a => rw [hs] at a; cases a
      | one a => rw [hs] at a; cases a
    · rintro e w' ⟨hK, hM⟩
      cases hM with
      | arg _ e hX => exact ⟨e, hX, hK⟩
      | full a => rw [hs] at a; cases a
      | two a => rw [hs] at a; cases a
      | one a => rw [hs] at a; cases a
  | true =>
    have hok := soundN_ok hs
    by_cases ht : kd = 1 ∧ S.toList = tempN
    · by_cases hr : M.n + 2 ≤ M.limit
      · obtain ⟨rk', hI'⟩ := hI.addT (Mk.nd ⟨kd, S.toList, D.toList, l⟩) hok ht.1
        refine ⟨(M.n : Int), 0, _, _, _, rk', hI', addT_grows hr, .inl rfl, ⟨by decide, by decide⟩, fun K w p h ha => (pd K w p h ha).mono ?_, fun K w p h ha => (pr K w p h ha).mono ?_⟩
        · rintro e w' ⟨hK, hM⟩
          cases hM with
          | arg a => rw [hs] at a; cases a
          | full _ a => rw [if_pos ht] at a; omega
          | two _ _ _ e hX => exact ⟨e, hX, hK⟩
          | one _ a => exact absurd ht a
        · rintro e w' ⟨hK, hM⟩
          cases hM with
          | arg a => rw [hs] at a; cases a
          | full _ a => rw [if_pos ht] at a; omega
          | two _ _ _ e hX => exact ⟨e, hX, hK⟩
          | one _ a => exact absurd ht a
      · refine ⟨0, 3, M, R, G, rk, hI, .refl M, .inr ⟨rfl, rfl, rfl⟩, ⟨by decide, by decide⟩, fun K w p h ha => (pd K w p h ha).mono ?_, fun K w p h ha => (pr K w p h ha).mono ?_⟩
        · rintro e w' ⟨hK, hM⟩
          cases hM with
          | arg a => rw [hs] at a; cases a
          | full _ _ e hX => exact ⟨e, hX, hK⟩
          | two _ _ a => exact absurd a hr
          | one _ a => exact absurd ht a
        · rintro e w' ⟨hK, hM⟩
          cases hM with
          | arg a => rw [hs] at a; cases a
          | full _ _ e hX => exact ⟨e, hX, hK⟩
          | two _ _ a => exact absurd a hr
          | one _ a => exact absurd ht a
    · by_cases hr : M.n + 1 ≤ M.limit
      · refine ⟨(M.n : Int), 0, _, _, _, rk, hI.add (Mk.nd ⟨kd, S.toList, D.toList, l⟩) hok hok.few, add_grows hr, .inl rfl, ⟨by decide, by decide⟩, fun K w p h ha => (pd K w p h ha).mono ?_, fun K w p h ha => (pr K w p h ha).mono ?_⟩
        · rintro e w' ⟨hK, hM⟩
          cases hM with
          | arg a => rw [hs] at a; cases a
          | full _ a => rw [if_neg ht] at a; omega
          | two _ a => exact absurd a ht
          | one _ _ _ e hX => exact ⟨e, hX, hK⟩
        · rintro e w' ⟨hK, hM⟩
          cases hM with
          | arg a => rw [hs] at a; cases a
          | full _ a => rw [if_neg ht] at a; omega
          | two _ a => exact absurd a ht
          | one _ _ _ e hX => exact ⟨e, hX, hK⟩
      · refine ⟨0, 3, M, R, G, rk, hI, .refl M, .inr ⟨rfl, rfl, rfl⟩, ⟨by decide, by decide⟩, fun K w p h ha => (pd K w p h ha).mono ?_, fun K w p h ha => (pr K w p h ha).mono ?_⟩
        · rintro e w' ⟨hK, hM⟩
          cases hM with
          | arg a => rw [hs] at a; cases a
          | full _ _ e hX => exact ⟨e, hX, hK⟩
          | two _ a => exact absurd a ht
          | one _ _ a => exact absurd a hr
        · rintro e w' ⟨hK, hM⟩
          cases hM with
          | arg a => rw [hs] at a; cases a
          | full _ _ e hX => exact ⟨e, hX, hK⟩
          | two _ a => exact absurd a ht
          | one _ _ a => exact absurd a hr
end
end Go.Proofs.YtbhfnbplbkncmaaGreat
