/-
  Calls that come in (a slice of structs with rows of their own): what they read as, and how much they weigh.
  One call that came in, and all of them.
-/
import Derived.Test.YtbhfnbplbkncmaaGreatRows
import Derived.Test.YtbhfnbplbkncmaaGreatZ28
import Derived.WalkKit
import Derived.ProofKit
import Derived.OpenShut
import Derived.ShutString
import Derived.ChangeOld
import Derived.Below
import Derived.SizedLaws
import Derived.JoinedCond
import Derived.Deep.Slices
namespace Go.Proofs.YtbhfnbplbkncmaaGreat
open Go.ChangeShapes Go.WideShapes Go.ChangeAt Go.RowKit Go.Deep
set_option linter.unusedVariables false
/-- A call. -/
structure Opx where
  k : Nat
  a : Int
  b : Int
  c : Int
  inn : Bool
  nk : Nat
  nn : ByteArray
  nd : ByteArray
  ats : List Atr
  s : ByteArray
  t : ByteArray
  l : List Int
  f : Fg
/-- Where its rows lie. -/
structure OpA where
  aa : Option Addr
  ac : Nat
  la : Option Addr
  lc : Nat
def opC (o : Opx) (A : OpA) : List Value :=
  [.int .u8 (o.k : Int), .int .i64 o.a, .int .i64 o.b, .int .i64 o.c, .bool o.inn, .int .u8 (o.nk : Int), .string o.nn, .string o.nd, .slice A.aa o.ats.length A.ac, .string o.s, .string o.t, .slice A.la o.l.length A.lc, .bool o.f.a, .bool o.f.b, .bool o.f.c, .bool o.f.d, .bool o.f.e]
/-- How much attributes, a call, calls weigh. -/
def atsH : List Atr → Nat
  | [] => 0
  | x :: r => 1 + x.name.length + x.value.length + atsH r
def opH (o : Opx) : Nat := 5 + o.s.size + o.t.size + o.l.length + o.nn.size + o.nd.size + atsH o.ats
def opsH : List Opx → Nat
  | [] => 0
  | o :: r => opH o + opsH r
theorem atsH_append (a b : List Atr) : atsH (a ++ b) = atsH a + atsH b := by
  induction a with
  | nil => simp [atsH]
  | cons x r ih => simp only [List.cons_append, atsH, ih]; omega
theorem opsH_append (a b : List Opx) : opsH (a ++ b) = opsH a + opsH b := by
  induction a with
  | nil => simp [opsH]
  | cons x r ih => simp only [List.cons_append, opsH, ih]; omega
theorem atsH_mem {l : List Atr} {x : Atr} (h : x ∈ l) : 1 + x.name.length + x.value.length ≤ atsH l := by
  induction l with
  | nil => cases h
  | cons y r ih =>
    simp only [atsH]
    rcases List.mem_cons.1 h with rfl | h
    · omega
    · have := ih h; omega
theorem atsH_len (l : List Atr) : l.length ≤ atsH l := by
  induction l with
  | nil => exact Nat.le_refl _
  | cons y r ih => simp only [atsH, List.length_cons]; omega
theorem opsH_mem {l : List Opx} {x : Opx} (h : x ∈ l) : opH x ≤ opsH l := by
  induction l with
  | nil => cases h
  | cons y r ih =>
    simp only [opsH]
    rcases List.mem_cons.1 h with rfl | h
    · omega
    · have := ih h; omega
/-- What is a byte is one. -/
structure OpOk (o : Opx) : Prop where
  k : o.k < 256
  nk : o.nk < 256
  a : IntKind.i64.min ≤ o.a ∧ o.a ≤ IntKind.i64.max
  b : IntKind.i64.min ≤ o.b ∧ o.b ≤ IntKind.i64.max
  c : IntKind.i64.min ≤ o.c ∧ o.c ≤ IntKind.i64.max
  l : ∀ z ∈ o.l, IntKind.i64.min ≤ z ∧ z ≤ IntKind.i64.max
def OpAt (F : Nat → Prop) (w : World) (A : OpA) (o : Opx) : Prop := AtsAt F w A.aa o.ats ∧ o.ats.length ≤ A.ac ∧ IntsZ F w A.la o.l ∧ o.l.length ≤ A.lc
/-- Calls lie at a slice. -/
def OpsAt (F : Nat → Prop) (w : World) (a : Option Addr) (l : List Opx) : Prop :=
  ∀ j (h : j < l.length), ∃ g o A, a = some ⟨g, o, none⟩ ∧ F g ∧ OpAt F w A l[j] ∧ ∀ f u, (opC l[j] A)[f]? = some u → w.cell? ⟨g, o + j * 17 + f, none⟩ = some u
theorem OpAt.kept {F F' : Nat → Prop} {w w' : World} {A : OpA} {o : Opx} (h : OpAt F w A o) (hk : Kept F w w') (hF : ∀ g, F g → F' g) : OpAt F' w' A o :=
  ⟨h.1.kept hk hF, h.2.1, h.2.2.1.kept hk hF, h.2.2.2⟩
theorem OpsAt.kept {F F' : Nat → Prop} {w w' : World} {a : Option Addr} {l : List Opx} (h : OpsAt F w a l) (hk : Kept F w w') (hF : ∀ g, F g → F' g) : OpsAt F' w' a l := fun j hj => by
  obtain ⟨g, o, A, e, hg, ha, hc⟩ := h j hj
  exact ⟨g, o, A, e, hF g hg, ha.kept hk hF, fun f u hu => (hk.cell (p := ⟨g, o + j * 17 + f, none⟩) hg).trans (hc f u hu)⟩

theorem bulk_append {H : Type} : ∀ (a b : List (DataW H)), Rows.uptoBulkAll (a ++ b) = Rows.uptoBulkAll a + Rows.uptoBulkAll b
  | [], b => by simp [Rows.uptoBulkAll]
  | d :: r, b => by
    show Rows.uptoBulkAll (d :: (r ++ b)) = _
    simp only [Rows.uptoBulkAll]
    rw [bulk_append r b]
    omega
theorem bulk_range {H : Type} (D : Nat → DataW H) (φ : Nat → Nat) : ∀ n, (∀ r, r < n → φ r ≤ Rows.uptoBulk (D r)) → ((List.range n).map φ).sum ≤ Rows.uptoBulkAll ((List.range n).map D)
  | 0, _ => Nat.zero_le _
  | n + 1, h => by
    rw [List.range_succ, List.map_append, List.map_append, bulk_append, List.sum_append]
    have h1 := bulk_range D φ n (fun r hr => h r (by omega))
    have h2 := h n (by omega)
    simp only [List.map_cons, List.map_nil, List.sum_cons, List.sum_nil, Rows.uptoBulkAll]
    omega
/-- A slice that came in: its rows, one by one. -/
theorem open_rows {H : Type} {enc : TypeId × Value → H} {W : World} {fuel : Nat} {t e : TypeId} {z : Nat} (ht : Tryz.prog.underlying t = some (.slice e)) (hz : Tryz.prog.cellsOf e = z) (hz0 : 0 < z) {v : Value} {d : DataW H} {pl : List MemPlace} (h : DataW.trod enc Tryz.prog W 0 (fun _ => true) true fuel t [v] = some (d, pl)) :
    ∃ (a : Option Addr) (n c : Nat) (D : Nat → DataW H), v = .slice a n c ∧ n ≤ c ∧ n ≤ maxLen ∧ Rows.uptoBulkAll ((List.range n).map D) + 1 ≤ Rows.uptoBulk d ∧
      ∀ i, i < n → ∃ g o cs fu pl', a = some ⟨g, o, none⟩ ∧ g < W.heap.size ∧ cs.length = z ∧ DataW.trod enc Tryz.prog W 0 (fun _ => true) true fu e cs = some (D i, pl') ∧ ∀ f, f < z → W.cell? ⟨g, o + i * z + f, none⟩ = cs[f]? := by
  rcases Go.Deep.open_slice ht h with ⟨hcs, hx⟩ | ⟨a, len, cap, m, n, D, Pl, hcs, _, hl, hm, hmm, hx, hel⟩
  · injection hcs with hcs
    have hd : d = .nil := congrArg Prod.fst hx
    refine ⟨none, 0, 0, fun _ => .nil, hcs, Nat.le_refl _, Nat.zero_le _, by rw [hd]; simp [Rows.uptoBulkAll, Rows.uptoBulk], fun i hi => absurd hi (Nat.not_lt_zero _)⟩
  · injection hcs with hcs
    have hlm : len ≤ m := by rw [hmm]; split <;> omega
    have hd : d = .slice ((List.range len).map D) ((List.range (m - len)).map fun j => D (len + j)) := congrArg Prod.fst hx
    refine ⟨some a, len, cap, D, hcs, hl, Nat.le_trans hl hm, by rw [hd]; simp only [Rows.uptoBulk]; omega, fun i hi => ?_⟩
    obtain ⟨cs', hc1, hc2⟩ := hel i (by omega)
    rw [hz] at hc1
    obtain ⟨_, hlen, hcell⟩ := World.cells?_some hc1
    obtain ⟨g, o, sp⟩ := a
    obtain ⟨cs0, hz1, hz2⟩ := hel 0 (by omega)
    rw [hz] at hz1
    obtain ⟨_, hlen0, hcell0⟩ := World.cells?_some hz1
    have c00 := hcell0 0 (by omega)
    have hcc : ∃ u, cs0[0]? = some u := ⟨_, List.getElem?_eq_getElem (by omega)⟩
    obtain ⟨u0, hu0⟩ := hcc
    have c00' : W.cell? ⟨g, o, sp⟩ = some u0 := by simpa [Addr.add, hu0] using c00
    have hsp : sp = none := World.cell?_spot c00'
    subst hsp
    refine ⟨g, o, cs', n, Pl i, rfl, World.block_lt_of_cell? W _ c00', hlen, hc2, fun f hf => ?_⟩
    have := hcell f (by omega)
    rw [Addr.add_lit, Addr.add_lit] at this
    rw [this]
theorem cells67 : Tryz.prog.cellsOf 140 = 2 := by kernel_rfl
theorem cells37 : Tryz.prog.cellsOf 54 = 17 := by kernel_rfl
theorem cells32 : Tryz.prog.cellsOf 52 = 4 := by kernel_rfl
theorem cells35 : Tryz.prog.cellsOf 34 = 5 := by kernel_rfl
theorem one3 : Tryz.prog.cellsOf 3 = 1 := by kernel_rfl
theorem one4 : Tryz.prog.cellsOf 4 = 1 := by kernel_rfl
theorem one5 : Tryz.prog.cellsOf 5 = 1 := by kernel_rfl
theorem one9 : Tryz.prog.cellsOf 9 = 1 := by kernel_rfl
theorem one30 : Tryz.prog.cellsOf 31 = 1 := by kernel_rfl
theorem one33 : Tryz.prog.cellsOf 32 = 1 := by kernel_rfl
theorem sum_atsH (F : Nat → Atr) : ∀ n, atsH ((List.range n).map F) = ((List.range n).map fun i => 1 + (F i).name.length + (F i).value.length).sum
  | 0 => rfl
  | n + 1 => by
    rw [List.range_succ, List.map_append, atsH_append, List.map_append, List.sum_append, sum_atsH F n]
    simp [atsH]
theorem sum_opsH (F : Nat → Opx) : ∀ n, opsH ((List.range n).map F) = ((List.range n).map fun i => opH (F i)).sum
  | 0 => rfl
  | n + 1 => by
    rw [List.range_succ, List.map_append, opsH_append, List.map_append, List.sum_append, sum_opsH F n]
    simp [opsH]
theorem sum_one : ∀ n, ((List.range n).map fun _ : Nat => 1).sum = n
  | 0 => rfl
  | n + 1 => by rw [List.range_succ, List.map_append, List.sum_append, sum_one n]; simp
theorem bulk_pos {H : Type} (d : DataW H) : 1 ≤ Rows.uptoBulk d := by
  cases d with
  | lit x => cases x <;> simp [Rows.uptoBulk]
  | nil => simp [Rows.uptoBulk]
  | ptr d => simp [Rows.uptoBulk]
  | slice a b => simp [Rows.uptoBulk]
  | agg a => simp [Rows.uptoBulk]
  | iface a d => simp [Rows.uptoBulk]
  | map a => simp [Rows.uptoBulk]
  | held a => simp [Rows.uptoBulk]
set_option maxRecDepth 100000 in
/-- Attributes that came in. -/
theorem open_ats {H : Type} {enc : TypeId × Value → H} {W : World} {fuel : Nat} {v : Value} {d : DataW H} {pl : List MemPlace} (h : DataW.trod enc Tryz.prog W 0 (fun _ => true) true fuel 31 [v] = some (d, pl)) :
    ∃ (aa : Option Addr) (ac : Nat) (l : List Atr), v = .slice aa l.length ac ∧ AtsAt (fun k => k < W.heap.size) W aa l ∧ l.length ≤ ac ∧ atsH l + 1 ≤ Rows.uptoBulk d := by
  obtain ⟨a, n, c, D, hv, hnc, -, hb, hel⟩ := open_rows Tryz.underlying31 cells67 (by omega) h
  have each : ∀ i, ∃ s : ByteArray × ByteArray, i < n → 1 + s.1.toList.length + s.2.toList.length ≤ Rows.uptoBulk (D i) ∧ ∃ g o, a = some ⟨g, o, none⟩ ∧ g < W.heap.size ∧ W.cell? ⟨g, o + i * 2, none⟩ = some (.string s.1) ∧ W.cell? ⟨g, o + i * 2 + 1, none⟩ = some (.string s.2) := by
    intro i
    by_cases hi : i < n
    · obtain ⟨g, o, cs, fu, pl', e, hg, hl, ht, hc⟩ := hel i hi
      obtain ⟨xs, m, _, hxy, _, hxl, hf⟩ := DataW.trod_struct Tryz.underlying140 ht
      match xs, hxl, cs, hl with
      | [y0, y1], _, [v0, v1], _ =>
        have t0 : DataW.trod enc Tryz.prog W 0 (fun _ => true) true m 9 (([v0, v1].drop 0).take (Tryz.prog.cellsOf 9)) = [y0, y1][0]? := hf 0 _ rfl
        have t1 : DataW.trod enc Tryz.prog W 0 (fun _ => true) true m 9 (([v0, v1].drop 1).take (Tryz.prog.cellsOf 9)) = [y0, y1][1]? := hf 1 _ rfl
        rw [one9] at t0 t1
        have t0 : DataW.trod enc Tryz.prog W 0 (fun _ => true) true m 9 [v0] = some y0 := t0
        have t1 : DataW.trod enc Tryz.prog W 0 (fun _ => true) true m 9 [v1] = some y1 := t1
        obtain ⟨s, es, xs, _⟩ := DataW.trod_string Tryz.underlying9 t0
        obtain ⟨s', es', xs', _⟩ := DataW.trod_string Tryz.underlying9 t1
        injection es with es
        injection es' with es'
        have hD : D i = .agg [y0.1, y1.1] := by
          have := congrArg Prod.fst hxy
          simpa using this
        refine ⟨(s, s'), fun _ => ⟨?_, g, o, e, hg, ?_, ?_⟩⟩
        · rw [hD, xs, xs']
          simp only [Rows.uptoBulk, Rows.uptoBulkAll, ByteArray.toList_eq]
          omega
        · have := hc 0 (by omega); rw [es] at this; exact this
        · have := hc 1 (by omega); rw [es'] at this; exact this
    · exact ⟨(ByteArray.empty, ByteArray.empty), fun h => absurd h hi⟩
  obtain ⟨F, hF⟩ := Classical.axiomOfChoice each
  refine ⟨a, c, (List.range n).map fun i => ⟨(F i).1.toList, (F i).2.toList⟩, by rw [hv]; simp, fun j hj => ?_, by simpa using hnc, ?_⟩
  · have hj' : j < n := by simpa using hj
    obtain ⟨_, g, o, e, hg, c0, c1⟩ := hF j hj'
    refine ⟨g, o, e, hg, ?_, ?_⟩
    · rw [c0]; simp [sv, ByteArray.toList_eq]
    · rw [c1]; simp [sv, ByteArray.toList_eq]
  · rw [sum_atsH]
    have := bulk_range D (fun i => 1 + (F i).1.toList.length + (F i).2.toList.length) n (fun r hr => (hF r hr).1)
    exact Nat.le_trans (Nat.add_le_add_right this 1) hb
/-- Numbers that came in. -/
theorem open_ints {H : Type} {enc : TypeId × Value → H} {W : World} {fuel : Nat} {v : Value} {d : DataW H} {pl : List MemPlace} (h : DataW.trod enc Tryz.prog W 0 (fun _ => true) true fuel 32 [v] = some (d, pl)) :
    ∃ (la : Option Addr) (lc : Nat) (l : List Int), v = .slice la l.length lc ∧ IntsZ (fun k => k < W.heap.size) W la l ∧ l.length ≤ lc ∧ l.length + 1 ≤ Rows.uptoBulk d ∧ ∀ z ∈ l, IntKind.i64.min ≤ z ∧ z ≤ IntKind.i64.max := by
  obtain ⟨a, n, c, D, hv, hnc, -, hb, hel⟩ := open_rows Tryz.underlying32 one3 (by omega) h
  have each : ∀ i, ∃ z : Int, i < n → (IntKind.i64.min ≤ z ∧ z ≤ IntKind.i64.max) ∧ ∃ g o, a = some ⟨g, o, none⟩ ∧ g < W.heap.size ∧ W.cell? ⟨g, o + i, none⟩ = some (.int .i64 z) := by
    intro i
    by_cases hi : i < n
    · obtain ⟨g, o, cs, fu, pl', e, hg, hl, ht, hc⟩ := hel i hi
      match cs, hl with
      | [v0], _ =>
        obtain ⟨z, ez, _, wz⟩ := DataW.trod_int Tryz.underlying3 ht
        injection ez with ez
        refine ⟨z, fun _ => ⟨by simpa [Lit.wf] using wz, g, o, e, hg, ?_⟩⟩
        have := hc 0 (by omega)
        rw [ez, Nat.mul_one] at this
        exact this
    · exact ⟨0, fun h => absurd h hi⟩
  obtain ⟨F, hF⟩ := Classical.axiomOfChoice each
  refine ⟨a, c, (List.range n).map F, by rw [hv]; simp, fun j hj => ?_, by simpa using hnc, ?_, fun z hz => ?_⟩
  · have hj' : j < n := by simpa using hj
    obtain ⟨_, g, o, e, hg, c0⟩ := hF j hj'
    refine ⟨g, o, e, hg, ?_⟩
    rw [c0]; simp
  · have := bulk_range D (fun _ => 1) n (fun r hr => bulk_pos _)
    rw [sum_one] at this
    simp only [List.length_map, List.length_range]
    omega
  · obtain ⟨i, hi, rfl⟩ := List.mem_map.1 hz
    exact (hF i (List.mem_range.1 hi)).1
end Go.Proofs.YtbhfnbplbkncmaaGreat

namespace Go.Proofs.YtbhfnbplbkncmaaGreat
open Go.ChangeShapes Go.WideShapes Go.ChangeAt Go.RowKit Go.Deep
set_option linter.unusedVariables false
set_option maxRecDepth 100000 in
theorem open_made {H : Type} {enc : TypeId × Value → H} {W : World} {fuel : Nat} {v0 v1 v2 v3 : Value} {d : DataW H} {pl : List MemPlace} (h : DataW.trod enc Tryz.prog W 0 (fun _ => true) true fuel 52 [v0, v1, v2, v3] = some (d, pl)) :
    ∃ (k : Nat) (n t : ByteArray) (aa : Option Addr) (ac : Nat) (l : List Atr), v0 = .int .u8 (k : Int) ∧ v1 = .string n ∧ v2 = .string t ∧ v3 = .slice aa l.length ac ∧ k < 256 ∧ AtsAt (fun k => k < W.heap.size) W aa l ∧ l.length ≤ ac ∧ n.size + t.size + atsH l ≤ Rows.uptoBulk d := by
  obtain ⟨xs, m, _, hxy, _, hxl, hf⟩ := DataW.trod_struct Tryz.underlying52 h
  match xs, hxl with
  | [y0, y1, y2, y3], _ =>
    have t0 : DataW.trod enc Tryz.prog W 0 (fun _ => true) true m 5 (([v0, v1, v2, v3].drop 0).take (Tryz.prog.cellsOf 5)) = [y0, y1, y2, y3][0]? := hf 0 _ rfl
    have t1 : DataW.trod enc Tryz.prog W 0 (fun _ => true) true m 9 (([v0, v1, v2, v3].drop 1).take (Tryz.prog.cellsOf 9)) = [y0, y1, y2, y3][1]? := hf 1 _ rfl
    have t2 : DataW.trod enc Tryz.prog W 0 (fun _ => true) true m 9 (([v0, v1, v2, v3].drop 2).take (Tryz.prog.cellsOf 9)) = [y0, y1, y2, y3][2]? := hf 2 _ rfl
    have t3 : DataW.trod enc Tryz.prog W 0 (fun _ => true) true m 31 (([v0, v1, v2, v3].drop 3).take (Tryz.prog.cellsOf 31)) = [y0, y1, y2, y3][3]? := hf 3 _ rfl
    rw [one5] at t0
    rw [one9] at t1 t2
    rw [one30] at t3
    have t0 : DataW.trod enc Tryz.prog W 0 (fun _ => true) true m 5 [v0] = some y0 := t0
    have t1 : DataW.trod enc Tryz.prog W 0 (fun _ => true) true m 9 [v1] = some y1 := t1
    have t2 : DataW.trod enc Tryz.prog W 0 (fun _ => true) true m 9 [v2] = some y2 := t2
    have t3 : DataW.trod enc Tryz.prog W 0 (fun _ => true) true m 31 [v3] = some y3 := t3
    have hd : d = .agg [y0.1, y1.1, y2.1, y3.1] := by
      have := congrArg Prod.fst hxy
      simpa using this
    obtain ⟨z0, e0, _, w0⟩ := DataW.trod_int Tryz.underlying5 t0
    obtain ⟨s1, e1, x1, _⟩ := DataW.trod_string Tryz.underlying9 t1
    obtain ⟨s2, e2, x2, _⟩ := DataW.trod_string Tryz.underlying9 t2
    obtain ⟨aa, ac, l, e3, hA, hac, hb⟩ := open_ats (d := y3.1) (pl := y3.2) t3
    injection e0 with e0
    injection e1 with e1
    injection e2 with e2
    have hb0 : 0 ≤ z0 ∧ z0 ≤ 255 := by simpa [Lit.wf, IntKind.min, IntKind.max, IntKind.signed, IntKind.bits] using w0
    refine ⟨z0.toNat, s1, s2, aa, ac, l, by rw [e0, Int.toNat_of_nonneg hb0.1], e1, e2, e3, by omega, hA, hac, ?_⟩
    rw [hd, x1, x2]
    have := bulk_pos y0.1
    have q1 : s1.data.toList.length = s1.size := rfl
    have q2 : s2.data.toList.length = s2.size := rfl
    simp only [Rows.uptoBulk, Rows.uptoBulkAll]
    omega
set_option maxRecDepth 100000 in
theorem open_fl {H : Type} {enc : TypeId × Value → H} {W : World} {fuel : Nat} {v0 v1 v2 v3 v4 : Value} {d : DataW H} {pl : List MemPlace} (h : DataW.trod enc Tryz.prog W 0 (fun _ => true) true fuel 34 [v0, v1, v2, v3, v4] = some (d, pl)) :
    ∃ f : Fg, v0 = .bool f.a ∧ v1 = .bool f.b ∧ v2 = .bool f.c ∧ v3 = .bool f.d ∧ v4 = .bool f.e := by
  obtain ⟨xs, m, _, hxy, _, hxl, hf⟩ := DataW.trod_struct Tryz.underlying34 h
  have get : ∀ (i : Nat) (y : DataW H × List MemPlace) (u : Value), xs[i]? = some y → DataW.trod enc Tryz.prog W 0 (fun _ => true) true m 4 [u] = xs[i]? → ∃ b, u = .bool b := fun i y u hy ht => by
    rw [hy] at ht
    obtain ⟨b, e, _⟩ := DataW.trod_bool Tryz.underlying4 ht
    exact ⟨b, by injection e⟩
  match xs, hxl with
  | [y0, y1, y2, y3, y4], _ =>
    have t0 : DataW.trod enc Tryz.prog W 0 (fun _ => true) true m 4 (([v0, v1, v2, v3, v4].drop 0).take (Tryz.prog.cellsOf 4)) = [y0, y1, y2, y3, y4][0]? := hf 0 _ rfl
    have t1 : DataW.trod enc Tryz.prog W 0 (fun _ => true) true m 4 (([v0, v1, v2, v3, v4].drop 1).take (Tryz.prog.cellsOf 4)) = [y0, y1, y2, y3, y4][1]? := hf 1 _ rfl
    have t2 : DataW.trod enc Tryz.prog W 0 (fun _ => true) true m 4 (([v0, v1, v2, v3, v4].drop 2).take (Tryz.prog.cellsOf 4)) = [y0, y1, y2, y3, y4][2]? := hf 2 _ rfl
    have t3 : DataW.trod enc Tryz.prog W 0 (fun _ => true) true m 4 (([v0, v1, v2, v3, v4].drop 3).take (Tryz.prog.cellsOf 4)) = [y0, y1, y2, y3, y4][3]? := hf 3 _ rfl
    have t4 : DataW.trod enc Tryz.prog W 0 (fun _ => true) true m 4 (([v0, v1, v2, v3, v4].drop 4).take (Tryz.prog.cellsOf 4)) = [y0, y1, y2, y3, y4][4]? := hf 4 _ rfl
    rw [one4] at t0 t1 t2 t3 t4
    obtain ⟨b0, rfl⟩ := get 0 y0 v0 rfl t0
    obtain ⟨b1, rfl⟩ := get 1 y1 v1 rfl t1
    obtain ⟨b2, rfl⟩ := get 2 y2 v2 rfl t2
    obtain ⟨b3, rfl⟩ := get 3 y3 v3 rfl t3
    obtain ⟨b4, rfl⟩ := get 4 y4 v4 rfl t4
    exact ⟨⟨b0, b1, b2, b3, b4⟩, rfl, rfl, rfl, rfl, rfl⟩
set_option maxRecDepth 100000 in
theorem open_op {H : Type} {enc : TypeId × Value → H} {W : World} {fuel : Nat} {cs : List Value} {d : DataW H} {pl : List MemPlace} (hlen : cs.length = 17) (h : DataW.trod enc Tryz.prog W 0 (fun _ => true) true fuel 54 cs = some (d, pl)) :
    ∃ (o : Opx) (A : OpA), cs = opC o A ∧ OpAt (fun k => k < W.heap.size) W A o ∧ OpOk o ∧ opH o ≤ Rows.uptoBulk d := by
  obtain ⟨xs, m, _, hxy, _, hxl, hf⟩ := DataW.trod_struct Tryz.underlying54 h
  match xs, hxl, cs, hlen with
  | [y0, y1, y2, y3, y4, y5, y6, y7, y8, y9], _, [v0, v1, v2, v3, v4, v5, v6, v7, v8, v9, v10, v11, v12, v13, v14, v15, v16], _ =>
    have t0 : DataW.trod enc Tryz.prog W 0 (fun _ => true) true m 5 (([v0, v1, v2, v3, v4, v5, v6, v7, v8, v9, v10, v11, v12, v13, v14, v15, v16].drop 0).take (Tryz.prog.cellsOf 5)) = [y0, y1, y2, y3, y4, y5, y6, y7, y8, y9][0]? := hf 0 _ rfl
    have t1 : DataW.trod enc Tryz.prog W 0 (fun _ => true) true m 3 (([v0, v1, v2, v3, v4, v5, v6, v7, v8, v9, v10, v11, v12, v13, v14, v15, v16].drop 1).take (Tryz.prog.cellsOf 3)) = [y0, y1, y2, y3, y4, y5, y6, y7, y8, y9][1]? := hf 1 _ rfl
    have t2 : DataW.trod enc Tryz.prog W 0 (fun _ => true) true m 3 (([v0, v1, v2, v3, v4, v5, v6, v7, v8, v9, v10, v11, v12, v13, v14, v15, v16].drop 2).take (Tryz.prog.cellsOf 3)) = [y0, y1, y2, y3, y4, y5, y6, y7, y8, y9][2]? := hf 2 _ rfl
    have t3 : DataW.trod enc Tryz.prog W 0 (fun _ => true) true m 3 (([v0, v1, v2, v3, v4, v5, v6, v7, v8, v9, v10, v11, v12, v13, v14, v15, v16].drop 3).take (Tryz.prog.cellsOf 3)) = [y0, y1, y2, y3, y4, y5, y6, y7, y8, y9][3]? := hf 3 _ rfl
    have t4 : DataW.trod enc Tryz.prog W 0 (fun _ => true) true m 4 (([v0, v1, v2, v3, v4, v5, v6, v7, v8, v9, v10, v11, v12, v13, v14, v15, v16].drop 4).take (Tryz.prog.cellsOf 4)) = [y0, y1, y2, y3, y4, y5, y6, y7, y8, y9][4]? := hf 4 _ rfl
    have t5 : DataW.trod enc Tryz.prog W 0 (fun _ => true) true m 52 (([v0, v1, v2, v3, v4, v5, v6, v7, v8, v9, v10, v11, v12, v13, v14, v15, v16].drop 5).take (Tryz.prog.cellsOf 52)) = [y0, y1, y2, y3, y4, y5, y6, y7, y8, y9][5]? := hf 5 _ rfl
    have t6 : DataW.trod enc Tryz.prog W 0 (fun _ => true) true m 9 (([v0, v1, v2, v3, v4, v5, v6, v7, v8, v9, v10, v11, v12, v13, v14, v15, v16].drop 9).take (Tryz.prog.cellsOf 9)) = [y0, y1, y2, y3, y4, y5, y6, y7, y8, y9][6]? := hf 6 _ rfl
    have t7 : DataW.trod enc Tryz.prog W 0 (fun _ => true) true m 9 (([v0, v1, v2, v3, v4, v5, v6, v7, v8, v9, v10, v11, v12, v13, v14, v15, v16].drop 10).take (Tryz.prog.cellsOf 9)) = [y0, y1, y2, y3, y4, y5, y6, y7, y8, y9][7]? := hf 7 _ rfl
    have t8 : DataW.trod enc Tryz.prog W 0 (fun _ => true) true m 32 (([v0, v1, v2, v3, v4, v5, v6, v7, v8, v9, v10, v11, v12, v13, v14, v15, v16].drop 11).take (Tryz.prog.cellsOf 32)) = [y0, y1, y2, y3, y4, y5, y6, y7, y8, y9][8]? := hf 8 _ rfl
    have t9 : DataW.trod enc Tryz.prog W 0 (fun _ => true) true m 34 (([v0, v1, v2, v3, v4, v5, v6, v7, v8, v9, v10, v11, v12, v13, v14, v15, v16].drop 12).take (Tryz.prog.cellsOf 34)) = [y0, y1, y2, y3, y4, y5, y6, y7, y8, y9][9]? := hf 9 _ rfl
    rw [one5] at t0
    rw [one3] at t1
    rw [one3] at t2
    rw [one3] at t3
    rw [one4] at t4
    rw [cells32] at t5
    rw [one9] at t6
    rw [one9] at t7
    rw [one33] at t8
    rw [cells35] at t9
    have t0 : DataW.trod enc Tryz.prog W 0 (fun _ => true) true m 5 [v0] = some y0 := t0
    have t1 : DataW.trod enc Tryz.prog W 0 (fun _ => true) true m 3 [v1] = some y1 := t1
    have t2 : DataW.trod enc Tryz.prog W 0 (fun _ => true) true m 3 [v2] = some y2 := t2
    have t3 : DataW.trod enc Tryz.prog W 0 (fun _ => true) true m 3 [v3] = some y3 := t3
    have t4 : DataW.trod enc Tryz.prog W 0 (fun _ => true) true m 4 [v4] = some y4 := t4
    have t5 : DataW.trod enc Tryz.prog W 0 (fun _ => true) true m 52 [v5, v6, v7, v8] = some y5 := t5
    have t6 : DataW.trod enc Tryz.prog W 0 (fun _ => true) true m 9 [v9] = some y6 := t6
    have t7 : DataW.trod enc Tryz.prog W 0 (fun _ => true) true m 9 [v10] = some y7 := t7
    have t8 : DataW.trod enc Tryz.prog W 0 (fun _ => true) true m 32 [v11] = some y8 := t8
    have t9 : DataW.trod enc Tryz.prog W 0 (fun _ => true) true m 34 [v12, v13, v14, v15, v16] = some y9 := t9
    have hd : d = .agg [y0.1, y1.1, y2.1, y3.1, y4.1, y5.1, y6.1, y7.1, y8.1, y9.1] := by
      have := congrArg Prod.fst hxy
      simpa using this
    obtain ⟨z0, e0, _, w0⟩ := DataW.trod_int Tryz.underlying5 t0
    obtain ⟨z1, e1, _, w1⟩ := DataW.trod_int Tryz.underlying3 t1
    obtain ⟨z2, e2, _, w2⟩ := DataW.trod_int Tryz.underlying3 t2
    obtain ⟨z3, e3, _, w3⟩ := DataW.trod_int Tryz.underlying3 t3
    obtain ⟨b4, e4, _⟩ := DataW.trod_bool Tryz.underlying4 t4
    obtain ⟨nk, nn, nd, aa, ac, l, rfl, rfl, rfl, rfl, hnk, hA, hac, hb5⟩ := open_made (d := y5.1) (pl := y5.2) t5
    obtain ⟨s6, e6, x6, _⟩ := DataW.trod_string Tryz.underlying9 t6
    obtain ⟨s7, e7, x7, _⟩ := DataW.trod_string Tryz.underlying9 t7
    obtain ⟨la, lc, li, rfl, hL, hlc, hb8, hli⟩ := open_ints (d := y8.1) (pl := y8.2) t8
    obtain ⟨f, rfl, rfl, rfl, rfl, rfl⟩ := open_fl (d := y9.1) (pl := y9.2) t9
    injection e0 with e0
    injection e1 with e1
    injection e2 with e2
    injection e3 with e3
    injection e4 with e4
    injection e6 with e6
    injection e7 with e7
    subst e0 e1 e2 e3 e4 e6 e7
    have hb0 : 0 ≤ z0 ∧ z0 ≤ 255 := by simpa [Lit.wf, IntKind.min, IntKind.max, IntKind.signed, IntKind.bits] using w0
    refine ⟨⟨z0.toNat, z1, z2, z3, b4, nk, nn, nd, l, s6, s7, li, f⟩, ⟨aa, ac, la, lc⟩, ?_, ⟨hA, hac, hL, hlc⟩, ⟨by show z0.toNat < 256; omega, hnk, by simpa [Lit.wf] using w1, by simpa [Lit.wf] using w2, by simpa [Lit.wf] using w3, hli⟩, ?_⟩
    · simp only [opC, Int.toNat_of_nonneg hb0.1]
    · rw [hd, x6, x7]
      have p0 := bulk_pos y0.1
      have p1 := bulk_pos y1.1
      have p2 := bulk_pos y2.1
      have p3 := bulk_pos y3.1
      have p4 := bulk_pos y4.1
      have p9 := bulk_pos y9.1
      have q1 : s6.data.toList.length = s6.size := rfl
      have q2 : s7.data.toList.length = s7.size := rfl
      simp only [Rows.uptoBulk, Rows.uptoBulkAll, opH]
      omega
theorem open_ops {H : Type} {enc : TypeId × Value → H} {W : World} {fuel : Nat} {v : Value} {d : DataW H} {pl : List MemPlace} (h : DataW.trod enc Tryz.prog W 0 (fun _ => true) true fuel 22 [v] = some (d, pl)) :
    ∃ (a : Option Addr) (c : Nat) (l : List Opx), v = .slice a l.length c ∧ OpsAt (fun k => k < W.heap.size) W a l ∧ (∀ o ∈ l, OpOk o) ∧ l.length ≤ maxLen ∧ opsH l ≤ Rows.uptoBulk d := by
  obtain ⟨a, n, c, D, hv, hnc, hnm, hb, hel⟩ := open_rows Tryz.underlying22 cells37 (by omega) h
  have each : ∀ i, ∃ q : Opx × OpA, i < n → opH q.1 ≤ Rows.uptoBulk (D i) ∧ OpOk q.1 ∧ ∃ g o, a = some ⟨g, o, none⟩ ∧ g < W.heap.size ∧ OpAt (fun k => k < W.heap.size) W q.2 q.1 ∧ ∀ f u, (opC q.1 q.2)[f]? = some u → W.cell? ⟨g, o + i * 17 + f, none⟩ = some u := by
    intro i
    by_cases hi : i < n
    · obtain ⟨g, o, cs, fu, pl', e, hg, hl, ht, hc⟩ := hel i hi
      obtain ⟨x, A, rfl, hA, hok, hbx⟩ := open_op hl ht
      refine ⟨(x, A), fun _ => ⟨hbx, hok, g, o, e, hg, hA, fun f u hu => ?_⟩⟩
      have hf : f < 17 := by
        rcases Nat.lt_or_ge f 17 with hh | hh
        · exact hh
        · rw [List.getElem?_eq_none (by show (opC x A).length ≤ f; exact hh)] at hu; cases hu
      rw [hc f hf]; exact hu
    · exact ⟨(⟨0, 0, 0, 0, false, 0, ByteArray.empty, ByteArray.empty, [], ByteArray.empty, ByteArray.empty, [], ⟨false, false, false, false, false⟩⟩, ⟨none, 0, none, 0⟩), fun h => absurd h hi⟩
  obtain ⟨F, hF⟩ := Classical.axiomOfChoice each
  refine ⟨a, c, (List.range n).map fun i => (F i).1, by rw [hv]; simp, fun j hj => ?_, fun o ho => ?_, by simpa using hnm, ?_⟩
  · have hj' : j < n := by simpa using hj
    obtain ⟨_, _, g, o, e, hg, hA, hc⟩ := hF j hj'
    have ej : ((List.range n).map fun i => (F i).1)[j] = (F j).1 := by simp
    rw [ej]
    exact ⟨g, o, (F j).2, e, hg, hA, hc⟩
  · obtain ⟨i, hi, rfl⟩ := List.mem_map.1 ho
    exact (hF i (List.mem_range.1 hi)).2.1
  · rw [sum_opsH]
    have := bulk_range D (fun i => opH (F i).1) n (fun r hr => (hF r hr).1)
    omega
end Go.Proofs.YtbhfnbplbkncmaaGreat
