/-
 Calls that come in (a slice of structs with rows of their own): what they read as, and how much they weigh.; One call that came in, and all of them.; The statements' own small calls: inside, Names, Node.
-/
import Derived.Test.YtfeinppedejlpaaGreatRows
import Derived.Test.YtfeinppedejlpaaGreatNW22
import Derived.Test.YtfeinppedejlpaaGreatNW23
import Derived.WalkKit
import Derived.ProofKit
import Derived.OpenShut
import Derived.ShutString
import Derived.ChangeOld
import Derived.Below
import Derived.SizedLaws
import Derived.JoinedCond
import Derived.Deep.Slices
import Derived.Deep.LoopGhost
import Derived.Deep.QuietTactic
import Derived.BigQuiet
namespace Go.Proofs.YtfeinppedejlpaaGreat
set_option linter.unusedVariables false
set_option maxRecDepth 100000
set_option maxHeartbeats 8000000
section
open Go.ChangeShapes Go.WideShapes Go.ChangeAt Go.RowKit Go.Deep
structure Opx where
 k : Nat
 a : Int
 b : Int
 c : Int
 inn : Bool
 nk : Nat
 nn : ByteArray
 nd : ByteArray
 ats : List Atr
 s : ByteArray
 t : ByteArray
 l : List Int
 f : Fg
structure OpA where
 aa : Option Addr
 ac : Nat
 la : Option Addr
 lc : Nat
def opC (o : Opx) (A : OpA) : List Value :=
 [.int .u8 (o.k : Int), .int .i64 o.a, .int .i64 o.b, .int .i64 o.c, .bool o.inn, .int .u8 (o.nk : Int), .string o.nn, .string o.nd, .slice A.aa o.ats.length A.ac, .string o.s, .string o.t, .slice A.la o.l.length A.lc, .bool o.f.a, .bool o.f.b, .bool o.f.c, .bool o.f.d, .bool o.f.e]
def zcx : List Atr -> Nat
 | [] => 0
 | x :: r => 1 + x.name.length + x.value.length + zcx r
def opH (o : Opx) : Nat := 5 + o.s.size + o.t.size + o.l.length + o.nn.size + o.nd.size + zcx o.ats
def zdg : List Opx -> Nat
 | [] => 0
 | o :: r => opH o + zdg r
theorem zds (a b : List Atr) : zcx (a ++ b) = zcx a + zcx b := by
 induction a with
 | nil => simp [zcx]
 | cons x r ih => simp only [List.cons_append, zcx, ih]; omega
theorem zdw (a b : List Opx) : zdg (a ++ b) = zdg a + zdg b := by
 induction a with
 | nil => simp [zdg]
 | cons x r ih => simp only [List.cons_append, zdg, ih]; omega
theorem zoc {l : List Atr} {x : Atr} (h : x ∈ l) : 1 + x.name.length + x.value.length <= zcx l := by
 induction l with
 | nil => cases h
 | cons y r ih =>
  simp only [zcx]
  rcases List.mem_cons.1 h with rfl | h
  ·omega
  ·have := ih h; omega
theorem zjv (l : List Atr) : l.length <= zcx l := by
 induction l with
 | nil => exact Nat.le_refl _
 | cons y r ih => simp only [zcx, List.length_cons]; omega
theorem zoq {l : List Opx} {x : Opx} (h : x ∈ l) : opH x <= zdg l := by
 induction l with
 | nil => cases h
 | cons y r ih =>
  simp only [zdg]
  rcases List.mem_cons.1 h with rfl | h
  ·omega
  ·have := ih h; omega
structure Zmt (o : Opx) : Prop where
 k : o.k < 256
 nk : o.nk < 256
 a : IntKind.i64.min <= o.a /\ o.a <= IntKind.i64.max
 b : IntKind.i64.min <= o.b /\ o.b <= IntKind.i64.max
 c : IntKind.i64.min <= o.c /\ o.c <= IntKind.i64.max
 l : ∀ z ∈ o.l, IntKind.i64.min <= z /\ z <= IntKind.i64.max
def Zp2 (F : Nat -> Prop) (w : World) (A : OpA) (o : Opx) : Prop := Zag F w A.aa o.ats /\ o.ats.length <= A.ac /\ Zbo F w A.la o.l /\ o.l.length <= A.lc
def Zf4 (F : Nat -> Prop) (w : World) (a : Option Addr) (l : List Opx) : Prop :=
 ∀ j (h : j < l.length), ∃ g o A, a = some ⟨g, o, none⟩ /\ F g /\ Zp2 F w A l[j] /\ ∀ f u, (opC l[j] A)[f]? = some u -> w.cell? ⟨g, o + j * 17 + f, none⟩ = some u
theorem Zp2.kept {F F' : Nat -> Prop} {w w' : World} {A : OpA} {o : Opx} (h : Zp2 F w A o) (hk : Kept F w w') (hF : ∀ g, F g -> F' g) : Zp2 F' w' A o :=
 ⟨h.1.kept hk hF, h.2.1, h.2.2.1.kept hk hF, h.2.2.2⟩
theorem Zf4.kept {F F' : Nat -> Prop} {w w' : World} {a : Option Addr} {l : List Opx} (h : Zf4 F w a l) (hk : Kept F w w') (hF : ∀ g, F g -> F' g) : Zf4 F' w' a l := fun j hj => by
 obtain ⟨g, o, A, e, hg, ha, hc⟩ := h j hj
 exact ⟨g, o, A, e, hF g hg, ha.kept hk hF, fun f u hu => (hk.cell (p := ⟨g, o + j * 17 + f, none⟩) hg).trans (hc f u hu)⟩
theorem zfi {H : Type} : ∀ (a b : List (DataW H)), Rows.uptoBulkAll (a ++ b) = Rows.uptoBulkAll a + Rows.uptoBulkAll b
 | [], b => by simp [Rows.uptoBulkAll]
 | d :: r, b => by
  show Rows.uptoBulkAll (d :: (r ++ b)) = _
  simp only [Rows.uptoBulkAll]
  rw [zfi r b]
  omega
theorem zdb {H : Type} (D : Nat -> DataW H) (φ : Nat -> Nat) : ∀ n, (∀ r, r < n -> φ r <= Rows.uptoBulk (D r)) -> ((List.range n).map φ).sum <= Rows.uptoBulkAll ((List.range n).map D)
 | 0, _ => Nat.zero_le _
 | n + 1, h => by
  rw [List.range_succ, List.map_append, List.map_append, zfi, List.sum_append]
  have h1 := zdb D φ n (fun r hr => h r (by omega))
  have h2 := h n (by omega)
  simp only [List.map_cons, List.map_nil, List.sum_cons, List.sum_nil, Rows.uptoBulkAll]
  omega
theorem zfg {H : Type} {enc : TypeId × Value -> H} {W : World} {fuel : Nat} {t e : TypeId} {z : Nat} (ht : Tryz.prog.underlying t = some (.slice e)) (hz : Tryz.prog.cellsOf e = z) (hz0 : 0 < z) {v : Value} {d : DataW H} {pl : List MemPlace} (h : DataW.trod enc Tryz.prog W 0 (fun _ => true) true fuel t [v] = some (d, pl)) :
  ∃ (a : Option Addr) (n c : Nat) (D : Nat -> DataW H), v = .slice a n c /\ n <= c /\ n <= maxLen /\ Rows.uptoBulkAll ((List.range n).map D) + 1 <= Rows.uptoBulk d /\
   ∀ i, i < n -> ∃ g o cs fu pl', a = some ⟨g, o, none⟩ /\ g < W.heap.size /\ cs.length = z /\ DataW.trod enc Tryz.prog W 0 (fun _ => true) true fu e cs = some (D i, pl') /\ ∀ f, f < z -> W.cell? ⟨g, o + i * z + f, none⟩ = cs[f]? := by
 rcases Go.Deep.open_slice ht h with ⟨hcs, hx⟩ | ⟨a, len, cap, m, n, D, Pl, hcs, _, hl, hm, hmm, hx, hel⟩
 ·injection hcs with hcs
  have hd : d = .nil := congrArg Prod.fst hx
  refine ⟨none, 0, 0, fun _ => .nil, hcs, Nat.le_refl _, Nat.zero_le _, by rw [hd]; simp [Rows.uptoBulkAll, Rows.uptoBulk], fun i hi => absurd hi (Nat.not_lt_zero _)⟩
 ·injection hcs with hcs
  have hlm : len <= m := by rw [hmm]; split <;> omega
  have hd : d = .slice ((List.range len).map D) ((List.range (m - len)).map fun j => D (len + j)) := congrArg Prod.fst hx
  refine ⟨some a, len, cap, D, hcs, hl, Nat.le_trans hl hm, by rw [hd]; simp only [Rows.uptoBulk]; omega, fun i hi => ?_⟩
  obtain ⟨cs', hc1, hc2⟩ := hel i (by omega)
  rw [hz] at hc1
  obtain ⟨_, hlen, hcell⟩ := World.cells?_some hc1
  obtain ⟨g, o, sp⟩ := a
  obtain ⟨cs0, hz1, hz2⟩ := hel 0 (by omega)
  rw [hz] at hz1
  obtain ⟨_, hlen0, hcell0⟩ := World.cells?_some hz1
  have c00 := hcell0 0 (by omega)
  have hcc : ∃ u, cs0[0]? = some u := ⟨_, List.getElem?_eq_getElem (by omega)⟩
  obtain ⟨u0, hu0⟩ := hcc
  have c00' : W.cell? ⟨g, o, sp⟩ = some u0 := by simpa [Addr.add, hu0] using c00
  have hsp : sp = none := World.cell?_spot c00'
  subst hsp
  refine ⟨g, o, cs', n, Pl i, rfl, World.block_lt_of_cell? W _ c00', hlen, hc2, fun f hf => ?_⟩
  have := hcell f (by omega)
  rw [Addr.add_lit, Addr.add_lit] at this
  rw [this]
theorem zp7 : Tryz.prog.cellsOf 108 = 2 := by kernel_rfl
theorem zqp : Tryz.prog.cellsOf 50 = 17 := by kernel_rfl
theorem zp6 : Tryz.prog.cellsOf 46 = 4 := by kernel_rfl
theorem zp1 : Tryz.prog.cellsOf 48 = 5 := by kernel_rfl
theorem zro : Tryz.prog.cellsOf 3 = 1 := by kernel_rfl
theorem zsh : Tryz.prog.cellsOf 4 = 1 := by kernel_rfl
theorem zsi : Tryz.prog.cellsOf 5 = 1 := by kernel_rfl
theorem zrp : Tryz.prog.cellsOf 9 = 1 := by kernel_rfl
theorem zr8 : Tryz.prog.cellsOf 44 = 1 := by kernel_rfl
theorem zr1 : Tryz.prog.cellsOf 33 = 1 := by kernel_rfl
theorem zj2 (F : Nat -> Atr) : ∀ n, zcx ((List.range n).map F) = ((List.range n).map fun i => 1 + (F i).name.length + (F i).value.length).sum
 | 0 => rfl
 | n + 1 => by
  rw [List.range_succ, List.map_append, zds, List.map_append, List.sum_append, zj2 F n]
  simp [zcx]
theorem zj3 (F : Nat -> Opx) : ∀ n, zdg ((List.range n).map F) = ((List.range n).map fun i => opH (F i)).sum
 | 0 => rfl
 | n + 1 => by
  rw [List.range_succ, List.map_append, zdw, List.map_append, List.sum_append, zj3 F n]
  simp [zdg]
theorem zmi : ∀ n, ((List.range n).map fun _ : Nat => 1).sum = n
 | 0 => rfl
 | n + 1 => by rw [List.range_succ, List.map_append, List.sum_append, zmi n]; simp
theorem zcb {H : Type} (d : DataW H) : 1 <= Rows.uptoBulk d := by
 cases d with
 | lit x => cases x <;> simp [Rows.uptoBulk]
 | nil => simp [Rows.uptoBulk]
 | ptr d => simp [Rows.uptoBulk]
 | slice a b => simp [Rows.uptoBulk]
 | agg a => simp [Rows.uptoBulk]
 | iface a d => simp [Rows.uptoBulk]
 | map a => simp [Rows.uptoBulk]
 | held a => simp [Rows.uptoBulk]
theorem zo4 {H : Type} {enc : TypeId × Value -> H} {W : World} {fuel : Nat} {v : Value} {d : DataW H} {pl : List MemPlace} (h : DataW.trod enc Tryz.prog W 0 (fun _ => true) true fuel 44 [v] = some (d, pl)) :
  ∃ (aa : Option Addr) (ac : Nat) (l : List Atr), v = .slice aa l.length ac /\ Zag (fun k => k < W.heap.size) W aa l /\ l.length <= ac /\ zcx l + 1 <= Rows.uptoBulk d := by
 obtain ⟨a, n, c, D, hv, hnc, -, hb, hel⟩ := zfg Tryz.underlying44 zp7 (by omega) h
 have each : ∀ i, ∃ s : ByteArray × ByteArray, i < n -> 1 + s.1.toList.length + s.2.toList.length <= Rows.uptoBulk (D i) /\ ∃ g o, a = some ⟨g, o, none⟩ /\ g < W.heap.size /\ W.cell? ⟨g, o + i * 2, none⟩ = some (.string s.1) /\ W.cell? ⟨g, o + i * 2 + 1, none⟩ = some (.string s.2) := by
  intro i
  by_cases hi : i < n
  ·obtain ⟨g, o, cs, fu, pl', e, hg, hl, ht, hc⟩ := hel i hi
   obtain ⟨xs, m, _, hxy, _, hxl, hf⟩ := DataW.trod_struct Tryz.underlying108 ht
   match xs, hxl, cs, hl with
   | [y0, y1], _, [v0, v1], _ =>
    have t0 : DataW.trod enc Tryz.prog W 0 (fun _ => true) true m 9 (([v0, v1].drop 0).take (Tryz.prog.cellsOf 9)) = [y0, y1][0]? := hf 0 _ rfl
    have t1 : DataW.trod enc Tryz.prog W 0 (fun _ => true) true m 9 (([v0, v1].drop 1).take (Tryz.prog.cellsOf 9)) = [y0, y1][1]? := hf 1 _ rfl
    rw [zrp] at t0 t1
    have t0 : DataW.trod enc Tryz.prog W 0 (fun _ => true) true m 9 [v0] = some y0 := t0
    have t1 : DataW.trod enc Tryz.prog W 0 (fun _ => true) true m 9 [v1] = some y1 := t1
    obtain ⟨s, es, xs, _⟩ := DataW.trod_string Tryz.underlying9 t0
    obtain ⟨s', es', xs', _⟩ := DataW.trod_string Tryz.underlying9 t1
    injection es with es
    injection es' with es'
    have hD : D i = .agg [y0.1, y1.1] := by
     have := congrArg Prod.fst hxy
     simpa using this
    refine ⟨(s, s'), fun _ => ⟨?_, g, o, e, hg, ?_, ?_⟩⟩
    ·rw [hD, xs, xs']
     simp only [Rows.uptoBulk, Rows.uptoBulkAll, ByteArray.toList_eq]
     omega
    ·have := hc 0 (by omega); rw [es] at this; exact this
    ·have := hc 1 (by omega); rw [es'] at this; exact this
  ·exact ⟨(ByteArray.empty, ByteArray.empty), fun h => absurd h hi⟩
 obtain ⟨F, hF⟩ := Classical.axiomOfChoice each
 refine ⟨a, c, (List.range n).map fun i => ⟨(F i).1.toList, (F i).2.toList⟩, by rw [hv]; simp, fun j hj => ?_, by simpa using hnc, ?_⟩
 ·have hj' : j < n := by simpa using hj
  obtain ⟨_, g, o, e, hg, c0, c1⟩ := hF j hj'
  refine ⟨g, o, e, hg, ?_, ?_⟩
  ·rw [c0]; simp [sv, ByteArray.toList_eq]
  ·rw [c1]; simp [sv, ByteArray.toList_eq]
 ·rw [zj2]
  have := zdb D (fun i => 1 + (F i).1.toList.length + (F i).2.toList.length) n (fun r hr => (hF r hr).1)
  exact Nat.le_trans (Nat.add_le_add_right this 1) hb
theorem zmm {H : Type} {enc : TypeId × Value -> H} {W : World} {fuel : Nat} {v : Value} {d : DataW H} {pl : List MemPlace} (h : DataW.trod enc Tryz.prog W 0 (fun _ => true) true fuel 33 [v] = some (d, pl)) :
  ∃ (la : Option Addr) (lc : Nat) (l : List Int), v = .slice la l.length lc /\ Zbo (fun k => k < W.heap.size) W la l /\ l.length <= lc /\ l.length + 1 <= Rows.uptoBulk d /\ ∀ z ∈ l, IntKind.i64.min <= z /\ z <= IntKind.i64.max := by
 obtain ⟨a, n, c, D, hv, hnc, -, hb, hel⟩ := zfg Tryz.underlying33 zro (by omega) h
 have each : ∀ i, ∃ z : Int, i < n -> (IntKind.i64.min <= z /\ z <= IntKind.i64.max) /\ ∃ g o, a = some ⟨g, o, none⟩ /\ g < W.heap.size /\ W.cell? ⟨g, o + i, none⟩ = some (.int .i64 z) := by
  intro i
  by_cases hi : i < n
  ·obtain ⟨g, o, cs, fu, pl', e, hg, hl, ht, hc⟩ := hel i hi
   match cs, hl with
   | [v0], _ =>
    obtain ⟨z, ez, _, wz⟩ := DataW.trod_int Tryz.underlying3 ht
    injection ez with ez
    refine ⟨z, fun _ => ⟨by simpa [Lit.wf] using wz, g, o, e, hg, ?_⟩⟩
    have := hc 0 (by omega)
    rw [ez, Nat.mul_one] at this
    exact this
  ·exact ⟨0, fun h => absurd h hi⟩
 obtain ⟨F, hF⟩ := Classical.axiomOfChoice each
 refine ⟨a, c, (List.range n).map F, by rw [hv]; simp, fun j hj => ?_, by simpa using hnc, ?_, fun z hz => ?_⟩
 ·have hj' : j < n := by simpa using hj
  obtain ⟨_, g, o, e, hg, c0⟩ := hF j hj'
  refine ⟨g, o, e, hg, ?_⟩
  rw [c0]; simp
 ·have := zdb D (fun _ => 1) n (fun r hr => zcb _)
  rw [zmi] at this
  simp only [List.length_map, List.length_range]
  omega
 ·obtain ⟨i, hi, rfl⟩ := List.mem_map.1 hz
  exact (hF i (List.mem_range.1 hi)).1
end
section
open Go.ChangeShapes Go.WideShapes Go.ChangeAt Go.RowKit Go.Deep
theorem znd {H : Type} {enc : TypeId × Value -> H} {W : World} {fuel : Nat} {v0 v1 v2 v3 : Value} {d : DataW H} {pl : List MemPlace} (h : DataW.trod enc Tryz.prog W 0 (fun _ => true) true fuel 46 [v0, v1, v2, v3] = some (d, pl)) :
  ∃ (k : Nat) (n t : ByteArray) (aa : Option Addr) (ac : Nat) (l : List Atr), v0 = .int .u8 (k : Int) /\ v1 = .string n /\ v2 = .string t /\ v3 = .slice aa l.length ac /\ k < 256 /\ Zag (fun k => k < W.heap.size) W aa l /\ l.length <= ac /\ n.size + t.size + zcx l <= Rows.uptoBulk d := by
 obtain ⟨xs, m, _, hxy, _, hxl, hf⟩ := DataW.trod_struct Tryz.underlying46 h
 match xs, hxl with
 | [y0, y1, y2, y3], _ =>
  have t0 : DataW.trod enc Tryz.prog W 0 (fun _ => true) true m 5 (([v0, v1, v2, v3].drop 0).take (Tryz.prog.cellsOf 5)) = [y0, y1, y2, y3][0]? := hf 0 _ rfl
  have t1 : DataW.trod enc Tryz.prog W 0 (fun _ => true) true m 9 (([v0, v1, v2, v3].drop 1).take (Tryz.prog.cellsOf 9)) = [y0, y1, y2, y3][1]? := hf 1 _ rfl
  have t2 : DataW.trod enc Tryz.prog W 0 (fun _ => true) true m 9 (([v0, v1, v2, v3].drop 2).take (Tryz.prog.cellsOf 9)) = [y0, y1, y2, y3][2]? := hf 2 _ rfl
  have t3 : DataW.trod enc Tryz.prog W 0 (fun _ => true) true m 44 (([v0, v1, v2, v3].drop 3).take (Tryz.prog.cellsOf 44)) = [y0, y1, y2, y3][3]? := hf 3 _ rfl
  rw [zsi] at t0
  rw [zrp] at t1 t2
  rw [zr8] at t3
  have t0 : DataW.trod enc Tryz.prog W 0 (fun _ => true) true m 5 [v0] = some y0 := t0
  have t1 : DataW.trod enc Tryz.prog W 0 (fun _ => true) true m 9 [v1] = some y1 := t1
  have t2 : DataW.trod enc Tryz.prog W 0 (fun _ => true) true m 9 [v2] = some y2 := t2
  have t3 : DataW.trod enc Tryz.prog W 0 (fun _ => true) true m 44 [v3] = some y3 := t3
  have hd : d = .agg [y0.1, y1.1, y2.1, y3.1] := by
   have := congrArg Prod.fst hxy
   simpa using this
  obtain ⟨z0, e0, _, w0⟩ := DataW.trod_int Tryz.underlying5 t0
  obtain ⟨s1, e1, x1, _⟩ := DataW.trod_string Tryz.underlying9 t1
  obtain ⟨s2, e2, x2, _⟩ := DataW.trod_string Tryz.underlying9 t2
  obtain ⟨aa, ac, l, e3, hA, hac, hb⟩ := zo4 (d := y3.1) (pl := y3.2) t3
  injection e0 with e0
  injection e1 with e1
  injection e2 with e2
  have hb0 : 0 <= z0 /\ z0 <= 255 := by simpa [Lit.wf, IntKind.min, IntKind.max, IntKind.signed, IntKind.bits] using w0
  refine ⟨z0.toNat, s1, s2, aa, ac, l, by rw [e0, Int.toNat_of_nonneg hb0.1], e1, e2, e3, by omega, hA, hac, ?_⟩
  rw [hd, x1, x2]
  have := zcb y0.1
  have q1 : s1.data.toList.length = s1.size := rfl
  have q2 : s2.data.toList.length = s2.size := rfl
  simp only [Rows.uptoBulk, Rows.uptoBulkAll]
  omega
theorem zpz {H : Type} {enc : TypeId × Value -> H} {W : World} {fuel : Nat} {v0 v1 v2 v3 v4 : Value} {d : DataW H} {pl : List MemPlace} (h : DataW.trod enc Tryz.prog W 0 (fun _ => true) true fuel 48 [v0, v1, v2, v3, v4] = some (d, pl)) :
  ∃ f : Fg, v0 = .bool f.a /\ v1 = .bool f.b /\ v2 = .bool f.c /\ v3 = .bool f.d /\ v4 = .bool f.e := by
 obtain ⟨xs, m, _, hxy, _, hxl, hf⟩ := DataW.trod_struct Tryz.underlying48 h
 have get : ∀ (i : Nat) (y : DataW H × List MemPlace) (u : Value), xs[i]? = some y -> DataW.trod enc Tryz.prog W 0 (fun _ => true) true m 4 [u] = xs[i]? -> ∃ b, u = .bool b := fun i y u hy ht => by
  rw [hy] at ht
  obtain ⟨b, e, _⟩ := DataW.trod_bool Tryz.underlying4 ht
  exact ⟨b, by injection e⟩
 match xs, hxl with
 | [y0, y1, y2, y3, y4], _ =>
  have t0 : DataW.trod enc Tryz.prog W 0 (fun _ => true) true m 4 (([v0, v1, v2, v3, v4].drop 0).take (Tryz.prog.cellsOf 4)) = [y0, y1, y2, y3, y4][0]? := hf 0 _ rfl
  have t1 : DataW.trod enc Tryz.prog W 0 (fun _ => true) true m 4 (([v0, v1, v2, v3, v4].drop 1).take (Tryz.prog.cellsOf 4)) = [y0, y1, y2, y3, y4][1]? := hf 1 _ rfl
  have t2 : DataW.trod enc Tryz.prog W 0 (fun _ => true) true m 4 (([v0, v1, v2, v3, v4].drop 2).take (Tryz.prog.cellsOf 4)) = [y0, y1, y2, y3, y4][2]? := hf 2 _ rfl
  have t3 : DataW.trod enc Tryz.prog W 0 (fun _ => true) true m 4 (([v0, v1, v2, v3, v4].drop 3).take (Tryz.prog.cellsOf 4)) = [y0, y1, y2, y3, y4][3]? := hf 3 _ rfl
  have t4 : DataW.trod enc Tryz.prog W 0 (fun _ => true) true m 4 (([v0, v1, v2, v3, v4].drop 4).take (Tryz.prog.cellsOf 4)) = [y0, y1, y2, y3, y4][4]? := hf 4 _ rfl
  rw [zsh] at t0 t1 t2 t3 t4
  obtain ⟨b0, rfl⟩ := get 0 y0 v0 rfl t0
  obtain ⟨b1, rfl⟩ := get 1 y1 v1 rfl t1
  obtain ⟨b2, rfl⟩ := get 2 y2 v2 rfl t2
  obtain ⟨b3, rfl⟩ := get 3 y3 v3 rfl t3
  obtain ⟨b4, rfl⟩ := get 4 y4 v4 rfl t4
  exact ⟨⟨b0, b1, b2, b3, b4⟩, rfl, rfl, rfl, rfl, rfl⟩
theorem zqr {H : Type} {enc : TypeId × Value -> H} {W : World} {fuel : Nat} {cs : List Value} {d : DataW H} {pl : List MemPlace} (hlen : cs.length = 17) (h : DataW.trod enc Tryz.prog W 0 (fun _ => true) true fuel 50 cs = some (d, pl)) :
  ∃ (o : Opx) (A : OpA), cs = opC o A /\ Zp2 (fun k => k < W.heap.size) W A o /\ Zmt o /\ opH o <= Rows.uptoBulk d := by
 obtain ⟨xs, m, _, hxy, _, hxl, hf⟩ := DataW.trod_struct Tryz.underlying50 h
 match xs, hxl, cs, hlen with
 | [y0, y1, y2, y3, y4, y5, y6, y7, y8, y9], _, [v0, v1, v2, v3, v4, v5, v6, v7, v8, v9, v10, v11, v12, v13, v14, v15, v16], _ =>
  have t0 : DataW.trod enc Tryz.prog W 0 (fun _ => true) true m 5 (([v0, v1, v2, v3, v4, v5, v6, v7, v8, v9, v10, v11, v12, v13, v14, v15, v16].drop 0).take (Tryz.prog.cellsOf 5)) = [y0, y1, y2, y3, y4, y5, y6, y7, y8, y9][0]? := hf 0 _ rfl
  have t1 : DataW.trod enc Tryz.prog W 0 (fun _ => true) true m 3 (([v0, v1, v2, v3, v4, v5, v6, v7, v8, v9, v10, v11, v12, v13, v14, v15, v16].drop 1).take (Tryz.prog.cellsOf 3)) = [y0, y1, y2, y3, y4, y5, y6, y7, y8, y9][1]? := hf 1 _ rfl
  have t2 : DataW.trod enc Tryz.prog W 0 (fun _ => true) true m 3 (([v0, v1, v2, v3, v4, v5, v6, v7, v8, v9, v10, v11, v12, v13, v14, v15, v16].drop 2).take (Tryz.prog.cellsOf 3)) = [y0, y1, y2, y3, y4, y5, y6, y7, y8, y9][2]? := hf 2 _ rfl
  have t3 : DataW.trod enc Tryz.prog W 0 (fun _ => true) true m 3 (([v0, v1, v2, v3, v4, v5, v6, v7, v8, v9, v10, v11, v12, v13, v14, v15, v16].drop 3).take (Tryz.prog.cellsOf 3)) = [y0, y1, y2, y3, y4, y5, y6, y7, y8, y9][3]? := hf 3 _ rfl
  have t4 : DataW.trod enc Tryz.prog W 0 (fun _ => true) true m 4 (([v0, v1, v2, v3, v4, v5, v6, v7, v8, v9, v10, v11, v12, v13, v14, v15, v16].drop 4).take (Tryz.prog.cellsOf 4)) = [y0, y1, y2, y3, y4, y5, y6, y7, y8, y9][4]? := hf 4 _ rfl
  have t5 : DataW.trod enc Tryz.prog W 0 (fun _ => true) true m 46 (([v0, v1, v2, v3, v4, v5, v6, v7, v8, v9, v10, v11, v12, v13, v14, v15, v16].drop 5).take (Tryz.prog.cellsOf 46)) = [y0, y1, y2, y3, y4, y5, y6, y7, y8, y9][5]? := hf 5 _ rfl
  have t6 : DataW.trod enc Tryz.prog W 0 (fun _ => true) true m 9 (([v0, v1, v2, v3, v4, v5, v6, v7, v8, v9, v10, v11, v12, v13, v14, v15, v16].drop 9).take (Tryz.prog.cellsOf 9)) = [y0, y1, y2, y3, y4, y5, y6, y7, y8, y9][6]? := hf 6 _ rfl
  have t7 : DataW.trod enc Tryz.prog W 0 (fun _ => true) true m 9 (([v0, v1, v2, v3, v4, v5, v6, v7, v8, v9, v10, v11, v12, v13, v14, v15, v16].drop 10).take (Tryz.prog.cellsOf 9)) = [y0, y1, y2, y3, y4, y5, y6, y7, y8, y9][7]? := hf 7 _ rfl
  have t8 : DataW.trod enc Tryz.prog W 0 (fun _ => true) true m 33 (([v0, v1, v2, v3, v4, v5, v6, v7, v8, v9, v10, v11, v12, v13, v14, v15, v16].drop 11).take (Tryz.prog.cellsOf 33)) = [y0, y1, y2, y3, y4, y5, y6, y7, y8, y9][8]? := hf 8 _ rfl
  have t9 : DataW.trod enc Tryz.prog W 0 (fun _ => true) true m 48 (([v0, v1, v2, v3, v4, v5, v6, v7, v8, v9, v10, v11, v12, v13, v14, v15, v16].drop 12).take (Tryz.prog.cellsOf 48)) = [y0, y1, y2, y3, y4, y5, y6, y7, y8, y9][9]? := hf 9 _ rfl
  rw [zsi] at t0
  rw [zro] at t1
  rw [zro] at t2
  rw [zro] at t3
  rw [zsh] at t4
  rw [zp6] at t5
  rw [zrp] at t6
  rw [zrp] at t7
  rw [zr1] at t8
  rw [zp1] at t9
  have t0 : DataW.trod enc Tryz.prog W 0 (fun _ => true) true m 5 [v0] = some y0 := t0
  have t1 : DataW.trod enc Tryz.prog W 0 (fun _ => true) true m 3 [v1] = some y1 := t1
  have t2 : DataW.trod enc Tryz.prog W 0 (fun _ => true) true m 3 [v2] = some y2 := t2
  have t3 : DataW.trod enc Tryz.prog W 0 (fun _ => true) true m 3 [v3] = some y3 := t3
  have t4 : DataW.trod enc Tryz.prog W 0 (fun _ => true) true m 4 [v4] = some y4 := t4
  have t5 : DataW.trod enc Tryz.prog W 0 (fun _ => true) true m 46 [v5, v6, v7, v8] = some y5 := t5
  have t6 : DataW.trod enc Tryz.prog W 0 (fun _ => true) true m 9 [v9] = some y6 := t6
  have t7 : DataW.trod enc Tryz.prog W 0 (fun _ => true) true m 9 [v10] = some y7 := t7
  have t8 : DataW.trod enc Tryz.prog W 0 (fun _ => true) true m 33 [v11] = some y8 := t8
  have t9 : DataW.trod enc Tryz.prog W 0 (fun _ => true) true m 48 [v12, v13, v14, v15, v16] = some y9 := t9
  have hd : d = .agg [y0.1, y1.1, y2.1, y3.1, y4.1, y5.1, y6.1, y7.1, y8.1, y9.1] := by
   have := congrArg Prod.fst hxy
   simpa using this
  obtain ⟨z0, e0, _, w0⟩ := DataW.trod_int Tryz.underlying5 t0
  obtain ⟨z1, e1, _, w1⟩ := DataW.trod_int Tryz.underlying3 t1
  obtain ⟨z2, e2, _, w2⟩ := DataW.trod_int Tryz.underlying3 t2
  obtain ⟨z3, e3, _, w3⟩ := DataW.trod_int Tryz.underlying3 t3
  obtain ⟨b4, e4, _⟩ := DataW.trod_bool Tryz.underlying4 t4
  obtain ⟨nk, nn, nd, aa, ac, l, rfl, rfl, rfl, rfl, hnk, hA, hac, hb5⟩ := znd (d := y5.1) (pl := y5.2) t5
  obtain ⟨s6, e6, x6, _⟩ := DataW.trod_string Tryz.underlying9 t6
  obtain ⟨s7, e7, x7, _⟩ := DataW.trod_string Tryz.underlying9 t7
  obtain ⟨la, lc, li, rfl, hL, hlc, hb8, hli⟩ := zmm (d := y8.1) (pl := y8.2) t8
  obtain ⟨f, rfl, rfl, rfl, rfl, rfl⟩ := zpz (d := y9.1) (pl := y9.2) t9
  injection e0 with e0
  injection e1 with e1
  injection e2 with e2
  injection e3 with e3
  injection e4 with e4
  injection e6 with e6
  injection e7 with e7
  subst e0 e1 e2 e3 e4 e6 e7
  have hb0 : 0 <= z0 /\ z0 <= 255 := by simpa [Lit.wf, IntKind.min, IntKind.max, IntKind.signed, IntKind.bits] using w0
  refine ⟨⟨z0.toNat, z1, z2, z3, b4, nk, nn, nd, l, s6, s7, li, f⟩, ⟨aa, ac, la, lc⟩, ?_, ⟨hA, hac, hL, hlc⟩, ⟨by show z0.toNat < 256; omega, hnk, by simpa [Lit.wf] using w1, by simpa [Lit.wf] using w2, by simpa [Lit.wf] using w3, hli⟩, ?_⟩
  ·simp only [opC, Int.toNat_of_nonneg hb0.1]
  ·rw [hd, x6, x7]
   have p0 := zcb y0.1
   have p1 := zcb y1.1
   have p2 := zcb y2.1
   have p3 := zcb y3.1
   have p4 := zcb y4.1
   have p9 := zcb y9.1
   have q1 : s6.data.toList.length = s6.size := rfl
   have q2 : s7.data.toList.length = s7.size := rfl
   simp only [Rows.uptoBulk, Rows.uptoBulkAll, opH]
   omega
theorem zrn {H : Type} {enc : TypeId × Value -> H} {W : World} {fuel : Nat} {v : Value} {d : DataW H} {pl : List MemPlace} (h : DataW.trod enc Tryz.prog W 0 (fun _ => true) true fuel 22 [v] = some (d, pl)) :
  ∃ (a : Option Addr) (c : Nat) (l : List Opx), v = .slice a l.length c /\ Zf4 (fun k => k < W.heap.size) W a l /\ (∀ o ∈ l, Zmt o) /\ l.length <= maxLen /\ zdg l <= Rows.uptoBulk d := by
 obtain ⟨a, n, c, D, hv, hnc, hnm, hb, hel⟩ := zfg Tryz.underlying22 zqp (by omega) h
 have each : ∀ i, ∃ q : Opx × OpA, i < n -> opH q.1 <= Rows.uptoBulk (D i) /\ Zmt q.1 /\ ∃ g o, a = some ⟨g, o, none⟩ /\ g < W.heap.size /\ Zp2 (fun k => k < W.heap.size) W q.2 q.1 /\ ∀ f u, (opC q.1 q.2)[f]? = some u -> W.cell? ⟨g, o + i * 17 + f, none⟩ = some u := by
  intro i
  by_cases hi : i < n
  ·obtain ⟨g, o, cs, fu, pl', e, hg, hl, ht, hc⟩ := hel i hi
   obtain ⟨x, A, rfl, hA, hok, hbx⟩ := zqr hl ht
   refine ⟨(x, A), fun _ => ⟨hbx, hok, g, o, e, hg, hA, fun f u hu => ?_⟩⟩
   have hf : f < 17 := by
    rcases Nat.lt_or_ge f 17 with hh | hh
    ·exact hh
    ·rw [List.getElem?_eq_none (by show (opC x A).length <= f; exact hh)] at hu; cases hu
   rw [hc f hf]; exact hu
  ·exact ⟨(⟨0, 0, 0, 0, false, 0, ByteArray.empty, ByteArray.empty, [], ByteArray.empty, ByteArray.empty, [], ⟨false, false, false, false, false⟩⟩, ⟨none, 0, none, 0⟩), fun h => absurd h hi⟩
 obtain ⟨F, hF⟩ := Classical.axiomOfChoice each
 refine ⟨a, c, (List.range n).map fun i => (F i).1, by rw [hv]; simp, fun j hj => ?_, fun o ho => ?_, by simpa using hnm, ?_⟩
 ·have hj' : j < n := by simpa using hj
  obtain ⟨_, _, g, o, e, hg, hA, hc⟩ := hF j hj'
  have ej : ((List.range n).map fun i => (F i).1)[j] = (F j).1 := by simp
  rw [ej]
  exact ⟨g, o, (F j).2, e, hg, hA, hc⟩
 ·obtain ⟨i, hi, rfl⟩ := List.mem_map.1 ho
  exact (hF i (List.mem_range.1 hi)).2.1
 ·rw [zj3]
  have := zdb D (fun i => opH (F i).1) n (fun r hr => (hF r hr).1)
  omega
end
section
open Go.RowKit
theorem zdk (k : Int) (n : Nat) (h1 : 1 <= n) (hn : n <= 1000000) (w : World) : Calls Tryz.prog 167 #[.int .i64 k, .int .i64 (n : Int)] w fun e w' => e = .returned (.int .i64 ((k.toNat % n : Nat) : Int)) /\ w' = w := by
 have n0 : ((n : Int) == 0) = false := by simp; omega
 by_cases hk : k < 0
 ·have e2 : k.toNat % n = 0 := by
   have : k.toNat = 0 := by omega
   rw [this, Nat.zero_mod]
  have hk' : ¬ 0 <= k := by omega
  rw [e2]
  clear e2
  go_enter Tryz.func167, Tryz.ntmps167
  go_wp2
  go_ret
  exact ⟨rfl, rfl⟩
 ·obtain ⟨m, rfl⟩ : ∃ m : Nat, k = (m : Int) := ⟨k.toNat, by omega⟩
  clear hk
  go_enter Tryz.func167, Tryz.ntmps167
  go_wp2
  go_ret
  exact ⟨by simp, rfl⟩
def zr2 : List ByteArray := [⟨#[100, 105, 118]⟩, ⟨#[115, 112, 97, 110]⟩, ⟨#[115, 108, 111, 116]⟩, ⟨#[116, 101, 109, 112, 108, 97, 116, 101]⟩, ⟨#[120, 45, 97]⟩, ⟨#[115, 101, 99, 116, 105, 111, 110]⟩, ⟨#[112]⟩, ⟨#[98, 114]⟩, ⟨#[98]⟩, ⟨#[97, 114, 116, 105, 99, 108, 101]⟩]
def zh0 (i : Nat) : ByteArray := zr2.getD i ⟨#[]⟩
theorem zmx (k : Nat) (hk : k < 256) (w : World) : Calls Tryz.prog 184 #[.int .u8 (k : Int)] w fun e w' => e = .returned (.string (zh0 (k % 10))) /\ Kept (fun j => j < w.heap.size) w w' := by
 have HK : Hid (∀ o, Kept (fun k => k < w.heap.size) w (w.alloc o)) := fun o => (Kept.refl _ w).alloc (fun _ h => h) o
 obtain ⟨r, hr⟩ : ∃ r, k % 10 = r := ⟨_, rfl⟩
 have hr' : (k : Int).tmod 10 = (r : Int) := by rw [<- hr]; rfl
 have h10 : r < 10 := by omega
 rw [hr]
 clear hr hk
 go_enter Tryz.func184, Tryz.ntmps184
 go_wp2
 go_ret
 refine ⟨?_, HK.out _⟩
 match r, h10 with
 | 0, _ => rfl
 | 1, _ => rfl
 | 2, _ => rfl
 | 3, _ => rfl
 | 4, _ => rfl
 | 5, _ => rfl
 | 6, _ => rfl
 | 7, _ => rfl
 | 8, _ => rfl
 | 9, _ => rfl
def Opx.nKind (o : Opx) : Nat := if o.inn = false then o.nk else if o.nk % 8 = 1 \/ o.nk % 8 = 2 then 2 else if o.nk % 8 = 3 then 4 else 1
def Opx.nName (o : Opx) : ByteArray := if o.inn = false then o.nn else if o.nk % 8 = 1 \/ o.nk % 8 = 2 \/ o.nk % 8 = 3 then ⟨#[]⟩ else zh0 ((o.nn.size % 256 + o.nk / 8) % 256 % 10)
def Opx.nData (o : Opx) : ByteArray := if o.inn = false then o.nd else if o.nk % 8 = 1 \/ o.nk % 8 = 2 then o.nd else ⟨#[]⟩
def Opx.nAts (o : Opx) : List Atr := if o.inn = false then o.ats else []
def OpA.nAa (A : OpA) (o : Opx) : Option Addr := if o.inn = false then A.aa else none
def OpA.nAc (A : OpA) (o : Opx) : Nat := if o.inn = false then A.ac else 0
abbrev zar (kd : Int) (S D : ByteArray) (aa : Option Addr) (an ac : Nat) : Array Value := #[.int .u8 kd, .string S, .string D, .slice aa an ac, .int .i64 0, .slice none 0 0, .int .i64 0, .int .i64 0, .int .i64 0, .bool false, .bool false, .bool false, .bool false, .bool false]
theorem zix (kd : Int) (S D : ByteArray) (aa : Option Addr) (an ac : Nat) : Tryz.prog.built 58 [(0, .int .u8 kd), (1, .string S), (2, .string D), (3, .slice aa an ac)] = some (zar kd S D aa an ac) := by kernel_rfl
theorem zp4 (S : ByteArray) : Tryz.prog.built 58 [(0, .int .u8 1), (1, .string S)] = some (zar 1 S ⟨#[]⟩ none 0 0) := by kernel_rfl
theorem zp5 (D : ByteArray) : Tryz.prog.built 58 [(0, .int .u8 2), (2, .string D)] = some (zar 2 ⟨#[]⟩ D none 0 0) := by kernel_rfl
theorem zpx : Tryz.prog.built 58 [(0, .int .u8 4)] = some (zar 4 ⟨#[]⟩ ⟨#[]⟩ none 0 0) := by kernel_rfl
theorem zf7 (w : World) (a b c : Obj) : (((w.alloc a).alloc b).alloc c).heap[w.heap.size + 1]? = some b := by
 rw [Below.heap_alloc _ _ _ (by simp)]
 have := heap_alloc_new (w.alloc a) b
 simpa using this
theorem zgg (w : World) (a b c : Obj) : Kept (fun j => j < w.heap.size) w (((w.alloc a).alloc b).alloc c) :=
 (((Kept.refl _ w).alloc (fun _ h => h) a).alloc (fun k h => by simp; omega) b).alloc (fun k h => by simp; omega) c
theorem zpf (o : Opx) (A : OpA) (ho : o.inn = false) (w : World) : Calls Tryz.prog 105 #[.agg #[.int .u8 (o.nk : Int), .string o.nn, .string o.nd, .slice A.aa o.ats.length A.ac], .bool o.inn] w fun e w' => e = .returned (.agg (zar (o.nKind : Int) o.nName o.nData (A.nAa o) o.nAts.length (A.nAc o))) /\ Kept (fun j => j < w.heap.size) w w' := by
 have e1 : o.nKind = o.nk := if_pos ho
 have e2 : o.nName = o.nn := if_pos ho
 have e3 : o.nData = o.nd := if_pos ho
 have e4 : o.nAts = o.ats := if_pos ho
 have e5 : A.nAa o = A.aa := if_pos ho
 have e6 : A.nAc o = A.ac := if_pos ho
 rw [e1, e2, e3, e4, e5, e6, ho]
 obtain ⟨n, hn⟩ : ∃ n, o.ats.length = n := ⟨_, rfl⟩
 rw [hn]
 have hbu := zix (o.nk : Int) o.nn o.nd A.aa n A.ac
 clear ho e1 e2 e3 e4 e5 e6 hn
 go_enter Tryz.func105, Tryz.ntmps105
 go_wp2
 refine bodyPost_ret (results_cell_row (p := 4) (ty := 58) rfl _ _ (w.heap.size + 1) 58 _ _ _ rfl (zf7 _ _ _ _) Tryz.underlying58 rfl (by kernel_rfl)) rfl ?_
 exact ⟨rfl, zgg _ _ _ _⟩
def Zb1 (w : World) (N : Nat) (m : Array Value) (y : Array Value) (X : World) : Prop :=
 X.heap[N]? = some (.cells m 46 (0, 0)) /\ (∃ z : Array Value, z.size = 14 /\ X.heap[N + 1]? = some (.cells z 58 (0, 0))) /\ X.heap[N + 1 + 1]? = some (.cells y 58 (0, 0)) /\ Kept (fun j => j < N) w X
theorem Zb1.kept {w X X' : World} {N : Nat} {m y : Array Value} (h : Zb1 w N m y X) (hk : Kept (fun j => j < X.heap.size) X X') (hN : w.heap.size = N) : Zb1 w N m y X' := by
 obtain ⟨h1, ⟨z, hz, h2⟩, h3, h4⟩ := h
 have l1 := zad h1
 have l2 := zad h2
 have l3 := zad h3
 exact ⟨by rw [hk.block N l1]; exact h1, ⟨z, hz, by rw [hk.block (N + 1) l2]; exact h2⟩, by rw [hk.block (N + 1 + 1) l3]; exact h3, h4.trans (hk.mono fun k h => by omega)⟩
theorem Zb1.row {w X : World} {N : Nat} {m y : Array Value} (h : Zb1 w N m y X) (y' : Array Value) : Zb1 w N m y' (X.setRow (N + 1 + 1) y') := by
 obtain ⟨h1, ⟨z, hz, h2⟩, h3, h4⟩ := h
 exact ⟨by rw [setRow_other _ _ _ _ (by omega)]; exact h1, ⟨z, hz, by rw [setRow_other _ _ _ _ (by omega)]; exact h2⟩, setRow_heap _ _ _ _ _ _ h3, zaq h4 (by omega) _⟩
theorem Zb1.ans {w X : World} {N : Nat} {m y : Array Value} (h : Zb1 w N m y X) (y' : Array Value) : (X.setRow (N + 1) y').heap[N + 1]? = some (.cells y' 58 (0, 0)) /\ Kept (fun j => j < N) w (X.setRow (N + 1) y') := by
 obtain ⟨h1, ⟨z, hz, h2⟩, h3, h4⟩ := h
 exact ⟨setRow_heap _ _ _ _ _ _ h2, zaq h4 (by omega) _⟩
theorem zb0 (cs : Array Value) (h : cs.size = 14) : (Tryz.prog.info? 58).map (·.size) = some cs.size := by rw [h]; kernel_rfl
theorem zbx (kd : Int) (S D : ByteArray) (aa : Option Addr) (an ac : Nat) : (zar kd S D aa an ac).all (·.oneCell') = true := by kernel_rfl
theorem zqo (o : Opx) (A : OpA) (ho : o.inn = true) (hk : o.nk < 256) (hs : o.nn.size <= 1000000) (w : World) : Calls Tryz.prog 105 #[.agg #[.int .u8 (o.nk : Int), .string o.nn, .string o.nd, .slice A.aa o.ats.length A.ac], .bool o.inn] w fun e w' => e = .returned (.agg (zar (o.nKind : Int) o.nName o.nData (A.nAa o) o.nAts.length (A.nAc o))) /\ Kept (fun j => j < w.heap.size) w w' := by
 have hi : ¬ o.inn = false := by rw [ho]; decide
 have e4 : o.nAts = [] := if_neg hi
 have e5 : A.nAa o = none := if_neg hi
 have e6 : A.nAc o = 0 := if_neg hi
 rw [e4, e5, e6]
 unfold Opx.nKind Opx.nName Opx.nData
 simp only [if_neg hi]
 rw [ho]
 obtain ⟨n, hn⟩ : ∃ n, o.ats.length = n := ⟨_, rfl⟩
 obtain ⟨nk, hnk⟩ : ∃ nk, o.nk = nk := ⟨_, rfl⟩
 obtain ⟨nn, hnn⟩ : ∃ nn, o.nn = nn := ⟨_, rfl⟩
 obtain ⟨nd, hnd⟩ : ∃ nd, o.nd = nd := ⟨_, rfl⟩
 obtain ⟨aa, haa⟩ : ∃ aa, A.aa = aa := ⟨_, rfl⟩
 obtain ⟨ac, hac⟩ : ∃ ac, A.ac = ac := ⟨_, rfl⟩
 rw [hn, hnk, hnn, hnd, haa, hac]
 rw [hnk] at hk
 rw [hnn] at hs
 clear hn hnk hnn hnd e4 e5 e6 hi ho haa hac
 obtain ⟨r, hr⟩ : ∃ r, nk % 8 = r := ⟨_, rfl⟩
 have hr' : (nk : Int).tmod 8 = (r : Int) := by rw [<- hr]; rfl
 have h8 : r < 8 := by omega
 obtain ⟨q, hqe⟩ : ∃ q, nk / 8 = q := ⟨_, rfl⟩
 have hq : (nk : Int).tdiv 8 = (q : Int) := by rw [<- hqe]; rfl
 have hq32 : q < 32 := by omega
 obtain ⟨m, hm⟩ : ∃ m, nn.size % 256 = m := ⟨_, rfl⟩
 have hm6 : m < 256 := by omega
 obtain ⟨x, hx⟩ : ∃ x, (m + q) % 256 = x := ⟨_, rfl⟩
 have hx6 : x < 256 := by omega
 rw [hr, hm, hqe, hx]
 obtain ⟨kd', hkd'⟩ : ∃ k : Nat, (if r = 1 \/ r = 2 then 2 else if r = 3 then 4 else 1) = k := ⟨_, rfl⟩
 obtain ⟨S', hS'⟩ : ∃ k : ByteArray, (if r = 1 \/ r = 2 \/ r = 3 then ⟨#[]⟩ else zh0 (x % 10)) = k := ⟨_, rfl⟩
 obtain ⟨D', hD'⟩ : ∃ k : ByteArray, (if r = 1 \/ r = 2 then nd else ⟨#[]⟩) = k := ⟨_, rfl⟩
 rw [hkd', hS', hD']
 have HKD : Hid ((if r = 1 \/ r = 2 then 2 else if r = 3 then 4 else 1) = kd') := hkd'
 have HSN : Hid ((if r = 1 \/ r = 2 \/ r = 3 then ⟨#[]⟩ else zh0 (x % 10)) = S') := hS'
 have HDT : Hid ((if r = 1 \/ r = 2 then nd else ⟨#[]⟩) = D') := hD'
 clear hkd' hS' hD'
 have rn := fun X => zmx x hx6 X
 obtain ⟨N, hN⟩ : ∃ N, w.heap.size = N := ⟨_, rfl⟩
 have HN : Hid (w.heap.size = N) := hN
 have bu4 := zix (nk : Int) nn nd aa n ac
 have bu2 := fun S => zp4 S
 have but := zp5 nd
 have buf := zpx
 obtain ⟨W3, hW3⟩ : ∃ W3, ((w.alloc (.cells #[.int .u8 (nk : Int), .string nn, .string nd, .slice aa n ac] 46)).alloc (.cells (zar 0 ⟨#[]⟩ ⟨#[]⟩ none 0 0) 58)).alloc (.cells (zar (nk : Int) nn nd aa n ac) 58) = W3 := ⟨_, rfl⟩
 have HW3 : Hid (((w.alloc (.cells #[.int .u8 (nk : Int), .string nn, .string nd, .slice aa n ac] 46)).alloc (.cells (zar 0 ⟨#[]⟩ ⟨#[]⟩ none 0 0) 58)).alloc (.cells (zar (nk : Int) nn nd aa n ac) 58) = W3) := hW3
 have st3 : Zb1 w N #[.int .u8 (nk : Int), .string nn, .string nd, .slice aa n ac] (zar (nk : Int) nn nd aa n ac) W3 := by
  rw [<- hW3, <- hN]
  refine ⟨?_, ⟨_, rfl, zf7 _ _ _ _⟩, ?_, zgg _ _ _ _⟩
  ·rw [Below.heap_alloc _ _ _ (by simp; omega), Below.heap_alloc _ _ _ (by simp)]
   exact heap_alloc_new w _
  ·have := heap_alloc_new ((w.alloc (.cells #[.int .u8 (nk : Int), .string nn, .string nd, .slice aa n ac] 46)).alloc (.cells (zar 0 ⟨#[]⟩ ⟨#[]⟩ none 0 0) 58)) (.cells (zar (nk : Int) nn nd aa n ac) 58)
   simpa using this
 have c0 : W3.cell? ⟨N, 0, none⟩ = some (.int .u8 (nk : Int)) := by rw [zaa st3.1]; rfl
 have c1 : W3.cell? ⟨N, 1, none⟩ = some (.string nn) := by rw [zaa st3.1]; rfl
 have ST3 : Hid (Zb1 w N #[.int .u8 (nk : Int), .string nn, .string nd, .slice aa n ac] (zar (nk : Int) nn nd aa n ac) W3) := st3
 have HX : Hid ((m + q) % 256 = x) := hx
 have HM : Hid (nn.size % 256 = m) := hm
 clear hr hqe hN hW3 st3 hx hm
 have hcv : (convert 3 5 (.int .i64 (nn.size : Int))).run Tryz.prog W3 = .ok (.int .u8 (m : Int)) W3 := by
  rw [<- HM.out]
  have : ((nn.size % 256 : Nat) : Int) = IntKind.u8.wrap (nn.size : Int) := by simp [IntKind.wrap, IntKind.bits, IntKind.signed]
  rw [this]
  simp [convert, Conv.intToInt]
 have hwr : IntKind.u8.wrap ((m : Int) + (q : Int)) = (x : Int) := by
  rw [<- HX.out]
  simp [IntKind.wrap, IntKind.bits, IntKind.signed]
 go_enter Tryz.func105, Tryz.ntmps105
 go_upto_region 3 with fail
 rw [HW3.out, HN.out]
 clear HW3
 go_wp2_with fail
 refine (rn W3).mono ?_
 rintro e w1 ⟨rfl, k1⟩
 have st1 := ST3.out.kept k1 HN.out
 have ST1 : Hid (Zb1 w N #[.int .u8 (nk : Int), .string nn, .string nd, .slice aa n ac] (zar (nk : Int) nn nd aa n ac) w1) := st1
 obtain ⟨S, hS⟩ : ∃ S, zh0 (x % 10) = S := ⟨_, rfl⟩
 rw [hS]
 have HS : Hid (zh0 (x % 10) = S) := hS
 have bu2' := bu2 S
 have hN2 := st1.2.2.1
 have st2 := st1.row (zar 1 S ⟨#[]⟩ none 0 0)
 obtain ⟨W4, hW4⟩ : ∃ W4, w1.setRow (N + 1 + 1) (zar 1 S ⟨#[]⟩ none 0 0) = W4 := ⟨_, rfl⟩
 rw [hW4] at st2
 have d0 : W4.cell? ⟨N, 0, none⟩ = some (.int .u8 (nk : Int)) := by rw [zaa st2.1]; rfl
 have d2 : W4.cell? ⟨N, 2, none⟩ = some (.string nd) := by rw [zaa st2.1]; rfl
 have HW4 : Hid (w1.setRow (N + 1 + 1) (zar 1 S ⟨#[]⟩ none 0 0) = W4) := hW4
 have HST : Hid (Zb1 w N #[.int .u8 (nk : Int), .string nn, .string nd, .slice aa n ac] (zar 1 S ⟨#[]⟩ none 0 0) W4) := st2
 clear rn hcv hwr c0 c1 k1 st1 st2 bu4 bu2 hS hW4
 go_upto_region 4 with (refine wpList_store_row rfl 58 _ _ rfl (N + 1 + 1) (zar 1 S ⟨#[]⟩ none 0 0) rfl rfl 58 _ hN2 (zb0 _ rfl) rfl (zbx _ _ _ _ _ _) ?_)
 rw [HW4.out]
 clear HW4 hN2 bu2' HX HM
 by_cases r1 : r = 1
 ·subst r1
  have hN4 := HST.out.2.2.1
  have st5 := HST.out.row (zar 2 ⟨#[]⟩ nd none 0 0)
  obtain ⟨Wf, hWf⟩ : ∃ Wf, W4.setRow (N + 1 + 1) (zar 2 ⟨#[]⟩ nd none 0 0) = Wf := ⟨_, rfl⟩
  rw [hWf] at st5
  have f0 : Wf.cell? ⟨N, 0, none⟩ = some (.int .u8 (nk : Int)) := by rw [zaa st5.1]; rfl
  have HWf : Hid (W4.setRow (N + 1 + 1) (zar 2 ⟨#[]⟩ nd none 0 0) = Wf) := hWf
  have HSTf : Hid (Zb1 w N #[.int .u8 (nk : Int), .string nn, .string nd, .slice aa n ac] (zar 2 ⟨#[]⟩ nd none 0 0) Wf) := st5
  clear st5 hWf
  go_upto_region 6 with (refine wpList_store_row rfl 58 _ _ rfl (N + 1 + 1) (zar 2 ⟨#[]⟩ nd none 0 0) rfl rfl 58 _ hN4 (zb0 _ rfl) rfl (zbx _ _ _ _ _ _) ?_)
  rw [HWf.out]
  clear HWf hN4
  obtain ⟨z, hz, hz1⟩ := HSTf.out.2.1
  have hy := HSTf.out.2.2.1
  obtain ⟨ha, hka⟩ := HSTf.out.ans (zar 2 ⟨#[]⟩ nd none 0 0)
  have HA : Hid ((Wf.setRow (N + 1) (zar 2 ⟨#[]⟩ nd none 0 0)).heap[N + 1]? = some (.cells (zar 2 ⟨#[]⟩ nd none 0 0) 58 (0, 0))) := ha
  have HKA : Hid (Kept (fun j => j < N) w (Wf.setRow (N + 1) (zar 2 ⟨#[]⟩ nd none 0 0))) := hka
  clear ha hka
  go_wp2_with (first | (refine wpList_load_row rfl 58 _ rfl (N + 1 + 1) rfl 58 (zar 2 ⟨#[]⟩ nd none 0 0) (0, 0) _ hy Tryz.underlying58 rfl (zb0 _ rfl) ?_) | (refine wpList_store_row rfl 58 _ _ rfl (N + 1) (zar 2 ⟨#[]⟩ nd none 0 0) rfl rfl 58 z hz1 (zb0 _ rfl) hz (zbx _ _ _ _ _ _) ?_))
  refine bodyPost_ret (results_cell_row (p := 4) (ty := 58) rfl _ _ (N + 1) 58 _ _ _ rfl HA.out Tryz.underlying58 rfl (zb0 _ rfl)) rfl ?_
  exact ⟨by rw [<- HKD.out, <- HSN.out, <- HDT.out, if_pos (by simp), if_pos (by simp), if_pos (by simp)]; rfl, by rw [HN.out]; exact HKA.out⟩
 by_cases r2 : r = 2
 ·subst r2
  have hN4 := HST.out.2.2.1
  have st5 := HST.out.row (zar 2 ⟨#[]⟩ nd none 0 0)
  obtain ⟨Wf, hWf⟩ : ∃ Wf, W4.setRow (N + 1 + 1) (zar 2 ⟨#[]⟩ nd none 0 0) = Wf := ⟨_, rfl⟩
  rw [hWf] at st5
  have f0 : Wf.cell? ⟨N, 0, none⟩ = some (.int .u8 (nk : Int)) := by rw [zaa st5.1]; rfl
  have HWf : Hid (W4.setRow (N + 1 + 1) (zar 2 ⟨#[]⟩ nd none 0 0) = Wf) := hWf
  have HSTf : Hid (Zb1 w N #[.int .u8 (nk : Int), .string nn, .string nd, .slice aa n ac] (zar 2 ⟨#[]⟩ nd none 0 0) Wf) := st5
  clear st5 hWf
  go_upto_region 6 with (refine wpList_store_row rfl 58 _ _ rfl (N + 1 + 1) (zar 2 ⟨#[]⟩ nd none 0 0) rfl rfl 58 _ hN4 (zb0 _ rfl) rfl (zbx _ _ _ _ _ _) ?_)
  rw [HWf.out]
  clear HWf hN4
  obtain ⟨z, hz, hz1⟩ := HSTf.out.2.1
  have hy := HSTf.out.2.2.1
  obtain ⟨ha, hka⟩ := HSTf.out.ans (zar 2 ⟨#[]⟩ nd none 0 0)
  have HA : Hid ((Wf.setRow (N + 1) (zar 2 ⟨#[]⟩ nd none 0 0)).heap[N + 1]? = some (.cells (zar 2 ⟨#[]⟩ nd none 0 0) 58 (0, 0))) := ha
  have HKA : Hid (Kept (fun j => j < N) w (Wf.setRow (N + 1) (zar 2 ⟨#[]⟩ nd none 0 0))) := hka
  clear ha hka
  go_wp2_with (first | (refine wpList_load_row rfl 58 _ rfl (N + 1 + 1) rfl 58 (zar 2 ⟨#[]⟩ nd none 0 0) (0, 0) _ hy Tryz.underlying58 rfl (zb0 _ rfl) ?_) | (refine wpList_store_row rfl 58 _ _ rfl (N + 1) (zar 2 ⟨#[]⟩ nd none 0 0) rfl rfl 58 z hz1 (zb0 _ rfl) hz (zbx _ _ _ _ _ _) ?_))
  refine bodyPost_ret (results_cell_row (p := 4) (ty := 58) rfl _ _ (N + 1) 58 _ _ _ rfl HA.out Tryz.underlying58 rfl (zb0 _ rfl)) rfl ?_
  exact ⟨by rw [<- HKD.out, <- HSN.out, <- HDT.out, if_pos (by simp), if_pos (by simp), if_pos (by simp)]; rfl, by rw [HN.out]; exact HKA.out⟩
 have n1 : ((r : Int) == 1) = false := by simp; omega
 have n2 : ((r : Int) == 2) = false := by simp; omega
 by_cases r3 : r = 3
 ·subst r3
  have hN4 := HST.out.2.2.1
  have st5 := HST.out.row (zar 4 ⟨#[]⟩ ⟨#[]⟩ none 0 0)
  obtain ⟨Wf, hWf⟩ : ∃ Wf, W4.setRow (N + 1 + 1) (zar 4 ⟨#[]⟩ ⟨#[]⟩ none 0 0) = Wf := ⟨_, rfl⟩
  rw [hWf] at st5
  have f0 : Wf.cell? ⟨N, 0, none⟩ = some (.int .u8 (nk : Int)) := by rw [zaa st5.1]; rfl
  have HWf : Hid (W4.setRow (N + 1 + 1) (zar 4 ⟨#[]⟩ ⟨#[]⟩ none 0 0) = Wf) := hWf
  have HSTf : Hid (Zb1 w N #[.int .u8 (nk : Int), .string nn, .string nd, .slice aa n ac] (zar 4 ⟨#[]⟩ ⟨#[]⟩ none 0 0) Wf) := st5
  clear st5 hWf
  go_upto_region 8 with (refine wpList_store_row rfl 58 _ _ rfl (N + 1 + 1) (zar 4 ⟨#[]⟩ ⟨#[]⟩ none 0 0) rfl rfl 58 _ hN4 (zb0 _ rfl) rfl (zbx _ _ _ _ _ _) ?_)
  rw [HWf.out]
  clear HWf hN4
  obtain ⟨z, hz, hz1⟩ := HSTf.out.2.1
  have hy := HSTf.out.2.2.1
  obtain ⟨ha, hka⟩ := HSTf.out.ans (zar 4 ⟨#[]⟩ ⟨#[]⟩ none 0 0)
  have HA : Hid ((Wf.setRow (N + 1) (zar 4 ⟨#[]⟩ ⟨#[]⟩ none 0 0)).heap[N + 1]? = some (.cells (zar 4 ⟨#[]⟩ ⟨#[]⟩ none 0 0) 58 (0, 0))) := ha
  have HKA : Hid (Kept (fun j => j < N) w (Wf.setRow (N + 1) (zar 4 ⟨#[]⟩ ⟨#[]⟩ none 0 0))) := hka
  clear ha hka
  go_wp2_with (first | (refine wpList_load_row rfl 58 _ rfl (N + 1 + 1) rfl 58 (zar 4 ⟨#[]⟩ ⟨#[]⟩ none 0 0) (0, 0) _ hy Tryz.underlying58 rfl (zb0 _ rfl) ?_) | (refine wpList_store_row rfl 58 _ _ rfl (N + 1) (zar 4 ⟨#[]⟩ ⟨#[]⟩ none 0 0) rfl rfl 58 z hz1 (zb0 _ rfl) hz (zbx _ _ _ _ _ _) ?_))
  refine bodyPost_ret (results_cell_row (p := 4) (ty := 58) rfl _ _ (N + 1) 58 _ _ _ rfl HA.out Tryz.underlying58 rfl (zb0 _ rfl)) rfl ?_
  exact ⟨by rw [<- HKD.out, <- HSN.out, <- HDT.out, if_neg (by simp), if_pos trivial, if_pos (by simp), if_neg (by simp)]; rfl, by rw [HN.out]; exact HKA.out⟩
 ·have n3 : ((r : Int) == 3) = false := by simp; omega
  obtain ⟨Wf, hWf⟩ : ∃ Wf, W4 = Wf := ⟨_, rfl⟩
  have HSTf : Hid (Zb1 w N #[.int .u8 (nk : Int), .string nn, .string nd, .slice aa n ac] (zar 1 S ⟨#[]⟩ none 0 0) Wf) := by rw [<- hWf]; exact HST
  subst hWf
  go_upto_region 8 with fail
  obtain ⟨z, hz, hz1⟩ := HSTf.out.2.1
  have hy := HSTf.out.2.2.1
  obtain ⟨ha, hka⟩ := HSTf.out.ans (zar 1 S ⟨#[]⟩ none 0 0)
  have HA : Hid ((W4.setRow (N + 1) (zar 1 S ⟨#[]⟩ none 0 0)).heap[N + 1]? = some (.cells (zar 1 S ⟨#[]⟩ none 0 0) 58 (0, 0))) := ha
  have HKA : Hid (Kept (fun j => j < N) w (W4.setRow (N + 1) (zar 1 S ⟨#[]⟩ none 0 0))) := hka
  clear ha hka
  go_wp2_with (first | (refine wpList_load_row rfl 58 _ rfl (N + 1 + 1) rfl 58 (zar 1 S ⟨#[]⟩ none 0 0) (0, 0) _ hy Tryz.underlying58 rfl (zb0 _ rfl) ?_) | (refine wpList_store_row rfl 58 _ _ rfl (N + 1) (zar 1 S ⟨#[]⟩ none 0 0) rfl rfl 58 z hz1 (zb0 _ rfl) hz (zbx _ _ _ _ _ _) ?_))
  refine bodyPost_ret (results_cell_row (p := 4) (ty := 58) rfl _ _ (N + 1) 58 _ _ _ rfl HA.out Tryz.underlying58 rfl (zb0 _ rfl)) rfl ?_
  exact ⟨by rw [<- HKD.out, <- HSN.out, <- HDT.out, if_neg (by omega), if_neg (by omega), if_neg (by omega), if_neg (by omega), HS.out]; rfl, by rw [HN.out]; exact HKA.out⟩
end
end Go.Proofs.YtfeinppedejlpaaGreat
