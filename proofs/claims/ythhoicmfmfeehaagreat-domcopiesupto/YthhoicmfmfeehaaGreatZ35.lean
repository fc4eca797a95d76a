/-
  The statements' own small calls: inside, Names, Node.
-/
import Derived.Test.YthhoicmfmfeehaaGreatZ32
import Derived.Test.YthhoicmfmfeehaaGreatZ34
import Derived.Deep.LoopGhost
import Derived.Deep.QuietTactic
import Derived.BigQuiet
namespace Go.Proofs.YthhoicmfmfeehaaGreat
open Go.RowKit
set_option linter.unusedVariables false
theorem inside_any (k : Int) (n : Nat) (h1 : 1 ≤ n) (hn : n ≤ 1000000) (w : World) : Calls Tryz.prog 29 #[.int .i64 k, .int .i64 (n : Int)] w fun e w' => e = .returned (.int .i64 ((k.toNat % n : Nat) : Int)) ∧ w' = w := by
  have n0 : ((n : Int) == 0) = false := by simp; omega
  by_cases hk : k < 0
  · have e2 : k.toNat % n = 0 := by
      have : k.toNat = 0 := by omega
      rw [this, Nat.zero_mod]
    have hk' : ¬ 0 ≤ k := by omega
    rw [e2]
    clear e2
    go_enter Tryz.func29, Tryz.ntmps29
    go_wp2
    go_ret
    exact ⟨rfl, rfl⟩
  · obtain ⟨m, rfl⟩ : ∃ m : Nat, k = (m : Int) := ⟨k.toNat, by omega⟩
    clear hk
    go_enter Tryz.func29, Tryz.ntmps29
    go_wp2
    go_ret
    exact ⟨by simp, rfl⟩
def nameT : List ByteArray := [⟨#[100, 105, 118]⟩, ⟨#[115, 112, 97, 110]⟩, ⟨#[115, 108, 111, 116]⟩, ⟨#[116, 101, 109, 112, 108, 97, 116, 101]⟩, ⟨#[120, 45, 97]⟩, ⟨#[115, 101, 99, 116, 105, 111, 110]⟩, ⟨#[112]⟩, ⟨#[98, 114]⟩, ⟨#[98]⟩, ⟨#[97, 114, 116, 105, 99, 108, 101]⟩]
def nameB (i : Nat) : ByteArray := nameT.getD i ⟨#[]⟩
set_option maxRecDepth 20000 in
theorem names_any (k : Nat) (hk : k < 256) (w : World) : Calls Tryz.prog 64 #[.int .u8 (k : Int)] w fun e w' => e = .returned (.string (nameB (k % 10))) ∧ Kept (fun j => j < w.heap.size) w w' := by
  have HK : Hid (∀ o, Kept (fun k => k < w.heap.size) w (w.alloc o)) := fun o => (Kept.refl _ w).alloc (fun _ h => h) o
  obtain ⟨r, hr⟩ : ∃ r, k % 10 = r := ⟨_, rfl⟩
  have hr' : (k : Int).tmod 10 = (r : Int) := by rw [← hr]; rfl
  have h10 : r < 10 := by omega
  rw [hr]
  clear hr hk
  go_enter Tryz.func64, Tryz.ntmps64
  go_wp2
  go_ret
  refine ⟨?_, HK.out _⟩
  match r, h10 with
  | 0, _ => rfl
  | 1, _ => rfl
  | 2, _ => rfl
  | 3, _ => rfl
  | 4, _ => rfl
  | 5, _ => rfl
  | 6, _ => rfl
  | 7, _ => rfl
  | 8, _ => rfl
  | 9, _ => rfl
/-- What is to be made. -/
def Opx.nKind (o : Opx) : Nat := if o.inn = false then o.nk else if o.nk % 8 = 1 ∨ o.nk % 8 = 2 then 2 else if o.nk % 8 = 3 then 4 else 1
def Opx.nName (o : Opx) : ByteArray := if o.inn = false then o.nn else if o.nk % 8 = 1 ∨ o.nk % 8 = 2 ∨ o.nk % 8 = 3 then ⟨#[]⟩ else nameB ((o.nn.size % 256 + o.nk / 8) % 256 % 10)
def Opx.nData (o : Opx) : ByteArray := if o.inn = false then o.nd else if o.nk % 8 = 1 ∨ o.nk % 8 = 2 then o.nd else ⟨#[]⟩
def Opx.nAts (o : Opx) : List Atr := if o.inn = false then o.ats else []
def OpA.nAa (A : OpA) (o : Opx) : Option Addr := if o.inn = false then A.aa else none
def OpA.nAc (A : OpA) (o : Opx) : Nat := if o.inn = false then A.ac else 0
abbrev nodeC (kd : Int) (S D : ByteArray) (aa : Option Addr) (an ac : Nat) : Array Value := #[.int .u8 kd, .string S, .string D, .slice aa an ac, .int .i64 0, .slice none 0 0, .int .i64 0, .int .i64 0, .int .i64 0, .bool false, .bool false, .bool false, .bool false, .bool false]
theorem builtN4 (kd : Int) (S D : ByteArray) (aa : Option Addr) (an ac : Nat) : Tryz.prog.built 45 [(0, .int .u8 kd), (1, .string S), (2, .string D), (3, .slice aa an ac)] = some (nodeC kd S D aa an ac) := by kernel_rfl
theorem builtN2 (S : ByteArray) : Tryz.prog.built 45 [(0, .int .u8 1), (1, .string S)] = some (nodeC 1 S ⟨#[]⟩ none 0 0) := by kernel_rfl
theorem builtNt (D : ByteArray) : Tryz.prog.built 45 [(0, .int .u8 2), (2, .string D)] = some (nodeC 2 ⟨#[]⟩ D none 0 0) := by kernel_rfl
theorem builtNf : Tryz.prog.built 45 [(0, .int .u8 4)] = some (nodeC 4 ⟨#[]⟩ ⟨#[]⟩ none 0 0) := by kernel_rfl
theorem heap_three (w : World) (a b c : Obj) : (((w.alloc a).alloc b).alloc c).heap[w.heap.size + 1]? = some b := by
  rw [Below.heap_alloc _ _ _ (by simp)]
  have := heap_alloc_new (w.alloc a) b
  simpa using this
theorem kept_three (w : World) (a b c : Obj) : Kept (fun j => j < w.heap.size) w (((w.alloc a).alloc b).alloc c) :=
  (((Kept.refl _ w).alloc (fun _ h => h) a).alloc (fun k h => by simp; omega) b).alloc (fun k h => by simp; omega) c
set_option maxRecDepth 20000 in
theorem node_out (o : Opx) (A : OpA) (ho : o.inn = false) (w : World) : Calls Tryz.prog 22 #[.agg #[.int .u8 (o.nk : Int), .string o.nn, .string o.nd, .slice A.aa o.ats.length A.ac], .bool o.inn] w fun e w' => e = .returned (.agg (nodeC (o.nKind : Int) o.nName o.nData (A.nAa o) o.nAts.length (A.nAc o))) ∧ Kept (fun j => j < w.heap.size) w w' := by
  have e1 : o.nKind = o.nk := if_pos ho
  have e2 : o.nName = o.nn := if_pos ho
  have e3 : o.nData = o.nd := if_pos ho
  have e4 : o.nAts = o.ats := if_pos ho
  have e5 : A.nAa o = A.aa := if_pos ho
  have e6 : A.nAc o = A.ac := if_pos ho
  rw [e1, e2, e3, e4, e5, e6, ho]
  obtain ⟨n, hn⟩ : ∃ n, o.ats.length = n := ⟨_, rfl⟩
  rw [hn]
  have hbu := builtN4 (o.nk : Int) o.nn o.nd A.aa n A.ac
  clear ho e1 e2 e3 e4 e5 e6 hn
  go_enter Tryz.func22, Tryz.ntmps22
  go_wp2
  refine bodyPost_ret (results_cell_row (p := 4) (ty := 45) rfl _ _ (w.heap.size + 1) 45 _ _ _ rfl (heap_three _ _ _ _) Tryz.underlying45 rfl (by kernel_rfl)) rfl ?_
  exact ⟨rfl, kept_three _ _ _ _⟩
/-- The memory of Node: what came in, the answer, the node. -/
def NodeSt (w : World) (N : Nat) (m : Array Value) (y : Array Value) (X : World) : Prop :=
  X.heap[N]? = some (.cells m 32 (0, 0)) ∧ (∃ z : Array Value, z.size = 14 ∧ X.heap[N + 1]? = some (.cells z 45 (0, 0))) ∧ X.heap[N + 1 + 1]? = some (.cells y 45 (0, 0)) ∧ Kept (fun j => j < N) w X
theorem NodeSt.kept {w X X' : World} {N : Nat} {m y : Array Value} (h : NodeSt w N m y X) (hk : Kept (fun j => j < X.heap.size) X X') (hN : w.heap.size = N) : NodeSt w N m y X' := by
  obtain ⟨h1, ⟨z, hz, h2⟩, h3, h4⟩ := h
  have l1 := lt_block h1
  have l2 := lt_block h2
  have l3 := lt_block h3
  exact ⟨by rw [hk.block N l1]; exact h1, ⟨z, hz, by rw [hk.block (N + 1) l2]; exact h2⟩, by rw [hk.block (N + 1 + 1) l3]; exact h3, h4.trans (hk.mono fun k h => by omega)⟩
theorem NodeSt.row {w X : World} {N : Nat} {m y : Array Value} (h : NodeSt w N m y X) (y' : Array Value) : NodeSt w N m y' (X.setRow (N + 1 + 1) y') := by
  obtain ⟨h1, ⟨z, hz, h2⟩, h3, h4⟩ := h
  exact ⟨by rw [setRow_other _ _ _ _ (by omega)]; exact h1, ⟨z, hz, by rw [setRow_other _ _ _ _ (by omega)]; exact h2⟩, setRow_heap _ _ _ _ _ _ h3, kept_setRow h4 (by omega) _⟩
theorem NodeSt.ans {w X : World} {N : Nat} {m y : Array Value} (h : NodeSt w N m y X) (y' : Array Value) : (X.setRow (N + 1) y').heap[N + 1]? = some (.cells y' 45 (0, 0)) ∧ Kept (fun j => j < N) w (X.setRow (N + 1) y') := by
  obtain ⟨h1, ⟨z, hz, h2⟩, h3, h4⟩ := h
  exact ⟨setRow_heap _ _ _ _ _ _ h2, kept_setRow h4 (by omega) _⟩
theorem size45 (cs : Array Value) (h : cs.size = 14) : (Tryz.prog.info? 45).map (·.size) = some cs.size := by rw [h]; kernel_rfl
theorem nodeC_one (kd : Int) (S D : ByteArray) (aa : Option Addr) (an ac : Nat) : (nodeC kd S D aa an ac).all (·.oneCell') = true := by kernel_rfl
set_option maxRecDepth 20000 in
set_option maxHeartbeats 2000000 in
theorem node_in (o : Opx) (A : OpA) (ho : o.inn = true) (hk : o.nk < 256) (hs : o.nn.size ≤ 1000000) (w : World) : Calls Tryz.prog 22 #[.agg #[.int .u8 (o.nk : Int), .string o.nn, .string o.nd, .slice A.aa o.ats.length A.ac], .bool o.inn] w fun e w' => e = .returned (.agg (nodeC (o.nKind : Int) o.nName o.nData (A.nAa o) o.nAts.length (A.nAc o))) ∧ Kept (fun j => j < w.heap.size) w w' := by
  have hi : ¬ o.inn = false := by rw [ho]; decide
  have e4 : o.nAts = [] := if_neg hi
  have e5 : A.nAa o = none := if_neg hi
  have e6 : A.nAc o = 0 := if_neg hi
  rw [e4, e5, e6]
  unfold Opx.nKind Opx.nName Opx.nData
  simp only [if_neg hi]
  rw [ho]
  obtain ⟨n, hn⟩ : ∃ n, o.ats.length = n := ⟨_, rfl⟩
  obtain ⟨nk, hnk⟩ : ∃ nk, o.nk = nk := ⟨_, rfl⟩
  obtain ⟨nn, hnn⟩ : ∃ nn, o.nn = nn := ⟨_, rfl⟩
  obtain ⟨nd, hnd⟩ : ∃ nd, o.nd = nd := ⟨_, rfl⟩
  obtain ⟨aa, haa⟩ : ∃ aa, A.aa = aa := ⟨_, rfl⟩
  obtain ⟨ac, hac⟩ : ∃ ac, A.ac = ac := ⟨_, rfl⟩
  rw [hn, hnk, hnn, hnd, haa, hac]
  rw [hnk] at hk
  rw [hnn] at hs
  clear hn hnk hnn hnd e4 e5 e6 hi ho haa hac
  obtain ⟨r, hr⟩ : ∃ r, nk % 8 = r := ⟨_, rfl⟩
  have hr' : (nk : Int).tmod 8 = (r : Int) := by rw [← hr]; rfl
  have h8 : r < 8 := by omega
  obtain ⟨q, hqe⟩ : ∃ q, nk / 8 = q := ⟨_, rfl⟩
  have hq : (nk : Int).tdiv 8 = (q : Int) := by rw [← hqe]; rfl
  have hq32 : q < 32 := by omega
  obtain ⟨m, hm⟩ : ∃ m, nn.size % 256 = m := ⟨_, rfl⟩
  have hm6 : m < 256 := by omega
  obtain ⟨x, hx⟩ : ∃ x, (m + q) % 256 = x := ⟨_, rfl⟩
  have hx6 : x < 256 := by omega
  rw [hr, hm, hqe, hx]
  obtain ⟨kd', hkd'⟩ : ∃ k : Nat, (if r = 1 ∨ r = 2 then 2 else if r = 3 then 4 else 1) = k := ⟨_, rfl⟩
  obtain ⟨S', hS'⟩ : ∃ k : ByteArray, (if r = 1 ∨ r = 2 ∨ r = 3 then ⟨#[]⟩ else nameB (x % 10)) = k := ⟨_, rfl⟩
  obtain ⟨D', hD'⟩ : ∃ k : ByteArray, (if r = 1 ∨ r = 2 then nd else ⟨#[]⟩) = k := ⟨_, rfl⟩
  rw [hkd', hS', hD']
  have HKD : Hid ((if r = 1 ∨ r = 2 then 2 else if r = 3 then 4 else 1) = kd') := hkd'
  have HSN : Hid ((if r = 1 ∨ r = 2 ∨ r = 3 then ⟨#[]⟩ else nameB (x % 10)) = S') := hS'
  have HDT : Hid ((if r = 1 ∨ r = 2 then nd else ⟨#[]⟩) = D') := hD'
  clear hkd' hS' hD'
  have rn := fun X => names_any x hx6 X
  obtain ⟨N, hN⟩ : ∃ N, w.heap.size = N := ⟨_, rfl⟩
  have HN : Hid (w.heap.size = N) := hN
  have bu4 := builtN4 (nk : Int) nn nd aa n ac
  have bu2 := fun S => builtN2 S
  have but := builtNt nd
  have buf := builtNf
  obtain ⟨W3, hW3⟩ : ∃ W3, ((w.alloc (.cells #[.int .u8 (nk : Int), .string nn, .string nd, .slice aa n ac] 32)).alloc (.cells (nodeC 0 ⟨#[]⟩ ⟨#[]⟩ none 0 0) 45)).alloc (.cells (nodeC (nk : Int) nn nd aa n ac) 45) = W3 := ⟨_, rfl⟩
  have HW3 : Hid (((w.alloc (.cells #[.int .u8 (nk : Int), .string nn, .string nd, .slice aa n ac] 32)).alloc (.cells (nodeC 0 ⟨#[]⟩ ⟨#[]⟩ none 0 0) 45)).alloc (.cells (nodeC (nk : Int) nn nd aa n ac) 45) = W3) := hW3
  have st3 : NodeSt w N #[.int .u8 (nk : Int), .string nn, .string nd, .slice aa n ac] (nodeC (nk : Int) nn nd aa n ac) W3 := by
    rw [← hW3, ← hN]
    refine ⟨?_, ⟨_, rfl, heap_three _ _ _ _⟩, ?_, kept_three _ _ _ _⟩
    · rw [Below.heap_alloc _ _ _ (by simp; omega), Below.heap_alloc _ _ _ (by simp)]
      exact heap_alloc_new w _
    · have := heap_alloc_new ((w.alloc (.cells #[.int .u8 (nk : Int), .string nn, .string nd, .slice aa n ac] 32)).alloc (.cells (nodeC 0 ⟨#[]⟩ ⟨#[]⟩ none 0 0) 45)) (.cells (nodeC (nk : Int) nn nd aa n ac) 45)
      simpa using this
  have c0 : W3.cell? ⟨N, 0, none⟩ = some (.int .u8 (nk : Int)) := by rw [cell_block st3.1]; rfl
  have c1 : W3.cell? ⟨N, 1, none⟩ = some (.string nn) := by rw [cell_block st3.1]; rfl
  have ST3 : Hid (NodeSt w N #[.int .u8 (nk : Int), .string nn, .string nd, .slice aa n ac] (nodeC (nk : Int) nn nd aa n ac) W3) := st3
  have HX : Hid ((m + q) % 256 = x) := hx
  have HM : Hid (nn.size % 256 = m) := hm
  clear hr hqe hN hW3 st3 hx hm
  have hcv : (convert 3 5 (.int .i64 (nn.size : Int))).run Tryz.prog W3 = .ok (.int .u8 (m : Int)) W3 := by
    rw [← HM.out]
    have : ((nn.size % 256 : Nat) : Int) = IntKind.u8.wrap (nn.size : Int) := by simp [IntKind.wrap, IntKind.bits, IntKind.signed]
    rw [this]
    simp [convert, Conv.intToInt]
  have hwr : IntKind.u8.wrap ((m : Int) + (q : Int)) = (x : Int) := by
    rw [← HX.out]
    simp [IntKind.wrap, IntKind.bits, IntKind.signed]
  go_enter Tryz.func22, Tryz.ntmps22
  go_upto_region 3 with fail
  rw [HW3.out, HN.out]
  clear HW3
  go_wp2_with fail
  refine (rn W3).mono ?_
  rintro e w1 ⟨rfl, k1⟩
  have st1 := ST3.out.kept k1 HN.out
  have ST1 : Hid (NodeSt w N #[.int .u8 (nk : Int), .string nn, .string nd, .slice aa n ac] (nodeC (nk : Int) nn nd aa n ac) w1) := st1
  obtain ⟨S, hS⟩ : ∃ S, nameB (x % 10) = S := ⟨_, rfl⟩
  rw [hS]
  have HS : Hid (nameB (x % 10) = S) := hS
  have bu2' := bu2 S
  have hN2 := st1.2.2.1
  have st2 := st1.row (nodeC 1 S ⟨#[]⟩ none 0 0)
  obtain ⟨W4, hW4⟩ : ∃ W4, w1.setRow (N + 1 + 1) (nodeC 1 S ⟨#[]⟩ none 0 0) = W4 := ⟨_, rfl⟩
  rw [hW4] at st2
  have d0 : W4.cell? ⟨N, 0, none⟩ = some (.int .u8 (nk : Int)) := by rw [cell_block st2.1]; rfl
  have d2 : W4.cell? ⟨N, 2, none⟩ = some (.string nd) := by rw [cell_block st2.1]; rfl
  have HW4 : Hid (w1.setRow (N + 1 + 1) (nodeC 1 S ⟨#[]⟩ none 0 0) = W4) := hW4
  have HST : Hid (NodeSt w N #[.int .u8 (nk : Int), .string nn, .string nd, .slice aa n ac] (nodeC 1 S ⟨#[]⟩ none 0 0) W4) := st2
  clear rn hcv hwr c0 c1 k1 st1 st2 bu4 bu2 hS hW4
  go_upto_region 4 with (refine wpList_store_row rfl 45 _ _ rfl (N + 1 + 1) (nodeC 1 S ⟨#[]⟩ none 0 0) rfl rfl 45 _ hN2 (size45 _ rfl) rfl (nodeC_one _ _ _ _ _ _) ?_)
  rw [HW4.out]
  clear HW4 hN2 bu2' HX HM
  by_cases r1 : r = 1
  · subst r1
    have hN4 := HST.out.2.2.1
    have st5 := HST.out.row (nodeC 2 ⟨#[]⟩ nd none 0 0)
    obtain ⟨Wf, hWf⟩ : ∃ Wf, W4.setRow (N + 1 + 1) (nodeC 2 ⟨#[]⟩ nd none 0 0) = Wf := ⟨_, rfl⟩
    rw [hWf] at st5
    have f0 : Wf.cell? ⟨N, 0, none⟩ = some (.int .u8 (nk : Int)) := by rw [cell_block st5.1]; rfl
    have HWf : Hid (W4.setRow (N + 1 + 1) (nodeC 2 ⟨#[]⟩ nd none 0 0) = Wf) := hWf
    have HSTf : Hid (NodeSt w N #[.int .u8 (nk : Int), .string nn, .string nd, .slice aa n ac] (nodeC 2 ⟨#[]⟩ nd none 0 0) Wf) := st5
    clear st5 hWf
    go_upto_region 6 with (refine wpList_store_row rfl 45 _ _ rfl (N + 1 + 1) (nodeC 2 ⟨#[]⟩ nd none 0 0) rfl rfl 45 _ hN4 (size45 _ rfl) rfl (nodeC_one _ _ _ _ _ _) ?_)
    rw [HWf.out]
    clear HWf hN4
    obtain ⟨z, hz, hz1⟩ := HSTf.out.2.1
    have hy := HSTf.out.2.2.1
    obtain ⟨ha, hka⟩ := HSTf.out.ans (nodeC 2 ⟨#[]⟩ nd none 0 0)
    have HA : Hid ((Wf.setRow (N + 1) (nodeC 2 ⟨#[]⟩ nd none 0 0)).heap[N + 1]? = some (.cells (nodeC 2 ⟨#[]⟩ nd none 0 0) 45 (0, 0))) := ha
    have HKA : Hid (Kept (fun j => j < N) w (Wf.setRow (N + 1) (nodeC 2 ⟨#[]⟩ nd none 0 0))) := hka
    clear ha hka
    go_wp2_with (first | (refine wpList_load_row rfl 45 _ rfl (N + 1 + 1) rfl 45 (nodeC 2 ⟨#[]⟩ nd none 0 0) (0, 0) _ hy Tryz.underlying45 rfl (size45 _ rfl) ?_) | (refine wpList_store_row rfl 45 _ _ rfl (N + 1) (nodeC 2 ⟨#[]⟩ nd none 0 0) rfl rfl 45 z hz1 (size45 _ rfl) hz (nodeC_one _ _ _ _ _ _) ?_))
    refine bodyPost_ret (results_cell_row (p := 4) (ty := 45) rfl _ _ (N + 1) 45 _ _ _ rfl HA.out Tryz.underlying45 rfl (size45 _ rfl)) rfl ?_
    exact ⟨by rw [← HKD.out, ← HSN.out, ← HDT.out, if_pos (by simp), if_pos (by simp), if_pos (by simp)]; rfl, by rw [HN.out]; exact HKA.out⟩
  by_cases r2 : r = 2
  · subst r2
    have hN4 := HST.out.2.2.1
    have st5 := HST.out.row (nodeC 2 ⟨#[]⟩ nd none 0 0)
    obtain ⟨Wf, hWf⟩ : ∃ Wf, W4.setRow (N + 1 + 1) (nodeC 2 ⟨#[]⟩ nd none 0 0) = Wf := ⟨_, rfl⟩
    rw [hWf] at st5
    have f0 : Wf.cell? ⟨N, 0, none⟩ = some (.int .u8 (nk : Int)) := by rw [cell_block st5.1]; rfl
    have HWf : Hid (W4.setRow (N + 1 + 1) (nodeC 2 ⟨#[]⟩ nd none 0 0) = Wf) := hWf
    have HSTf : Hid (NodeSt w N #[.int .u8 (nk : Int), .string nn, .string nd, .slice aa n ac] (nodeC 2 ⟨#[]⟩ nd none 0 0) Wf) := st5
    clear st5 hWf
    go_upto_region 6 with (refine wpList_store_row rfl 45 _ _ rfl (N + 1 + 1) (nodeC 2 ⟨#[]⟩ nd none 0 0) rfl rfl 45 _ hN4 (size45 _ rfl) rfl (nodeC_one _ _ _ _ _ _) ?_)
    rw [HWf.out]
    clear HWf hN4
    obtain ⟨z, hz, hz1⟩ := HSTf.out.2.1
    have hy := HSTf.out.2.2.1
    obtain ⟨ha, hka⟩ := HSTf.out.ans (nodeC 2 ⟨#[]⟩ nd none 0 0)
    have HA : Hid ((Wf.setRow (N + 1) (nodeC 2 ⟨#[]⟩ nd none 0 0)).heap[N + 1]? = some (.cells (nodeC 2 ⟨#[]⟩ nd none 0 0) 45 (0, 0))) := ha
    have HKA : Hid (Kept (fun j => j < N) w (Wf.setRow (N + 1) (nodeC 2 ⟨#[]⟩ nd none 0 0))) := hka
    clear ha hka
    go_wp2_with (first | (refine wpList_load_row rfl 45 _ rfl (N + 1 + 1) rfl 45 (nodeC 2 ⟨#[]⟩ nd none 0 0) (0, 0) _ hy Tryz.underlying45 rfl (size45 _ rfl) ?_) | (refine wpList_store_row rfl 45 _ _ rfl (N + 1) (nodeC 2 ⟨#[]⟩ nd none 0 0) rfl rfl 45 z hz1 (size45 _ rfl) hz (nodeC_one _ _ _ _ _ _) ?_))
    refine bodyPost_ret (results_cell_row (p := 4) (ty := 45) rfl _ _ (N + 1) 45 _ _ _ rfl HA.out Tryz.underlying45 rfl (size45 _ rfl)) rfl ?_
    exact ⟨by rw [← HKD.out, ← HSN.out, ← HDT.out, if_pos (by simp), if_pos (by simp), if_pos (by simp)]; rfl, by rw [HN.out]; exact HKA.out⟩
  have n1 : ((r : Int) == 1) = false := by simp; omega
  have n2 : ((r : Int) == 2) = false := by simp; omega
  by_cases r3 : r = 3
  · subst r3
    have hN4 := HST.out.2.2.1
    have st5 := HST.out.row (nodeC 4 ⟨#[]⟩ ⟨#[]⟩ none 0 0)
    obtain ⟨Wf, hWf⟩ : ∃ Wf, W4.setRow (N + 1 + 1) (nodeC 4 ⟨#[]⟩ ⟨#[]⟩ none 0 0) = Wf := ⟨_, rfl⟩
    rw [hWf] at st5
    have f0 : Wf.cell? ⟨N, 0, none⟩ = some (.int .u8 (nk : Int)) := by rw [cell_block st5.1]; rfl
    have HWf : Hid (W4.setRow (N + 1 + 1) (nodeC 4 ⟨#[]⟩ ⟨#[]⟩ none 0 0) = Wf) := hWf
    have HSTf : Hid (NodeSt w N #[.int .u8 (nk : Int), .string nn, .string nd, .slice aa n ac] (nodeC 4 ⟨#[]⟩ ⟨#[]⟩ none 0 0) Wf) := st5
    clear st5 hWf
    go_upto_region 8 with (refine wpList_store_row rfl 45 _ _ rfl (N + 1 + 1) (nodeC 4 ⟨#[]⟩ ⟨#[]⟩ none 0 0) rfl rfl 45 _ hN4 (size45 _ rfl) rfl (nodeC_one _ _ _ _ _ _) ?_)
    rw [HWf.out]
    clear HWf hN4
    obtain ⟨z, hz, hz1⟩ := HSTf.out.2.1
    have hy := HSTf.out.2.2.1
    obtain ⟨ha, hka⟩ := HSTf.out.ans (nodeC 4 ⟨#[]⟩ ⟨#[]⟩ none 0 0)
    have HA : Hid ((Wf.setRow (N + 1) (nodeC 4 ⟨#[]⟩ ⟨#[]⟩ none 0 0)).heap[N + 1]? = some (.cells (nodeC 4 ⟨#[]⟩ ⟨#[]⟩ none 0 0) 45 (0, 0))) := ha
    have HKA : Hid (Kept (fun j => j < N) w (Wf.setRow (N + 1) (nodeC 4 ⟨#[]⟩ ⟨#[]⟩ none 0 0))) := hka
    clear ha hka
    go_wp2_with (first | (refine wpList_load_row rfl 45 _ rfl (N + 1 + 1) rfl 45 (nodeC 4 ⟨#[]⟩ ⟨#[]⟩ none 0 0) (0, 0) _ hy Tryz.underlying45 rfl (size45 _ rfl) ?_) | (refine wpList_store_row rfl 45 _ _ rfl (N + 1) (nodeC 4 ⟨#[]⟩ ⟨#[]⟩ none 0 0) rfl rfl 45 z hz1 (size45 _ rfl) hz (nodeC_one _ _ _ _ _ _) ?_))
    refine bodyPost_ret (results_cell_row (p := 4) (ty := 45) rfl _ _ (N + 1) 45 _ _ _ rfl HA.out Tryz.underlying45 rfl (size45 _ rfl)) rfl ?_
    exact ⟨by rw [← HKD.out, ← HSN.out, ← HDT.out, if_neg (by simp), if_pos trivial, if_pos (by simp), if_neg (by simp)]; rfl, by rw [HN.out]; exact HKA.out⟩
  · have n3 : ((r : Int) == 3) = false := by simp; omega
    obtain ⟨Wf, hWf⟩ : ∃ Wf, W4 = Wf := ⟨_, rfl⟩
    have HSTf : Hid (NodeSt w N #[.int .u8 (nk : Int), .string nn, .string nd, .slice aa n ac] (nodeC 1 S ⟨#[]⟩ none 0 0) Wf) := by rw [← hWf]; exact HST
    subst hWf
    go_upto_region 8 with fail
    obtain ⟨z, hz, hz1⟩ := HSTf.out.2.1
    have hy := HSTf.out.2.2.1
    obtain ⟨ha, hka⟩ := HSTf.out.ans (nodeC 1 S ⟨#[]⟩ none 0 0)
    have HA : Hid ((W4.setRow (N + 1) (nodeC 1 S ⟨#[]⟩ none 0 0)).heap[N + 1]? = some (.cells (nodeC 1 S ⟨#[]⟩ none 0 0) 45 (0, 0))) := ha
    have HKA : Hid (Kept (fun j => j < N) w (W4.setRow (N + 1) (nodeC 1 S ⟨#[]⟩ none 0 0))) := hka
    clear ha hka
    go_wp2_with (first | (refine wpList_load_row rfl 45 _ rfl (N + 1 + 1) rfl 45 (nodeC 1 S ⟨#[]⟩ none 0 0) (0, 0) _ hy Tryz.underlying45 rfl (size45 _ rfl) ?_) | (refine wpList_store_row rfl 45 _ _ rfl (N + 1) (nodeC 1 S ⟨#[]⟩ none 0 0) rfl rfl 45 z hz1 (size45 _ rfl) hz (nodeC_one _ _ _ _ _ _) ?_))
    refine bodyPost_ret (results_cell_row (p := 4) (ty := 45) rfl _ _ (N + 1) 45 _ _ _ rfl HA.out Tryz.underlying45 rfl (size45 _ rfl)) rfl ?_
    exact ⟨by rw [← HKD.out, ← HSN.out, ← HDT.out, if_neg (by omega), if_neg (by omega), if_neg (by omega), if_neg (by omega), HS.out]; rfl, by rw [HN.out]; exact HKA.out⟩
end Go.Proofs.YthhoicmfmfeehaaGreat
