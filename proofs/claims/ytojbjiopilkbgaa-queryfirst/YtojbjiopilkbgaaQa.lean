/-
  What is sought of a node: is it an element, has it a name, an attribute.
-/
import Derived.Test.YtojbjiopilkbgaaQp
import Derived.BigQuiet
import Derived.Deep.LoopGhost
import Derived.Laws.EntriesVeiled
namespace Go.Proofs.Ytojbjiopilkbgaa
open Go.RowKit Go.Sort
set_option linter.unusedVariables false
set_option maxRecDepth 100000
set_option maxHeartbeats 8000000
theorem alloc_bw (X : World) (cs : Array Value) (t : TypeId) : ∃ V N, X.alloc (.cells cs t) = V ∧ X.heap.size = N ∧ V.heap[N]? = some (.cells cs t (0, 0)) ∧ Kept (fun k => k < X.heap.size) X V ∧ V.heap.size = X.heap.size + 1 := by
  refine ⟨_, _, rfl, rfl, heap_alloc_new X _, (Kept.refl _ X).alloc (fun _ h => h) _, by simp⟩
theorem eqlQ (S1 T1 S2 T2 : ByteArray) (X : World) : (binOp .eql 39 (.agg #[.string S1, .string T1]) (.agg #[.string S2, .string T2])).run Try.prog X = .ok (.bool ((S1.toList == S2.toList) && (T1.toList == T2.toList))) X := by
  have hS : Try.prog.underlying 39 = some (.struct (Try.prog.fieldsOf 39)) := by kernel_rfl
  have hp : Try.prog.stoodInHeld 39 = false := by kernel_rfl
  rw [run_eql_struct, show (10000 : Nat) = 9999 + 1 from rfl, run_equalIn_agg X 9999 39 _ _ hS hp]
  have u3 := Try.underlying9
  have z3 : Try.prog.cellsOf 9 = 1 := by kernel_rfl
  simp only [Program.fieldsOf, Try.underlying39]
  go_simp
  cases h1 : (S1.toList == S2.toList) <;> cases h2 : (T1.toList == T2.toList) <;> simp_all
theorem lisQ (l : List UInt8) : (⟨l.toArray⟩ : ByteArray).toList = l := by rw [ByteArray.toList_eq]
theorem eqb_dec (a b : List UInt8) : decide (a = b) = (b == a) := by
  by_cases c : a = b
  · subst c; simp
  · rw [decide_eq_false c]; exact (beq_eq_false_iff_ne.2 fun h => c h.symm).symm
theorem isA_eq (S T : ByteArray) (a : Atr) : isA S.toList T.toList a = ((S.toList == (⟨a.name.toArray⟩ : ByteArray).toList) && (T.toList == (⟨a.value.toArray⟩ : ByteArray).toList)) := by
  rw [lisQ a.name, lisQ a.value]
  unfold isA
  rw [eqb_dec, eqb_dec]
theorem grdQ : Try.prog.eqGuardType Try.prog.depth 39 = false := by kernel_rfl
theorem isElemQ_any (x : Nd) (ao : Option Addr) (ac : Nat) (up : Int) (ko : Option Addr) (kn kc : Nat) (w : World) :
    Calls Try.prog 34 #[.agg (outN x ao ac up ko kn kc)] w fun e w' => e = .returned (.bool (elB x)) ∧ Kept (fun k => k < w.heap.size) w w' := by
  obtain ⟨V, N, hV, hN, hb, hk, hsz⟩ := alloc_bw w (outN x ao ac up ko kn kc) 34
  have c0 : V.cell? ⟨N, 0, none⟩ = some (.int .u8 (x.kind : Int)) := by rw [cell_block hb]; rfl
  obtain ⟨b, hbb⟩ : ∃ b, elB x = b := ⟨_, rfl⟩
  have hg : ((x.kind : Int) == 1) = b := by
    rw [← hbb]
    unfold elB
    by_cases c : x.kind = 1
    · rw [c]; rfl
    · rw [decide_eq_false c, beq_eq_false_iff_ne]; omega
  rw [hbb]
  obtain ⟨kd, hkd⟩ : ∃ k, x.kind = k := ⟨_, rfl⟩
  have HV : Hid (w.alloc (.cells (outN x ao ac up ko kn kc) 34) = V) := hV
  have HN : Hid (w.heap.size = N) := hN
  have HK : Hid (Kept (fun k => k < w.heap.size) w V) := hk
  rw [hkd] at c0 hg
  clear hV hN hk hb hsz hbb hkd
  go_enter Try.func34, Try.ntmps34
  go_upto_region 1 with fail
  rw [HV.out, HN.out]
  go_wp2
  go_ret
  exact ⟨rfl, HK.out⟩
/-- Where one is in a list. -/
theorem indexQ_any (l : List Atr) (n : Nat) (hln : l.length = n) (hn : n ≤ 1000000) (a : Option Addr) (cap : Nat) (S T : ByteArray) (w : World) (hr : AtsAt (fun k => k < w.heap.size) w a l) :
    Calls Try.prog 59 #[.slice a n cap, .agg #[.string S, .string T]] w fun e w' => ∃ z : Int, e = .returned (.int .i64 z) ∧ decide (z ≥ 0) = l.any (isA S.toList T.toList) ∧ Kept (fun k => k < w.heap.size) w w' := by
  obtain ⟨V, N, hV, hN, hb, hk, hsz⟩ := alloc_bw w #[.string S, .string T] 39
  have HR : Hid (AtsAt (fun k => k < w.heap.size) w a l) := hr
  have HL : Hid (l.length = n) := hln
  have HV : Hid (w.alloc (.cells #[.string S, .string T] 39) = V) := hV
  have HN : Hid (w.heap.size = N) := hN
  have HNl : Hid (N < V.heap.size) := lt_block hb
  have HK : Hid (Kept (fun k => k < w.heap.size) w V) := hk
  have HC : Hid (∀ X, Kept (fun k => k < V.heap.size) V X → X.cell? ⟨N, 0, none⟩ = some (.string S) ∧ X.cell? ⟨N, 1, none⟩ = some (.string T)) := fun X hX => by
    have h1 := (hX.block N (lt_block hb)).trans hb
    exact ⟨by rw [cell_block h1]; rfl, by rw [cell_block h1]; rfl⟩
  clear hr hln hV hN hb hk hsz
  go_enter Try.func59, Try.ntmps59
  go_upto_region 1 with fail
  rw [HV.out, HN.out]
  go_upto_region 2 with fail
  go_loopg [8] n (fun gh v wr => ∃ k : Nat, gh = n - k ∧ k ≤ n ∧ v = .int .i64 (k : Int) ∧ (l.take k).any (isA S.toList T.toList) = false ∧ Kept (fun k => k < V.heap.size) V wr)
  case atStart => exact ⟨0, rfl, Nat.zero_le _, rfl, rfl, Kept.refl _ _⟩
  case round =>
    obtain ⟨k, hgk, hk, rfl, hno, hKk⟩ := hrel
    have HNO : Hid ((l.take k).any (isA S.toList T.toList) = false) := hno
    have HKk : Hid (Kept (fun k => k < V.heap.size) V wr) := hKk
    have HKw : Hid (Kept (fun k => k < w.heap.size) w wr) := HK.out.trans (hKk.mono fun k h => Nat.lt_of_lt_of_le h HK.out.size)
    obtain ⟨z0, z1⟩ := HC.out wr hKk
    clear hno hKk
    by_cases hlt : k < n
    · have hka : k < l.length := by rw [HL.out]; exact hlt
      obtain ⟨g1, o1, rfl, hg1, d1, e1⟩ := HR.out k hka
      have d1' := (HKw.out.cell (p := ⟨g1, o1 + k * 2, none⟩) hg1).trans d1
      have e1' := (HKw.out.cell (p := ⟨g1, o1 + k * 2 + 1, none⟩) hg1).trans e1
      have heq := fun X => eqlQ S T ⟨l[k].name.toArray⟩ ⟨l[k].value.toArray⟩ X
      have hg67 := grdQ
      unfold sv at d1' e1'
      have HTK : Hid (l.take (k + 1) = l.take k ++ [l[k]]) := List.take_succ_eq_append_getElem hka
      have HIA : Hid (isA S.toList T.toList l[k] = ((S.toList == (⟨l[k].name.toArray⟩ : ByteArray).toList) && (T.toList == (⟨l[k].value.toArray⟩ : ByteArray).toList))) := isA_eq S T l[k]
      have HMEM : Hid (l[k] ∈ l) := List.getElem_mem hka
      obtain ⟨A, hA⟩ : ∃ A, l[k] = A := ⟨_, rfl⟩
      rw [hA] at heq d1' e1' HTK HIA HMEM
      obtain ⟨x1, hx1⟩ : ∃ x : ByteArray, (⟨A.name.toArray⟩ : ByteArray) = x := ⟨_, rfl⟩
      obtain ⟨x2, hx2⟩ : ∃ x : ByteArray, (⟨A.value.toArray⟩ : ByteArray) = x := ⟨_, rfl⟩
      rw [hx1] at d1' heq HIA
      rw [hx2] at e1' heq HIA
      obtain ⟨r, hr⟩ : ∃ r, ((S.toList == x1.toList) && (T.toList == x2.toList)) = r := ⟨_, rfl⟩
      simp only [hr] at heq
      rw [hr] at HIA
      clear hx1 hx2 d1 e1 hr hA
      cases r with
      | false =>
        go_upto_region 4 with fail
        go_quiet (fail)
        go_wp2
        go_roundg (n - (k + 1))
        case rel =>
          refine ⟨k + 1, rfl, by omega, by go_num, ?_, HKk.out.drewN _⟩
          rw [HTK.out, List.any_append, HNO.out, List.any_cons, HIA.out]
          rfl
        case measure => omega
      | true =>
        go_upto_region 4 with fail
        go_quiet (fail)
        go_wp2
        go_ret
        refine ⟨(k : Int), rfl, ?_, HKw.out.drewN _⟩
        rw [List.any_eq_true.2 ⟨A, HMEM.out, HIA.out⟩]
        exact decide_eq_true (by omega)
    · have hkn : n = k := by omega
      subst hkn
      have HE : Hid (l.any (isA S.toList T.toList) = false) := by
        have := HNO.out
        rw [List.take_of_length_le (by rw [HL.out]; exact Nat.le_refl _)] at this
        exact this
      go_wp2
      go_ret
      exact ⟨-1, rfl, by rw [HE.out]; rfl, HKw.out⟩
theorem containsQ_any (l : List Atr) (n : Nat) (hln : l.length = n) (hn : n ≤ 1000000) (a : Option Addr) (cap : Nat) (S T : ByteArray) (w : World) (hr : AtsAt (fun k => k < w.heap.size) w a l) :
    Calls Try.prog 48 #[.slice a n cap, .agg #[.string S, .string T]] w fun e w' => e = .returned (.bool (l.any (isA S.toList T.toList))) ∧ Kept (fun k => k < w.heap.size) w w' := by
  obtain ⟨V, N, hV, hN, hb, hk, hsz⟩ := alloc_bw w #[.string S, .string T] 39
  have ri := indexQ_any l n hln hn a cap S T V (hr.kept hk fun _ h => Nat.lt_of_lt_of_le h hk.size)
  have HV : Hid (w.alloc (.cells #[.string S, .string T] 39) = V) := hV
  have HN : Hid (w.heap.size = N) := hN
  have HK : Hid (Kept (fun k => k < w.heap.size) w V) := hk
  have z0 : V.cell? ⟨N, 0, none⟩ = some (.string S) := by rw [cell_block hb]; rfl
  have z1 : V.cell? ⟨N, 1, none⟩ = some (.string T) := by rw [cell_block hb]; rfl
  clear hr hln hV hN hk hsz
  go_enter Try.func48, Try.ntmps48
  go_upto_region 1 with fail
  rw [HV.out, HN.out]
  go_wp2_with (first | (refine wpList_load_row rfl 39 _ rfl N rfl 39 #[.string S, .string T] (0, 0) _ hb Try.underlying39 rfl (by kernel_rfl) ?_) | (refine ri.mono ?_; rintro e w2 ⟨z, rfl, hz, hk2⟩))
  go_ret
  exact ⟨by rw [← hz]; rfl, HK.out.trans (hk2.mono fun k h => Nat.lt_of_lt_of_le h HK.out.size)⟩
end Go.Proofs.Ytojbjiopilkbgaa
