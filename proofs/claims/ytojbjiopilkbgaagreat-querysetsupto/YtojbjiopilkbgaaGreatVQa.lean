/-
  What is sought of a node: is it an element, has it a name, an attribute.
-/
import Derived.Test.YtojbjiopilkbgaaGreatVQp
import Derived.BigQuiet
import Derived.Deep.LoopGhost
import Derived.Laws.EntriesVeiled
namespace Go.Proofs.YtojbjiopilkbgaaGreat
open Go.RowKit Go.Sort
set_option linter.unusedVariables false
set_option maxRecDepth 100000
set_option maxHeartbeats 8000000
theorem za9 (X : World) (cs : Array Value) (t : TypeId) : ∃ V N, X.alloc (.cells cs t) = V /\ X.heap.size = N /\ V.heap[N]? = some (.cells cs t (0, 0)) /\ Kept (fun k => k < X.heap.size) X V /\ V.heap.size = X.heap.size + 1 := by
 refine ⟨_, _, rfl, rfl, heap_alloc_new X _, (Kept.refl _ X).alloc (fun _ h => h) _, by simp⟩
theorem zsj (S1 T1 S2 T2 : ByteArray) (X : World) : (binOp .eql 104 (.agg #[.string S1, .string T1]) (.agg #[.string S2, .string T2])).run Tryz.prog X = .ok (.bool ((S1.toList == S2.toList) && (T1.toList == T2.toList))) X := by
 have hS : Tryz.prog.underlying 104 = some (.struct (Tryz.prog.fieldsOf 104)) := by kernel_rfl
 have hp : Tryz.prog.stoodInHeld 104 = false := by kernel_rfl
 rw [run_eql_struct, show (10000 : Nat) = 9999 + 1 from rfl, run_equalIn_agg X 9999 104 _ _ hS hp]
 have u3 := Tryz.underlying9
 have z3 : Tryz.prog.cellsOf 9 = 1 := by kernel_rfl
 simp only [Program.fieldsOf, Tryz.underlying104]
 go_simp
 cases h1 : (S1.toList == S2.toList) <;> cases h2 : (T1.toList == T2.toList) <;> simp_all
theorem zjk (l : List UInt8) : (⟨l.toArray⟩ : ByteArray).toList = l := by rw [ByteArray.toList_eq]
theorem zfi (a b : List UInt8) : decide (a = b) = (b == a) := by
 by_cases c : a = b
 ·subst c; simp
 ·rw [decide_eq_false c]; exact (beq_eq_false_iff_ne.2 fun h => c h.symm).symm
theorem zos (S T : ByteArray) (a : Atr) : isA S.toList T.toList a = ((S.toList == (⟨a.name.toArray⟩ : ByteArray).toList) && (T.toList == (⟨a.value.toArray⟩ : ByteArray).toList)) := by
 rw [zjk a.name, zjk a.value]
 unfold isA
 rw [zfi, zfi]
theorem zsh : Tryz.prog.eqGuardType Tryz.prog.depth 104 = false := by kernel_rfl
theorem zdl (x : Nd) (ao : Option Addr) (ac : Nat) (up : Int) (ko : Option Addr) (kn kc : Nat) (w : World) :
  Calls Tryz.prog 98 #[.agg (zch x ao ac up ko kn kc)] w fun e w' => e = .returned (.bool (elB x)) /\ Kept (fun k => k < w.heap.size) w w' := by
 obtain ⟨V, N, hV, hN, hb, hk, hsz⟩ := za9 w (zch x ao ac up ko kn kc) 46
 have c0 : V.cell? ⟨N, 0, none⟩ = some (.int .u8 (x.kind : Int)) := by rw [zaa hb]; rfl
 obtain ⟨b, hbb⟩ : ∃ b, elB x = b := ⟨_, rfl⟩
 have hg : ((x.kind : Int) == 1) = b := by
  rw [<- hbb]
  unfold elB
  by_cases c : x.kind = 1
  ·rw [c]; rfl
  ·rw [decide_eq_false c, beq_eq_false_iff_ne]; omega
 rw [hbb]
 obtain ⟨kd, hkd⟩ : ∃ k, x.kind = k := ⟨_, rfl⟩
 have HV : Hid (w.alloc (.cells (zch x ao ac up ko kn kc) 46) = V) := hV
 have HN : Hid (w.heap.size = N) := hN
 have HK : Hid (Kept (fun k => k < w.heap.size) w V) := hk
 rw [hkd] at c0 hg
 clear hV hN hk hb hsz hbb hkd
 go_enter Tryz.func98, Tryz.ntmps98
 go_upto_region 1 with fail
 rw [HV.out, HN.out]
 go_wp2
 go_ret
 exact ⟨rfl, HK.out⟩
theorem zj2 (l : List Atr) (n : Nat) (hln : l.length = n) (hn : n <= 1000000) (a : Option Addr) (cap : Nat) (S T : ByteArray) (w : World) (hr : Zai (fun k => k < w.heap.size) w a l) :
  Calls Tryz.prog 212 #[.slice a n cap, .agg #[.string S, .string T]] w fun e w' => ∃ z : Int, e = .returned (.int .i64 z) /\ decide (z >= 0) = l.any (isA S.toList T.toList) /\ Kept (fun k => k < w.heap.size) w w' := by
 obtain ⟨V, N, hV, hN, hb, hk, hsz⟩ := za9 w #[.string S, .string T] 104
 have HR : Hid (Zai (fun k => k < w.heap.size) w a l) := hr
 have HL : Hid (l.length = n) := hln
 have HV : Hid (w.alloc (.cells #[.string S, .string T] 104) = V) := hV
 have HN : Hid (w.heap.size = N) := hN
 have HNl : Hid (N < V.heap.size) := zae hb
 have HK : Hid (Kept (fun k => k < w.heap.size) w V) := hk
 have HC : Hid (∀ X, Kept (fun k => k < V.heap.size) V X -> X.cell? ⟨N, 0, none⟩ = some (.string S) /\ X.cell? ⟨N, 1, none⟩ = some (.string T)) := fun X hX => by
  have h1 := (hX.block N (zae hb)).trans hb
  exact ⟨by rw [zaa h1]; rfl, by rw [zaa h1]; rfl⟩
 clear hr hln hV hN hb hk hsz
 go_enter Tryz.func212, Tryz.ntmps212
 go_upto_region 1 with fail
 rw [HV.out, HN.out]
 go_upto_region 2 with fail
 go_loopg [8] n (fun gh v wr => ∃ k : Nat, gh = n - k /\ k <= n /\ v = .int .i64 (k : Int) /\ (l.take k).any (isA S.toList T.toList) = false /\ Kept (fun k => k < V.heap.size) V wr)
 case atStart => exact ⟨0, rfl, Nat.zero_le _, rfl, rfl, Kept.refl _ _⟩
 case round =>
  obtain ⟨k, hgk, hk, rfl, hno, hKk⟩ := hrel
  have HNO : Hid ((l.take k).any (isA S.toList T.toList) = false) := hno
  have HKk : Hid (Kept (fun k => k < V.heap.size) V wr) := hKk
  have HKw : Hid (Kept (fun k => k < w.heap.size) w wr) := HK.out.trans (hKk.mono fun k h => ltl h HK.out.size)
  obtain ⟨z0, z1⟩ := HC.out wr hKk
  clear hno hKk
  by_cases hlt : k < n
  ·have hka : k < l.length := by rw [HL.out]; exact hlt
   obtain ⟨g1, o1, rfl, hg1, d1, e1⟩ := HR.out k hka
   have d1' := (HKw.out.cell (p := ⟨g1, o1 + k * 2, none⟩) hg1).trans d1
   have e1' := (HKw.out.cell (p := ⟨g1, o1 + k * 2 + 1, none⟩) hg1).trans e1
   have heq := fun X => zsj S T ⟨l[k].name.toArray⟩ ⟨l[k].value.toArray⟩ X
   have hg67 := zsh
   unfold sv at d1' e1'
   have HTK : Hid (l.take (k + 1) = l.take k ++ [l[k]]) := List.take_succ_eq_append_getElem hka
   have HIA : Hid (isA S.toList T.toList l[k] = ((S.toList == (⟨l[k].name.toArray⟩ : ByteArray).toList) && (T.toList == (⟨l[k].value.toArray⟩ : ByteArray).toList))) := zos S T l[k]
   have HMEM : Hid (l[k] ∈ l) := List.getElem_mem hka
   obtain ⟨A, hA⟩ : ∃ A, l[k] = A := ⟨_, rfl⟩
   rw [hA] at heq d1' e1' HTK HIA HMEM
   obtain ⟨x1, hx1⟩ : ∃ x : ByteArray, (⟨A.name.toArray⟩ : ByteArray) = x := ⟨_, rfl⟩
   obtain ⟨x2, hx2⟩ : ∃ x : ByteArray, (⟨A.value.toArray⟩ : ByteArray) = x := ⟨_, rfl⟩
   rw [hx1] at d1' heq HIA
   rw [hx2] at e1' heq HIA
   obtain ⟨r, hr⟩ : ∃ r, ((S.toList == x1.toList) && (T.toList == x2.toList)) = r := ⟨_, rfl⟩
   simp only [hr] at heq
   rw [hr] at HIA
   clear hx1 hx2 d1 e1 hr hA
   cases r with
   | false =>
    go_upto_region 4 with fail
    go_quiet (fail)
    go_wp2
    go_roundg (n - (k + 1))
    case rel =>
     refine ⟨k + 1, rfl, by omega, by go_num, ?_, HKk.out.drewN _⟩
     rw [HTK.out, List.any_append, HNO.out, List.any_cons, HIA.out]
     rfl
    case measure => omega
   | true =>
    go_upto_region 4 with fail
    go_quiet (fail)
    go_wp2
    go_ret
    refine ⟨(k : Int), rfl, ?_, HKw.out.drewN _⟩
    rw [List.any_eq_true.2 ⟨A, HMEM.out, HIA.out⟩]
    exact decide_eq_true (by omega)
  ·have hkn : n = k := by omega
   subst hkn
   have HE : Hid (l.any (isA S.toList T.toList) = false) := by
    have := HNO.out
    rw [List.take_of_length_le (by rw [HL.out]; exact Nat.le_refl _)] at this
    exact this
   go_wp2
   go_ret
   exact ⟨-1, rfl, by rw [HE.out]; rfl, HKw.out⟩
theorem zg0 (l : List Atr) (n : Nat) (hln : l.length = n) (hn : n <= 1000000) (a : Option Addr) (cap : Nat) (S T : ByteArray) (w : World) (hr : Zai (fun k => k < w.heap.size) w a l) :
  Calls Tryz.prog 170 #[.slice a n cap, .agg #[.string S, .string T]] w fun e w' => e = .returned (.bool (l.any (isA S.toList T.toList))) /\ Kept (fun k => k < w.heap.size) w w' := by
 obtain ⟨V, N, hV, hN, hb, hk, hsz⟩ := za9 w #[.string S, .string T] 104
 have ri := zj2 l n hln hn a cap S T V (hr.kept hk fun _ h => ltl h hk.size)
 have HV : Hid (w.alloc (.cells #[.string S, .string T] 104) = V) := hV
 have HN : Hid (w.heap.size = N) := hN
 have HK : Hid (Kept (fun k => k < w.heap.size) w V) := hk
 have z0 : V.cell? ⟨N, 0, none⟩ = some (.string S) := by rw [zaa hb]; rfl
 have z1 : V.cell? ⟨N, 1, none⟩ = some (.string T) := by rw [zaa hb]; rfl
 clear hr hln hV hN hk hsz
 go_enter Tryz.func170, Tryz.ntmps170
 go_upto_region 1 with fail
 rw [HV.out, HN.out]
 go_wp2_with (first | (refine wpList_load_row rfl 104 _ rfl N rfl 104 #[.string S, .string T] (0, 0) _ hb Tryz.underlying104 rfl (by kernel_rfl) ?_) | (refine ri.mono ?_; rintro e w2 ⟨z, rfl, hz, hk2⟩))
 go_ret
 exact ⟨by rw [<- hz]; rfl, HK.out.trans (hk2.mono fun k h => ltl h HK.out.size)⟩
end Go.Proofs.YtojbjiopilkbgaaGreat
