/-
  Parts of what stable.Same compares: a node's face, its attributes.
-/
import Derived.Test.YtikaheenjhdpmaaYd
import Derived.Laws.StructEq
import Derived.BigQuiet
namespace Go.Proofs.Ytikaheenjhdpmaa
open Go.RowKit Go.Sort
set_option linter.unusedVariables false
set_option maxRecDepth 100000
set_option maxHeartbeats 8000000
abbrev faceV (x : Nd) : Array Value := #[.int .u8 (x.kind : Int), .string ⟨x.name.toArray⟩, .string ⟨x.data.toArray⟩]
theorem sizeF3 (cs : Array Value) (h : cs.size = 3) : (Try.prog.info? 98).map (·.size) = some cs.size := by rw [h]; kernel_rfl
theorem face_any (x : Nd) (ao : Option Addr) (ac : Nat) (up : Int) (ko : Option Addr) (kn kc : Nat) (w : World) :
    Calls Try.prog 48 #[.agg (nW x ao ac up ko kn kc)] w fun e w' => e = .returned (.agg (faceV x)) ∧ Kept (fun k => k < w.heap.size) w w' := by
  obtain ⟨V, N, hV, hN, hb, hk, hsz⟩ := alloc_bx w (nW x ao ac up ko kn kc) 35
  obtain ⟨Z, N2, hZ, hN2, hb2, hk2, hsz2⟩ := alloc_bx V #[.int .u8 0, .string ⟨#[]⟩, .string ⟨#[]⟩] 98
  obtain rfl : N2 = N + 1 := by rw [← hN2, hsz, hN]
  have hbZ : Z.heap[N]? = some (.cells (nW x ao ac up ko kn kc) 35 (0, 0)) := (hk2.block N (lt_block hb)).trans hb
  obtain ⟨kz, hkz⟩ : ∃ z : Int, (x.kind : Int) = z := ⟨_, rfl⟩
  obtain ⟨nm, hnm⟩ : ∃ s : ByteArray, ⟨x.name.toArray⟩ = s := ⟨_, rfl⟩
  obtain ⟨dt, hdt⟩ : ∃ s : ByteArray, ⟨x.data.toArray⟩ = s := ⟨_, rfl⟩
  have z0 : Z.cell? ⟨N, 0, none⟩ = some (.int .u8 kz) := by rw [cell_block hbZ, ← hkz]; rfl
  have z1 : Z.cell? ⟨N, 1, none⟩ = some (.string nm) := by rw [cell_block hbZ, ← hnm]; rfl
  have z2 : Z.cell? ⟨N, 2, none⟩ = some (.string dt) := by rw [cell_block hbZ, ← hdt]; rfl
  have HV : Hid (w.alloc (.cells (nW x ao ac up ko kn kc) 35) = V) := hV
  have HN : Hid (w.heap.size = N) := hN
  have HZ : Hid (V.alloc (.cells #[.int .u8 0, .string ⟨#[]⟩, .string ⟨#[]⟩] 98) = Z) := hZ
  have HK : Hid (Kept (fun k => k < w.heap.size) w Z) := hk.trans (hk2.mono fun k h => Nat.lt_of_lt_of_le h hk.size)
  have HNL : Hid (w.heap.size ≤ N + 1) := by rw [hN]; exact Nat.le_succ _
  have HF : Hid (faceV x = #[.int .u8 kz, .string nm, .string dt]) := by show faceV x = _; unfold faceV; rw [hkz, hnm, hdt]
  obtain ⟨fv, hfv⟩ : ∃ v, faceV x = v := ⟨_, rfl⟩
  have HFV : Hid (faceV x = fv) := hfv
  rw [hfv]
  have hb2' := hb2
  have HB2 : Hid (Z.heap[N + 1]? = some (.cells #[.int .u8 0, .string ⟨#[]⟩, .string ⟨#[]⟩] 98 (0, 0))) := hb2
  clear hV hN hb hk hsz hZ hN2 hk2 hsz2 hbZ hkz hnm hdt hb2' hfv
  go_enter Try.func48, Try.ntmps48
  go_upto_region 1 with fail
  rw [HV.out, HN.out, HZ.out]
  clear HV HN HZ
  have s0 : Z.cell? ⟨N + 1, 0, none⟩ = some (.int .u8 0) := by rw [cell_block hb2]; rfl
  have s1 : Z.cell? ⟨N + 1, 1, none⟩ = some (.string ⟨#[]⟩) := by rw [cell_block hb2]; rfl
  have s2 : Z.cell? ⟨N + 1, 2, none⟩ = some (.string ⟨#[]⟩) := by rw [cell_block hb2]; rfl
  have f0 : Z.frozen? ⟨N + 1, 0, none⟩ = false := by simp [World.frozen?, hb2]
  have f1 : Z.frozen? ⟨N + 1, 1, none⟩ = false := by simp [World.frozen?, hb2]
  have f2 : Z.frozen? ⟨N + 1, 2, none⟩ = false := by simp [World.frozen?, hb2]
  clear hb2
  go_wp2
  have hW := heap_setCell_at (heap_setCell_at (heap_setCell_at HB2.out 0 (.int .u8 kz)) 1 (.string nm)) 2 (.string dt)
  have hW' : ((((Z.setCell ⟨N + 1, 0, none⟩ (.int .u8 kz)).setCell ⟨N + 1, 1, none⟩ (.string nm)).setCell ⟨N + 1, 2, none⟩ (.string dt))).heap[N + 1]? = some (.cells #[.int .u8 kz, .string nm, .string dt] 98 (0, 0)) := hW
  refine bodyPost_ret (results_cell_row (p := 2) (ty := 98) rfl _ _ (N + 1) 98 #[.int .u8 kz, .string nm, .string dt] _ _ rfl hW' Try.underlying98 rfl (sizeF3 _ rfl)) rfl ?_
  refine ⟨by rw [← HFV.out, HF.out], ?_⟩
  have hq : ∀ k, k < w.heap.size → k ≠ N + 1 := fun k h => by have := HNL.out; omega
  exact ((HK.out.setCell (p := ⟨N + 1, 0, none⟩) (fun h => hq _ h rfl) _).setCell (p := ⟨N + 1, 1, none⟩) (fun h => hq _ h rfl) _).setCell (p := ⟨N + 1, 2, none⟩) (fun h => hq _ h rfl) _
theorem eqlA (S1 T1 S2 T2 : ByteArray) (X : World) : (binOp .eql 88 (.agg #[.string S1, .string T1]) (.agg #[.string S2, .string T2])).run Try.prog X = .ok (.bool ((S1.toList == S2.toList) && (T1.toList == T2.toList))) X := by
  have hS : Try.prog.underlying 88 = some (.struct (Try.prog.fieldsOf 88)) := by kernel_rfl
  have hp : Try.prog.stoodInHeld 88 = false := by kernel_rfl
  rw [run_eql_struct, show (10000 : Nat) = 9999 + 1 from rfl, run_equalIn_agg X 9999 88 _ _ hS hp]
  have u3 := Try.underlying9
  have z3 : Try.prog.cellsOf 9 = 1 := by kernel_rfl
  simp only [Program.fieldsOf, Try.underlying88]
  go_simp
  cases h1 : (S1.toList == S2.toList) <;> cases h2 : (T1.toList == T2.toList) <;> simp_all
theorem neqA (S1 T1 S2 T2 : ByteArray) (X : World) : (binOp .neq 88 (.agg #[.string S1, .string T1]) (.agg #[.string S2, .string T2])).run Try.prog X = .ok (.bool (!((S1.toList == S2.toList) && (T1.toList == T2.toList)))) X := by
  have hS : Try.prog.underlying 88 = some (.struct (Try.prog.fieldsOf 88)) := by kernel_rfl
  have hp : Try.prog.stoodInHeld 88 = false := by kernel_rfl
  rw [run_neq_struct, show (10000 : Nat) = 9999 + 1 from rfl, run_equalIn_agg X 9999 88 _ _ hS hp]
  have u3 := Try.underlying9
  have z3 : Try.prog.cellsOf 9 = 1 := by kernel_rfl
  simp only [Program.fieldsOf, Try.underlying88]
  go_simp
  cases h1 : (S1.toList == S2.toList) <;> cases h2 : (T1.toList == T2.toList) <;> simp_all
theorem grdA : Try.prog.eqGuardType Try.prog.depth 88 = false := by kernel_rfl
theorem eqAttrs_any (a b : List Atr) (aa ba : Option Addr) (an bn ac bc : Nat) (han : a.length = an) (hbn : b.length = bn) (q : Bool) (hq : q = true ↔ a = b) (ha1 : an ≤ 1000000) (hb1 : bn ≤ 1000000) (w : World) (ha : AtsAt (fun k => k < w.heap.size) w aa a) (hb : AtsAt (fun k => k < w.heap.size) w ba b) :
    Calls Try.prog 49 #[.slice aa an ac, .slice ba bn bc] w fun e w' => e = .returned (.bool q) ∧ Kept (fun k => k < w.heap.size) w w' := by
  have HA : Hid (AtsAt (fun k => k < w.heap.size) w aa a) := ha
  have HB : Hid (AtsAt (fun k => k < w.heap.size) w ba b) := hb
  have HAN : Hid (a.length = an) := han
  have HBN : Hid (b.length = bn) := hbn
  have HQ : Hid (q = true ↔ a = b) := hq
  clear ha hb han hbn hq
  by_cases hl : an = bn
  · subst hl
    go_enter Try.func49, Try.ntmps49
    go_wp2_with fail
    go_loopg [13] an (fun gh v wr => ∃ k : Nat, gh = an - k ∧ k ≤ an ∧ v = .int .i64 (k : Int) ∧ a.take k = b.take k ∧ Kept (fun k => k < w.heap.size) w wr)
    case atStart => exact ⟨0, rfl, Nat.zero_le _, rfl, rfl, Kept.refl _ _⟩
    case round =>
      obtain ⟨k, hgk, hk, rfl, heq, hKk⟩ := hrel
      have HKk : Hid (Kept (fun k => k < w.heap.size) w wr) := hKk
      have HEQ : Hid (a.take k = b.take k) := heq
      clear heq
      by_cases hlt : k < an
      · have hka : k < a.length := by rw [HAN.out]; exact hlt
        have hkb : k < b.length := by rw [HBN.out]; exact hlt
        obtain ⟨g1, o1, rfl, hg1, d1, e1⟩ := HA.out k hka
        obtain ⟨g2, o2, rfl, hg2, d2, e2⟩ := HB.out k hkb
        have d1' := (hKk.cell (p := ⟨g1, o1 + k * 2, none⟩) hg1).trans d1
        have e1' := (hKk.cell (p := ⟨g1, o1 + k * 2 + 1, none⟩) hg1).trans e1
        have d2' := (hKk.cell (p := ⟨g2, o2 + k * 2, none⟩) hg2).trans d2
        have e2' := (hKk.cell (p := ⟨g2, o2 + k * 2 + 1, none⟩) hg2).trans e2
        have heq := fun X => neqA ⟨a[k].name.toArray⟩ ⟨a[k].value.toArray⟩ ⟨b[k].name.toArray⟩ ⟨b[k].value.toArray⟩ X
        simp only [ByteArray.toList_eq] at heq
        have hg67 := grdA
        unfold sv at d1' e1' d2' e2'
        obtain ⟨x1, hx1⟩ : ∃ x : ByteArray, (⟨a[k].name.toArray⟩ : ByteArray) = x := ⟨_, rfl⟩
        obtain ⟨x2, hx2⟩ : ∃ x : ByteArray, (⟨a[k].value.toArray⟩ : ByteArray) = x := ⟨_, rfl⟩
        obtain ⟨y1, hy1⟩ : ∃ x : ByteArray, (⟨b[k].name.toArray⟩ : ByteArray) = x := ⟨_, rfl⟩
        obtain ⟨y2, hy2⟩ : ∃ x : ByteArray, (⟨b[k].value.toArray⟩ : ByteArray) = x := ⟨_, rfl⟩
        obtain ⟨r, hr⟩ : ∃ r, (!((a[k].name == b[k].name) && (a[k].value == b[k].value))) = r := ⟨_, rfl⟩
        have HR : Hid ((!((a[k].name == b[k].name) && (a[k].value == b[k].value))) = r) := hr
        have heq' : ∀ X, (binOp .neq 88 (.agg #[.string x1, .string x2]) (.agg #[.string y1, .string y2])).run Try.prog X = .ok (.bool r) X := by rw [← hr, ← hx1, ← hx2, ← hy1, ← hy2]; exact heq
        rw [hx1] at d1'
        rw [hx2] at e1'
        rw [hy1] at d2'
        rw [hy2] at e2'
        clear hx1 hx2 hy1 hy2 d1 e1 d2 e2 hKk heq hr
        cases r with
        | false =>
          have HAB : Hid (a[k] = b[k]) := by
            have := HR.out
            simp at this
            exact (show Hid _ from (by cases h1 : a[k]; cases h2 : b[k]; simp_all))
          go_upto_region 6 with fail
          go_quiet (fail)
          go_wp2
          go_roundg (an - (k + 1))
          case rel =>
            refine ⟨k + 1, rfl, by omega, by go_num, ?_, HKk.out.drewN _⟩
            rw [List.take_succ_eq_append_getElem hka, List.take_succ_eq_append_getElem hkb, HEQ.out, HAB.out]
          case measure => omega
        | true =>
          have hq : q = false := by
            refine Bool.eq_false_iff.2 fun hc => ?_
            have c := HQ.out.1 hc
            subst c
            have := HR.out
            simp at this
          subst hq
          go_upto_region 6 with fail
          go_quiet (fail)
          go_wp2
          go_ret
          exact ⟨rfl, HKk.out.drewN _⟩
      · have hkn : an = k := by omega
        subst hkn
        have hq : q = true := by
          refine HQ.out.2 ?_
          have := HEQ.out
          rw [List.take_of_length_le (by rw [HAN.out]; exact Nat.le_refl _), List.take_of_length_le (by rw [HBN.out]; exact Nat.le_refl _)] at this
          exact this
        subst hq
        clear hKk
        go_wp2
        go_ret
        exact ⟨rfl, HKk.out⟩
  · have e1 : ((an : Int) != (bn : Int)) = true := by simp; omega
    have HNE : Hid (an ≠ bn) := hl
    clear hl
    have hq : q = false := by
      refine Bool.eq_false_iff.2 fun hc => ?_
      have c := HQ.out.1 hc
      subst c
      exact HNE.out (HAN.out.symm.trans HBN.out)
    subst hq
    go_enter Try.func49, Try.ntmps49
    go_wp2
    go_ret
    exact ⟨rfl, Kept.refl _ _⟩
theorem eqlF (k1 k2 : Int) (S1 T1 S2 T2 : ByteArray) (X : World) : (binOp .eql 98 (.agg #[.int .u8 k1, .string S1, .string T1]) (.agg #[.int .u8 k2, .string S2, .string T2])).run Try.prog X = .ok (.bool ((k1 == k2) && ((S1.toList == S2.toList) && (T1.toList == T2.toList)))) X := by
  have hS : Try.prog.underlying 98 = some (.struct (Try.prog.fieldsOf 98)) := by kernel_rfl
  have hp : Try.prog.stoodInHeld 98 = false := by kernel_rfl
  rw [run_eql_struct, show (10000 : Nat) = 9999 + 1 from rfl, run_equalIn_agg X 9999 98 _ _ hS hp]
  have u3 := Try.underlying9
  have u5 := Try.underlying5
  have z3 : Try.prog.cellsOf 9 = 1 := by kernel_rfl
  have z5 : Try.prog.cellsOf 5 = 1 := by kernel_rfl
  simp only [Program.fieldsOf, Try.underlying98]
  go_simp
  cases h0 : (k1 == k2) <;> cases h1 : (S1.toList == S2.toList) <;> cases h2 : (T1.toList == T2.toList) <;> simp_all
theorem grdF : Try.prog.eqGuardType Try.prog.depth 98 = false := by kernel_rfl
theorem eqlG (a b : Fg) (X : World) : (binOp .eql 33 (fgV a) (fgV b)).run Try.prog X = .ok (.bool (a.a == b.a && (a.b == b.b && (a.c == b.c && (a.d == b.d && a.e == b.e))))) X := by
  have hS : Try.prog.underlying 33 = some (.struct (Try.prog.fieldsOf 33)) := by kernel_rfl
  have hp : Try.prog.stoodInHeld 33 = false := by kernel_rfl
  have u4 := Try.underlying4
  have z4 : Try.prog.cellsOf 4 = 1 := by kernel_rfl
  obtain ⟨a1, a2, a3, a4, a5⟩ := a
  obtain ⟨b1, b2, b3, b4, b5⟩ := b
  show (binOp .eql 33 (.agg #[.bool a1, .bool a2, .bool a3, .bool a4, .bool a5]) (.agg #[.bool b1, .bool b2, .bool b3, .bool b4, .bool b5])).run Try.prog X = _
  rw [run_eql_struct, show (10000 : Nat) = 9999 + 1 from rfl, run_equalIn_agg X 9999 33 _ _ hS hp]
  simp only [Program.fieldsOf, Try.underlying33]
  go_simp
  cases a1 <;> cases a2 <;> cases a3 <;> cases a4 <;> cases a5 <;> cases b1 <;> cases b2 <;> cases b3 <;> cases b4 <;> cases b5 <;> rfl
theorem grdG : Try.prog.eqGuardType Try.prog.depth 33 = false := by kernel_rfl
end Go.Proofs.Ytikaheenjhdpmaa
