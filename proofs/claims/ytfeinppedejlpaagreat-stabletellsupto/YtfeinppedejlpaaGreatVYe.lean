/-
  Parts of what stable.Same compares: a node's face, its attributes.
-/
import Derived.Test.YtfeinppedejlpaaGreatVYd
import Derived.Laws.StructEq
import Derived.BigQuiet
namespace Go.Proofs.YtfeinppedejlpaaGreat
open Go.RowKit Go.Sort
set_option linter.unusedVariables false
set_option maxRecDepth 100000
set_option maxHeartbeats 8000000
abbrev zhf (x : Nd) : Array Value := #[.int .u8 (x.kind : Int), .string ⟨x.name.toArray⟩, .string ⟨x.data.toArray⟩]
theorem zta (cs : Array Value) (h : cs.size = 3) : (Tryz.prog.info? 219).map (·.size) = some cs.size := by rw [h]; kernel_rfl
theorem zj3 (x : Nd) (ao : Option Addr) (ac : Nat) (up : Int) (ko : Option Addr) (kn kc : Nat) (w : World) :
  Calls Tryz.prog 207 #[.agg (nW x ao ac up ko kn kc)] w fun e w' => e = .returned (.agg (zhf x)) /\ Kept (fun k => k < w.heap.size) w w' := by
 obtain ⟨V, N, hV, hN, hb, hk, hsz⟩ := zal w (nW x ao ac up ko kn kc) 58
 obtain ⟨Z, N2, hZ, hN2, hb2, hk2, hsz2⟩ := zal V #[.int .u8 0, .string ⟨#[]⟩, .string ⟨#[]⟩] 219
 obtain rfl : N2 = N + 1 := by rw [<- hN2, hsz, hN]
 have hbZ : Z.heap[N]? = some (.cells (nW x ao ac up ko kn kc) 58 (0, 0)) := (hk2.block N (zad hb)).trans hb
 obtain ⟨kz, hkz⟩ : ∃ z : Int, (x.kind : Int) = z := ⟨_, rfl⟩
 obtain ⟨nm, hnm⟩ : ∃ s : ByteArray, ⟨x.name.toArray⟩ = s := ⟨_, rfl⟩
 obtain ⟨dt, hdt⟩ : ∃ s : ByteArray, ⟨x.data.toArray⟩ = s := ⟨_, rfl⟩
 have z0 : Z.cell? ⟨N, 0, none⟩ = some (.int .u8 kz) := by rw [zaa hbZ, <- hkz]; rfl
 have z1 : Z.cell? ⟨N, 1, none⟩ = some (.string nm) := by rw [zaa hbZ, <- hnm]; rfl
 have z2 : Z.cell? ⟨N, 2, none⟩ = some (.string dt) := by rw [zaa hbZ, <- hdt]; rfl
 have HV : Hid (w.alloc (.cells (nW x ao ac up ko kn kc) 58) = V) := hV
 have HN : Hid (w.heap.size = N) := hN
 have HZ : Hid (V.alloc (.cells #[.int .u8 0, .string ⟨#[]⟩, .string ⟨#[]⟩] 219) = Z) := hZ
 have HK : Hid (Kept (fun k => k < w.heap.size) w Z) := kt hk hk2
 have HNL : Hid (w.heap.size <= N + 1) := by rw [hN]; exact Nat.le_succ _
 have HF : Hid (zhf x = #[.int .u8 kz, .string nm, .string dt]) := by show zhf x = _; unfold zhf; rw [hkz, hnm, hdt]
 obtain ⟨fv, hfv⟩ : ∃ v, zhf x = v := ⟨_, rfl⟩
 have HFV : Hid (zhf x = fv) := hfv
 rw [hfv]
 have hb2' := hb2
 have HB2 : Hid (Z.heap[N + 1]? = some (.cells #[.int .u8 0, .string ⟨#[]⟩, .string ⟨#[]⟩] 219 (0, 0))) := hb2
 clear hV hN hb hk hsz hZ hN2 hk2 hsz2 hbZ hkz hnm hdt hb2' hfv
 go_enter Tryz.func207, Tryz.ntmps207
 go_upto_region 1 with fail
 rw [HV.out, HN.out, HZ.out]
 clear HV HN HZ
 have s0 : Z.cell? ⟨N + 1, 0, none⟩ = some (.int .u8 0) := by rw [zaa hb2]; rfl
 have s1 : Z.cell? ⟨N + 1, 1, none⟩ = some (.string ⟨#[]⟩) := by rw [zaa hb2]; rfl
 have s2 : Z.cell? ⟨N + 1, 2, none⟩ = some (.string ⟨#[]⟩) := by rw [zaa hb2]; rfl
 have f0 : Z.frozen? ⟨N + 1, 0, none⟩ = false := by simp [World.frozen?, hb2]
 have f1 : Z.frozen? ⟨N + 1, 1, none⟩ = false := by simp [World.frozen?, hb2]
 have f2 : Z.frozen? ⟨N + 1, 2, none⟩ = false := by simp [World.frozen?, hb2]
 clear hb2
 go_wp2
 have hW := zah (zah (zah HB2.out 0 (.int .u8 kz)) 1 (.string nm)) 2 (.string dt)
 have hW' : ((((Z.setCell ⟨N + 1, 0, none⟩ (.int .u8 kz)).setCell ⟨N + 1, 1, none⟩ (.string nm)).setCell ⟨N + 1, 2, none⟩ (.string dt))).heap[N + 1]? = some (.cells #[.int .u8 kz, .string nm, .string dt] 219 (0, 0)) := hW
 refine bodyPost_ret (results_cell_row (p := 2) (ty := 219) rfl _ _ (N + 1) 219 #[.int .u8 kz, .string nm, .string dt] _ _ rfl hW' Tryz.underlying219 rfl (zta _ rfl)) rfl ?_
 refine ⟨by rw [<- HFV.out, HF.out], ?_⟩
 have hq : ∀ k, k < w.heap.size -> k ≠ N + 1 := fun k h => by have := HNL.out; omega
 exact ((HK.out.setCell (p := ⟨N + 1, 0, none⟩) (fun h => hq _ h rfl) _).setCell (p := ⟨N + 1, 1, none⟩) (fun h => hq _ h rfl) _).setCell (p := ⟨N + 1, 2, none⟩) (fun h => hq _ h rfl) _
theorem zux (S1 T1 S2 T2 : ByteArray) (X : World) : (binOp .neq 108 (.agg #[.string S1, .string T1]) (.agg #[.string S2, .string T2])).run Tryz.prog X = .ok (.bool (!((S1.toList == S2.toList) && (T1.toList == T2.toList)))) X := by
 have hS : Tryz.prog.underlying 108 = some (.struct (Tryz.prog.fieldsOf 108)) := by kernel_rfl
 have hp : Tryz.prog.stoodInHeld 108 = false := by kernel_rfl
 rw [run_neq_struct, show (10000 : Nat) = 9999 + 1 from rfl, run_equalIn_agg X 9999 108 _ _ hS hp]
 have u3 := Tryz.underlying9
 have z3 : Tryz.prog.cellsOf 9 = 1 := by kernel_rfl
 simp only [Program.fieldsOf, Tryz.underlying108]
 go_simp
 cases h1 : (S1.toList == S2.toList) <;> cases h2 : (T1.toList == T2.toList) <;> simp_all
theorem zuw : Tryz.prog.eqGuardType Tryz.prog.depth 108 = false := by kernel_rfl
theorem zjn (a b : List Atr) (aa ba : Option Addr) (an bn ac bc : Nat) (han : a.length = an) (hbn : b.length = bn) (q : Bool) (hq : q = true ↔ a = b) (ha1 : an <= 1000000) (hb1 : bn <= 1000000) (w : World) (ha : Zag (fun k => k < w.heap.size) w aa a) (hb : Zag (fun k => k < w.heap.size) w ba b) :
  Calls Tryz.prog 208 #[.slice aa an ac, .slice ba bn bc] w fun e w' => e = .returned (.bool q) /\ Kept (fun k => k < w.heap.size) w w' := by
 have HA : Hid (Zag (fun k => k < w.heap.size) w aa a) := ha
 have HB : Hid (Zag (fun k => k < w.heap.size) w ba b) := hb
 have HAN : Hid (a.length = an) := han
 have HBN : Hid (b.length = bn) := hbn
 have HQ : Hid (q = true ↔ a = b) := hq
 clear ha hb han hbn hq
 by_cases hl : an = bn
 ·subst hl
  go_enter Tryz.func208, Tryz.ntmps208
  go_wp2_with fail
  go_loopg [13] an (fun gh v wr => ∃ k : Nat, gh = an - k /\ k <= an /\ v = .int .i64 (k : Int) /\ a.take k = b.take k /\ Kept (fun k => k < w.heap.size) w wr)
  case atStart => exact ⟨0, rfl, Nat.zero_le _, rfl, rfl, Kept.refl _ _⟩
  case round =>
   obtain ⟨k, hgk, hk, rfl, heq, hKk⟩ := hrel
   have HKk : Hid (Kept (fun k => k < w.heap.size) w wr) := hKk
   have HEQ : Hid (a.take k = b.take k) := heq
   clear heq
   by_cases hlt : k < an
   ·have hka : k < a.length := by rw [HAN.out]; exact hlt
    have hkb : k < b.length := by rw [HBN.out]; exact hlt
    obtain ⟨g1, o1, rfl, hg1, d1, e1⟩ := HA.out k hka
    obtain ⟨g2, o2, rfl, hg2, d2, e2⟩ := HB.out k hkb
    have d1' := (hKk.cell (p := ⟨g1, o1 + k * 2, none⟩) hg1).trans d1
    have e1' := (hKk.cell (p := ⟨g1, o1 + k * 2 + 1, none⟩) hg1).trans e1
    have d2' := (hKk.cell (p := ⟨g2, o2 + k * 2, none⟩) hg2).trans d2
    have e2' := (hKk.cell (p := ⟨g2, o2 + k * 2 + 1, none⟩) hg2).trans e2
    have heq := fun X => zux ⟨a[k].name.toArray⟩ ⟨a[k].value.toArray⟩ ⟨b[k].name.toArray⟩ ⟨b[k].value.toArray⟩ X
    simp only [ByteArray.toList_eq] at heq
    have hg67 := zuw
    unfold sv at d1' e1' d2' e2'
    obtain ⟨x1, hx1⟩ : ∃ x : ByteArray, (⟨a[k].name.toArray⟩ : ByteArray) = x := ⟨_, rfl⟩
    obtain ⟨x2, hx2⟩ : ∃ x : ByteArray, (⟨a[k].value.toArray⟩ : ByteArray) = x := ⟨_, rfl⟩
    obtain ⟨y1, hy1⟩ : ∃ x : ByteArray, (⟨b[k].name.toArray⟩ : ByteArray) = x := ⟨_, rfl⟩
    obtain ⟨y2, hy2⟩ : ∃ x : ByteArray, (⟨b[k].value.toArray⟩ : ByteArray) = x := ⟨_, rfl⟩
    obtain ⟨r, hr⟩ : ∃ r, (!((a[k].name == b[k].name) && (a[k].value == b[k].value))) = r := ⟨_, rfl⟩
    have HR : Hid ((!((a[k].name == b[k].name) && (a[k].value == b[k].value))) = r) := hr
    have heq' : ∀ X, (binOp .neq 108 (.agg #[.string x1, .string x2]) (.agg #[.string y1, .string y2])).run Tryz.prog X = .ok (.bool r) X := by rw [<- hr, <- hx1, <- hx2, <- hy1, <- hy2]; exact heq
    rw [hx1] at d1'
    rw [hx2] at e1'
    rw [hy1] at d2'
    rw [hy2] at e2'
    clear hx1 hx2 hy1 hy2 d1 e1 d2 e2 hKk heq hr
    cases r with
    | false =>
     have HAB : Hid (a[k] = b[k]) := by
      have := HR.out
      simp at this
      exact (show Hid _ from (by cases h1 : a[k]; cases h2 : b[k]; simp_all))
     go_upto_region 6 with fail
     go_quiet (fail)
     go_wp2
     go_roundg (an - (k + 1))
     case rel =>
      refine ⟨k + 1, rfl, by omega, by go_num, ?_, HKk.out.drewN _⟩
      rw [List.take_succ_eq_append_getElem hka, List.take_succ_eq_append_getElem hkb, HEQ.out, HAB.out]
     case measure => omega
    | true =>
     have hq : q = false := by
      refine Bool.eq_false_iff.2 fun hc => ?_
      have c := HQ.out.1 hc
      subst c
      have := HR.out
      simp at this
     subst hq
     go_upto_region 6 with fail
     go_quiet (fail)
     go_wp2
     go_ret
     exact ⟨rfl, HKk.out.drewN _⟩
   ·have hkn : an = k := by omega
    subst hkn
    have hq : q = true := by
     refine HQ.out.2 ?_
     have := HEQ.out
     rw [List.take_of_length_le (by rw [HAN.out]; exact Nat.le_refl _), List.take_of_length_le (by rw [HBN.out]; exact Nat.le_refl _)] at this
     exact this
    subst hq
    clear hKk
    go_wp2
    go_ret
    exact ⟨rfl, HKk.out⟩
 ·have e1 : ((an : Int) != (bn : Int)) = true := by simp; omega
  have HNE : Hid (an ≠ bn) := hl
  clear hl
  have hq : q = false := by
   refine Bool.eq_false_iff.2 fun hc => ?_
   have c := HQ.out.1 hc
   subst c
   exact HNE.out (HAN.out.symm.trans HBN.out)
  subst hq
  go_enter Tryz.func208, Tryz.ntmps208
  go_wp2
  go_ret
  exact ⟨rfl, Kept.refl _ _⟩
theorem zup : Tryz.prog.eqGuardType Tryz.prog.depth 219 = false := by kernel_rfl
theorem zu0 (a b : Fg) (X : World) : (binOp .eql 48 (fgV a) (fgV b)).run Tryz.prog X = .ok (.bool (a.a == b.a && (a.b == b.b && (a.c == b.c && (a.d == b.d && a.e == b.e))))) X := by
 have hS : Tryz.prog.underlying 48 = some (.struct (Tryz.prog.fieldsOf 48)) := by kernel_rfl
 have hp : Tryz.prog.stoodInHeld 48 = false := by kernel_rfl
 have u4 := Tryz.underlying4
 have z4 : Tryz.prog.cellsOf 4 = 1 := by kernel_rfl
 obtain ⟨a1, a2, a3, a4, a5⟩ := a
 obtain ⟨b1, b2, b3, b4, b5⟩ := b
 show (binOp .eql 48 (.agg #[.bool a1, .bool a2, .bool a3, .bool a4, .bool a5]) (.agg #[.bool b1, .bool b2, .bool b3, .bool b4, .bool b5])).run Tryz.prog X = _
 rw [run_eql_struct, show (10000 : Nat) = 9999 + 1 from rfl, run_equalIn_agg X 9999 48 _ _ hS hp]
 simp only [Program.fieldsOf, Tryz.underlying48]
 go_simp
 cases a1 <;> cases a2 <;> cases a3 <;> cases a4 <;> cases a5 <;> cases b1 <;> cases b2 <;> cases b3 <;> cases b4 <;> cases b5 <;> rfl
theorem zur : Tryz.prog.eqGuardType Tryz.prog.depth 48 = false := by kernel_rfl
end Go.Proofs.YtfeinppedejlpaaGreat
