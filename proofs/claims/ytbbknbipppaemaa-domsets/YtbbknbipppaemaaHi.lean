/-
  The walk of DomSets, where all is looked at.
-/
import Derived.Test.YtbbknbipppaemaaHh
import Derived.Laws.StructEq
namespace Go.Proofs.Ytbbknbipppaemaa
open Go.RowKit
set_option linter.unusedVariables false

theorem eql24 (S1 T1 S2 T2 : ByteArray) (X : World) : (binOp .eql 24 (.agg #[.string S1, .string T1]) (.agg #[.string S2, .string T2])).run Try.prog X = .ok (.bool ((S1.toList == S2.toList) && (T1.toList == T2.toList))) X := by
  have hS : Try.prog.underlying 24 = some (.struct (Try.prog.fieldsOf 24)) := by kernel_rfl
  have hp : Try.prog.stoodInHeld 24 = false := by kernel_rfl
  rw [run_eql_struct, show (10000 : Nat) = 9999 + 1 from rfl, run_equalIn_agg X 9999 24 _ _ hS hp]
  have u3 := Try.underlying9
  have z3 : Try.prog.cellsOf 9 = 1 := by kernel_rfl
  simp only [Program.fieldsOf, Try.underlying24]
  go_simp
  cases h1 : (S1.toList == S2.toList) <;> cases h2 : (T1.toList == T2.toList) <;> simp_all
theorem grd24 : Try.prog.eqGuardType Try.prog.depth 24 = false := by kernel_rfl
abbrev svs (l : List (List UInt8)) : List Value := l.map fun x => sv x
theorem app_of {B : Nat → Prop} {w : World} {p : Nat} {M : Dm} {ao : Option Addr} (hX : DX (fun k => B k ∨ blkOf ao k) w p M) : ∀ k, B k → k < w.heap.size := fun k hk => hX.lt k (.inl hk)

set_option maxRecDepth 20000 in
set_option maxHeartbeats 4000000 in
theorem sets_go (l : List Atr) (a : Option Addr) (len cap : Nat) (hln : l.length = len) (kz : Int) (hk0 : 0 ≤ kz) (hk1 : kz ≤ 255) (V : List UInt8) (w : World) (ha : AtsAt (fun k => k < w.heap.size) w a l) (h40 : len ≤ 40) (hV : V.length ≤ 500) (hsum : sumA l len ≤ 5000) :
    Calls Try.prog 3 #[.slice a len cap, .int .u8 kz, .string ⟨V.toArray⟩] w fun e w' => e = .returned (.bool true) ∧ Kept (fun k => k < w.heap.size) w w' := by
  have rk := fun m => known_any (w.drewN m)
  have HA : Hid (AtsAt (fun k => k < w.heap.size) w a l) := ha
  have HL : Hid (l.length = len) := hln
  have HZ : Hid (∀ x ∈ l, x.name.length ≤ 5000 ∧ x.value.length ≤ 5000) := fun x hx => by
    obtain ⟨j, hj, rfl⟩ := List.mem_iff_getElem.1 hx
    have h1 := sumA_succ l j hj
    have h2 := sumA_mono l (show j + 1 ≤ len by omega)
    omega
  have HSUM : Hid (sumA l len ≤ 5000) := hsum
  have HVL : Hid (V.length ≤ 500) := hV
  obtain ⟨VB, hVB⟩ : ∃ VB : ByteArray, ⟨V.toArray⟩ = VB := ⟨_, rfl⟩
  have hVs : VB.size ≤ 500 := by rw [← hVB, ba_size]; exact hV
  have HVB : Hid (⟨V.toArray⟩ = VB) := hVB
  rw [hVB]
  clear ha hln hV hsum hVB
  go_enter Try.func3, Try.ntmps3
  go_upto_region 3 with fail
  go_loopg [7, 8] len (fun gh v7 v8 wr => ∃ (i : Nat) (m : Nat), gh = len - i ∧ i ≤ len ∧ v8 = .int .i64 (i : Int) ∧ v7 = .int .i64 (sumA l i : Int) ∧ wr = w.drewN m)
  case atStart => exact ⟨0, 0, rfl, Nat.zero_le _, rfl, rfl, rfl⟩
  case round =>
    obtain ⟨i, m, hgi, hi, rfl, rfl, rfl⟩ := hrel
    by_cases hlt : i < len
    · have hl : i < l.length := by rw [HL.out]; exact hlt
      obtain ⟨g, o, rfl, -, c0, c1⟩ := HA.out i hl
      have HS : Hid (sumA l (i + 1) = sumA l i + (l[i].name.length + l[i].value.length)) := sumA_succ l i hl
      have hle : sumA l (i + 1) ≤ 5000 := by have := sumA_mono l (show i + 1 ≤ len by omega); have := HSUM.out; omega
      obtain ⟨n1, h1⟩ : ∃ n1, l[i].name.length = n1 := ⟨_, rfl⟩
      obtain ⟨n2, h2⟩ : ∃ n2, l[i].value.length = n2 := ⟨_, rfl⟩
      obtain ⟨B1, hB1⟩ : ∃ B : ByteArray, ⟨l[i].name.toArray⟩ = B := ⟨_, rfl⟩
      obtain ⟨B2, hB2⟩ : ∃ B : ByteArray, ⟨l[i].value.toArray⟩ = B := ⟨_, rfl⟩
      have s1 : B1.size = n1 := by rw [← hB1, ba_size, h1]
      have s2 : B2.size = n2 := by rw [← hB2, ba_size, h2]
      have d0 : w.cell? ⟨g, o + i * 2, none⟩ = some (.string B1) := by rw [← hB1]; exact c0
      have d1 : w.cell? ⟨g, o + i * 2 + 1, none⟩ = some (.string B2) := by rw [← hB2]; exact c1
      have d2 : (w.drewN m).cell? ⟨g, o + i * 2, none⟩ = some (.string B1) := d0
      have d3 : (w.drewN m).cell? ⟨g, o + i * 2 + 1, none⟩ = some (.string B2) := d1
      rw [h1, h2] at HS
      obtain ⟨T, hT⟩ : ∃ T, sumA l i = T := ⟨_, rfl⟩
      have hTs : T + (n1 + n2) ≤ 5000 := by have := HS.out; omega
      rw [hT] at HS ⊢
      clear c0 c1 hB1 hB2 h1 h2 hle hT
      go_upto_region 5 with fail
      go_quiet (fail)
      go_wp2
      go_roundg (len - (i + 1))
      case rel => exact ⟨i + 1, _, rfl, by omega, by go_num, by rw [HS.out]; go_num, rfl⟩
      case measure => omega
    · have hiN : len = i := by omega
      subst hiN
      obtain ⟨T, hT⟩ : ∃ T, sumA l len = T := ⟨_, rfl⟩
      have e1 : decide ((T : Int) > 5000) = false := decide_eq_false (by have := HSUM.out; omega)
      have e2 : decide ((len : Int) > 40) = false := decide_eq_false (by omega)
      have e3 : decide ((VB.size : Int) > 500) = false := decide_eq_false (by omega)
      rw [hT]
      clear hT
      go_upto_region 8 with (go_at_call 8; refine (rk m).mono ?_; rintro e w1 ⟨rfl, hk1⟩)
      have HK1 : Hid (Kept (fun k => k < w.heap.size) w w1) := ((Kept.refl _ w).drewN m).trans hk1
      have rp := plain_any 1 (by decide) w1
      clear rk hk1 e1 e2 e3
      go_wp2_with fail
      refine rp.mono ?_
      rintro e w2 ⟨p, M, R, rk0, rfl, hp, hX, hG, hD, -, hK⟩
      have HX0 : Hid (DX (fun k => k < w.heap.size ∨ blkOf none k) w2 p M) := hX.more (Kept.refl _ _) (fun k hk => by
        rcases hk with h | h
        · exact .inl (Nat.lt_of_lt_of_le h HK1.out.size)
        · cases h) (fun k hk => by
        rcases hk with h | h
        · exact Nat.lt_of_lt_of_le h (Nat.le_trans HK1.out.size hK.size)
        · cases h)
      have HS0 : Hid (SS M R) := SS.first hG hD
      have HA0 : Hid ((M.nd 1).attrs = []) := by rw [hD.divs 1 (by omega) (by omega)]; rfl
      have HK0 : Hid (Kept (fun k => k < w.heap.size) w w2) := HK1.out.trans (hK.mono fun k h => Nat.lt_of_lt_of_le h HK1.out.size)
      clear rp hX hG hD hK
      go_upto_region 13 with fail
      go_loopg [10, 11] len (fun gh v10 v11 wr => ∃ (i : Nat) (M : Dm) (nms : List (List UInt8)) (ao : Option Addr) (c : Nat), gh = len - i ∧ i ≤ len ∧ v11 = .int .i64 (i : Int) ∧ v10 = .slice ao nms.length c ∧ nms.length ≤ i ∧ OwnZ (fun k => k < w.heap.size) wr 9 1 ao nms.length c (svs nms) ∧ DX (fun k => k < w.heap.size ∨ blkOf ao k) wr p M ∧ SS M R ∧ (∀ nm ∈ nms, Has (M.nd 1).attrs nm) ∧ (nms = [] → (M.nd 1).attrs = []) ∧ Kept (fun k => k < w.heap.size) w wr)
      case atStart => exact ⟨0, M, [], none, 0, rfl, Nat.zero_le _, rfl, rfl, Nat.le_refl _, OwnZ.nil _ _ _ _, HX0.out, HS0.out, fun _ h => (by cases h), fun _ => HA0.out, HK0.out⟩
      case round =>
        clear HX0 HS0 HA0 HK0
        obtain ⟨i, M, nms, ao, c, hgi, hi, rfl, rfl, hnl, hO, hX, hS, hHas, hEm, hK⟩ := hrel
        by_cases hil : i < len
        · have hl : i < l.length := by rw [HL.out]; exact hil
          obtain ⟨g, o, rfl, hgw, c0, c1⟩ := HA.out i hl
          have d0 : wr.cell? ⟨g, o + i * 2, none⟩ = some (.string ⟨l[i].name.toArray⟩) := (hK.cell (p := ⟨g, o + i * 2, none⟩) hgw).trans c0
          have d1 : wr.cell? ⟨g, o + i * 2 + 1, none⟩ = some (.string ⟨l[i].value.toArray⟩) := (hK.cell (p := ⟨g, o + i * 2 + 1, none⟩) hgw).trans c1
          have d0d : wr.drew.cell? ⟨g, o + i * 2, none⟩ = some (.string ⟨l[i].name.toArray⟩) := d0
          have d1d : wr.drew.cell? ⟨g, o + i * 2 + 1, none⟩ = some (.string ⟨l[i].value.toArray⟩) := d1
          have hXd : DX (fun k => k < w.heap.size ∨ blkOf ao k) wr.drew p M := hX.kept ((Kept.refl _ wr).drew)
          have rs := set_SS (fun k => k < w.heap.size ∨ blkOf ao k) p M R l[i] hS (HZ.out l[i] (List.getElem_mem hl)) wr.drew hXd
          obtain ⟨at1, hat⟩ : ∃ x, l[i] = x := ⟨_, rfl⟩
          rw [hat] at d0 d1 d0d d1d rs
          have hli : l[i]? = some at1 := by rw [List.getElem?_eq_getElem hl, hat]
          have HLI : Hid (l[i]? = some at1) := hli
          have rs' : Calls Try.prog 10 #[.pointer (some ⟨p, 0, none⟩), .int .i64 1, .string ⟨at1.name.toArray⟩, .string ⟨at1.value.toArray⟩] wr.drew fun e w' => ∃ z : Int, e = .returned (.int .u16 z) ∧ ∃ M2, ((z = 0 ∧ DX (fun k => k < w.heap.size ∨ blkOf ao k) w' p M2 ∧ SS M2 R ∧ (M2.nd 1).attrs = setA (M.nd 1).attrs at1) ∨ (z = 82 ∧ DX (fun k => k < w.heap.size ∨ blkOf ao k) w' p M2 ∧ SS M2 R ∧ (M2.nd 1).attrs = (M.nd 1).attrs)) ∧ Kept (fun k => k < w.heap.size ∨ blkOf ao k) wr w' := rs.mono fun e w' hh => by
            have hkd : Kept (fun k => k < w.heap.size ∨ blkOf ao k) wr w' := ((Kept.refl _ wr).drew).trans hh.2
            rcases hh.1 with ⟨q1, q2, q3, q4⟩ | ⟨q1, q2, q3⟩
            · exact ⟨0, q2, _, .inl ⟨rfl, q3, q4, SS.attrs M _⟩, hkd⟩
            · exact ⟨82, q2, M, .inr ⟨rfl, q3, hS, rfl⟩, hkd⟩
          have HS : Hid (SS M R) := hS
          have HX : Hid (DX (fun k => k < w.heap.size ∨ blkOf ao k) wr p M) := hX
          have HO : Hid (OwnZ (fun k => k < w.heap.size) wr 9 1 ao nms.length c (svs nms)) := hO
          have HH : Hid ((∀ nm ∈ nms, Has (M.nd 1).attrs nm) ∧ (nms = [] → (M.nd 1).attrs = [])) := ⟨hHas, hEm⟩
          have HK : Hid (Kept (fun k => k < w.heap.size) w wr) := hK
          have HC : Hid (w.cell? ⟨g, o + i * 2, none⟩ = some (.string ⟨at1.name.toArray⟩) ∧ w.cell? ⟨g, o + i * 2 + 1, none⟩ = some (.string ⟨at1.value.toArray⟩)) := by rw [← hat]; exact ⟨c0, c1⟩
          clear hX hS hO hHas hEm hK hXd c0 c1 hat hli rs
          go_upto_region 15 with fail
          go_cut [12] from 74 to 85 (fun v wx => ∃ z : Int, v = .int .u16 z ∧ ∃ M2, ((z = 0 ∧ DX (fun k => k < w.heap.size ∨ blkOf ao k) wx p M2 ∧ SS M2 R ∧ (M2.nd 1).attrs = setA (M.nd 1).attrs at1) ∨ (z = 82 ∧ DX (fun k => k < w.heap.size ∨ blkOf ao k) wx p M2 ∧ SS M2 R ∧ (M2.nd 1).attrs = (M.nd 1).attrs)) ∧ Kept (fun k => k < w.heap.size ∨ blkOf ao k) wr wx)
          case first =>
            go_region_with (go_at_call 10; refine rs'.mono ?_; rintro e w3 ⟨z, rfl, hres⟩)
            all_goals
              go_wp2_with fail
              go_meet
              exact ⟨z, rfl, hres⟩
          case rest =>
            obtain ⟨z, rfl, M2, hres, hKc⟩ := hcut
            clear rs' d0 d1 d0d d1d
            have hX2 : DX (fun k => k < w.heap.size ∨ blkOf ao k) wc p M2 := by
              rcases hres with h | h
              · exact h.2.1
              · exact h.2.1
            have hS2 : SS M2 R := by
              rcases hres with h | h
              · exact h.2.2.1
              · exact h.2.2.1
            have hKw : Kept (fun k => k < w.heap.size) w wc := HK.out.trans (hKc.mono fun k h => .inl h)
            have rn := node_any (fun k => k < w.heap.size ∨ blkOf ao k) p 1 M2 R wc hX2 hS2.wf (by rw [hS2.n2]; omega) (by rw [hS2.n2]; omega) hS2.few
            obtain ⟨A, hA⟩ : ∃ A, (M2.nd 1).attrs = A := ⟨_, rfl⟩
            have HRES : Hid ((z = 0 ∧ A = setA (M.nd 1).attrs at1) ∨ (z = 82 ∧ A = (M.nd 1).attrs)) := by
              rcases hres with ⟨q1, q2, q3, q4⟩ | ⟨q1, q2, q3, q4⟩
              · exact (show _ from Or.inl ⟨q1, hA.symm.trans q4⟩)
              · exact (show _ from Or.inr ⟨q1, hA.symm.trans q4⟩)
            have HA2 : Hid ((M2.nd 1).attrs = A) := hA
            have hAl : A.length ≤ 50 := by rw [← hA]; exact soundA_len hS2.snd
            have HX2 : Hid (DX (fun k => k < w.heap.size ∨ blkOf ao k) wc p M2) := hX2
            have HS2 : Hid (SS M2 R) := hS2
            have HKw : Hid (Kept (fun k => k < w.heap.size) w wc) := hKw
            have HO2 : Hid (OwnZ (fun k => k < w.heap.size) wc 9 1 ao nms.length c (svs nms)) := OwnZ.to HO.out (fun x hx => (OwnZ.out HO.out hx).1) (fun x hx => hKc.block x (.inr hx))
            clear hres hX2 hS2 hKw hKc HX HO HK HS
            go_wp2_with fail
            refine rn.mono ?_
            rintro e v1 ⟨ao1, ac1, ko1, kc1, rfl, hO1, -, hK1⟩
            rw [hA] at hO1 ⊢
            obtain ⟨CS, hCS⟩ : ∃ CS : Array Value, outC (M2.nd 1).kind ⟨(M2.nd 1).name.toArray⟩ ⟨(M2.nd 1).data.toArray⟩ ao1 A.length ac1 (M2.pl 1).up ko1 (R 1).length kc1 (M2.nd 1).shadow (M2.nd 1).host (M2.nd 1).content (M2.nd 1).fl = CS := ⟨_, rfl⟩
            obtain ⟨V1, hV1⟩ : ∃ V1, v1.alloc (.cells (outC (M2.nd 1).kind ⟨(M2.nd 1).name.toArray⟩ ⟨(M2.nd 1).data.toArray⟩ ao1 A.length ac1 (M2.pl 1).up ko1 (R 1).length kc1 (M2.nd 1).shadow (M2.nd 1).host (M2.nd 1).content (M2.nd 1).fl) 36) = V1 := ⟨_, rfl⟩
            have kV1 : Kept (fun k => k < v1.heap.size) v1 V1 := by rw [← hV1]; exact (Kept.refl _ v1).alloc (fun _ h => h) _
            have kc1' : Kept (fun k => k < wc.heap.size) wc V1 := hK1.trans (kV1.mono fun k h => Nat.lt_of_lt_of_le h hK1.size)
            obtain ⟨N1, hN1⟩ : ∃ N1, v1.heap.size = N1 := ⟨_, rfl⟩
            have x3 : V1.cell? ⟨N1, 3, none⟩ = some (.slice ao1 A.length ac1) := by rw [← hV1, ← hN1, cell_block (heap_alloc_new v1 _)]; rfl
            have HAT : Hid (AtsAt (fun k => k < V1.heap.size) V1 ao1 A) := (hO1.atsAt (K' := fun k => k < v1.heap.size) fun x hx => (OwnZ.out hO1 hx).2).kept kV1 fun k h => Nat.lt_of_lt_of_le h kV1.size
            have HX3 : Hid (DX (fun k => k < w.heap.size ∨ blkOf ao k) V1 p M2) := HX2.out.kept kc1'
            have HKV : Hid (Kept (fun k => k < w.heap.size) w V1) := HKw.out.trans (kc1'.mono fun k h => Nat.lt_of_lt_of_le h HKw.out.size)
            have HO3 : Hid (OwnZ (fun k => k < w.heap.size) V1 9 1 ao nms.length c (svs nms)) := OwnZ.to HO2.out (fun x hx => (OwnZ.out HO2.out hx).1) (fun x hx => kc1'.block x (OwnZ.out HO2.out hx).2)
            have d0 : V1.cell? ⟨g, o + i * 2, none⟩ = some (.string ⟨at1.name.toArray⟩) := (HKV.out.cell (p := ⟨g, o + i * 2, none⟩) hgw).trans HC.out.1
            have d1 : V1.cell? ⟨g, o + i * 2 + 1, none⟩ = some (.string ⟨at1.value.toArray⟩) := (HKV.out.cell (p := ⟨g, o + i * 2 + 1, none⟩) hgw).trans HC.out.2
            have HV1 : Hid (v1.alloc (.cells (outC (M2.nd 1).kind ⟨(M2.nd 1).name.toArray⟩ ⟨(M2.nd 1).data.toArray⟩ ao1 A.length ac1 (M2.pl 1).up ko1 (R 1).length kc1 (M2.nd 1).shadow (M2.nd 1).host (M2.nd 1).content (M2.nd 1).fl) 36) = V1) := hV1
            have HN1 : Hid (v1.heap.size = N1) := hN1
            clear rn hO1 hK1 hV1 kV1 kc1' hN1 hCS HX2 HKw HO2
            go_upto_region 19 with fail
            rw [HV1.out, HN1.out]
            clear HV1 HN1
            obtain ⟨AL, hAL⟩ : ∃ AL, A.length = AL := ⟨_, rfl⟩
            rw [hAL] at x3
            have HAL : Hid (A.length = AL) := hAL
            have hAL5 : AL ≤ 50 := by omega
            clear hAL hAl
            go_loopg [15, 16] AL (fun gh v15 v16 wr => ∃ (j : Nat) (b : Bool) (m : Nat), gh = AL - j ∧ j ≤ AL ∧ v16 = .int .i64 (j : Int) ∧ v15 = .bool b ∧ (b = true ∨ ∀ t x, A[t]? = some x → t < j → x ≠ at1) ∧ wr = V1.drewN m)
            case atStart => exact ⟨0, false, 0, rfl, Nat.zero_le _, rfl, rfl, .inr fun t x _ h => by omega, rfl⟩
            case round =>
              obtain ⟨j, b, m, hgj, hj, rfl, rfl, hbb, rfl⟩ := hrel
              have x3m : (V1.drewN m).cell? ⟨N1, 3, none⟩ = some (.slice ao1 AL ac1) := x3
              by_cases hjl : j < AL
              · have hjA : j < A.length := by rw [HAL.out]; exact hjl
                obtain ⟨g1, o1, rfl, -, f0, f1⟩ := HAT.out j hjA
                have f0m : (V1.drewN m).cell? ⟨g1, o1 + j * 2, none⟩ = some (sv A[j].name) := f0
                have f1m : (V1.drewN m).cell? ⟨g1, o1 + j * 2 + 1, none⟩ = some (sv A[j].value) := f1
                have d0m : (V1.drewN m).cell? ⟨g, o + i * 2, none⟩ = some (.string ⟨at1.name.toArray⟩) := d0
                have d1m : (V1.drewN m).cell? ⟨g, o + i * 2 + 1, none⟩ = some (.string ⟨at1.value.toArray⟩) := d1
                cases b with
                | true =>
                  go_upto_region 21 with fail
                  go_quiet (fail)
                  go_wp2
                  go_roundg (AL - (j + 1))
                  case rel => exact ⟨j + 1, true, _, rfl, by omega, by go_num, rfl, .inl rfl, rfl⟩
                  case measure => omega
                | false =>
                  have heq := fun X => eql24 ⟨A[j].name.toArray⟩ ⟨A[j].value.toArray⟩ ⟨at1.name.toArray⟩ ⟨at1.value.toArray⟩ X
                  have hg24 := grd24
                  simp only [ByteArray.toList_eq] at heq
                  obtain ⟨q, hq⟩ : ∃ q, ((A[j].name == at1.name) && (A[j].value == at1.value)) = q := ⟨_, rfl⟩
                  have heq' : ∀ X, (binOp .eql 24 (.agg #[.string ⟨A[j].name.toArray⟩, .string ⟨A[j].value.toArray⟩]) (.agg #[.string ⟨at1.name.toArray⟩, .string ⟨at1.value.toArray⟩])).run Try.prog X = .ok (.bool q) X := by rw [← hq]; exact heq
                  have HQ : Hid (q = true ∨ A[j] ≠ at1) := by
                    cases q with
                    | true => exact (show _ from Or.inl rfl)
                    | false => exact (show _ from Or.inr fun e => by rw [e] at hq; simp at hq)
                  have HBB : Hid (∀ t x, A[t]? = some x → t < j → x ≠ at1) := by
                    rcases hbb with h | h
                    · cases h
                    · exact h
                  clear heq hq hbb
                  go_upto_region 21 with fail
                  go_quiet (fail)
                  go_wp2
                  go_roundg (AL - (j + 1))
                  case rel =>
                    refine ⟨j + 1, q, _, rfl, by omega, by go_num, rfl, ?_, rfl⟩
                    cases q with
                    | true => exact .inl rfl
                    | false =>
                      refine .inr fun t x hx ht => ?_
                      by_cases c : t < j
                      · exact HBB.out t x hx c
                      · have : t = j := by omega
                        subst this
                        rw [List.getElem?_eq_getElem hjA] at hx
                        injection hx with hx
                        rcases HQ.out with h | h
                        · cases h
                        · rw [← hx]; exact h
                  case measure => omega
              · have hjA : AL = j := by omega
                subst hjA
                have hXd : DX (fun k => k < w.heap.size ∨ blkOf ao k) (V1.drewN m) p M2 := HX3.out.kept ((Kept.refl _ V1).drewN m)
                have hOd : OwnZ (fun k => k < w.heap.size) (V1.drewN m) 9 1 ao nms.length c (svs nms) := OwnZ.to HO3.out (fun x hx => (OwnZ.out HO3.out hx).1) (fun x hx => rfl)
                have HKd : Hid (Kept (fun k => k < w.heap.size) w (V1.drewN m)) := HKV.out.drewN m
                have HOd : Hid (OwnZ (fun k => k < w.heap.size) (V1.drewN m) 9 1 ao nms.length c (svs nms)) := hOd
                have HXd : Hid (DX (fun k => k < w.heap.size ∨ blkOf ao k) (V1.drewN m) p M2) := hXd
                have d0d : (V1.drewN m).cell? ⟨g, o + i * 2, none⟩ = some (.string ⟨at1.name.toArray⟩) := d0
                rcases HRES.out with ⟨rfl, hA0⟩ | ⟨rfl, hA0⟩
                · have hb : b = true := by
                    rcases hbb with h | h
                    · exact h
                    · exfalso
                      have hm : at1 ∈ A := by rw [hA0]; exact setA_self _ _
                      obtain ⟨t, ht, e⟩ := List.mem_iff_getElem.1 hm
                      exact h t at1 (by rw [List.getElem?_eq_getElem ht, e]) (by rw [HAL.out] at ht; exact ht) rfl
                  subst hb
                  have HA0 : Hid (A = setA (M.nd 1).attrs at1) := hA0
                  obtain ⟨ao', c', w', hr', hO', hX', hK'⟩ := own_appKS hXd (fun k hk => hXd.lt k (.inl hk)) hOd (by omega) ⟨at1.name.toArray⟩
                  have HO' : Hid (OwnZ (fun k => k < w.heap.size) w' 9 1 ao' (nms ++ [at1.name]).length c' (svs (nms ++ [at1.name]))) := by
                    rw [svs, List.map_append, List.length_append]
                    exact hO'
                  have HX' : Hid (DX (fun k => k < w.heap.size ∨ blkOf ao' k) w' p M2) := hX'
                  have HK' : Hid (Kept (fun k => k < w.heap.size) w w') := HKd.out.trans hK'
                  clear hXd hOd hO' hX' hK' hbb hA0
                  go_wp2_with (at_builtin; refine wpList_appR (w' := w') rfl (.tmp 121) (.tmp 127) 28 28 rfl _ _ (.slice ao' (nms.length + 1) c') rfl rfl hr' ?_)
                  go_roundg (len - (i + 1))
                  case rel =>
                    refine ⟨i + 1, M2, nms ++ [at1.name], ao', c', rfl, by omega, by go_num, by rw [List.length_append]; rfl, by rw [List.length_append]; show nms.length + 1 ≤ i + 1; omega, HO'.out, HX'.out, HS2.out, fun nm hnm => ?_, fun h => by simp at h, HK'.out⟩
                    rw [HA2.out, HA0.out]
                    rcases List.mem_append.1 hnm with h | h
                    · exact setA_has (HH.out.1 nm h)
                    · rw [List.mem_singleton.1 h]
                      exact ⟨at1, setA_self _ _, rfl⟩
                  case measure => omega
                · have HA0 : Hid (A = (M.nd 1).attrs) := hA0
                  clear hXd hOd hbb hA0
                  cases b with
                  | true =>
                    go_wp2
                    go_roundg (len - (i + 1))
                    case rel => exact ⟨i + 1, M2, nms, ao, c, rfl, by omega, by go_num, rfl, by omega, HOd.out, HXd.out, HS2.out, fun nm hnm => by rw [HA2.out, HA0.out]; exact HH.out.1 nm hnm, fun h => by rw [HA2.out, HA0.out]; exact HH.out.2 h, HKd.out⟩
                    case measure => omega
                  | false =>
                    go_wp2
                    go_roundg (len - (i + 1))
                    case rel => exact ⟨i + 1, M2, nms, ao, c, rfl, by omega, by go_num, rfl, by omega, HOd.out, HXd.out, HS2.out, fun nm hnm => by rw [HA2.out, HA0.out]; exact HH.out.1 nm hnm, fun h => by rw [HA2.out, HA0.out]; exact HH.out.2 h, HKd.out⟩
                    case measure => omega
        · have hiN : len = i := by omega
          subst hiN
          by_cases hne : nms = []
          · have hA0 := hEm hne
            subst hne
            have rd := drop_SS (fun k => k < w.heap.size ∨ blkOf ao k) p M R [120] hS wr hX
            rw [hA0] at rd
            have rd' : Calls Try.prog 12 #[.pointer (some ⟨p, 0, none⟩), .int .i64 1, .string ⟨#[120]⟩] wr fun e w' => e = .returned (.int .u16 82) ∧ Kept (fun k => k < w.heap.size) wr w' := rd.mono fun e w' hh => by
              rcases hh.1 with ⟨k, hk, _⟩ | ⟨_, h, _⟩
              · exact absurd hk (Nat.not_lt_zero _)
              · exact ⟨h, hh.2.mono fun k h => .inl h⟩
            have HK : Hid (Kept (fun k => k < w.heap.size) w wr) := hK
            clear rd hX hS hO hHas hEm hK hA0
            go_wp2_with (go_at_call 12; refine rd'.mono ?_; rintro e w1 ⟨rfl, hk1⟩)
            go_ret
            exact ⟨rfl, HK.out.trans hk1⟩
          · obtain ⟨ln, hq⟩ : ∃ ln, nms.length = ln := ⟨_, rfl⟩
            have hln0 : 0 < ln := by
              cases nms with
              | nil => exact absurd rfl hne
              | cons x r => rw [← hq]; exact Nat.succ_pos _
            have hln4 : ln ≤ 40 := by omega
            obtain ⟨r, hr, hrl⟩ : ∃ r : Nat, kz.tmod (ln : Int) = (r : Int) ∧ r < ln := by
              refine ⟨(kz.tmod (ln : Int)).toNat, ?_, ?_⟩
              · rw [Int.tmod_eq_emod_of_nonneg hk0]
                have := Int.emod_nonneg kz (show (ln : Int) ≠ 0 by omega)
                omega
              · rw [Int.tmod_eq_emod_of_nonneg hk0]
                have h1 := Int.emod_lt_of_pos kz (show (0 : Int) < (ln : Int) by omega)
                have h2 := Int.emod_nonneg kz (show (ln : Int) ≠ 0 by omega)
                omega
            have hrn : r < nms.length := by omega
            obtain ⟨nm, hnm⟩ : ∃ nm, nms[r] = nm := ⟨_, rfl⟩
            have hHs : Has (M.nd 1).attrs nm := hHas nm (hnm ▸ List.getElem_mem hrn)
            obtain ⟨gN, eN, cN⟩ := hO.cell (j := r) (u := sv nm) (by rw [svs, List.getElem?_map, List.getElem?_eq_getElem hrn, hnm]; rfl)
            have hnml : nm.length ≤ 5000 := by
              obtain ⟨x, hx, e⟩ := hHs
              rw [← e]
              exact (hS.sz x hx).1
            obtain ⟨k0, hk0l, hk0n, hk0t⟩ := hHs.at
            subst eN
            have rn1 := node_any (fun k => k < w.heap.size ∨ blkOf (some ⟨gN, 0, none⟩) k) p 1 M R wr hX hS.wf (by rw [hS.n2]; omega) (by rw [hS.n2]; omega) hS.few
            have HX : Hid (DX (fun k => k < w.heap.size ∨ blkOf (some ⟨gN, 0, none⟩) k) wr p M) := hX
            have HS : Hid (SS M R) := hS
            have HHS : Hid (Has (M.nd 1).attrs nm) := hHs
            have HK : Hid (Kept (fun k => k < w.heap.size) w wr) := hK
            rw [hq]
            obtain ⟨A, hA⟩ : ∃ A, (M.nd 1).attrs = A := ⟨_, rfl⟩
            have hA5 : A.length ≤ 50 := by rw [← hA]; exact soundA_len hS.snd
            have HA1 : Hid ((M.nd 1).attrs = A) := hA
            clear hX hS hHs hK hO hHas hEm hne hrn hnm hA hq hnl hk0n hk0t hk0l
            go_upto_region 29 with fail
            go_wp2_with fail
            refine rn1.mono ?_
            rintro e v1 ⟨ao1, ac1, ko1, kc1, rfl, -, -, hK1⟩
            rw [HA1.out]
            obtain ⟨V1, hV1⟩ : ∃ V1, v1.alloc (.cells (outC (M.nd 1).kind ⟨(M.nd 1).name.toArray⟩ ⟨(M.nd 1).data.toArray⟩ ao1 A.length ac1 (M.pl 1).up ko1 (R 1).length kc1 (M.nd 1).shadow (M.nd 1).host (M.nd 1).content (M.nd 1).fl) 36) = V1 := ⟨_, rfl⟩
            have kV1 : Kept (fun k => k < v1.heap.size) v1 V1 := by rw [← hV1]; exact (Kept.refl _ v1).alloc (fun _ h => h) _
            have k1 : Kept (fun k => k < wr.heap.size) wr V1 := hK1.trans (kV1.mono fun k h => Nat.lt_of_lt_of_le h hK1.size)
            obtain ⟨N1, hN1⟩ : ∃ N1, v1.heap.size = N1 := ⟨_, rfl⟩
            have hN1w : wr.heap.size ≤ N1 := by rw [← hN1]; exact hK1.size
            have hN1V : N1 < V1.heap.size := by rw [← hV1, ← hN1]; simp
            have x1 : V1.cell? ⟨N1, 3, none⟩ = some (.slice ao1 A.length ac1) := by rw [← hV1, ← hN1, cell_block (heap_alloc_new v1 _)]; rfl
            have hww : w.heap.size ≤ wr.heap.size := HK.out.size
            have hX1 : DX (fun k => k < w.heap.size ∨ k = N1) V1 p M := HX.out.more k1 (fun k hk => by
              rcases hk with h | h
              · exact .inl (.inl h)
              · exact .inr (by omega)) (fun k hk => by
              rcases hk with h | h
              · exact Nat.lt_of_lt_of_le h (Nat.le_trans hww k1.size)
              · omega)
            have hset := setA_again (l := A) (a := ⟨nm, V⟩) (by rw [← HA1.out]; exact HS.out.snd) (by rw [← HA1.out]; exact HHS.out) (by have := HVL.out; show V.length ≤ 2000; omega)
            have rs := set_SS (fun k => k < w.heap.size ∨ k = N1) p M R ⟨nm, V⟩ HS.out ⟨hnml, by have := HVL.out; show V.length ≤ 5000; omega⟩ V1 hX1
            rw [HA1.out] at rs
            have hVB' := HVB.out
            obtain ⟨A2, hA2⟩ : ∃ A2, setA A ⟨nm, V⟩ = A2 := ⟨_, rfl⟩
            rw [hA2] at rs hset
            have rs' : Calls Try.prog 10 #[.pointer (some ⟨p, 0, none⟩), .int .i64 1, .string ⟨nm.toArray⟩, .string VB] V1 fun e w' => e = .returned (.int .u16 0) ∧ ∃ M2, DX (fun k => k < w.heap.size ∨ k = N1) w' p M2 ∧ SS M2 R ∧ (M2.nd 1).attrs = A2 ∧ Kept (fun k => k < w.heap.size ∨ k = N1) V1 w' := by
              rw [← hVB']
              refine rs.mono fun e w' hh => ?_
              rcases hh.1 with ⟨_, q2, q3, q4⟩ | ⟨q1, _⟩
              · exact ⟨q2, _, q3, q4, SS.attrs M _, hh.2⟩
              · rw [hset.1] at q1; cases q1
            have HHA2 : Hid (Has A2 nm) := by rw [← hA2, ← HA1.out]; exact setA_has HHS.out
            have HL2 : Hid (A2.length = A.length) := hset.2
            have HKV1 : Hid (Kept (fun k => k < w.heap.size) w V1) := HK.out.trans (k1.mono fun k h => Nat.lt_of_lt_of_le h hww)
            have HV1 : Hid (v1.alloc (.cells (outC (M.nd 1).kind ⟨(M.nd 1).name.toArray⟩ ⟨(M.nd 1).data.toArray⟩ ao1 A.length ac1 (M.pl 1).up ko1 (R 1).length kc1 (M.nd 1).shadow (M.nd 1).host (M.nd 1).content (M.nd 1).fl) 36) = V1) := hV1
            have HN1 : Hid (v1.heap.size = N1) := hN1
            have HX1' : Hid (V1.cell? ⟨N1, 3, none⟩ = some (.slice ao1 A.length ac1)) := x1
            clear rs rn1 hK1 hV1 kV1 k1 hN1 hX1 hset hVB' hA2 x1 cN
            go_upto_region 30 with fail
            rw [HV1.out, HN1.out]
            clear HV1 HN1
            go_wp2_with fail
            refine rs'.mono ?_
            rintro e v2 ⟨rfl, M2, hX2, hS2, hM2, hk2⟩
            have rn2 := node_any _ p 1 M2 R v2 hX2 hS2.wf (by rw [hS2.n2]; omega) (by rw [hS2.n2]; omega) hS2.few
            have HX2 : Hid (DX (fun k => k < w.heap.size ∨ k = N1) v2 p M2) := hX2
            have HS2 : Hid (SS M2 R) := hS2
            have HM2 : Hid ((M2.nd 1).attrs = A2) := hM2
            have x2 : v2.cell? ⟨N1, 3, none⟩ = some (.slice ao1 A.length ac1) := (hk2.cell (p := ⟨N1, 3, none⟩) (.inr rfl)).trans HX1'.out
            have HX2' : Hid (v2.cell? ⟨N1, 3, none⟩ = some (.slice ao1 A.length ac1)) := x2
            have HK2 : Hid (Kept (fun k => k < w.heap.size) w v2) := HKV1.out.trans (hk2.mono fun k h => .inl h)
            have hN1v : N1 < v2.heap.size := Nat.lt_of_lt_of_le hN1V hk2.size
            clear rs' hX2 hS2 hM2 hk2 x2 HX1' HKV1
            go_upto_region 31 with fail
            go_wp2_with fail
            refine rn2.mono ?_
            rintro e v3 ⟨ao2, ac2, ko2, kc2, rfl, -, -, hK3⟩
            rw [HM2.out]
            obtain ⟨V3, hV3⟩ : ∃ V3, v3.alloc (.cells (outC (M2.nd 1).kind ⟨(M2.nd 1).name.toArray⟩ ⟨(M2.nd 1).data.toArray⟩ ao2 A2.length ac2 (M2.pl 1).up ko2 (R 1).length kc2 (M2.nd 1).shadow (M2.nd 1).host (M2.nd 1).content (M2.nd 1).fl) 36) = V3 := ⟨_, rfl⟩
            have kV3 : Kept (fun k => k < v3.heap.size) v3 V3 := by rw [← hV3]; exact (Kept.refl _ v3).alloc (fun _ h => h) _
            have k3 : Kept (fun k => k < v2.heap.size) v2 V3 := hK3.trans (kV3.mono fun k h => Nat.lt_of_lt_of_le h hK3.size)
            obtain ⟨N2, hN2⟩ : ∃ N2, v3.heap.size = N2 := ⟨_, rfl⟩
            have hN2w : v2.heap.size ≤ N2 := by rw [← hN2]; exact hK3.size
            have hN2V : N2 < V3.heap.size := by rw [← hV3, ← hN2]; simp
            have y2 : V3.cell? ⟨N2, 3, none⟩ = some (.slice ao2 A2.length ac2) := by rw [← hV3, ← hN2, cell_block (heap_alloc_new v3 _)]; rfl
            have y1 : V3.cell? ⟨N1, 3, none⟩ = some (.slice ao1 A.length ac1) := (k3.cell (p := ⟨N1, 3, none⟩) hN1v).trans HX2'.out
            have hX3 : DX (fun k => k < w.heap.size ∨ k = N1 ∨ k = N2) V3 p M2 := HX2.out.more k3 (fun k hk => by
              rcases hk with h | h | h
              · exact .inl (.inl h)
              · exact .inl (.inr h)
              · exact .inr (by omega)) (fun k hk => by
              rcases hk with h | h | h
              · exact Nat.lt_of_lt_of_le h (Nat.le_trans HK2.out.size k3.size)
              · have := k3.size; omega
              · omega)
            have rd1 := drop_SS (fun k => k < w.heap.size ∨ k = N1 ∨ k = N2) p M2 R nm HS2.out V3 hX3
            rw [HM2.out] at rd1
            have rd1' : Calls Try.prog 12 #[.pointer (some ⟨p, 0, none⟩), .int .i64 1, .string ⟨nm.toArray⟩] V3 fun e w' => e = .returned (.int .u16 0) ∧ ∃ M3 A3, DX (fun k => k < w.heap.size ∨ k = N1 ∨ k = N2) w' p M3 ∧ SS M3 R ∧ (M3.nd 1).attrs = A3 ∧ (A3.length + 1 = A2.length ∧ ∀ x ∈ A3, x.name ≠ nm) ∧ Kept (fun k => k < w.heap.size ∨ k = N1 ∨ k = N2) V3 w' := by
              refine rd1.mono fun e w' hh => ?_
              rcases hh.1 with ⟨k, hk, e1, e2, e3, e4⟩ | ⟨q1, _⟩
              · have hE := HS2.out.erase k
                rw [HM2.out] at hE
                exact ⟨e3, _, A2.eraseIdx k, e4, hE, SS.attrs M2 _, ⟨by rw [List.length_eraseIdx_of_lt hk]; omega, erase_no (by rw [← HM2.out]; exact HS2.out.snd) hk e1 e2⟩, hh.2⟩
              · obtain ⟨x, hx, e⟩ := HHA2.out
                exact absurd e (q1 x hx)
            have HKV3 : Hid (Kept (fun k => k < w.heap.size) w V3) := HK2.out.trans (k3.mono fun k h => Nat.lt_of_lt_of_le h HK2.out.size)
            have HV3 : Hid (v3.alloc (.cells (outC (M2.nd 1).kind ⟨(M2.nd 1).name.toArray⟩ ⟨(M2.nd 1).data.toArray⟩ ao2 A2.length ac2 (M2.pl 1).up ko2 (R 1).length kc2 (M2.nd 1).shadow (M2.nd 1).host (M2.nd 1).content (M2.nd 1).fl) 36) = V3) := hV3
            have HN2 : Hid (v3.heap.size = N2) := hN2
            have HY : Hid (V3.cell? ⟨N1, 3, none⟩ = some (.slice ao1 A.length ac1) ∧ V3.cell? ⟨N2, 3, none⟩ = some (.slice ao2 A2.length ac2)) := ⟨y1, y2⟩
            have hN1V3 : N1 < V3.heap.size := by have := k3.size; omega
            clear rd1 rn2 hK3 hV3 kV3 k3 hN2 hX3 y1 y2 HX2 HX2' HS2 HM2
            go_upto_region 32 with fail
            rw [HV3.out, HN2.out]
            clear HV3 HN2
            go_wp2_with fail
            refine rd1'.mono ?_
            rintro e v4 ⟨rfl, M3, A3, hX4, hS4, hM4, hA3, hk4⟩
            have rn3 := node_any _ p 1 M3 R v4 hX4 hS4.wf (by rw [hS4.n2]; omega) (by rw [hS4.n2]; omega) hS4.few
            have HX4 : Hid (DX (fun k => k < w.heap.size ∨ k = N1 ∨ k = N2) v4 p M3) := hX4
            have HS4 : Hid (SS M3 R) := hS4
            have HM4 : Hid ((M3.nd 1).attrs = A3) := hM4
            have HY4 : Hid (v4.cell? ⟨N1, 3, none⟩ = some (.slice ao1 A.length ac1) ∧ v4.cell? ⟨N2, 3, none⟩ = some (.slice ao2 A2.length ac2)) := ⟨(hk4.cell (p := ⟨N1, 3, none⟩) (.inr (.inl rfl))).trans HY.out.1, (hk4.cell (p := ⟨N2, 3, none⟩) (.inr (.inr rfl))).trans HY.out.2⟩
            have HK4 : Hid (Kept (fun k => k < w.heap.size) w v4) := HKV3.out.trans (hk4.mono fun k h => .inl h)
            have HA3 : Hid (A3.length + 1 = A2.length ∧ ∀ x ∈ A3, x.name ≠ nm) := hA3
            have hN1v4 : N1 < v4.heap.size := Nat.lt_of_lt_of_le hN1V3 hk4.size
            have hN2v4 : N2 < v4.heap.size := Nat.lt_of_lt_of_le hN2V hk4.size
            clear rd1' hX4 hS4 hM4 hk4 HY HKV3 hA3
            go_upto_region 33 with fail
            go_wp2_with fail
            refine rn3.mono ?_
            rintro e v5 ⟨ao3, ac3, ko3, kc3, rfl, -, -, hK5⟩
            rw [HM4.out]
            obtain ⟨V5, hV5⟩ : ∃ V5, v5.alloc (.cells (outC (M3.nd 1).kind ⟨(M3.nd 1).name.toArray⟩ ⟨(M3.nd 1).data.toArray⟩ ao3 A3.length ac3 (M3.pl 1).up ko3 (R 1).length kc3 (M3.nd 1).shadow (M3.nd 1).host (M3.nd 1).content (M3.nd 1).fl) 36) = V5 := ⟨_, rfl⟩
            have kV5 : Kept (fun k => k < v5.heap.size) v5 V5 := by rw [← hV5]; exact (Kept.refl _ v5).alloc (fun _ h => h) _
            have k5 : Kept (fun k => k < v4.heap.size) v4 V5 := hK5.trans (kV5.mono fun k h => Nat.lt_of_lt_of_le h hK5.size)
            obtain ⟨N3, hN3⟩ : ∃ N3, v5.heap.size = N3 := ⟨_, rfl⟩
            have hN3w : v4.heap.size ≤ N3 := by rw [← hN3]; exact hK5.size
            have hN3V : N3 < V5.heap.size := by rw [← hV5, ← hN3]; simp
            have HY5 : Hid (V5.cell? ⟨N1, 3, none⟩ = some (.slice ao1 A.length ac1) ∧ V5.cell? ⟨N2, 3, none⟩ = some (.slice ao2 A2.length ac2) ∧ V5.cell? ⟨N3, 3, none⟩ = some (.slice ao3 A3.length ac3)) :=
              ⟨(k5.cell (p := ⟨N1, 3, none⟩) hN1v4).trans HY4.out.1, (k5.cell (p := ⟨N2, 3, none⟩) hN2v4).trans HY4.out.2, by rw [← hV5, ← hN3, cell_block (heap_alloc_new v5 _)]; rfl⟩
            have hX5 : DX (fun k => k < w.heap.size ∨ k = N1 ∨ k = N2 ∨ k = N3) V5 p M3 := HX4.out.more k5 (fun k hk => by
              rcases hk with h | h | h | h
              · exact .inl (.inl h)
              · exact .inl (.inr (.inl h))
              · exact .inl (.inr (.inr h))
              · exact .inr (by omega)) (fun k hk => by
              rcases hk with h | h | h | h
              · exact Nat.lt_of_lt_of_le h (Nat.le_trans HK4.out.size k5.size)
              · have := k5.size; omega
              · have := k5.size; omega
              · omega)
            have rd2 := drop_SS (fun k => k < w.heap.size ∨ k = N1 ∨ k = N2 ∨ k = N3) p M3 R nm HS4.out V5 hX5
            rw [HM4.out] at rd2
            have rd2' : Calls Try.prog 12 #[.pointer (some ⟨p, 0, none⟩), .int .i64 1, .string ⟨nm.toArray⟩] V5 fun e w' => e = .returned (.int .u16 82) ∧ Kept (fun k => k < w.heap.size ∨ k = N1 ∨ k = N2 ∨ k = N3) V5 w' := by
              refine rd2.mono fun e w' hh => ?_
              rcases hh.1 with ⟨k, hk, e1, _⟩ | ⟨_, q2, _⟩
              · exact absurd e1 (HA3.out.2 _ (List.getElem_mem hk))
              · exact ⟨q2, hh.2⟩
            have HKV5 : Hid (Kept (fun k => k < w.heap.size) w V5) := HK4.out.trans (k5.mono fun k h => Nat.lt_of_lt_of_le h HK4.out.size)
            have HV5 : Hid (v5.alloc (.cells (outC (M3.nd 1).kind ⟨(M3.nd 1).name.toArray⟩ ⟨(M3.nd 1).data.toArray⟩ ao3 A3.length ac3 (M3.pl 1).up ko3 (R 1).length kc3 (M3.nd 1).shadow (M3.nd 1).host (M3.nd 1).content (M3.nd 1).fl) 36) = V5) := hV5
            have HN3 : Hid (v5.heap.size = N3) := hN3
            clear rd2 rn3 hK5 hV5 kV5 k5 hN3 hX5 HX4 HY4 HS4 HM4
            go_upto_region 34 with fail
            rw [HV5.out, HN3.out]
            clear HV5 HN3
            go_wp2_with fail
            refine rd2'.mono ?_
            rintro e v6 ⟨rfl, hk6⟩
            have z1 : v6.cell? ⟨N1, 3, none⟩ = some (.slice ao1 A.length ac1) := (hk6.cell (p := ⟨N1, 3, none⟩) (.inr (.inl rfl))).trans HY5.out.1
            have z2 : v6.cell? ⟨N2, 3, none⟩ = some (.slice ao2 A2.length ac2) := (hk6.cell (p := ⟨N2, 3, none⟩) (.inr (.inr (.inl rfl)))).trans HY5.out.2.1
            have z3 : v6.cell? ⟨N3, 3, none⟩ = some (.slice ao3 A3.length ac3) := (hk6.cell (p := ⟨N3, 3, none⟩) (.inr (.inr (.inr rfl)))).trans HY5.out.2.2
            have HK6 : Hid (Kept (fun k => k < w.heap.size) w v6) := HKV5.out.trans (hk6.mono fun k h => .inl h)
            obtain ⟨L1, hL1⟩ : ∃ L1, A.length = L1 := ⟨_, rfl⟩
            obtain ⟨L3, hL3⟩ : ∃ L3, A3.length = L3 := ⟨_, rfl⟩
            have hA3l := HA3.out.1
            have e2 : A2.length = L1 := by rw [HL2.out, hL1]
            have e31 : L3 + 1 = L1 := by rw [← hL3, hA3l, e2]
            have e3 : (L1 : Int) - 1 = (L3 : Int) := by omega
            rw [hL1] at z1 hA5
            rw [e2] at z2
            rw [hL3] at z3
            clear rd2' hk6 HY5 HKV5 hA3l e2 hL1 hL3 HL2 HA3
            subst e31
            go_wp2
            go_ret
            exact ⟨rfl, HK6.out⟩
end Go.Proofs.Ytbbknbipppaemaa
