/-
  Is a node void, is it raw; the beginning of an element.
-/
import Derived.Test.YteccdijjpmeeaaaPv
namespace Go.Proofs.Yteccdijjpmeeaaa
open Go.RowKit
set_option linter.unusedVariables false
set_option maxRecDepth 100000
set_option maxHeartbeats 4000000
abbrev nW (x : Nd) (ao : Option Addr) (ac : Nat) (up : Int) (ko : Option Addr) (kn kc : Nat) : Array Value := outC x.kind ⟨x.name.toArray⟩ ⟨x.data.toArray⟩ ao x.attrs.length ac up ko kn kc x.shadow x.host x.content x.fl
theorem lis (l : List UInt8) : (⟨l.toArray⟩ : ByteArray).toList = l := by rw [ByteArray.toList_eq]
theorem isVoid_any (x : Nd) (ao : Option Addr) (ac : Nat) (up : Int) (ko : Option Addr) (kn kc : Nat) (w : World) :
    Calls Try.prog 44 #[.agg (nW x ao ac up ko kn kc)] w fun e w' => e = .returned (.bool (isV x)) ∧ Kept (fun k => k < w.heap.size) w w' := by
  obtain ⟨V, N, hV, hN, hb, hk, hsz⟩ := alloc_bx w (nW x ao ac up ko kn kc) 33
  have c0 : V.cell? ⟨N, 0, none⟩ = some (.int .u8 (x.kind : Int)) := by rw [cell_block hb]; rfl
  have c1 : V.cell? ⟨N, 1, none⟩ = some (.string ⟨x.name.toArray⟩) := by rw [cell_block hb]; rfl
  have rv := void_any ⟨x.name.toArray⟩ (fun k => k < V.heap.size) V
  rw [lis] at rv
  have HK : Hid (Kept (fun k => k < w.heap.size) w V) := hk
  have HV : Hid (w.alloc (.cells (nW x ao ac up ko kn kc) 33) = V) := hV
  have HN : Hid (w.heap.size = N) := hN
  obtain ⟨r, hr⟩ : ∃ r, isV x = r := ⟨_, rfl⟩
  have HR : Hid (isV x = r) := hr
  obtain ⟨v, hv⟩ : ∃ v, voidP x.name = v := ⟨_, rfl⟩
  rw [hv] at rv
  have HVV : Hid (voidP x.name = v) := hv
  rw [hr]
  clear hk hV hN hb hsz hr hv
  by_cases ck : x.kind = 1
  · have e1 : ((x.kind : Int) == 1) = true := by rw [ck]; rfl
    have HE : Hid (r = v) := by show r = v; rw [← HR.out, ← HVV.out]; simp [isV, ck]
    clear HR HVV ck
    go_enter Try.func44, Try.ntmps44
    go_upto_region 1 with fail
    rw [HV.out, HN.out]
    clear HV HN
    go_wp2_with fail
    refine rv.mono ?_
    rintro e w1 ⟨rfl, hk1⟩
    have HK1 : Hid (Kept (fun k => k < w.heap.size) w w1) := HK.out.trans (hk1.mono fun k h => Nat.lt_of_lt_of_le h HK.out.size)
    clear rv hk1 c0 c1
    go_wp2
    go_ret
    exact ⟨by rw [HE.out]; rfl, HK1.out⟩
  · have e1 : ((x.kind : Int) == 1) = false := by simp; omega
    have HE : Hid (r = false) := by show r = false; rw [← HR.out]; simp [isV, ck]
    clear HR HVV ck rv
    go_enter Try.func44, Try.ntmps44
    go_upto_region 1 with fail
    rw [HV.out, HN.out]
    clear HV HN
    go_wp2
    go_ret
    exact ⟨by rw [HE.out]; rfl, HK.out⟩
theorem isRaw_any (x : Nd) (ao : Option Addr) (ac : Nat) (up : Int) (ko : Option Addr) (kn kc : Nat) (w : World) :
    Calls Try.prog 34 #[.agg (nW x ao ac up ko kn kc)] w fun e w' => e = .returned (.bool (isR x)) ∧ Kept (fun k => k < w.heap.size) w w' := by
  obtain ⟨V, N, hV, hN, hb, hk, hsz⟩ := alloc_bx w (nW x ao ac up ko kn kc) 33
  have c0 : V.cell? ⟨N, 0, none⟩ = some (.int .u8 (x.kind : Int)) := by rw [cell_block hb]; rfl
  have c1 : V.cell? ⟨N, 1, none⟩ = some (.string ⟨x.name.toArray⟩) := by rw [cell_block hb]; rfl
  have rv := raw_any ⟨x.name.toArray⟩ (fun k => k < V.heap.size) V
  rw [lis] at rv
  have HK : Hid (Kept (fun k => k < w.heap.size) w V) := hk
  have HV : Hid (w.alloc (.cells (nW x ao ac up ko kn kc) 33) = V) := hV
  have HN : Hid (w.heap.size = N) := hN
  obtain ⟨r, hr⟩ : ∃ r, isR x = r := ⟨_, rfl⟩
  have HR : Hid (isR x = r) := hr
  obtain ⟨v, hv⟩ : ∃ v, rawP x.name = v := ⟨_, rfl⟩
  rw [hv] at rv
  have HVV : Hid (rawP x.name = v) := hv
  rw [hr]
  clear hk hV hN hb hsz hr hv
  by_cases ck : x.kind = 1
  · have e1 : ((x.kind : Int) == 1) = true := by rw [ck]; rfl
    have HE : Hid (r = v) := by show r = v; rw [← HR.out, ← HVV.out]; simp [isR, ck]
    clear HR HVV ck
    go_enter Try.func34, Try.ntmps34
    go_upto_region 1 with fail
    rw [HV.out, HN.out]
    clear HV HN
    go_wp2_with fail
    refine rv.mono ?_
    rintro e w1 ⟨rfl, hk1⟩
    have HK1 : Hid (Kept (fun k => k < w.heap.size) w w1) := HK.out.trans (hk1.mono fun k h => Nat.lt_of_lt_of_le h HK.out.size)
    clear rv hk1 c0 c1
    go_wp2
    go_ret
    exact ⟨by rw [HE.out]; rfl, HK1.out⟩
  · have e1 : ((x.kind : Int) == 1) = false := by simp; omega
    have HE : Hid (r = false) := by show r = false; rw [← HR.out]; simp [isR, ck]
    clear HR HVV ck rv
    go_enter Try.func34, Try.ntmps34
    go_upto_region 1 with fail
    rw [HV.out, HN.out]
    clear HV HN
    go_wp2
    go_ret
    exact ⟨by rw [HE.out]; rfl, HK.out⟩
end Go.Proofs.Yteccdijjpmeeaaa
