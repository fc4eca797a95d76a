/-
  Is a node read as it was written?
-/
import Derived.Test.YtikaheenjhdpmaaYa
namespace Go.Proofs.Ytikaheenjhdpmaa
open Go.RowKit Go.Sort
set_option linter.unusedVariables false
set_option maxRecDepth 100000
set_option maxHeartbeats 8000000
theorem readBack_any (x : Nd) (ao : Option Addr) (ac : Nat) (up : Int) (ko : Option Addr) (kn kc : Nat) (w : World) (ha : AtsAt (fun k => k < w.heap.size) w ao x.attrs) (hal : x.attrs.length ≤ 100000) (hd : x.data.length ≤ 4000000000) :
    Calls Try.prog 24 #[.agg (nW x ao ac up ko kn kc)] w fun e w' => e = .returned (.bool (readP x)) ∧ Kept (fun k => k < w.heap.size) w w' := by
  obtain ⟨V, N, hV, hN, hb, hk, hsz⟩ := alloc_bx w (nW x ao ac up ko kn kc) 35
  have z0 : V.cell? ⟨N, 0, none⟩ = some (.int .u8 (x.kind : Int)) := by rw [cell_block hb]; rfl
  have z1 : V.cell? ⟨N, 1, none⟩ = some (.string ⟨x.name.toArray⟩) := by rw [cell_block hb]; rfl
  have z2 : V.cell? ⟨N, 2, none⟩ = some (.string ⟨x.data.toArray⟩) := by rw [cell_block hb]; rfl
  have z3 : V.cell? ⟨N, 3, none⟩ = some (.slice ao x.attrs.length ac) := by rw [cell_block hb]; rfl
  have z10 : V.cell? ⟨N, 10, none⟩ = some (.bool x.fl.b) := by rw [cell_block hb]; rfl
  have hav : AtsAt (fun k => k < V.heap.size) V ao x.attrs := ha.kept hk fun k h => Nat.lt_of_lt_of_le h hk.size
  have HBB : Hid (∀ X, Kept (fun k => k < V.heap.size) V X → X.heap[N]? = some (.cells (nW x ao ac up ko kn kc) 35 (0, 0))) := fun X hX => (hX.block N (lt_block hb)).trans hb
  have HV : Hid (w.alloc (.cells (nW x ao ac up ko kn kc) 35) = V) := hV
  have HN : Hid (w.heap.size = N) := hN
  have HK : Hid (Kept (fun k => k < w.heap.size) w V) := hk
  have HAV : Hid (AtsAt (fun k => k < V.heap.size) V ao x.attrs) := hav
  clear hV hN hb hk hsz ha hav
  by_cases h1 : x.kind = 1
  · rw [h1] at z0
    have z0 : V.cell? ⟨N, 0, none⟩ = some (.int .u8 1) := z0
    have e : readP x = (stabN x.name && !atrNull x.attrs) := if_pos h1
    rw [e]
    have rs := stableName_any ⟨x.name.toArray⟩ V
    rw [lis] at rs
    obtain ⟨nm, hnm⟩ : ∃ s : ByteArray, ⟨x.name.toArray⟩ = s := ⟨_, rfl⟩
    rw [hnm] at z1 rs
    obtain ⟨b, hb⟩ : ∃ b, stabN x.name = b := ⟨_, rfl⟩
    rw [hb] at rs ⊢
    obtain ⟨L, hL⟩ : ∃ l, x.attrs = l := ⟨_, rfl⟩
    obtain ⟨an, han⟩ : ∃ n, L.length = n := ⟨_, rfl⟩
    have RA : Hid (∀ X, Kept (fun k => k < V.heap.size) V X → Calls Try.prog 40 #[.slice ao an ac, .func (.func 41) #[] #[]] X fun e w' => e = .returned (.bool (atrNull L)) ∧ Kept (fun k => k < X.heap.size) X w') := fun X hX => by
      have h' : AtsAt (fun k => k < X.heap.size) X ao L := by rw [← hL]; exact HAV.out.kept hX fun k h => Nat.lt_of_lt_of_le h hX.size
      exact cfAttr_any L an han (by rw [← han, ← hL]; exact hal) ao ac X h'
    have Z3 : Hid (∀ X, Kept (fun k => k < V.heap.size) V X → X.cell? ⟨N, 3, none⟩ = some (.slice ao an ac)) := fun X hX => by
      rw [cell_block (HBB.out X hX), ← han, ← hL]; rfl
    rw [hL]
    obtain ⟨nb, hnb⟩ : ∃ b, atrNull L = b := ⟨_, rfl⟩
    rw [hnb] at RA ⊢
    clear z2 z3 z10 h1 e hnm hb hL han hnb hal hd HAV
    go_enter Try.func24, Try.ntmps24
    go_upto_region 1 with fail
    rw [HV.out, HN.out]
    clear HV HN
    go_wp2_with fail
    refine rs.mono ?_
    rintro e w1 ⟨rfl, hK1⟩
    have HK1 : Hid (Kept (fun k => k < w.heap.size) w w1) := HK.out.trans (hK1.mono fun k h => Nat.lt_of_lt_of_le h HK.out.size)
    have ra := RA.out w1 hK1
    have z3 := Z3.out w1 hK1
    clear rs hK1 z0 z1
    cases b with
    | true =>
      go_wp2_with fail
      refine ra.mono ?_
      rintro e w2 ⟨rfl, hK2⟩
      have HK2 : Hid (Kept (fun k => k < w.heap.size) w w2) := HK1.out.trans (hK2.mono fun k h => Nat.lt_of_lt_of_le h HK1.out.size)
      clear ra hK2 z3
      cases nb with
      | true => go_wp2; go_ret; exact ⟨rfl, HK2.out⟩
      | false => go_wp2; go_ret; exact ⟨rfl, HK2.out⟩
    | false =>
      clear ra
      go_wp2
      go_ret
      exact ⟨rfl, HK1.out⟩
  by_cases h2 : x.kind = 2
  · rw [h2] at z0
    have z0 : V.cell? ⟨N, 0, none⟩ = some (.int .u8 2) := z0
    have e : readP x = (x.data != [] && !nullP x.data) := by unfold readP; rw [if_neg h1, if_pos h2]
    rw [e]
    obtain ⟨dt, hdt⟩ : ∃ s : ByteArray, ⟨x.data.toArray⟩ = s := ⟨_, rfl⟩
    have rn := hasNull_any dt V
    have e1 : nullP dt.data.toList = nullP x.data := by rw [← hdt]
    have e2 : (dt.toList == []) = (x.data == []) := by rw [← hdt, lis]
    rw [e1] at rn
    rw [hdt] at z2
    obtain ⟨nb, hnb⟩ : ∃ b, nullP x.data = b := ⟨_, rfl⟩
    rw [hnb] at rn ⊢
    have e3 : (x.data != []) = !(dt.toList == []) := by rw [e2]; rfl
    rw [e3]
    obtain ⟨eb, heb⟩ : ∃ b, (dt.toList == []) = b := ⟨_, rfl⟩
    rw [heb]
    clear z1 z3 z10 h1 h2 e hdt e1 e2 e3 hnb hal hd HAV HBB
    cases eb with
    | true =>
      go_enter Try.func24, Try.ntmps24
      go_upto_region 1 with fail
      rw [HV.out, HN.out]
      clear HV HN
      go_wp2
      go_ret
      exact ⟨rfl, HK.out⟩
    | false =>
      go_enter Try.func24, Try.ntmps24
      go_upto_region 1 with fail
      rw [HV.out, HN.out]
      clear HV HN
      go_wp2_with fail
      refine rn.mono ?_
      rintro e w1 ⟨rfl, rfl⟩
      clear rn
      cases nb with
      | true => go_wp2; go_ret; exact ⟨rfl, HK.out⟩
      | false => go_wp2; go_ret; exact ⟨rfl, HK.out⟩
  by_cases h3 : x.kind = 3
  · rw [h3] at z0
    have z0 : V.cell? ⟨N, 0, none⟩ = some (.int .u8 3) := z0
    have e : readP x = !x.data.any s3B := by unfold readP; rw [if_neg h1, if_neg h2, if_pos h3]
    rw [e]
    have r3 := any3 ⟨x.data.toArray⟩ (by show Array.size _ ≤ _; rw [List.size_toArray]; exact hd) V
    have e1 : (⟨x.data.toArray⟩ : ByteArray).data.toList.any s3B = x.data.any s3B := rfl
    rw [e1] at r3
    obtain ⟨dt, hdt⟩ : ∃ s : ByteArray, ⟨x.data.toArray⟩ = s := ⟨_, rfl⟩
    rw [hdt] at z2 r3
    obtain ⟨nb, hnb⟩ : ∃ b, x.data.any s3B = b := ⟨_, rfl⟩
    rw [hnb] at r3 ⊢
    clear z1 z3 z10 h1 h2 h3 e hdt e1 hnb hal hd HAV HBB
    go_enter Try.func24, Try.ntmps24
    go_upto_region 1 with fail
    rw [HV.out, HN.out]
    clear HV HN
    go_wp2_with fail
    refine r3.mono ?_
    rintro e w1 ⟨rfl, hK1⟩
    have HK1 : Hid (Kept (fun k => k < w.heap.size) w w1) := HK.out.trans (hK1.mono fun k h => Nat.lt_of_lt_of_le h HK.out.size)
    clear r3 hK1
    cases nb with
    | true => go_wp2; go_ret; exact ⟨rfl, HK1.out⟩
    | false => go_wp2; go_ret; exact ⟨rfl, HK1.out⟩
  by_cases h5 : x.kind = 5
  · rw [h5] at z0
    have z0 : V.cell? ⟨N, 0, none⟩ = some (.int .u8 5) := z0
    have e : readP x = !x.fl.b := by unfold readP; rw [if_neg h1, if_neg h2, if_neg h3, if_pos h5]
    rw [e]
    obtain ⟨fb, hfb⟩ : ∃ b, x.fl.b = b := ⟨_, rfl⟩
    rw [hfb] at z10 ⊢
    clear z1 z2 z3 h1 h2 h3 h5 e hfb hal hd HAV HBB
    go_enter Try.func24, Try.ntmps24
    go_upto_region 1 with fail
    rw [HV.out, HN.out]
    clear HV HN
    go_wp2
    go_ret
    exact ⟨rfl, HK.out⟩
  · have e : readP x = false := by unfold readP; rw [if_neg h1, if_neg h2, if_neg h3, if_neg h5]
    rw [e]
    have n1 : ((x.kind : Int) == 1) = false := by simp; omega
    have n2 : ((x.kind : Int) == 2) = false := by simp; omega
    have n3 : ((x.kind : Int) == 3) = false := by simp; omega
    have n5 : ((x.kind : Int) == 5) = false := by simp; omega
    obtain ⟨kz, hkz⟩ : ∃ k : Int, (x.kind : Int) = k := ⟨_, rfl⟩
    rw [hkz] at z0 n1 n2 n3 n5
    clear z1 z2 z3 z10 h1 h2 h3 h5 e hkz hal hd HAV HBB
    go_enter Try.func24, Try.ntmps24
    go_upto_region 1 with fail
    rw [HV.out, HN.out]
    clear HV HN
    go_wp2
    go_ret
    exact ⟨rfl, HK.out⟩
end Go.Proofs.Ytikaheenjhdpmaa
