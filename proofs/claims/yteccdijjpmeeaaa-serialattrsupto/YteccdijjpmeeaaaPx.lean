/-
  The beginning of an element, with its attributes.
-/
import Derived.Test.YteccdijjpmeeaaaPw
import Derived.Deep.RegionHeld3
namespace Go.Proofs.Yteccdijjpmeeaaa
open Go.RowKit
set_option linter.unusedVariables false
set_option maxRecDepth 100000
set_option maxHeartbeats 4000000
section
variable {P : Program} {ops : Array Oper} {Q : Exit → Act → World → Prop} {md : Region.Mode} {S : World → Prop} {fuel : Nat} {listed : Array Bool} {a : Act} {w : World}
theorem opY (i : Nat) {o : Oper} (hi : ops[i]? = some o) (hr : Region.ready md ops listed = [i]) (hw : Region.wanted o (yielded ops a.tmps) = true)
    (h : ∀ K' : Act → World → Prop, Hid (∀ a w, S w → (S w → wpAnyH P md ops Q S fuel (listed.setIfInBounds i true) a w) → K' a w) → Oper.wp P o a w K' Q) : wpAnyH P md ops Q S (fuel + 1) listed a w := by
  refine wpAnyH_ready hr (by simp) (AllReadyH.cons hi (fun Kx hK => ?_) AllReadyH.nil)
  rw [if_pos hw]
  exact h Kx hK.out
end
theorem enterV (args : Array Value) (X : World) : (callFunc 65 args).run Try.prog X = .ok (.enter 65 args) X := entersE Try.func65 (by kernel_rfl) (c := _) rfl args X
theorem enterP (args : Array Value) (X : World) : (callFunc 52 args).run Try.prog X = .ok (.enter 52 args) X := entersE Try.func52 (by kernel_rfl) (c := _) rfl args X
theorem start_any (K : Nat → Prop) (c : Cf) (nm : List UInt8) (at' : List Atr) (ao : Option Addr) (n ac : Nat) (hn : at'.length = n) (hnn : n ≤ 1000) (hv : ∀ a ∈ at', a.value.length < 1000000) (l : List UInt8) (w : World) (h : Pg K w c l) (ha : AtsAt K w ao at') (hl : l.length + (staL nm at').length ≤ 1099511627776) :
    Calls Try.prog 57 #[.pointer (some ⟨c.b, 0, none⟩), .string ⟨nm.toArray⟩, .slice ao n ac] w fun e w' => e = .returned (.tuple #[]) ∧ Pg K w' c (l ++ staL nm at') ∧ Kept K w w' := by
  have hlt := h.lt
  have e0 : cat [⟨#[60]⟩, ⟨nm.toArray⟩] = [60] ++ nm := by simp [cat]
  have hls : (staL nm at').length = ([60] ++ nm).length + (atsL at').length + 1 := by unfold staL; simp; omega
  have r := put_new K c [⟨#[60]⟩, ⟨nm.toArray⟩] #[.string ⟨#[60]⟩, .string ⟨nm.toArray⟩] rfl 2 rfl (by decide) l w h (by rw [e0]; omega)
  rw [e0] at r
  obtain ⟨A, hA⟩ : ∃ A, l ++ staL nm at' = A := ⟨_, rfl⟩
  rw [hA]
  obtain ⟨B, hB⟩ : ∃ B, l ++ ([60] ++ nm) = B := ⟨_, rfl⟩
  have hBA : (B ++ atsL at') ++ [62] = A := by rw [← hB, ← hA]; unfold staL; simp
  have hBl : B.length + (atsL at').length + 1 ≤ 1099511627776 := by have := congrArg List.length hB; rw [List.length_append] at this; omega
  rw [hB] at r
  have HBA : Hid ((B ++ atsL at') ++ [62] = A) := hBA
  have HBL : Hid (B.length + (atsL at').length + 1 ≤ 1099511627776) := hBl
  have HA : Hid (AtsAt K w ao at') := ha
  have HV : Hid (∀ a ∈ at', a.value.length < 1000000) := hv
  have HN : Hid (at'.length = n) := hn
  have HLT : Hid (∀ k, K k → k < w.heap.size) := hlt
  clear h ha hl hls e0 hA hB hBA hBl hv hn hlt
  go_enter Try.func57, Try.ntmps57
  go_wp2_with fail
  refine r.mono ?_
  rintro e w1 ⟨rfl, hP1, hK1⟩
  have HP1 : Hid (Pg K w1 c B) := hP1
  have HK1 : Hid (Kept K w w1) := hK1
  clear r hP1 hK1
  go_wp2_with fail
  go_loopg [14] n (fun gm i wr => ∃ j : Nat, gm = n - j ∧ j ≤ n ∧ i = .int .i64 j ∧ Pg K wr c (B ++ atsL (at'.take j)) ∧ Kept K w wr)
  case atStart => exact ⟨0, rfl, Nat.zero_le _, rfl, by rw [List.take_zero]; show Pg K w1 c (B ++ []); rw [List.append_nil]; exact HP1.out, HK1.out⟩
  case round =>
    obtain ⟨j, hg, hj, rfl, hP, hK⟩ := hrel
    clear HP1 HK1
    by_cases hlt : j < n
    · have hl : j < at'.length := by rw [HN.out]; exact hlt
      obtain ⟨g, o, hg', hKg, c0, c1⟩ := HA.out j hl
      have d0 : wr.cell? ⟨g, o + j * 2, none⟩ = some (sv at'[j].name) := by rw [hK.cell (p := ⟨g, o + j * 2, none⟩) hKg]; exact c0
      have d1 : wr.cell? ⟨g, o + j * 2 + 1, none⟩ = some (sv at'[j].value) := by rw [hK.cell (p := ⟨g, o + j * 2 + 1, none⟩) hKg]; exact c1
      subst hg'
      have hval := HV.out at'[j] (List.getElem_mem hl)
      have hstep := atsL_take at' j hl
      have hle := atsL_le at' (j + 1)
      obtain ⟨x, hx⟩ : ∃ x, at'[j] = x := ⟨_, rfl⟩
      rw [hx] at d0 d1 hval hstep
      obtain ⟨V, N, hV, hN, hb, hk, hz⟩ := alloc_bx wr #[sv x.name, sv x.value] 47
      have hPV := hP.up hk
      obtain ⟨K2, hK2⟩ : ∃ K2 : Nat → Prop, (fun k => K k ∨ (wr.heap.size ≤ k ∧ k < V.heap.size)) = K2 := ⟨_, rfl⟩
      rw [hK2] at hPV
      have hNK : K2 N := by rw [← hK2]; exact .inr ⟨by omega, by omega⟩
      have hKK : ∀ k, K k → K2 k := fun k h => by rw [← hK2]; exact .inl h
      have b0 : V.cell? ⟨N, 0, none⟩ = some (sv x.name) := by rw [cell_block hb]; rfl
      have b1 : V.cell? ⟨N, 1, none⟩ = some (sv x.value) := by rw [cell_block hb]; rfl
      have HB0 : Hid (∀ Y, Kept K2 V Y → Y.cell? ⟨N, 0, none⟩ = some (sv x.name)) := fun Y hY => (hY.cell (p := ⟨N, 0, none⟩) hNK).trans b0
      have HB1 : Hid (∀ Y, Kept K2 V Y → Y.cell? ⟨N, 1, none⟩ = some (sv x.value)) := fun Y hY => (hY.cell (p := ⟨N, 1, none⟩) hNK).trans b1
      have HVV : Hid (wr.alloc (.cells #[sv x.name, sv x.value] 47) = V) := hV
      have HNN : Hid (wr.heap.size = N) := hN
      have HPV : Hid (Pg K2 V c (B ++ atsL (at'.take j))) := hPV
      have HKV : Hid (Kept K w V) := hK.trans (hk.mono fun k h => Nat.lt_of_lt_of_le (HLT.out k h) hK.size)
      have HS : Hid (atsL (at'.take (j + 1)) = atsL (at'.take j) ++ atrL x) := hstep
      have HLE : Hid ((atsL (at'.take (j + 1))).length ≤ (atsL at').length) := hle
      have HKK : Hid (∀ k, K k → K2 k) := hKK
      clear hP hK hx hV hN hb hk hz hPV hK2 hNK hKK b0 b1 c0 c1 hKg hstep hle
      go_upto_region 4 with fail
      rw [HVV.out, HNN.out]
      clear HVV HNN d0 d1
      refine wp_region_held_drew (S := fun Y => Kept K2 V Y) (by kernel_rfl) ((Kept.refl _ V).drew) (fun hHeld => ?_)
      refine tkH 0 18 (.pointer (some ⟨c.b, 0, none⟩)) rfl rfl (by kernel_rfl) (by rfl) (by intro Y hY; go_simp; try with_reducible rfl) (fun _ _ _ h => h) hHeld ?_
      try simp only [Act.put, List.setIfInBounds_toArray, List.set_cons_zero, List.set_cons_succ]
      refine tkH 1 19 (.pointer (some ⟨N, 0, none⟩)) rfl rfl (by kernel_rfl) (by rfl) (by intro Y hY; go_simp; try with_reducible rfl) (fun _ _ _ h => h) hHeld ?_
      try simp only [Act.put, List.setIfInBounds_toArray, List.set_cons_zero, List.set_cons_succ]
      refine tkH 2 20 (sv x.name) rfl rfl (by kernel_rfl) (by rfl) (by intro Y hY; have hc := HB0.out Y hY; go_simp; try with_reducible rfl) (fun _ _ _ h => h) hHeld ?_
      try simp only [Act.put, List.setIfInBounds_toArray, List.set_cons_zero, List.set_cons_succ]
      refine tkH 3 21 (.pointer (some ⟨N, 1, none⟩)) rfl rfl (by kernel_rfl) (by rfl) (by intro Y hY; go_simp; try with_reducible rfl) (fun _ _ _ h => h) hHeld ?_
      try simp only [Act.put, List.setIfInBounds_toArray, List.set_cons_zero, List.set_cons_succ]
      refine tkH 4 22 (sv x.value) rfl rfl (by kernel_rfl) (by rfl) (by intro Y hY; have hc := HB1.out Y hY; go_simp; try with_reducible rfl) (fun _ _ _ h => h) hHeld ?_
      try simp only [Act.put, List.setIfInBounds_toArray, List.set_cons_zero, List.set_cons_succ]
      have rv := value_any ⟨x.value.toArray⟩ (fun k => k < V.heap.size) V.drew (fun k h => h) hval
      refine clH 5 23 65 #[sv x.value] rfl rfl (by kernel_rfl) (by rfl) rfl (by first | rfl | (simp [Act.eval]; done) | (simp [Act.eval, Act.put]; done)) (enterV _ _) rv ?_
      rintro e Y ⟨rfl, hk9⟩
      have hkY : Kept (fun k => k < V.heap.size) V Y := ((Kept.refl _ V).drew).trans hk9
      have hPY := (HPV.out.up hkY).less (K := K2) fun k h => .inl h
      refine ⟨_, rfl, hkY.mono HPV.out.lt, fun hHeld2 => ?_⟩
      replace hHeld := hHeld2
      clear hHeld2
      try simp only [Act.put, List.setIfInBounds_toArray, List.set_cons_zero, List.set_cons_succ]
      refine opY 6 rfl (by kernel_rfl) (by rfl) (fun K' hK' => ?_)
      unfold Oper.wp
      go_simp
      refine hK'.out _ _ (hHeld.alloc hPY.lt _) (fun hHeld2 => ?_)
      clear hK'
      try simp only [Act.put, List.setIfInBounds_toArray, List.set_cons_zero, List.set_cons_succ]
      have ec : cat [⟨#[32]⟩, ⟨x.name.toArray⟩, ⟨#[61, 34]⟩, ⟨(esc true x.value).toArray⟩, ⟨#[34]⟩] = atrL x := by simp [cat, atrL]
      have el : (B ++ atsL (at'.take j)).length + (atrL x).length ≤ 1099511627776 := by
        have h1 := congrArg List.length HS.out
        have h2 := HLE.out
        have h3 := HBL.out
        rw [List.length_append] at h1 ⊢
        omega
      have rp := put_new K2 c [⟨#[32]⟩, ⟨x.name.toArray⟩, ⟨#[61, 34]⟩, ⟨(esc true x.value).toArray⟩, ⟨#[34]⟩] #[.string ⟨#[32]⟩, sv x.name, .string ⟨#[61, 34]⟩, .string ⟨(esc true x.value).toArray⟩, .string ⟨#[34]⟩] rfl 5 rfl (by decide) (B ++ atsL (at'.take j)) Y hPY (by rw [ec]; exact el)
      rw [ec, List.append_assoc, ← HS.out] at rp
      refine clH 7 25 52 #[.pointer (some ⟨c.b, 0, none⟩), .slice (some ⟨Y.heap.size, 0, none⟩) 5 5] rfl rfl (by kernel_rfl) (by rfl) rfl (by first | rfl | (simp [Act.eval]; done) | (simp [Act.eval, Act.put]; done)) (enterP _ _) rp ?_
      rintro e Z ⟨rfl, hPZ, hkZ⟩
      refine ⟨_, rfl, hHeld.trans hkZ, fun hHeld3 => ?_⟩
      try simp only [Act.put, List.setIfInBounds_toArray, List.set_cons_zero, List.set_cons_succ]
      refine wpAnyH_done (by kernel_rfl) ?_ _
      have HPZ : Hid (Pg K Z c (B ++ atsL (at'.take (j + 1)))) := hPZ.less HKK.out
      have HKZ : Hid (Kept K w Z) := HKV.out.trans (hHeld3.mono HKK.out)
      clear hHeld hHeld2 hHeld3 hPZ hkZ rp el ec rv hk9 hkY hPY HPV HB0 HB1 HKV HKK HS HLE
      go_wp2
      go_roundg (n - (j + 1))
      case rel => exact ⟨j + 1, rfl, by omega, by go_num, HPZ.out, HKZ.out⟩
      case measure => omega
    · have hjn : j = n := by omega
      have et : at'.take j = at' := by rw [hjn, ← HN.out, List.take_length]
      rw [et] at hP
      have r := put_new K c [⟨#[62]⟩] #[.string ⟨#[62]⟩] rfl 1 rfl (by decide) (B ++ atsL at') wr hP (by have := HBL.out; rw [List.length_append]; simp [cat]; omega)
      have ec : cat [⟨#[62]⟩] = [62] := by simp [cat]
      rw [ec, HBA.out] at r
      have HK : Hid (Kept K w wr) := hK
      clear hP hK et hjn ec
      go_wp2_with fail
      refine r.mono ?_
      rintro e w2 ⟨rfl, hP2, hK2⟩
      have HP2 : Hid (Pg K w2 c A) := hP2
      have HK2 : Hid (Kept K w w2) := HK.out.trans hK2
      clear r hP2 hK2 HK
      go_wp2
      go_end0
      exact ⟨rfl, HP2.out, HK2.out⟩
end Go.Proofs.Yteccdijjpmeeaaa
