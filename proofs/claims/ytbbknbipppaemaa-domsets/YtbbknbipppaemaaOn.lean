/-
  The walk of DomOnce.
-/
import Derived.Test.YtbbknbipppaemaaCR
namespace Go.Proofs.Ytbbknbipppaemaa
open Go.RowKit
set_option linter.unusedVariables false

/-- What is told of a node is laid into a variable. -/
theorem told_next {K : Nat → Prop} {w w' : World} {p : Nat} {M : Dm} {ko : Option Addr} {kc : Nat} {Q : List Nat} (hX : DX K w p M) (hQ : OwnZ (fun k => k < w.heap.size) w' 3 1 ko Q.length kc (ivs Q)) (hK : Kept (fun k => k < w.heap.size) w w') (cs : Array Value) (V : World) (hV : w'.alloc (.cells cs 36) = V) :
    DX (fun k => K k ∨ (w.heap.size ≤ k ∧ k < V.heap.size)) V p M ∧ Kept (fun k => k < w.heap.size) w V ∧ V.heap[w'.heap.size]? = some (.cells cs 36) ∧ w.heap.size ≤ w'.heap.size ∧ w'.heap.size < V.heap.size ∧
      ∀ j (h : j < Q.length), ∃ g, ko = some ⟨g, 0, none⟩ ∧ w.heap.size ≤ g ∧ g < V.heap.size ∧ V.cell? ⟨g, j, none⟩ = some (.int .i64 (Q[j] : Int)) := by
  have kV : Kept (fun k => k < w'.heap.size) w' V := by rw [← hV]; exact (Kept.refl _ w').alloc (fun _ h => h) _
  have kwV : Kept (fun k => k < w.heap.size) w V := hK.trans (kV.mono fun k h => Nat.lt_of_lt_of_le h hK.size)
  have hb : V.heap[w'.heap.size]? = some (.cells cs 36) := by rw [← hV]; exact heap_alloc_new w' _
  refine ⟨hX.more kwV (fun k hk => ?_) (fun k hk => ?_), kwV, hb, hK.size, lt_block hb, fun j hj => ?_⟩
  · rcases hk with h | h
    · exact .inl h
    · exact .inr h.1
  · rcases hk with h | h
    · exact Nat.lt_of_lt_of_le (hX.lt k h) kwV.size
    · exact h.2
  · obtain ⟨g, e, hc⟩ := hQ.cell (j := j) (u := iv Q[j]) (by simp [ivs, hj])
    have ho := OwnZ.out hQ (g := g) e
    exact ⟨g, e, Nat.le_of_not_lt ho.1, Nat.lt_of_lt_of_le ho.2 kV.size, (kV.cell (p := ⟨g, j, none⟩) ho.2).trans hc⟩
theorem outR_end {n : Nat} {L : Nat → Lk} {R : Nat → List Nat} {a b : Nat} : putR L R a b (-1) a = outR L R b a ++ [b] := by
  unfold Ytbbknbipppaemaa.putR
  rw [updR_same, insB_end]

set_option maxRecDepth 20000 in
set_option maxHeartbeats 4000000 in
theorem once_go (N : Nat) (hN : N ≤ 30) (z : Int) (hz : z + 2 = (N : Int)) (a0 : Int) (h0 : 0 ≤ a0) (hm : a0 % 20 = z) (hmt : a0.tmod 20 = z) (a1 : Option Addr) (len cap : Nat) (zs : List Int) (hlen : len ≤ 60) (w : World)
    (hrow : ∀ j, j < len → ∃ x o, a1 = some ⟨x, o, none⟩ ∧ x < w.heap.size ∧ 0 ≤ zs.getD j 0 ∧ zs.getD j 0 ≤ 65535 ∧ w.cell? ⟨x, o + j, none⟩ = some (.int .u16 (zs.getD j 0))) :
    Calls Try.prog 6 #[.int .u8 a0, .slice a1 len cap] w fun e w' => e = .returned (.bool true) ∧ Kept (fun k => k < w.heap.size) w w' := by
  have rp := plain_any N (by omega) w
  have HROW : Hid (∀ j, j < len → ∃ x o, a1 = some ⟨x, o, none⟩ ∧ x < w.heap.size ∧ 0 ≤ zs.getD j 0 ∧ zs.getD j 0 ≤ 65535 ∧ w.cell? ⟨x, o + j, none⟩ = some (.int .u16 (zs.getD j 0))) := hrow
  have hgt : decide ((len : Int) > 60) = false := decide_eq_false (by omega)
  have hz0 : 0 ≤ z := by rw [← hm]; exact Int.emod_nonneg _ (by decide)
  have hz1 : z < 20 := by rw [← hm]; exact Int.emod_lt_of_pos _ (by decide)
  have hz2 : (2 : Int) + z = (N : Int) := by omega
  clear hrow hm hz
  go_enter Try.func6, Try.ntmps6
  go_wp2_with fail
  try rw [hz2]
  refine rp.mono ?_
  rintro e w1 ⟨p, M0, R0, rk0, rfl, hp, hX0, hG0, hD0, -, hK0⟩
  have HX0 : Hid (DX (fun k => k < w.heap.size) w1 p M0) := hX0
  have HG0 : Hid (Good M0 R0 rk0 ∧ Divs M0 N) := ⟨hG0, hD0⟩
  have HK0 : Hid (Kept (fun k => k < w.heap.size) w w1) := hK0
  obtain ⟨ga, gcap, hY0⟩ := hX0
  have c1 : w1.cell? ⟨p, 1, none⟩ = some (.slice ga (N + 1) gcap) := by have := hY0.c1; rw [hD0.len] at this; exact this
  have rl := len_any p (N + 1) gcap ga w1 c1
  clear rp hG0 hD0 hK0 hY0
  go_upto_region 6 with (go_at_call 17; refine rl.mono ?_; rintro e wa ⟨rfl, hwa⟩; replace hwa := hwa.symm; subst hwa)
  clear rl c1
  go_loopg [7] len (fun gh v wr => ∃ (j : Nat) (M : Dm) (R : Nat → List Nat) (rk : Nat → Nat), gh = len - j ∧ j ≤ len ∧ v = .int .i64 (j : Int) ∧ DX (fun k => k < w.heap.size) wr p M ∧ Good M R rk ∧ Divs M N ∧ Kept (fun k => k < w.heap.size) w wr)
  case atStart => exact ⟨0, M0, R0, rk0, rfl, Nat.zero_le _, rfl, HX0.out, HG0.out.1, HG0.out.2, HK0.out⟩
  case round =>
    clear HX0 HG0 HK0
    obtain ⟨j, M, R, rk, hgj, hj, rfl, hX, hG, hD, hK⟩ := hrel
    have HK : Hid (Kept (fun k => k < w.heap.size) w wr) := hK
    by_cases hlt : j < len
    · obtain ⟨x, o, rfl, hxw, hv0, hv1, hcell⟩ := HROW.out j hlt
      have hcr : wr.cell? ⟨x, o + j, none⟩ = some (.int .u16 (zs.getD j 0)) := (hK.cell (p := ⟨x, o + j, none⟩) hxw).trans hcell
      obtain ⟨v, hv⟩ : ∃ v, zs.getD j 0 = v := ⟨_, rfl⟩
      rw [hv] at hv0 hv1 hcr
      obtain ⟨a, ha⟩ : ∃ a : Nat, v % ((N + 1 : Nat) : Int) = (a : Int) := ⟨(v % ((N + 1 : Nat) : Int)).toNat, by have := Int.emod_nonneg v (show ((N + 1 : Nat) : Int) ≠ 0 by omega); omega⟩
      obtain ⟨b, hb⟩ : ∃ b : Nat, (v / 64) % ((N + 1 : Nat) : Int) = (b : Int) := ⟨((v / 64) % ((N + 1 : Nat) : Int)).toNat, by have := Int.emod_nonneg (v / 64) (show ((N + 1 : Nat) : Int) ≠ 0 by omega); omega⟩
      have haN : a < N + 1 := by have := Int.emod_lt_of_pos v (show (0 : Int) < ((N + 1 : Nat) : Int) by omega); omega
      have hbN : b < N + 1 := by have := Int.emod_lt_of_pos (v / 64) (show (0 : Int) < ((N + 1 : Nat) : Int) by omega); omega
      have hq : v.tdiv 64 = v / 64 := Int.tdiv_eq_ediv_of_nonneg hv0
      have hq0 : 0 ≤ v / 64 := by omega
      have hr1 : v.tmod ((N + 1 : Nat) : Int) = v % ((N + 1 : Nat) : Int) := Int.tmod_eq_emod_of_nonneg hv0
      have hr2 : (v / 64).tmod ((N + 1 : Nat) : Int) = (v / 64) % ((N + 1 : Nat) : Int) := Int.tmod_eq_emod_of_nonneg hq0
      have ha' : v % ((N : Int) + 1) = (a : Int) := ha
      have hb' : v / 64 % ((N : Int) + 1) = (b : Int) := hb
      have haM : a < M.n := by rw [hD.len]; exact haN
      have hbM : b < M.n := by rw [hD.len]; exact hbN
      have hMn : M.n ≤ 1000000 := by rw [hD.len]; omega
      have rn1 := node_any (fun k => k < w.heap.size) p b M R wr hX hG.wf hbM hMn hG.few
      have HX : Hid (DX (fun k => k < w.heap.size) wr p M) := hX
      have HG : Hid (Good M R rk) := hG
      have HD : Hid (Divs M N) := hD
      have HB : Hid (a < M.n ∧ b < M.n ∧ M.n ≤ 1000000) := ⟨haM, hbM, hMn⟩
      clear hv hcell HROW ha hb hX hG hD hK haM hbM hMn
      go_upto_region 10 with fail
      rw [ha', hb']
      clear ha' hb' hcr hv0 hv1
      go_wp2_with fail
      refine rn1.mono ?_
      rintro e v1 ⟨ao1, ac1, ko1, kc1, rfl, -, hQ1, hK1⟩
      obtain ⟨ux, hux⟩ : ∃ z, (M.pl b).up = z := ⟨_, rfl⟩
      rw [hux]
      have HUX : Hid ((M.pl b).up = ux) := hux
      obtain ⟨A1, hA1⟩ : ∃ A : Array Value, outC (M.nd b).kind ⟨(M.nd b).name.toArray⟩ ⟨(M.nd b).data.toArray⟩ ao1 (M.nd b).attrs.length ac1 ux ko1 (R b).length kc1 (M.nd b).shadow (M.nd b).host (M.nd b).content (M.nd b).fl = A := ⟨_, rfl⟩
      obtain ⟨V1, hV1⟩ : ∃ V, v1.alloc (.cells (outC (M.nd b).kind ⟨(M.nd b).name.toArray⟩ ⟨(M.nd b).data.toArray⟩ ao1 (M.nd b).attrs.length ac1 ux ko1 (R b).length kc1 (M.nd b).shadow (M.nd b).host (M.nd b).content (M.nd b).fl) 36) = V := ⟨_, rfl⟩
      obtain ⟨hX1, kV1, hb1, hs1, hs1', -⟩ := told_next HX.out hQ1 hK1 _ V1 hV1
      obtain ⟨N1, hN1⟩ : ∃ N, v1.heap.size = N := ⟨_, rfl⟩
      rw [hN1] at hb1 hs1 hs1'
      have x4 : V1.cell? ⟨N1, 4, none⟩ = some (.int .i64 ux) := by rw [cell_block hb1]; rfl
      obtain ⟨K1, hK1e⟩ : ∃ K1 : Nat → Prop, (fun k => k < w.heap.size ∨ (wr.heap.size ≤ k ∧ k < V1.heap.size)) = K1 := ⟨_, rfl⟩
      rw [hK1e] at hX1
      have hKN1 : K1 N1 := by rw [← hK1e]; exact .inr ⟨hs1, hs1'⟩
      have hK1w : ∀ k, k < w.heap.size → K1 k := fun k h => by rw [← hK1e]; exact .inl h
      have ri := insert_in K1 p a b (-1) M R rk V1 hX1 HG.out.wf HG.out.acy HB.out.1 HB.out.2.1 (.inl rfl) HB.out.2.2
      have HRI : Hid (Calls Try.prog 14 #[.pointer (some ⟨p, 0, none⟩), .int .i64 (a : Int), .int .i64 (b : Int), .int .i64 (-1)] V1 fun e w' => Kept K1 V1 w' ∧ ((e = .returned (.int .u16 81) ∧ ¬ Fits M a b (-1) ∧ DX K1 w' p M) ∨ (e = .returned (.int .u16 0) ∧ Fits M a b (-1) ∧ DX K1 w' p (M.setP (putD M R a b (-1)))))) := ri
      have HV1 : Hid (v1.alloc (.cells (outC (M.nd b).kind ⟨(M.nd b).name.toArray⟩ ⟨(M.nd b).data.toArray⟩ ao1 (M.nd b).attrs.length ac1 ux ko1 (R b).length kc1 (M.nd b).shadow (M.nd b).host (M.nd b).content (M.nd b).fl) 36) = V1) := hV1
      have HN1 : Hid (v1.heap.size = N1) := hN1
      have HKV1 : Hid (Kept (fun k => k < w.heap.size) w V1) := HK.out.trans (kV1.mono fun k h => Nat.lt_of_lt_of_le h HK.out.size)
      have HK1W : Hid (∀ k, k < w.heap.size → K1 k) := hK1w
      have HX4 : Hid (V1.cell? ⟨N1, 4, none⟩ = some (.int .i64 ux)) := x4
      clear rn1 hQ1 hK1 hux hA1 hV1 hX1 kV1 hb1 hs1 hs1' hN1 hK1e hK1w ri x4
      go_upto_region 11 with fail
      rw [HV1.out, HN1.out]
      clear HV1 HN1 A1
      go_wp2_with fail
      refine HRI.out.mono ?_
      rintro e w2 ⟨hK2, h2⟩
      have x4 : w2.cell? ⟨N1, 4, none⟩ = some (.int .i64 ux) := (hK2.cell (p := ⟨N1, 4, none⟩) hKN1).trans HX4.out
      have HK2 : Hid (Kept (fun k => k < w.heap.size) w w2) := HKV1.out.trans (hK2.mono HK1W.out)
      clear HRI HX4 HKV1
      rcases h2 with ⟨rfl, hnf, hX2⟩ | ⟨rfl, hf, hX2⟩
      · -- refused
        have hX2' : DX (fun k => k < w.heap.size) w2 p M := hX2.more (Kept.refl _ _) (fun k hk => .inl (HK1W.out k hk)) (fun k hk => Nat.lt_of_lt_of_le hk HK2.out.size)
        have N1l : N1 < w2.heap.size := hX2.lt N1 hKN1
        have rn2 := node_any (fun k => k < w.heap.size) p b M R w2 hX2' HG.out.wf HB.out.2.1 HB.out.2.2 HG.out.few
        have HX2 : Hid (DX (fun k => k < w.heap.size) w2 p M) := hX2'
        clear hX2 hX2' hnf hK2
        go_wp2_with fail
        refine rn2.mono ?_
        rintro e v3 ⟨ao3, ac3, ko3, kc3, rfl, -, hQ3, hK3⟩
        rw [HUX.out]
        obtain ⟨V3, hV3⟩ : ∃ V, v3.alloc (.cells (outC (M.nd b).kind ⟨(M.nd b).name.toArray⟩ ⟨(M.nd b).data.toArray⟩ ao3 (M.nd b).attrs.length ac3 ux ko3 (R b).length kc3 (M.nd b).shadow (M.nd b).host (M.nd b).content (M.nd b).fl) 36) = V := ⟨_, rfl⟩
        obtain ⟨hX3, kV3, hb3, hs3, hs3', -⟩ := told_next HX2.out hQ3 hK3 _ V3 hV3
        obtain ⟨N3, hN3⟩ : ∃ N, v3.heap.size = N := ⟨_, rfl⟩
        rw [hN3] at hb3 hs3 hs3'
        have y4 : V3.cell? ⟨N3, 4, none⟩ = some (.int .i64 ux) := by rw [cell_block hb3]; rfl
        have x4' : V3.cell? ⟨N1, 4, none⟩ = some (.int .i64 ux) := (kV3.cell (p := ⟨N1, 4, none⟩) N1l).trans x4
        have N1l' : N1 < V3.heap.size := Nat.lt_of_lt_of_le N1l kV3.size
        have hX3' : DX (fun k => k < w.heap.size) V3 p M := HX2.out.kept kV3
        have HK3 : Hid (Kept (fun k => k < w.heap.size) w V3) := HK2.out.trans (kV3.mono fun k h => Nat.lt_of_lt_of_le h HK2.out.size)
        have rn3 := node_any (fun k => k < w.heap.size) p a M R V3 hX3' HG.out.wf HB.out.1 HB.out.2.2 HG.out.few
        have HX3 : Hid (DX (fun k => k < w.heap.size) V3 p M) := hX3'
        have HV3 : Hid (v3.alloc (.cells (outC (M.nd b).kind ⟨(M.nd b).name.toArray⟩ ⟨(M.nd b).data.toArray⟩ ao3 (M.nd b).attrs.length ac3 ux ko3 (R b).length kc3 (M.nd b).shadow (M.nd b).host (M.nd b).content (M.nd b).fl) 36) = V3) := hV3
        have HN3 : Hid (v3.heap.size = N3) := hN3
        clear rn2 hQ3 hK3 hV3 hX3 kV3 hb3 hs3 hN3 hX3' x4 N1l HX2
        go_upto_region 13 with fail
        rw [HV3.out, HN3.out]
        clear HV3 HN3
        go_wp2_with fail
        refine rn3.mono ?_
        rintro e v4 ⟨ao4, ac4, ko4, kc4, rfl, -, hQ4, hK4⟩
        obtain ⟨V4, hV4⟩ : ∃ V, v4.alloc (.cells (outC (M.nd a).kind ⟨(M.nd a).name.toArray⟩ ⟨(M.nd a).data.toArray⟩ ao4 (M.nd a).attrs.length ac4 (M.pl a).up ko4 (R a).length kc4 (M.nd a).shadow (M.nd a).host (M.nd a).content (M.nd a).fl) 36) = V := ⟨_, rfl⟩
        obtain ⟨-, kV4, -, -, -, -⟩ := told_next HX3.out hQ4 hK4 _ V4 hV4
        have y4' : V4.cell? ⟨N3, 4, none⟩ = some (.int .i64 ux) := (kV4.cell (p := ⟨N3, 4, none⟩) hs3').trans y4
        have x4'' : V4.cell? ⟨N1, 4, none⟩ = some (.int .i64 ux) := (kV4.cell (p := ⟨N1, 4, none⟩) N1l').trans x4'
        have HX4 : Hid (DX (fun k => k < w.heap.size) V4 p M) := HX3.out.kept kV4
        have HK4 : Hid (Kept (fun k => k < w.heap.size) w V4) := HK3.out.trans (kV4.mono fun k h => Nat.lt_of_lt_of_le h HK3.out.size)
        have HV4 : Hid (v4.alloc (.cells (outC (M.nd a).kind ⟨(M.nd a).name.toArray⟩ ⟨(M.nd a).data.toArray⟩ ao4 (M.nd a).attrs.length ac4 (M.pl a).up ko4 (R a).length kc4 (M.nd a).shadow (M.nd a).host (M.nd a).content (M.nd a).fl) 36) = V4) := hV4
        clear rn3 hQ4 hK4 hV4 kV4 y4 x4' N1l' hs3'
        go_upto_region 14 with fail
        rw [HV4.out]
        clear HV4
        go_wp2
        go_roundg (len - (j + 1))
        case rel => exact ⟨j + 1, M, R, rk, rfl, by omega, by go_num, HX4.out, HG.out, HD.out, HK4.out⟩
        case measure => omega
      · -- put in
        have hb0 : 0 < b := by
          rcases Nat.eq_zero_or_pos b with h | h
          · exfalso
            have := hf.2.1
            rw [h] at this
            unfold moveB at this
            simp at this
          · exact h
        have hkb : (M.nd b).kind ≠ 4 := HD.out.kind hb0 hbN
        have eP : putD M R a b (-1) = putL M.pl a b (-1) := by unfold putD; rw [if_neg hkb, if_neg (by omega)]
        have eR : putDR M R a b (-1) = putR M.pl R a b (-1) := by unfold putDR; rw [if_neg hkb, if_neg (by omega)]
        obtain ⟨rk', hG'⟩ := HG.out.ins HB.out.1 HB.out.2.1 hf
        rw [eP] at hG' hX2
        rw [eR] at hG'
        obtain ⟨M', hM'⟩ : ∃ M', M.setP (putL M.pl a b (-1)) = M' := ⟨_, rfl⟩
        obtain ⟨R', hR'⟩ : ∃ R', putR M.pl R a b (-1) = R' := ⟨_, rfl⟩
        have hupb : (M'.pl b).up = (a : Int) := by rw [← hM']; exact put_up_same
        have hRa : R' a = outR M.pl R b a ++ [b] := by rw [← hR']; exact outR_end (n := 0)
        have hn' : M'.n = M.n := by rw [← hM']; rfl
        rw [hM', hR'] at hG'
        rw [hM'] at hX2
        have hD' : Divs M' N := by rw [← hM']; exact HD.out.setP _
        have hnb : ∀ u, u < M'.n → u ≠ a → b ∉ R' u := fun u hu hua hm => by
          have := hG'.wf.up hu hm
          rw [hupb] at this
          omega
        have hux : ux = -1 ∨ ∃ u : Nat, u < M'.n ∧ ux = (u : Int) := by
          rw [hn']
          rcases HG.out.wf.inn b HB.out.2.1 with h | ⟨u, h1, h2, _⟩
          · exact .inl (HUX.out.symm.trans h)
          · exact .inr ⟨u, h1, HUX.out.symm.trans h2⟩
        have HUX2 : Hid (ux = -1 ∨ ∃ u : Nat, u < M'.n ∧ ux = (u : Int)) := hux
        have HNB : Hid (∀ u, u < M'.n → u ≠ a → b ∉ R' u) := hnb
        have HG' : Hid (Good M' R' rk') := hG'
        have HD' : Hid (Divs M' N) := hD'
        have HB' : Hid (a < M'.n ∧ b < M'.n ∧ M'.n ≤ 1000000) := by rw [hn']; exact HB.out
        have HRA : Hid (R' a = outR M.pl R b a ++ [b]) := hRa
        have HUB : Hid ((M'.pl b).up = (a : Int)) := hupb
        have hX2' : DX (fun k => k < w.heap.size) w2 p M' := hX2.more (Kept.refl _ _) (fun k hk => .inl (HK1W.out k hk)) (fun k hk => Nat.lt_of_lt_of_le hk HK2.out.size)
        have N1l : N1 < w2.heap.size := hX2.lt N1 hKN1
        have rn2 := node_any (fun k => k < w.heap.size) p b M' R' w2 hX2' HG'.out.wf HB'.out.2.1 HB'.out.2.2 HG'.out.few
        have HX2 : Hid (DX (fun k => k < w.heap.size) w2 p M') := hX2'
        clear hX2 hX2' hK2 hf hb0 hkb eP eR hG' hM' hR' hupb hRa hn' hD' hnb hux HG HD HB HX HK1W
        go_wp2_with fail
        refine rn2.mono ?_
        rintro e v3 ⟨ao3, ac3, ko3, kc3, rfl, -, hQ3, hK3⟩
        rw [HUB.out]
        obtain ⟨V3, hV3⟩ : ∃ V, v3.alloc (.cells (outC (M'.nd b).kind ⟨(M'.nd b).name.toArray⟩ ⟨(M'.nd b).data.toArray⟩ ao3 (M'.nd b).attrs.length ac3 (a : Int) ko3 (R' b).length kc3 (M'.nd b).shadow (M'.nd b).host (M'.nd b).content (M'.nd b).fl) 36) = V := ⟨_, rfl⟩
        obtain ⟨hX3, kV3, hb3, hs3, hs3', -⟩ := told_next HX2.out hQ3 hK3 _ V3 hV3
        obtain ⟨N3, hN3⟩ : ∃ N, v3.heap.size = N := ⟨_, rfl⟩
        rw [hN3] at hb3 hs3 hs3'
        have y4 : V3.cell? ⟨N3, 4, none⟩ = some (.int .i64 (a : Int)) := by rw [cell_block hb3]; rfl
        have x4' : V3.cell? ⟨N1, 4, none⟩ = some (.int .i64 ux) := (kV3.cell (p := ⟨N1, 4, none⟩) N1l).trans x4
        have N1l' : N1 < V3.heap.size := Nat.lt_of_lt_of_le N1l kV3.size
        have hX3' : DX (fun k => k < w.heap.size) V3 p M' := HX2.out.kept kV3
        have HK3 : Hid (Kept (fun k => k < w.heap.size) w V3) := HK2.out.trans (kV3.mono fun k h => Nat.lt_of_lt_of_le h HK2.out.size)
        have rn3 := node_any (fun k => k < w.heap.size) p a M' R' V3 hX3' HG'.out.wf HB'.out.1 HB'.out.2.2 HG'.out.few
        have HX3 : Hid (DX (fun k => k < w.heap.size) V3 p M') := hX3'
        have HV3 : Hid (v3.alloc (.cells (outC (M'.nd b).kind ⟨(M'.nd b).name.toArray⟩ ⟨(M'.nd b).data.toArray⟩ ao3 (M'.nd b).attrs.length ac3 (a : Int) ko3 (R' b).length kc3 (M'.nd b).shadow (M'.nd b).host (M'.nd b).content (M'.nd b).fl) 36) = V3) := hV3
        have HN3 : Hid (v3.heap.size = N3) := hN3
        clear rn2 hQ3 hK3 hV3 hX3 kV3 hb3 hs3 hN3 hX3' x4 N1l HX2
        go_upto_region 13 with fail
        rw [HV3.out, HN3.out]
        clear HV3 HN3
        go_wp2_with fail
        refine rn3.mono ?_
        rintro e v4 ⟨ao4, ac4, ko4, kc4, rfl, -, hQ4, hK4⟩
        obtain ⟨lx, hlx⟩ : ∃ z, (outR M.pl R b a).length = z := ⟨_, rfl⟩
        have hlen4 : (R' a).length = lx + 1 := by rw [HRA.out, List.length_append, hlx]; rfl
        obtain ⟨V4, hV4⟩ : ∃ V, v4.alloc (.cells (outC (M'.nd a).kind ⟨(M'.nd a).name.toArray⟩ ⟨(M'.nd a).data.toArray⟩ ao4 (M'.nd a).attrs.length ac4 (M'.pl a).up ko4 (R' a).length kc4 (M'.nd a).shadow (M'.nd a).host (M'.nd a).content (M'.nd a).fl) 36) = V := ⟨_, rfl⟩
        obtain ⟨-, kV4, hb4, hs4, hs4', hc4⟩ := told_next HX3.out hQ4 hK4 _ V4 hV4
        obtain ⟨N4, hN4⟩ : ∃ N, v4.heap.size = N := ⟨_, rfl⟩
        rw [hN4] at hb4 hs4 hs4'
        obtain ⟨g4, rfl, hg4, hg4', hz4⟩ := hc4 lx (by rw [hlen4]; omega)
        have hlast : (R' a)[lx]'(by rw [hlen4]; omega) = b := by
          have e1 : (R' a)[lx]? = some b := by rw [HRA.out, List.getElem?_append_right (by omega), hlx, Nat.sub_self]; rfl
          rw [List.getElem?_eq_getElem (by rw [hlen4]; omega)] at e1
          injection e1
        rw [hlast] at hz4
        have z5 : V4.cell? ⟨N4, 5, none⟩ = some (.slice (some ⟨g4, 0, none⟩) (lx + 1) kc4) := by rw [cell_block hb4, ← hlen4]; rfl
        have hcap4 : lx + 1 ≤ kc4 := by have := hQ4.2.1; rw [hlen4] at this; exact this
        have y4' : V4.cell? ⟨N3, 4, none⟩ = some (.int .i64 (a : Int)) := (kV4.cell (p := ⟨N3, 4, none⟩) hs3').trans y4
        have x4'' : V4.cell? ⟨N1, 4, none⟩ = some (.int .i64 ux) := (kV4.cell (p := ⟨N1, 4, none⟩) N1l').trans x4'
        have N1l4 : N1 < V4.heap.size := Nat.lt_of_lt_of_le N1l' kV4.size
        have HX4 : Hid (DX (fun k => k < w.heap.size) V4 p M') := HX3.out.kept kV4
        have HK4 : Hid (Kept (fun k => k < w.heap.size) w V4) := HK3.out.trans (kV4.mono fun k h => Nat.lt_of_lt_of_le h HK3.out.size)
        have HV4 : Hid (v4.alloc (.cells (outC (M'.nd a).kind ⟨(M'.nd a).name.toArray⟩ ⟨(M'.nd a).data.toArray⟩ ao4 (M'.nd a).attrs.length ac4 (M'.pl a).up (some ⟨g4, 0, none⟩) (R' a).length kc4 (M'.nd a).shadow (M'.nd a).host (M'.nd a).content (M'.nd a).fl) 36) = V4) := hV4
        have HN4 : Hid (v4.heap.size = N4) := hN4
        have hlx6 : lx ≤ 1000000 := by
          have h1 := HG'.out.wf.len_le HB'.out.1
          have h2 := HB'.out.2.2
          omega
        clear rn3 hQ4 hK4 hV4 kV4 y4 x4' N1l' hs3' hlast hlx hlen4 hc4 hb4 hs4 hs4' hg4 hg4' hN4
        go_upto_region 14 with fail
        rw [HV4.out, HN4.out]
        clear HV4 HN4
        have e5 : ((lx : Int) + 1) - 1 = (lx : Int) := by omega
        by_cases hcu : 0 ≤ ux ∧ ux ≠ (a : Int)
        · obtain ⟨hu0, hua⟩ := hcu
          rcases HUX2.out with h | ⟨u, hun, h⟩
          · omega
          subst h
          have hd1 : decide ((u : Int) ≥ 0) = true := decide_eq_true hu0
          have hd2 : ((u : Int) != (a : Int)) = true := by simpa using hua
          have hua' : u ≠ a := fun e => hua (by rw [e])
          have rn5 := node_any (fun k => k < w.heap.size) p u M' R' V4 HX4.out HG'.out.wf hun HB'.out.2.2 HG'.out.few
          have hnin := HNB.out u hun hua'
          have hlu := HG'.out.wf.len_le hun
          have HNIN : Hid (b ∉ R' u) := hnin
          have HLU : Hid ((R' u).length ≤ 1000000) := Nat.le_trans hlu HB'.out.2.2
          clear hnin hlu hu0 hua hua'
          go_wp2_with fail
          refine rn5.mono ?_
          rintro e v5 ⟨ao5, ac5, ko5, kc5, rfl, -, hQ5, hK5⟩
          obtain ⟨V5, hV5⟩ : ∃ V, v5.alloc (.cells (outC (M'.nd u).kind ⟨(M'.nd u).name.toArray⟩ ⟨(M'.nd u).data.toArray⟩ ao5 (M'.nd u).attrs.length ac5 (M'.pl u).up ko5 (R' u).length kc5 (M'.nd u).shadow (M'.nd u).host (M'.nd u).content (M'.nd u).fl) 36) = V := ⟨_, rfl⟩
          obtain ⟨-, kV5, hb5, hs5, hs5', hc5⟩ := told_next HX4.out hQ5 hK5 _ V5 hV5
          obtain ⟨N5, hN5⟩ : ∃ N, v5.heap.size = N := ⟨_, rfl⟩
          rw [hN5] at hb5
          obtain ⟨Lu, hLu⟩ : ∃ z, (R' u).length = z := ⟨_, rfl⟩
          have w5 : V5.cell? ⟨N5, 5, none⟩ = some (.slice ko5 Lu kc5) := by rw [cell_block hb5, ← hLu]; rfl
          have HV5 : Hid (v5.alloc (.cells (outC (M'.nd u).kind ⟨(M'.nd u).name.toArray⟩ ⟨(M'.nd u).data.toArray⟩ ao5 (M'.nd u).attrs.length ac5 (M'.pl u).up ko5 (R' u).length kc5 (M'.nd u).shadow (M'.nd u).host (M'.nd u).content (M'.nd u).fl) 36) = V5) := hV5
          have HN5 : Hid (v5.heap.size = N5) := hN5
          have HC5 : Hid (∀ j (h : j < (R' u).length), ∃ g, ko5 = some ⟨g, 0, none⟩ ∧ V4.heap.size ≤ g ∧ g < V5.heap.size ∧ V5.cell? ⟨g, j, none⟩ = some (.int .i64 ((R' u)[j] : Int))) := hc5
          have HLu : Hid ((R' u).length = Lu) := hLu
          have HX5 : Hid (DX (fun k => k < w.heap.size) V5 p M') := HX4.out.kept kV5
          have HK5 : Hid (Kept (fun k => k < w.heap.size) w V5) := HK4.out.trans (kV5.mono fun k h => Nat.lt_of_lt_of_le h HK4.out.size)
          have hLu6 : Lu ≤ 1000000 := by rw [← hLu]; exact HLU.out
          clear rn5 hQ5 hK5 hV5 kV5 hb5 hs5 hs5' hc5 hN5 hLu y4' x4'' z5 hz4 HX4 HK4
          go_upto_region 22 with fail
          rw [HV5.out, HN5.out]
          clear HV5 HN5
          go_loopg [19] Lu (fun gh2 s wy => ∃ i2 : Nat, gh2 = Lu - i2 ∧ i2 ≤ Lu ∧ s = .int .i64 (i2 : Int) ∧ wy = V5)
          case atStart => exact ⟨0, rfl, Nat.zero_le _, rfl, rfl⟩
          case round =>
            obtain ⟨i2, hg2, hi2, rfl, rfl⟩ := hrel
            by_cases hl2 : i2 < Lu
            · obtain ⟨g5, rfl, hg5, hg5', hc⟩ := HC5.out i2 (by rw [HLu.out]; exact hl2)
              obtain ⟨q, hq5⟩ : ∃ q, (R' u)[i2]'(by rw [HLu.out]; exact hl2) = q := ⟨_, rfl⟩
              rw [hq5] at hc
              have hqb : ((q : Int) == (b : Int)) = false := by
                have : q ≠ b := fun e => HNIN.out (by rw [← e, ← hq5]; exact List.getElem_mem _)
                simp; omega
              clear hq5
              go_wp2
              go_roundg (Lu - (i2 + 1))
              case rel => exact ⟨i2 + 1, rfl, by omega, by go_num, rfl⟩
              case measure => omega
            · have hiL : i2 = Lu := by omega
              subst hiL
              clear HC5
              go_wp2
              go_roundg (len - (j + 1))
              case rel => exact ⟨j + 1, M', R', rk', rfl, by omega, by go_num, HX5.out, HG'.out, HD'.out, HK5.out⟩
              case measure => omega
        · by_cases hu0 : 0 ≤ ux
          · have hua : ux = (a : Int) := by
              by_cases e : ux = (a : Int)
              · exact e
              · exact absurd ⟨hu0, e⟩ hcu
            subst hua
            have hd1 : decide ((a : Int) ≥ 0) = true := decide_eq_true hu0
            clear hcu hu0
            go_wp2
            go_roundg (len - (j + 1))
            case rel => exact ⟨j + 1, M', R', rk', rfl, by omega, by go_num, HX4.out, HG'.out, HD'.out, HK4.out⟩
            case measure => omega
          · have hd1 : decide (ux ≥ 0) = false := decide_eq_false hu0
            clear hcu
            go_wp2
            go_roundg (len - (j + 1))
            case rel => exact ⟨j + 1, M', R', rk', rfl, by omega, by go_num, HX4.out, HG'.out, HD'.out, HK4.out⟩
            case measure => omega
    · have rk9 := known_any wr
      clear hX hG hD hK
      go_wp2_with fail
      refine rk9.mono ?_
      rintro e w9 ⟨rfl, k9⟩
      have HK9 : Hid (Kept (fun k => k < w.heap.size) w w9) := HK.out.trans (k9.mono fun k h => Nat.lt_of_lt_of_le h HK.out.size)
      clear rk9 k9
      go_wp2
      go_ret
      exact ⟨rfl, HK9.out⟩
end Go.Proofs.Ytbbknbipppaemaa
