/-
  The walk of CloneFlat.
-/
import Derived.Test.YtkngpgkldkohgaaGreatCk
import Derived.Test.YtkngpgkldkohgaaGreatDg
import Derived.Test.YtkngpgkldkohgaaGreatTn
namespace Go.Proofs.YtkngpgkldkohgaaGreat
open Go.RowKit Go.Sort
set_option linter.unusedVariables false
set_option maxRecDepth 100000
set_option maxHeartbeats 8000000
/-- What a copy that is not deep is like, and what is told of it. -/
theorem flat_done {M : Dm} {R G : Nat → List Nat} {rk : Nat → Nat} (hI : Inv M R G rk) (f i : Nat) (hf : dn M.n rk i < f) (hi : i < M.n) (h5 : (M.nd i).kind ≠ 5) (hr : M.n + needF M R f i false ≤ M.limit) :
    ∃ s : Sta, (copyF f ⟨M, R, G⟩ i false).1 = s ∧ s.ok ∧ M.n < s.M.n ∧ s.M.limit = M.limit ∧ s.M.n ≤ M.limit ∧ Like s M.n (M.nd i) ∧ s.R M.n = [] := by
  cases f with
  | zero => omega
  | succ f =>
    have hs : (⟨M, R, G⟩ : Sta).ok := ⟨rk, hI⟩
    have hd := copyF_ok hI (f + 1) i hf hi h5 ⟨M, R, G⟩ false (Keeps.refl _ _ _) hs hr
    have hrow := (copyS_root hI hi h5 (lev_of hI (f := f) hf) (Keeps.refl _ _ (⟨M, R, G⟩ : Sta)) hs hr).1
    have hn := hd.mid.n
    have h1 := hd.mid.one
    have e : (⟨M, R, G⟩ : Sta).M.n = M.n := rfl
    rw [e] at hn
    exact ⟨_, rfl, hd.mid.ok, by omega, hd.mid.keeps.lim, by omega, hd.mid.like, hrow⟩
theorem cflat_go (l : List Opx) (n : Nat) (hln : l.length = n) (hnn : n ≤ 60) (a : Option Addr) (c : Nat) (hok : ∀ o ∈ l, OpOk o) (hb : opsH l ≤ 6000) (w : World) (h : OpsAt (fun k => k < w.heap.size) w a l) (za : Nat) (hza : za < 65536) :
    Calls Tryz.prog 11 #[.slice a n c, .int .u16 (za : Int)] w fun e w' => e = .returned (.bool true) ∧ Kept (fun k => k < w.heap.size) w w' := by
  have rh := heavy15_any l n hln hnn a c (by omega) w h
  rw [decide_eq_false (by omega : ¬ 6000 < opsH l)] at rh
  have RG : Hid (∀ X, Kept (fun k => k < w.heap.size) w X → Calls Tryz.prog 54 #[.slice a n c] X fun e w' => ∃ p r E M R G rk, e = .returned (.tuple #[.pointer (some ⟨p, 0, none⟩), .pointer (some ⟨r, 0, none⟩)]) ∧ Grown (fun k => k < X.heap.size) E w' p r M R G rk 300 ∧ Kept (fun k => k < X.heap.size) X w') := fun X hX => grown15 l n hln (by omega) a c hok (by omega) X (h.kept hX fun k hk => Nat.lt_of_lt_of_le hk hX.size)
  clear hln hok hb h
  go_enter Tryz.func11, Tryz.ntmps11
  go_wp2_with fail
  refine rh.mono ?_
  rintro e w1 ⟨rfl, k1⟩
  have rk0 := cknown_any w1
  clear rh
  go_wp2_with fail
  refine rk0.mono ?_
  rintro e w2 ⟨rfl, k2⟩
  have k12 : Kept (fun k => k < w.heap.size) w w2 := k1.trans (k2.mono fun k h => Nat.lt_of_lt_of_le h k1.size)
  have rg := RG.out w2 k12
  have HK12 : Hid (Kept (fun k => k < w.heap.size) w w2) := k12
  clear rk0 k1 k2 k12 RG
  go_wp2_with fail
  refine rg.mono ?_
  rintro e W ⟨p, r, E, M, R, G, rk, rfl, hG, hK⟩
  have HKW : Hid (Kept (fun k => k < w.heap.size) w W) := HK12.out.trans (hK.mono fun k h => Nat.lt_of_lt_of_le h HK12.out.size)
  obtain ⟨m, hm⟩ : ∃ m, M.n = m := ⟨_, rfl⟩
  have HM : Hid (M.n = m) := hm
  have hlim := hG.lim
  have hm300 : m ≤ 300 := by have h1 := hG.le; rw [hG.lim, hm] at h1; exact h1
  have RL : Hid (∀ X, Kept (fun k => k < W.heap.size) W X → Calls Tryz.prog 16 #[.pointer (some ⟨p, 0, none⟩)] X fun e w' => e = .returned (.int .i64 (m : Int)) ∧ w' = X) := fun X hX => by rw [← hm]; exact hG.len hX
  have HI : Hid (Inv M R G rk) := hG.inv
  have HX : Hid (DX (TK (fun k => k < w2.heap.size) E) W p M) := hG.two.d
  have HK2W : Hid (∀ k, k < w2.heap.size → TK (fun k => k < w2.heap.size) E k) := fun k hk => .inl hk
  have hm1 : 1 ≤ m := by rw [← hm]; exact hG.inv.core.pos
  have rl := RL.out W (Kept.refl _ _)
  obtain ⟨i, hi⟩ : ∃ i, za % m = i := ⟨_, rfl⟩
  have him : i < m := by rw [← hi]; exact Nat.mod_lt _ (by omega)
  have hi' : (za : Int).tmod (m : Int) = (i : Int) := by rw [← hi]; rfl
  have hin : i < M.n := by rw [hm]; exact him
  have HIN : Hid (i < M.n) := hin
  have HLM : Hid (M.limit = 300) := hlim
  have rn := hG.node (by decide) hin (Kept.refl _ W)
  clear rg hG hK hm hi hin hlim
  go_upto_region 7 with (go_at_call 16; refine rl.mono ?_; rintro e1 w3 ⟨rfl, hw3⟩; replace hw3 := hw3.symm; subst hw3)
  clear rl
  go_wp2_with fail
  refine rn.mono ?_
  rintro e v1 ⟨ao1, ac1, ko1, kc1, rfl, hA1, hQ1, hK1⟩
  obtain ⟨x, hx⟩ : ∃ x, M.nd i = x := ⟨_, rfl⟩
  have HXX : Hid (M.nd i = x) := hx
  obtain ⟨up1, hup1⟩ : ∃ z, (M.pl i).up = z := ⟨_, rfl⟩
  obtain ⟨ln1, hln1⟩ : ∃ z, (R i).length = z := ⟨_, rfl⟩
  rw [hx] at hA1
  rw [hx, hup1, hln1]
  obtain ⟨V1, N1, hV1, hN1, hb1, hk1, -⟩ := alloc_box v1 (nV x ao1 ac1 up1 ko1 ln1 kc1) 41
  have hkV1 : Kept (fun k => k < W.heap.size) W V1 := hK1.trans (hk1.mono fun k h => Nat.lt_of_lt_of_le h hK1.size)
  have hat1 : AtsAt (fun k => W.heap.size ≤ k ∧ k < V1.heap.size) V1 ao1 x.attrs := (hA1.atsAt (K' := fun k => W.heap.size ≤ k ∧ k < v1.heap.size) fun g hg => ⟨Nat.le_of_not_lt (OwnZ.out hA1 hg).1, (OwnZ.out hA1 hg).2⟩).tt (fun g hg => ⟨hg.1, Nat.lt_of_lt_of_le hg.2 hk1.size⟩) (fun g hg => hk1.block g hg.2)
  have HA1 : Hid (AtsAt (fun k => W.heap.size ≤ k ∧ k < V1.heap.size) V1 ao1 x.attrs) := hat1
  have HB1 : Hid (V1.heap[N1]? = some (.cells (nV x ao1 ac1 up1 ko1 ln1 kc1) 41 (0, 0))) := hb1
  have HN1L : Hid (W.heap.size ≤ N1 ∧ N1 < V1.heap.size) := ⟨by rw [← hN1]; exact hK1.size, lt_block hb1⟩
  have HV1 : Hid (v1.alloc (.cells (nV x ao1 ac1 up1 ko1 ln1 kc1) 41) = V1) := hV1
  have HN1 : Hid (v1.heap.size = N1) := hN1
  have HKV1 : Hid (Kept (fun k => k < w.heap.size) w V1) := HKW.out.trans (hkV1.mono fun k h => Nat.lt_of_lt_of_le h HKW.out.size)
  have HK2 : Hid (∀ k, k < w.heap.size → KN (TK (fun k => k < w2.heap.size) E) W V1 k) := fun k hk => .inl (.inl (Nat.lt_of_lt_of_le hk HK12.out.size))
  obtain ⟨F, hF⟩ : ∃ F, dn M.n rk i + 1 = F := ⟨_, rfl⟩
  have HF : Hid (dn M.n rk i < F) := by rw [← hF]; exact Nat.lt_succ_self _
  have rc := clone_in (K := KN (TK (fun k => k < w2.heap.size) E) W V1) HI.out (by rw [HLM.out]; decide) (by rw [HM.out, HLM.out]; exact hm300) F i HF.out HIN.out false V1 (HX.out.wide hkV1)
  clear rn hA1 hQ1 hK1 hx hup1 hln1 hV1 hN1 hb1 hk1 hkV1 hat1 hF
  go_upto_region 8 with fail
  rw [HV1.out, HN1.out]
  clear HV1 HN1
  go_wp2_with fail
  refine rc.mono ?_
  rintro e X ⟨hKX, hC⟩
  have HKX : Hid (Kept (fun k => k < w.heap.size) w X) := HKV1.out.trans (hKX.mono fun k hk => HK2.out k hk)
  have hc1 : ∀ t, X.cell? ⟨N1, t, none⟩ = (nV x ao1 ac1 up1 ko1 ln1 kc1)[t]? := fun t => (hKX.cell (p := ⟨N1, t, none⟩) (.inr HN1L.out)).trans (cell_block HB1.out t)
  obtain ⟨kd, hkd⟩ : ∃ k, x.kind = k := ⟨_, rfl⟩
  have HKD : Hid (x.kind = kd) := hkd
  have a0 : X.cell? ⟨N1, 0, none⟩ = some (.int .u8 (kd : Int)) := (hc1 0).trans (by show some (Value.int .u8 (x.kind : Int)) = _; rw [hkd])
  clear hkd rc
  cases hC with
  | shadow h5 he hd =>
    subst he
    have hk5 : kd = 5 := by rw [← HKD.out, ← HXX.out]; exact h5
    subst hk5
    clear hc1 hKX hd h5
    go_wp2
    go_ret
    exact ⟨rfl, HKX.out⟩
  | full h5 _ he hd =>
    subst he
    clear hc1 hKX hd h5
    go_wp2
    go_ret
    exact ⟨rfl, HKX.out⟩
  | made h5 hr he hd =>
    subst he
    obtain ⟨s, hs, hok, hlt, hlim, hle, hlike, hrow⟩ := flat_done HI.out F i HF.out HIN.out h5 hr
    rw [hs] at hd
    obtain ⟨rk', hI'⟩ := hok
    have hle300 : s.M.n ≤ 300 := by rw [HLM.out] at hle; exact hle
    have rn2 := node_any _ p M.n s.M s.R X hd hI'.good.wf hlt (by omega) hI'.good.few
    rw [hrow, hlike.up] at rn2
    rw [HM.out] at rn2 hlike hlt
    rw [HM.out]
    have HTP : Hid (x.content ≠ -1 ↔ x.kind = 1 ∧ x.name = tempN) := by rw [← HXX.out]; exact HI.out.ex.tpl i HIN.out
    have HLK : Hid (Like s m x) := by rw [← HXX.out]; exact hlike
    have HFW : Hid (x.attrs.length ≤ 1000) := by rw [← HXX.out]; exact HI.out.good.few i HIN.out
    have HA1X : Hid (AtsAt (fun k => k < X.heap.size) X ao1 x.attrs) := HA1.out.tt (fun g hg => Nat.lt_of_lt_of_le hg.2 hKX.size) (fun g hg => hKX.block g (.inr hg))
    have HN1X : Hid (N1 < X.heap.size) := Nat.lt_of_lt_of_le HN1L.out.2 hKX.size
    clear hd hI' hr hs hlim hle hlike hrow hKX h5
    go_wp2_with fail
    refine rn2.mono ?_
    rintro e v2 ⟨ao2, ac2, ko2, kc2, rfl, hA2, hQ2, hK2⟩
    obtain ⟨y, hy⟩ : ∃ y, s.M.nd m = y := ⟨_, rfl⟩
    rw [hy] at hA2
    rw [hy]
    obtain ⟨V2, N2, hV2, hN2, hb2, hk2, -⟩ := alloc_box v2 (nV y ao2 ac2 (-1) ko2 0 kc2) 41
    have hkV2 : Kept (fun k => k < X.heap.size) X V2 := hK2.trans (hk2.mono fun k h => Nat.lt_of_lt_of_le h hK2.size)
    have ey : y.kind = x.kind ∧ y.name = x.name ∧ y.data = x.data ∧ y.attrs = x.attrs ∧ y.content = if x.content = -1 then -1 else ((m + 1 : Nat) : Int) := by rw [← hy]; exact ⟨HLK.out.kind, HLK.out.name, HLK.out.data, HLK.out.attrs, HLK.out.cont⟩
    have HEY : Hid (y.content = if x.content = -1 then -1 else ((m + 1 : Nat) : Int)) := ey.2.2.2.2
    have hat2 : AtsAt (fun k => k < V2.heap.size) V2 ao2 x.attrs := by
      rw [← ey.2.2.2.1]
      exact (hA2.atsAt (K' := fun k => k < v2.heap.size) fun g hg => (OwnZ.out hA2 hg).2).tt (fun g hg => Nat.lt_of_lt_of_le hg hk2.size) (fun g hg => hk2.block g hg)
    have hat1 : AtsAt (fun k => k < V2.heap.size) V2 ao1 x.attrs := HA1X.out.tt (fun g hg => Nat.lt_of_lt_of_le hg hkV2.size) (fun g hg => hkV2.block g hg)
    have rsa := rsameAttrs_any x.attrs x.attrs ao2 ao1 x.attrs.length x.attrs.length ac2 ac1 rfl rfl true ⟨fun _ => rfl, fun _ => rfl⟩ (by have := HFW.out; omega) (by have := HFW.out; omega) V2 hat2 hat1
    have cN : ∀ t, V2.cell? ⟨N2, t, none⟩ = (nV y ao2 ac2 (-1) ko2 0 kc2)[t]? := fun t => cell_block hb2 t
    have cO : ∀ t, V2.cell? ⟨N1, t, none⟩ = (nV x ao1 ac1 up1 ko1 ln1 kc1)[t]? := fun t => (hkV2.cell (p := ⟨N1, t, none⟩) HN1X.out).trans (hc1 t)
    obtain ⟨S, hS⟩ : ∃ S, (⟨x.name.toArray⟩ : ByteArray) = S := ⟨_, rfl⟩
    obtain ⟨Dt, hDt⟩ : ∃ S, (⟨x.data.toArray⟩ : ByteArray) = S := ⟨_, rfl⟩
    have HSN : Hid (x.name = S.toList) := by rw [← hS, ByteArray.toList_eq]; exact rfl
    obtain ⟨al, hal⟩ : ∃ n, x.attrs.length = n := ⟨_, rfl⟩
    have o0 : V2.cell? ⟨N1, 0, none⟩ = some (.int .u8 (kd : Int)) := (cO 0).trans (by show some (Value.int .u8 (x.kind : Int)) = _; rw [HKD.out])
    have o1 : V2.cell? ⟨N1, 1, none⟩ = some (.string S) := (cO 1).trans (by show some (Value.string ⟨x.name.toArray⟩) = _; rw [hS])
    have o2 : V2.cell? ⟨N1, 2, none⟩ = some (.string Dt) := (cO 2).trans (by show some (Value.string ⟨x.data.toArray⟩) = _; rw [hDt])
    have o3 : V2.cell? ⟨N1, 3, none⟩ = some (.slice ao1 al ac1) := (cO 3).trans (by show some (Value.slice ao1 x.attrs.length ac1) = _; rw [hal])
    have d0 : V2.cell? ⟨N2, 0, none⟩ = some (.int .u8 (kd : Int)) := (cN 0).trans (by show some (Value.int .u8 (y.kind : Int)) = _; rw [ey.1, HKD.out])
    have d1 : V2.cell? ⟨N2, 1, none⟩ = some (.string S) := (cN 1).trans (by show some (Value.string ⟨y.name.toArray⟩) = _; rw [ey.2.1, hS])
    have d2 : V2.cell? ⟨N2, 2, none⟩ = some (.string Dt) := (cN 2).trans (by show some (Value.string ⟨y.data.toArray⟩) = _; rw [ey.2.2.1, hDt])
    have d3 : V2.cell? ⟨N2, 3, none⟩ = some (.slice ao2 al ac2) := (cN 3).trans (by show some (Value.slice ao2 y.attrs.length ac2) = _; rw [ey.2.2.2.1, hal])
    have d4 : V2.cell? ⟨N2, 4, none⟩ = some (.int .i64 (-1)) := cN 4
    have d5 : V2.cell? ⟨N2, 5, none⟩ = some (.slice ko2 0 kc2) := cN 5
    have d8 : V2.cell? ⟨N2, 8, none⟩ = some (.int .i64 y.content) := cN 8
    rw [hal] at rsa
    have HV2 : Hid (v2.alloc (.cells (nV y ao2 ac2 (-1) ko2 0 kc2) 41) = V2) := hV2
    have HN2 : Hid (v2.heap.size = N2) := hN2
    have HN2L : Hid (N2 < V2.heap.size) := lt_block hb2
    have HXV : Hid (X.heap.size ≤ V2.heap.size) := hkV2.size
    have HKV2 : Hid (Kept (fun k => k < w.heap.size) w V2) := HKX.out.trans (hkV2.mono fun k h => Nat.lt_of_lt_of_le h HKX.out.size)
    clear rn2 hA2 hQ2 hK2 hy hV2 hN2 hb2 hk2 hkV2 ey hat1 hat2 cN cO hc1 hS hDt hal a0
    go_upto_region 12 with fail
    rw [HV2.out, HN2.out]
    clear HV2 HN2
    by_cases hco : x.content = -1
    · have hyc : y.content = -1 := by rw [HEY.out, if_pos hco]
      rw [hyc] at d8
      by_cases hk1 : kd = 1
      · subst hk1
        have hne : (S.toList == [116, 101, 109, 112, 108, 97, 116, 101]) = false := by
          have : S.toList ≠ tempN := fun e => absurd hco (HTP.out.2 ⟨HKD.out, HSN.out.trans e⟩)
          simpa using this
        clear hyc hco
        go_wp2_with fail
        refine rsa.mono ?_
        rintro e Z ⟨rfl, hKZ⟩
        have HKZ : Hid (Kept (fun k => k < w.heap.size) w Z) := HKV2.out.trans (hKZ.mono fun k h => Nat.lt_of_lt_of_le h HKV2.out.size)
        have z0 : Z.cell? ⟨N1, 0, none⟩ = some (.int .u8 1) := (hKZ.cell (p := ⟨N1, 0, none⟩) (Nat.lt_of_lt_of_le HN1X.out HXV.out)).trans o0
        have z1 : Z.cell? ⟨N1, 1, none⟩ = some (.string S) := (hKZ.cell (p := ⟨N1, 1, none⟩) (Nat.lt_of_lt_of_le HN1X.out HXV.out)).trans o1
        have z4 : Z.cell? ⟨N2, 4, none⟩ = some (.int .i64 (-1)) := (hKZ.cell (p := ⟨N2, 4, none⟩) HN2L.out).trans d4
        have z5 : Z.cell? ⟨N2, 5, none⟩ = some (.slice ko2 0 kc2) := (hKZ.cell (p := ⟨N2, 5, none⟩) HN2L.out).trans d5
        have z8 : Z.cell? ⟨N2, 8, none⟩ = some (.int .i64 (-1)) := (hKZ.cell (p := ⟨N2, 8, none⟩) HN2L.out).trans d8
        clear rsa hKZ o0 o1 o2 o3 d0 d1 d2 d3 d4 d5 d8
        go_wp2
        go_ret
        exact ⟨rfl, HKZ.out⟩
      · have hk1' : ((kd : Int) == 1) = false := by simp; omega
        clear hyc hco hk1
        go_wp2_with fail
        refine rsa.mono ?_
        rintro e Z ⟨rfl, hKZ⟩
        have HKZ : Hid (Kept (fun k => k < w.heap.size) w Z) := HKV2.out.trans (hKZ.mono fun k h => Nat.lt_of_lt_of_le h HKV2.out.size)
        have z0 : Z.cell? ⟨N1, 0, none⟩ = some (.int .u8 (kd : Int)) := (hKZ.cell (p := ⟨N1, 0, none⟩) (Nat.lt_of_lt_of_le HN1X.out HXV.out)).trans o0
        have z1 : Z.cell? ⟨N1, 1, none⟩ = some (.string S) := (hKZ.cell (p := ⟨N1, 1, none⟩) (Nat.lt_of_lt_of_le HN1X.out HXV.out)).trans o1
        have z4 : Z.cell? ⟨N2, 4, none⟩ = some (.int .i64 (-1)) := (hKZ.cell (p := ⟨N2, 4, none⟩) HN2L.out).trans d4
        have z5 : Z.cell? ⟨N2, 5, none⟩ = some (.slice ko2 0 kc2) := (hKZ.cell (p := ⟨N2, 5, none⟩) HN2L.out).trans d5
        have z8 : Z.cell? ⟨N2, 8, none⟩ = some (.int .i64 (-1)) := (hKZ.cell (p := ⟨N2, 8, none⟩) HN2L.out).trans d8
        clear rsa hKZ o0 o1 o2 o3 d0 d1 d2 d3 d4 d5 d8
        go_wp2
        go_ret
        exact ⟨rfl, HKZ.out⟩
    · have hyc : y.content = ((m + 1 : Nat) : Int) := by rw [HEY.out, if_neg hco]
      obtain ⟨hk1, hnm⟩ := HTP.out.1 hco
      have hkd1 : kd = 1 := by rw [← HKD.out]; exact hk1
      subst hkd1
      have heq : (S.toList == [116, 101, 109, 112, 108, 97, 116, 101]) = true := by
        have : S.toList = tempN := HSN.out.symm.trans hnm
        rw [this]; rfl
      rw [hyc] at d8
      clear hyc hco hk1 hnm
      go_wp2_with fail
      refine rsa.mono ?_
      rintro e Z ⟨rfl, hKZ⟩
      have HKZ : Hid (Kept (fun k => k < w.heap.size) w Z) := HKV2.out.trans (hKZ.mono fun k h => Nat.lt_of_lt_of_le h HKV2.out.size)
      have z0 : Z.cell? ⟨N1, 0, none⟩ = some (.int .u8 1) := (hKZ.cell (p := ⟨N1, 0, none⟩) (Nat.lt_of_lt_of_le HN1X.out HXV.out)).trans o0
      have z1 : Z.cell? ⟨N1, 1, none⟩ = some (.string S) := (hKZ.cell (p := ⟨N1, 1, none⟩) (Nat.lt_of_lt_of_le HN1X.out HXV.out)).trans o1
      have z4 : Z.cell? ⟨N2, 4, none⟩ = some (.int .i64 (-1)) := (hKZ.cell (p := ⟨N2, 4, none⟩) HN2L.out).trans d4
      have z5 : Z.cell? ⟨N2, 5, none⟩ = some (.slice ko2 0 kc2) := (hKZ.cell (p := ⟨N2, 5, none⟩) HN2L.out).trans d5
      have z8 : Z.cell? ⟨N2, 8, none⟩ = some (.int .i64 ((m + 1 : Nat) : Int)) := (hKZ.cell (p := ⟨N2, 8, none⟩) HN2L.out).trans d8
      clear rsa hKZ o0 o1 o2 o3 d0 d1 d2 d3 d4 d5 d8
      go_wp2
      go_ret
      exact ⟨rfl, HKZ.out⟩
theorem hv15_long (n : Nat) (hnn : 60 < n) (a : Option Addr) (c : Nat) (w : World) :
    Calls Tryz.prog 52 #[.slice a n c] w fun e w' => e = .returned (.bool true) ∧ Kept (fun k => k < w.heap.size) w w' := by
  have hg60 : decide ((n : Int) > 60) = true := decide_eq_true (by omega)
  go_enter Tryz.func52, Tryz.ntmps52
  go_wp2
  go_ret
  exact ⟨rfl, Kept.refl _ _⟩
theorem cflat_no (a : Option Addr) (n c : Nat) (w : World) (za : Int) (rh : Calls Tryz.prog 52 #[.slice a n c] w fun e w' => e = .returned (.bool true) ∧ Kept (fun k => k < w.heap.size) w w') :
    Calls Tryz.prog 11 #[.slice a n c, .int .u16 za] w fun e w' => e = .returned (.bool true) ∧ Kept (fun k => k < w.heap.size) w w' := by
  go_enter Tryz.func11, Tryz.ntmps11
  go_wp2_with fail
  refine rh.mono ?_
  rintro e w1 ⟨rfl, k1⟩
  have rk0 := cknown_any w1
  clear rh
  go_wp2_with (go_at_call 53; refine rk0.mono ?_; rintro e w2 ⟨rfl, k2⟩)
  go_ret
  exact ⟨rfl, k1.trans (k2.mono fun k h => Nat.lt_of_lt_of_le h k1.size)⟩
end Go.Proofs.YtkngpgkldkohgaaGreat
