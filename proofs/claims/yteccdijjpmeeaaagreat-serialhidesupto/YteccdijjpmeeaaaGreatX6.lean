/-
  The walk of SerialHides. The walk of SerialHides, to its end. SerialHides where there is too much to look at.
-/
import Derived.Test.YteccdijjpmeeaaaGreatX4
import Derived.Test.YteccdijjpmeeaaaGreatX5
import Derived.Deep.LoopGhost
import Derived.Deep.CutBlock
namespace Go.Proofs.YteccdijjpmeeaaaGreat
section
open Go.RowKit Go.Sort
set_option linter.unusedVariables false
set_option maxRecDepth 100000
set_option maxHeartbeats 8000000
/-- A text that is made, and put into a root. -/
structure HidS (K : Nat → Prop) (w0 : World) (p : Nat) (M : Dm) (R G : Nat → List Nat) (i : Nat) (w : World) : Prop where
  ex : ∃ M2 R2 G2 rk2, Inv M2 R2 G2 rk2 ∧ M2.n ≤ 100000 ∧ DX K w p M2 ∧ (∀ j, j < M.n → j < M2.n ∧ M2.nd j = M.nd j ∧ (M2.pl j).up = (M.pl j).up) ∧ (∀ u, u < M.n → u ≠ i → R2 u = R u)
theorem ins_root {K : Nat → Prop} {p : Nat} {M : Dm} {R G : Nat → List Nat} {rk : Nat → Nat} (hI : Inv M R G rk) (hlim : M.limit ≤ 100000) (hle : M.n + 1 ≤ M.limit) {i : Nat} (hi : i < M.n) (h5 : (M.nd i).kind = 5) (d : List UInt8) (hd : d.length < 1000000) (w : World) (hX : DX K w p (M.add (Mk.nd ⟨2, [], d, []⟩))) :
    Calls Tryz.prog 24 #[.pointer (some ⟨p, 0, none⟩), .int .i64 (i : Int), .int .i64 (M.n : Int), .int .i64 (-1)] w fun e w' => e = .returned (.int .u16 0) ∧ HidS K w p M R G i w' ∧ Kept K w w' := by
  have hs : soundN ⟨2, [], d, []⟩ = true := by rw [soundN_2]; rfl
  have hm := soundN_ok hs
  have hI1 := hI.add (Mk.nd ⟨2, [], d, []⟩) hm hm.few hs (fun e => by cases e.1) (fun e => by cases e) ⟨hd, fun e => by cases e⟩
  obtain ⟨M1, hM1⟩ : ∃ M1, M.add (Mk.nd ⟨2, [], d, []⟩) = M1 := ⟨_, rfl⟩
  have n1 : M1.n = M.n + 1 := by rw [← hM1]; rfl
  have l1 : M1.limit = M.limit := by rw [← hM1]; rfl
  have nk : M1.nd M.n = (Mk.nd ⟨2, [], d, []⟩).new := by rw [← hM1]; exact add_nd_new _ _
  have no : ∀ j, j < M.n → M1.nd j = M.nd j := fun j hj => by rw [← hM1]; exact add_nd_old _ _ (by omega)
  rw [hM1] at hI1 hX
  have hfree : (M1.pl M.n).up = -1 := by rw [← hM1, add_pl_new]; rfl
  have hpar : ∀ j, j < M1.n → parI M1 j ≠ ((M.n : Nat) : Int) := fun j hj e => by
    unfold parI at e
    by_cases c : (M1.pl j).up = -1
    · rw [if_pos c] at e
      rcases hI1.core.host j hj with ⟨e', -⟩ | ⟨h, hh, e', -, -, ho⟩
      · omega
      · have : h = M.n := by omega
        subst this
        rcases ho with ⟨-, ho⟩ | ⟨-, ho⟩
        · rw [nk] at ho
          have : (-1 : Int) = (j : Int) := ho
          omega
        · rw [nk] at ho
          have : (-1 : Int) = (j : Int) := ho
          omega
    · rw [if_neg c] at e
      rcases hI1.good.wf.inn j hj with e' | ⟨u, hu, e', hm'⟩
      · exact c e'
      · have : u = M.n := by omega
        subst this
        rw [updR_same] at hm'
        cases hm'
  have hF : Fits M1 i M.n (-1) := by
    refine ⟨?_, ?_, fun hw => ?_, .inl rfl⟩
    · rw [no i hi]; unfold holdB; rw [h5]; rfl
    · unfold moveB
      rw [nk]
      have : M.n ≠ 0 := by have := hI.core.pos; omega
      simp [this, Mk.nd, Nd.new]
    · have := wi_leaf hI1.good.acy hpar hw (by omega)
      omega
  have hK : Kn K w p M1 (updR R M.n []) (updR G M.n []) := ⟨hX, ⟨_, hI1⟩, by rw [l1]; exact hlim, by omega⟩
  refine (hK.ins (-1) (by omega) (by omega) (.inl rfl) hF).mono ?_
  rintro e w' ⟨rfl, hK', hkk⟩
  obtain ⟨rk2, hI2⟩ := hK'.inv
  have hR2 : putDR M1 (updR R M.n []) i M.n (-1) = updR (updR R M.n []) i ((updR R M.n []) i ++ [M.n]) := by
    unfold putDR
    rw [if_neg (by rw [nk]; show (2 : Nat) ≠ 4; decide), if_neg (by omega), putR_free hfree]
  rw [hR2] at hI2
  have hin : i ≠ M.n := by omega
  refine ⟨rfl, ⟨_, _, _, rk2, hI2, Nat.le_trans hK'.le hK'.lim, hK'.d, fun j hj => ⟨?_, ?_, ?_⟩, fun u hu hui => ?_⟩, hkk⟩
  · show j < M1.n; omega
  · exact no j hj
  · refine up_same hI.good.wf hI2.good.wf (by show M.n ≤ M1.n; omega) (k := M.n) (fun u hu x hx hxk => ?_) (fun u hu x hx => ?_) hj (by omega)
    · have hu1 : u < M1.n := hu
      by_cases c : u = i
      · subst c
        rw [updR_same, updR_ne _ _ hin] at hx
        rcases List.mem_append.1 hx with hx | hx
        · exact ⟨hi, hx⟩
        · exact absurd (List.mem_singleton.1 hx) hxk
      · rw [updR_ne _ _ c] at hx
        by_cases c2 : u = M.n
        · subst c2; rw [updR_same] at hx; cases hx
        · rw [updR_ne _ _ c2] at hx; exact ⟨by omega, hx⟩
    · by_cases c : u = i
      · subst c; rw [updR_same, updR_ne _ _ hin]; exact List.mem_append_left _ hx
      · rw [updR_ne _ _ c, updR_ne _ _ (by omega)]; exact hx
  · rw [updR_ne _ _ hui, updR_ne _ _ (by omega)]
end
section
open Go.RowKit Go.Sort
set_option linter.unusedVariables false
set_option maxRecDepth 100000
set_option maxHeartbeats 8000000
theorem hides_go (l : List Opx) (n : Nat) (hln : l.length = n) (hnn : n ≤ 60) (a : Option Addr) (c : Nat) (hok : ∀ o ∈ l, OpOk o) (hb : opsH l ≤ 6000) (w : World) (h : OpsAt (fun k => k < w.heap.size) w a l) (za : Nat) (hza : za < 65536) (data : ByteArray) (hdat : data.size ≤ 300) (sr : Bool) (la : Option Addr) (rn rc : Nat) (rl : List Int) (hrl : rl.length = rn) (hrn : rn ≤ 60) (hri : IntsZ (fun k => k < w.heap.size) w la rl) :
    Calls Tryz.prog 7 #[.slice a n c, .int .u16 (za : Int), .string data, .agg #[.bool sr, .slice la rn rc]] w fun e w' => e = .returned (.bool true) ∧ Kept (fun k => k < w.heap.size) w w' := by
  obtain ⟨W0, NB, hW0, hNB, hbB, hkB, hzB⟩ := alloc_bx w #[.bool sr, .slice la rn rc] 41
  have h0 := h.kept hkB fun k hk => Nat.lt_of_lt_of_le hk hkB.size
  have rh := heavy16_any l n hln hnn a c (by omega) W0 h0
  rw [decide_eq_false (by omega : ¬ 6000 < opsH l)] at rh
  have RG : Hid (∀ X, Kept (fun k => k < W0.heap.size) W0 X → Calls Tryz.prog 17 #[.slice a n c] X fun e w' => ∃ p r E M R G rk, e = .returned (.tuple #[.pointer (some ⟨p, 0, none⟩), .pointer (some ⟨r, 0, none⟩)]) ∧ Grown (fun k => k < X.heap.size) E w' p r M R G rk 300 ∧ Kept (fun k => k < X.heap.size) X w') := fun X hX => grown16 l n hln (by omega) a c hok (by omega) X (h0.kept hX fun k hk => Nat.lt_of_lt_of_le hk hX.size)
  have HRI : Hid (IntsZ (fun k => k < W0.heap.size) W0 la rl) := IntsZ.kept hri hkB fun g hg => Nat.lt_of_lt_of_le hg hkB.size
  have HRL : Hid (rl.length = rn) := hrl
  have HBB : Hid (W0.heap[NB]? = some (.cells #[.bool sr, .slice la rn rc] 41 (0, 0))) := hbB
  have HNBL : Hid (NB < W0.heap.size) := lt_block hbB
  have HKB : Hid (Kept (fun k => k < w.heap.size) w W0) := hkB
  have HW0 : Hid (w.alloc (.cells #[.bool sr, .slice la rn rc] 41) = W0) := hW0
  have HNB : Hid (w.heap.size = NB) := hNB
  have OC : Hid (∀ X, Kept (fun k => k < W0.heap.size) W0 X → X.cell? ⟨NB, 0, none⟩ = some (.bool sr) ∧ X.cell? ⟨NB, 1, none⟩ = some (.slice la rn rc) ∧ X.heap[NB]? = some (.cells #[.bool sr, .slice la rn rc] 41 (0, 0))) := fun X hX => by
    have hh : X.heap[NB]? = some (.cells #[.bool sr, .slice la rn rc] 41 (0, 0)) := (hX.block NB HNBL.out).trans HBB.out
    exact ⟨by rw [cell_block hh]; rfl, by rw [cell_block hh]; rfl, hh⟩
  have OPT : Hid (∀ X, Kept (fun k => k < W0.heap.size) W0 X → ∃ o : Opt X, o.val = .agg #[.bool sr, .slice la rn rc] ∧ o.ask = ⟨sr, askA rl⟩) := fun X hX => ⟨⟨sr, la, rn, rc, rl, HRL.out, by omega, IntsZ.kept HRI.out hX fun g hg => Nat.lt_of_lt_of_le hg hX.size⟩, rfl, rfl⟩
  have e300 : decide ((data.size : Int) > 300) = false := decide_eq_false (by omega)
  have e60 : decide ((rn : Int) > 60) = false := decide_eq_false (by omega)
  have HDS : Hid (data.toList.length < 1000000) := by show data.toList.length < 1000000; rw [show data.toList.length = data.size from by rw [ByteArray.toList_eq]; rfl]; omega
  clear hln hok hb h h0 hri hrl hbB hkB hW0 hNB hzB
  go_enter Tryz.func7, Tryz.ntmps7
  go_upto_region 1 with fail
  rw [HW0.out, HNB.out]
  clear HW0 HNB
  go_wp2_with fail
  refine rh.mono ?_
  rintro e w1 ⟨rfl, k1⟩
  obtain ⟨o0, o1, -⟩ := OC.out w1 k1
  have rk0 := known16_any w1
  have HK1 : Hid (Kept (fun k => k < W0.heap.size) W0 w1) := k1
  clear rh k1
  go_wp2_with fail
  refine rk0.mono ?_
  rintro e w2 ⟨rfl, k2⟩
  have k12 : Kept (fun k => k < W0.heap.size) W0 w2 := HK1.out.trans (k2.mono fun k h => Nat.lt_of_lt_of_le h HK1.out.size)
  have rg := RG.out w2 k12
  have HK12 : Hid (Kept (fun k => k < W0.heap.size) W0 w2) := k12
  clear rk0 k2 k12 RG HK1 o0 o1 e300 e60
  go_wp2_with fail
  refine rg.mono ?_
  rintro e W ⟨p, r, E, M, R, G, rk, rfl, hG, hK⟩
  have HKW : Hid (Kept (fun k => k < W0.heap.size) W0 W) := HK12.out.trans (hK.mono fun k h => Nat.lt_of_lt_of_le h HK12.out.size)
  obtain ⟨m, hm⟩ : ∃ m, M.n = m := ⟨_, rfl⟩
  have HM : Hid (M.n = m) := hm
  have hm300 : m ≤ 300 := by have h1 := hG.le; rw [hG.lim, hm] at h1; exact h1
  have hm1 : 1 ≤ m := by rw [← hm]; exact hG.inv.core.pos
  have rl0 : Calls Tryz.prog 11 #[.pointer (some ⟨p, 0, none⟩)] W fun e w' => e = .returned (.int .i64 (m : Int)) ∧ w' = W := by rw [← hm]; exact hG.len (Kept.refl _ _)
  have HI : Hid (Inv M R G rk) := hG.inv
  have HX : Hid (DX (TK (fun k => k < w2.heap.size) E) W p M) := hG.two.d
  have HTK : Hid (∀ k, k < W0.heap.size → TK (fun k => k < w2.heap.size) E k) := fun k hk => .inl (Nat.lt_of_lt_of_le hk HK12.out.size)
  obtain ⟨i, hi⟩ : ∃ i, za % m = i := ⟨_, rfl⟩
  have him : i < m := by rw [← hi]; exact Nat.mod_lt _ (by omega)
  have hi' : (za : Int).tmod (m : Int) = (i : Int) := by rw [← hi]; rfl
  have hin : i < M.n := by rw [hm]; exact him
  have HIN : Hid (i < M.n) := hin
  have HLM : Hid (M.limit = 300) := hG.lim
  have rnd := hG.node (by decide) hin (Kept.refl _ W)
  clear rg hG hK hm hi hin
  go_upto_region 7 with (go_at_call 11; refine rl0.mono ?_; rintro e1 w3 ⟨rfl, hw3⟩; replace hw3 := hw3.symm; subst hw3)
  clear rl0
  go_wp2_with fail
  refine rnd.mono ?_
  rintro e v1 ⟨ao1, ac1, ko1, kc1, rfl, hA1, hQ1, hK1⟩
  obtain ⟨x, hx⟩ : ∃ x, M.nd i = x := ⟨_, rfl⟩
  have HXX : Hid (M.nd i = x) := hx
  obtain ⟨up1, hup1⟩ : ∃ z, (M.pl i).up = z := ⟨_, rfl⟩
  obtain ⟨ln1, hln1⟩ : ∃ z, (R i).length = z := ⟨_, rfl⟩
  rw [hx, hup1, hln1]
  obtain ⟨V, N, hV, hN, hbN, hkN, hzN⟩ := alloc_bx v1 (nW x ao1 ac1 up1 ko1 ln1 kc1) 46
  have hkV : Kept (fun k => k < W.heap.size) W V := hK1.trans (hkN.mono fun k h => Nat.lt_of_lt_of_le h hK1.size)
  have HWV : Hid (Kept (fun k => k < W.heap.size) W V) := hkV
  have HKV : Hid (Kept (fun k => k < W0.heap.size) W0 V) := HKW.out.trans (hkV.mono fun k h => Nat.lt_of_lt_of_le h HKW.out.size)
  have HNL : Hid (W.heap.size ≤ N ∧ N < V.heap.size) := ⟨by rw [← hN]; exact hK1.size, lt_block hbN⟩
  have NC : Hid (∀ t, V.cell? ⟨N, t, none⟩ = (nW x ao1 ac1 up1 ko1 ln1 kc1)[t]?) := fun t => cell_block hbN t
  have HV : Hid (v1.alloc (.cells (nW x ao1 ac1 up1 ko1 ln1 kc1) 46) = V) := hV
  have HN : Hid (v1.heap.size = N) := hN
  obtain ⟨kd, hkd⟩ : ∃ k, x.kind = k := ⟨_, rfl⟩
  have HKD : Hid (x.kind = kd) := hkd
  have c0 : V.cell? ⟨N, 0, none⟩ = some (.int .u8 (kd : Int)) := (NC.out 0).trans (by show some (Value.int .u8 (x.kind : Int)) = _; rw [hkd])
  obtain ⟨o0, o1, -⟩ := OC.out V HKV.out
  clear rnd hA1 hQ1 hK1 hx hup1 hln1 hV hN hbN hkN hzN hkV hkd
  go_upto_region 8 with fail
  rw [HV.out, HN.out]
  clear HV HN
  by_cases k5 : kd = 5
  · subst k5
    obtain ⟨fd, hfd⟩ : ∃ b, x.fl.d = b := ⟨_, rfl⟩
    have HFD : Hid (x.fl.d = fd) := hfd
    have c12 : V.cell? ⟨N, 12, none⟩ = some (.bool fd) := (NC.out 12).trans (by show some (Value.bool x.fl.d) = _; rw [hfd])
    clear hfd
    by_cases hsd : (sr && fd) = true
    · have hs1 : sr = true := by simp at hsd; exact hsd.1
      have hs2 : fd = true := by simp at hsd; exact hsd.2
      subst hs1
      subst hs2
      have HF : Hid (Kept (fun k => k < w.heap.size) w V) := HKB.out.trans (HKV.out.mono fun k h => Nat.lt_of_lt_of_le h HKB.out.size)
      clear hsd
      go_wp2
      go_ret
      exact ⟨rfl, HF.out⟩
    · have HNC : Hid ((sr && fd) = false) := by show (sr && fd) = false; rw [Bool.eq_false_iff]; exact hsd
      have split : (sr = false) ∨ (sr = true ∧ fd = false) := by
        cases sr with
        | false => exact .inl rfl
        | true => cases fd with
          | false => exact .inr ⟨rfl, rfl⟩
          | true => exact absurd rfl hsd
      clear hsd
      go_cut [66] (fun v wx => v = .bool false ∧ wx = V)
      case first =>
        rcases split with rfl | ⟨rfl, rfl⟩
        · go_wp2_with fail
          go_meet
          case rel => exact ⟨rfl, rfl⟩
        · go_wp2_with fail
          go_meet
          case rel => exact ⟨rfl, rfl⟩
      case rest =>
      obtain ⟨rfl, hwc⟩ := hcut
      subst hwc
      clear split c0 c12 o0
      go_upto_region 10 with fail
      go_wp2_with fail
      go_loopg [14] rn (fun gm v wr => ∃ j : Nat, gm = rn - j ∧ j ≤ rn ∧ v = .int .i64 j ∧ (∀ t, t < j → ∀ h : t < rl.length, rl[t] ≠ (i : Int)) ∧ wr = wc)
      case atStart => exact ⟨0, rfl, Nat.zero_le _, rfl, fun t ht => absurd ht (Nat.not_lt_zero _), rfl⟩
      case round =>
        obtain ⟨j, hg, hj, rfl, hne, rfl⟩ := hrel
        by_cases hlt : j < rn
        · have hjl : j < rl.length := by rw [HRL.out]; exact hlt
          obtain ⟨rg, ro, hra, hrg, hrc⟩ := (IntsZ.kept HRI.out HKV.out fun g hg => Nat.lt_of_lt_of_le hg HKV.out.size : IntsZ (fun k => k < wr.heap.size) wr la rl) j hjl
          subst hra
          obtain ⟨z, hz⟩ : ∃ z, rl[j] = z := ⟨_, rfl⟩
          rw [hz] at hrc
          have HNE : Hid (∀ t, t < j → ∀ h : t < rl.length, rl[t] ≠ (i : Int)) := hne
          have HZ : Hid (rl[j] = z) := hz
          clear hne hz
          by_cases hzi : z = (i : Int)
          · have HF : Hid (Kept (fun k => k < w.heap.size) w wr) := HKB.out.trans (HKV.out.mono fun k h => Nat.lt_of_lt_of_le h HKB.out.size)
            subst hzi
            go_wp2
            go_ret
            exact ⟨rfl, HF.out⟩
          · have hzb : (z == (i : Int)) = false := by simpa using hzi
            have HZI : Hid (z ≠ (i : Int)) := hzi
            clear hzi
            go_wp2
            go_roundg (rn - (j + 1))
            case rel =>
              refine ⟨j + 1, rfl, by omega, by go_num, fun t ht h => ?_, rfl⟩
              by_cases c : t < j
              · exact HNE.out t c h
              · have : t = j := by omega
                subst this
                rw [HZ.out]; exact HZI.out
            case measure => omega
        · have hask : askA rl i = false := by
            unfold askA
            rw [Bool.eq_false_iff]
            intro hc
            obtain ⟨t, ht, e⟩ := List.getElem_of_mem (List.contains_iff_mem.1 hc)
            exact hne t (by rw [HRL.out] at ht; omega) ht e
          have hj' : ¬ j < rn := hlt
          have h5 : (M.nd i).kind = 5 := by rw [HXX.out]; exact HKD.out
          have hch : chosB ⟨sr, askA rl⟩ M i = false := by
            show (askA rl i || (sr && (M.nd i).fl.d)) = false
            rw [hask, HXX.out, HFD.out, HNC.out]; rfl
          obtain ⟨hh, hhlt, hhost⟩ : ∃ hh : Nat, hh < M.n ∧ x.host = (hh : Int) := by
            rcases HI.out.core.host i HIN.out with ⟨-, e⟩ | ⟨hh, h1, e, -⟩
            · exact absurd h5 e
            · exact ⟨hh, h1, by rw [← HXX.out]; exact e⟩
          have hhi : hh ≠ i := fun e => by
            rcases HI.out.core.host i HIN.out with ⟨-, e'⟩ | ⟨h2, h1, e', -, -, ho⟩
            · exact absurd h5 e'
            · have : h2 = hh := by rw [HXX.out, hhost] at e'; omega
              subst this
              rcases ho with ⟨-, ho⟩ | ⟨h4, -⟩
              · have := (HI.out.shadow h1 ho).2.2.2.2.2
                rw [e, h5] at this; cases this
              · rw [h5] at h4; cases h4
          have h0i : (0 : Nat) ≠ i := fun e => by
            have hz := HI.out.core.host i HIN.out
            rcases hz with ⟨-, e'⟩ | ⟨h2, h1, e', -, hi0, -⟩
            · exact absurd h5 e'
            · exact hi0 e.symm
          have hMle : M.n ≤ 100000 := by rw [HM.out]; omega
          have hpos := HI.out.core.pos
          have hXV := HX.out.more (K' := fun k => TK (fun k => k < w2.heap.size) E k ∨ (W.heap.size ≤ k ∧ k < wr.heap.size)) HWV.out (fun k h => by rcases h with h | h; exact .inl h; exact .inr h.1) (fun k h => by rcases h with h | h; exact Nat.lt_of_lt_of_le (HX.out.lt k h) HWV.out.size; exact h.2)
          obtain ⟨K3, hK3⟩ : ∃ K3 : Nat → Prop, (fun k => TK (fun k => k < w2.heap.size) E k ∨ (W.heap.size ≤ k ∧ k < wr.heap.size)) = K3 := ⟨_, rfl⟩
          rw [hK3] at hXV
          have hK0 : ∀ k, k < W0.heap.size → K3 k := fun k hk => by rw [← hK3]; exact .inl (HTK.out k hk)
          have hKN : K3 N := by rw [← hK3]; exact .inr HNL.out
          have c7 : wr.cell? ⟨N, 7, none⟩ = some (.int .i64 (hh : Int)) := (NC.out 7).trans (by show some (Value.int .i64 x.host) = _; rw [hhost])
          obtain ⟨q, hq⟩ : ∃ q : Ask, ⟨sr, askA rl⟩ = q := ⟨_, rfl⟩
          rw [hq] at hch
          have OUT : ∀ (M' : Dm) (R' G' : Nat → List Nat) (rk' : Nat → Nat) (X : World) (j F : Nat), Inv M' R' G' rk' → M'.n ≤ 100000 → j < M'.n → dn M'.n rk' j < F → DX K3 X p M' → Kept (fun k => k < W0.heap.size) W0 X → Calls Tryz.prog 22 #[.pointer (some ⟨p, 0, none⟩), .int .i64 (j : Int), .agg #[.bool sr, .slice la rn rc]] X fun e w' => e = .returned (.string ⟨(outX (innF q M' R' F j) (M'.nd j) (rawU M' j)).toArray⟩) ∧ Kept (fun k => k < X.heap.size) X w' := fun M' R' G' rk' X j F h1 h2 h3 h4 h5 h6 => by
            obtain ⟨o, ho, hoa⟩ := OPT.out X h6
            have r := sOuter_gen h1 h2 h3 F h4 X h5 o
            rw [ho, hoa, hq] at r
            exact r
          obtain ⟨T0, hT0⟩ : ∃ T : ByteArray, ⟨(outX (innF q M R (dn M.n rk 0 + 1) 0) (M.nd 0) (rawU M 0)).toArray⟩ = T := ⟨_, rfl⟩
          obtain ⟨T1, hT1⟩ : ∃ T : ByteArray, ⟨(outX (innF q M R (dn M.n rk hh + 1) hh) (M.nd hh) (rawU M hh)).toArray⟩ = T := ⟨_, rfl⟩
          have r0 := OUT M R G rk wr 0 (dn M.n rk 0 + 1) HI.out hMle hpos (by omega) hXV HKV.out
          rw [hT0] at r0
          have R1 : Hid (∀ X, Kept (fun k => k < wr.heap.size) wr X → Calls Tryz.prog 22 #[.pointer (some ⟨p, 0, none⟩), .int .i64 (hh : Int), .agg #[.bool sr, .slice la rn rc]] X fun e w' => e = .returned (.string T1) ∧ Kept (fun k => k < X.heap.size) X w') := fun X hX => by
            have r1 := OUT M R G rk X hh (dn M.n rk hh + 1) HI.out hMle hhlt (by omega) (hXV.kept hX) (HKV.out.trans (hX.mono fun k h => Nat.lt_of_lt_of_le h HKV.out.size))
            rw [hT1] at r1
            exact r1
          have MK : Hid (∀ X, Kept (fun k => k < wr.heap.size) wr X → Calls Tryz.prog 23 #[.pointer (some ⟨p, 0, none⟩), nodeV 2 ⟨#[]⟩ data none 0 0 rest0] X fun e w' => Kept K3 X w' ∧ ((e = .returned (.tuple #[.int .i64 0, .int .u16 3])) ∨ (e = .returned (.tuple #[.int .i64 (m : Int), .int .u16 0]) ∧ M.n + 1 ≤ M.limit ∧ DX K3 w' p (M.add (Mk.nd ⟨2, [], data.toList, []⟩))))) := fun X hX => by
            refine (make_any K3 p 2 ⟨#[]⟩ data [] none 0 0 rest0 X M (hXV.kept hX) hMle (by rw [HLM.out]; decide) rfl (by decide) (AtsAt.nil _ _ _) (fun x hx => by cases hx)).mono ?_
            rintro e w' ⟨hk, hM⟩
            rw [show (⟨#[]⟩ : ByteArray).toList = [] from by rw [ByteArray.toList_eq]] at hM
            cases hM with
            | arg h1 => rw [soundN_2] at h1; cases h1
            | full _ _ he _ => exact ⟨hk, .inl he⟩
            | two _ h2 => cases h2.1
            | one _ _ h3 he hX' => exact ⟨hk, .inr ⟨by rw [← HM.out]; exact he, h3, hX'⟩⟩
          have FIN : Hid (∀ X, HidS K3 X p M R G i X → Kept K3 wr X → ∀ Y, Kept (fun k => k < X.heap.size) X Y → (Calls Tryz.prog 22 #[.pointer (some ⟨p, 0, none⟩), .int .i64 0, .agg #[.bool sr, .slice la rn rc]] Y fun e w' => e = .returned (.string T0) ∧ Kept (fun k => k < Y.heap.size) Y w') ∧ (Calls Tryz.prog 22 #[.pointer (some ⟨p, 0, none⟩), .int .i64 (hh : Int), .agg #[.bool sr, .slice la rn rc]] Y fun e w' => e = .returned (.string T1) ∧ Kept (fun k => k < Y.heap.size) Y w')) := fun X hS hKX Y hY => by
            obtain ⟨M2, R2, G2, rk2, hI2, hn2, hX2, hnd, hR2⟩ := hS.ex
            have hKY : Kept (fun k => k < W0.heap.size) W0 Y := (HKV.out.trans (hKX.mono hK0)).trans (hY.mono fun k h => Nat.lt_of_lt_of_le h (Nat.le_trans HKV.out.size hKX.size))
            have key : ∀ j, j < M.n → j ≠ i → outX (innF q M2 R2 (dn M.n rk j + dn M2.n rk2 j + 1) j) (M2.nd j) (rawU M2 j) = outX (innF q M R (dn M.n rk j + 1) j) (M.nd j) (rawU M j) := fun j hj hji => by
              obtain ⟨-, e1, e2⟩ := hnd j hj
              rw [inn_hides HI.out HIN.out h5 hch (fun j hj => (hnd j hj).2.1) hR2 _ j hj hji, inn_stable HI.out _ (dn M.n rk j + 1) j hj (by omega) (by omega), e1]
              congr 1
              unfold rawU
              rw [e2]
              by_cases c : (M.pl j).up = -1
              · rw [if_pos c, if_pos c]
              · rw [if_neg c, if_neg c]
                rcases HI.out.good.wf.inn j hj with e | ⟨u, hu, e, -⟩
                · exact absurd e c
                · rw [e, Int.toNat_natCast, (hnd u hu).2.1]
            have q0 := OUT M2 R2 G2 rk2 Y 0 (dn M.n rk 0 + dn M2.n rk2 0 + 1) hI2 hn2 (hnd 0 hpos).1 (by omega) (hX2.kept hY) hKY
            rw [key 0 hpos h0i, hT0] at q0
            have q1 := OUT M2 R2 G2 rk2 Y hh (dn M.n rk hh + dn M2.n rk2 hh + 1) hI2 hn2 (hnd hh hhlt).1 (by omega) (hX2.kept hY) hKY
            rw [key hh hhlt hhi, hT1] at q1
            exact ⟨q0, q1⟩
          have IR : Hid (∀ X, DX K3 X p (M.add (Mk.nd ⟨2, [], data.toList, []⟩)) → M.n + 1 ≤ M.limit → Calls Tryz.prog 24 #[.pointer (some ⟨p, 0, none⟩), .int .i64 (i : Int), .int .i64 (m : Int), .int .i64 (-1)] X fun e w' => e = .returned (.int .u16 0) ∧ HidS K3 X p M R G i w' ∧ Kept K3 X w') := fun X hX hr => by
            rw [← HM.out]
            exact ins_root HI.out (by rw [HLM.out]; decide) hr HIN.out h5 data.toList HDS.out X hX
          obtain ⟨-, o1w, obw⟩ := OC.out wr HKV.out
          have HK0 : Hid (∀ k, k < W0.heap.size → K3 k) := hK0
          have HK3N : Hid (K3 N) := hKN
          have HC7 : Hid (wr.cell? ⟨N, 7, none⟩ = some (.int .i64 (hh : Int))) := c7
          have HK3L : Hid (∀ k, K3 k → k < wr.heap.size) := hXV.lt
          have hh300 : hh < 1000000 := by rw [HM.out] at hhlt; omega
          clear hask hch h5 hhost hhi h0i hMle hpos hXV hK3 hK0 hKN hq OUT hT0 hT1 hne hhlt HFD HNC HXX HKD
          go_wp2_with (refine wpList_load_row rfl 41 _ rfl NB rfl 41 #[.bool sr, .slice la rn rc] (0, 0) _ obw Tryz.underlying41 rfl (sizeO _ rfl) ?_)
          refine r0.mono ?_
          rintro e X1 ⟨rfl, hX1⟩
          have d7 : X1.cell? ⟨N, 7, none⟩ = some (.int .i64 (hh : Int)) := (hX1.cell (p := ⟨N, 7, none⟩) (HK3L.out N HK3N.out)).trans HC7.out
          have hW1 : Kept (fun k => k < W0.heap.size) W0 X1 := HKV.out.trans (hX1.mono fun k h => Nat.lt_of_lt_of_le h HKV.out.size)
          obtain ⟨-, -, ob1⟩ := OC.out X1 hW1
          have r1 := R1.out X1 hX1
          have HX1 : Hid (Kept (fun k => k < wr.heap.size) wr X1) := hX1
          clear r0 hX1 hW1 obw o1w c7 R1
          go_wp2_with (refine wpList_load_row rfl 41 _ rfl NB rfl 41 #[.bool sr, .slice la rn rc] (0, 0) _ ob1 Tryz.underlying41 rfl (sizeO _ rfl) ?_)
          refine r1.mono ?_
          rintro e X2 ⟨rfl, hX2⟩
          have hV2 : Kept (fun k => k < wr.heap.size) wr X2 := HX1.out.trans (hX2.mono fun k h => Nat.lt_of_lt_of_le h HX1.out.size)
          have rm := MK.out X2 hV2
          have HV2 : Hid (Kept (fun k => k < wr.heap.size) wr X2) := hV2
          clear r1 hX2 hV2 ob1 d7 HX1 MK
          go_wp2_with fail
          refine rm.mono ?_
          rintro e X3 ⟨hK3, he⟩
          have HV3 : Hid (Kept K3 wr X3) := (HV2.out.mono HK3L.out).trans hK3
          rcases he with rfl | ⟨rfl, hroom, hXa⟩
          · have HF : Hid (Kept (fun k => k < w.heap.size) w X3) := HKB.out.trans ((HKV.out.trans (HV3.out.mono HK0.out)).mono fun k h => Nat.lt_of_lt_of_le h HKB.out.size)
            clear rm hK3 IR FIN
            go_wp2
            go_ret
            exact ⟨rfl, HF.out⟩
          · have ri := IR.out X3 hXa hroom
            clear rm hK3 hXa hroom IR
            go_wp2_with fail
            refine ri.mono ?_
            rintro e X4 ⟨rfl, hS4, hK4⟩
            have hV4 : Kept K3 wr X4 := HV3.out.trans hK4
            have hS4' : HidS K3 X4 p M R G i X4 := ⟨hS4.ex⟩
            have F4 : Hid _ := FIN.out X4 hS4' hV4
            have hW4 : Kept (fun k => k < W0.heap.size) W0 X4 := HKV.out.trans (hV4.mono HK0.out)
            have HW4 : Hid (Kept (fun k => k < W0.heap.size) W0 X4) := hW4
            have d7 : X4.cell? ⟨N, 7, none⟩ = some (.int .i64 (hh : Int)) := (hV4.cell (p := ⟨N, 7, none⟩) HK3N.out).trans HC7.out
            have HD7 : Hid (X4.cell? ⟨N, 7, none⟩ = some (.int .i64 (hh : Int))) := d7
            have HN4 : Hid (N < X4.heap.size) := Nat.lt_of_lt_of_le (HK3L.out N HK3N.out) hV4.size
            obtain ⟨p0, p1, -⟩ := OC.out X4 hW4
            have q0 := (F4.out X4 (Kept.refl _ _)).1
            clear ri hS4 hS4' hK4 hV4 hW4 FIN d7
            go_wp2_with fail
            refine q0.mono ?_
            rintro e X5 ⟨rfl, hX5⟩
            have q1 := (F4.out X5 hX5).2
            have hW5 : Kept (fun k => k < W0.heap.size) W0 X5 := HW4.out.trans (hX5.mono fun k h => Nat.lt_of_lt_of_le h HW4.out.size)
            obtain ⟨s0, s1, -⟩ := OC.out X5 hW5
            have d7 : X5.cell? ⟨N, 7, none⟩ = some (.int .i64 (hh : Int)) := (hX5.cell (p := ⟨N, 7, none⟩) HN4.out).trans HD7.out
            have HW5 : Hid (Kept (fun k => k < W0.heap.size) W0 X5) := hW5
            clear q0 hX5 hW5 p0 p1 F4
            go_wp2_with fail
            refine q1.mono ?_
            rintro e X6 ⟨rfl, hX6⟩
            have HF : Hid (Kept (fun k => k < w.heap.size) w X6) := HKB.out.trans ((HW5.out.trans (hX6.mono fun k h => Nat.lt_of_lt_of_le h HW5.out.size)).mono fun k h => Nat.lt_of_lt_of_le h HKB.out.size)
            clear q1 hX6 s0 s1 d7
            go_wp2
            go_ret
            exact ⟨rfl, HF.out⟩
  · have k5' : ((kd : Int) != 5) = true := by simp; omega
    have HF : Hid (Kept (fun k => k < w.heap.size) w V) := HKB.out.trans (HKV.out.mono fun k h => Nat.lt_of_lt_of_le h HKB.out.size)
    clear k5
    go_wp2
    go_ret
    exact ⟨rfl, HF.out⟩
end
section
open Go.RowKit Go.Sort
set_option linter.unusedVariables false
set_option maxRecDepth 100000
set_option maxHeartbeats 8000000
theorem hides_no (a : Option Addr) (n c : Nat) (w : World) (z : Int) (data : ByteArray) (sr : Bool) (la : Option Addr) (rn rc : Nat) (hv : Bool) (rh : ∀ X, Kept (fun k => k < w.heap.size) w X → Calls Tryz.prog 15 #[.slice a n c] X fun e w' => e = .returned (.bool hv) ∧ Kept (fun k => k < X.heap.size) X w') (hno : hv = true ∨ 300 < data.size ∨ 60 < rn) :
    Calls Tryz.prog 7 #[.slice a n c, .int .u16 z, .string data, .agg #[.bool sr, .slice la rn rc]] w fun e w' => e = .returned (.bool true) ∧ Kept (fun k => k < w.heap.size) w w' := by
  obtain ⟨W0, NB, hW0, hNB, hbB, hkB, hzB⟩ := alloc_bx w #[.bool sr, .slice la rn rc] 41
  have rh0 := rh W0 hkB
  have HBB : Hid (W0.heap[NB]? = some (.cells #[.bool sr, .slice la rn rc] 41 (0, 0))) := hbB
  have HKB : Hid (Kept (fun k => k < w.heap.size) w W0) := hkB
  have HW0 : Hid (w.alloc (.cells #[.bool sr, .slice la rn rc] 41) = W0) := hW0
  have HNB : Hid (w.heap.size = NB) := hNB
  clear rh hW0 hNB hbB hkB hzB
  cases hv with
  | true =>
    clear hno
    go_enter Tryz.func7, Tryz.ntmps7
    go_upto_region 1 with fail
    rw [HW0.out, HNB.out]
    clear HW0 HNB
    go_wp2_with fail
    refine rh0.mono ?_
    rintro e w1 ⟨rfl, k1⟩
    have rk0 := known16_any w1
    have HK1 : Hid (Kept (fun k => k < w.heap.size) w w1) := HKB.out.trans (k1.mono fun k h => Nat.lt_of_lt_of_le h HKB.out.size)
    clear rh0 k1
    go_wp2_with fail
    refine rk0.mono ?_
    rintro e w2 ⟨rfl, k2⟩
    have HK2 : Hid (Kept (fun k => k < w.heap.size) w w2) := HK1.out.trans (k2.mono fun k h => Nat.lt_of_lt_of_le h HK1.out.size)
    clear rk0 k2
    go_wp2
    go_ret
    exact ⟨rfl, HK2.out⟩
  | false =>
    by_cases hd : 300 < data.size
    · have e300 : decide ((data.size : Int) > 300) = true := decide_eq_true (by omega)
      clear hno
      go_enter Tryz.func7, Tryz.ntmps7
      go_upto_region 1 with fail
      rw [HW0.out, HNB.out]
      clear HW0 HNB
      go_wp2_with fail
      refine rh0.mono ?_
      rintro e w1 ⟨rfl, k1⟩
      have rk0 := known16_any w1
      have HK1 : Hid (Kept (fun k => k < w.heap.size) w w1) := HKB.out.trans (k1.mono fun k h => Nat.lt_of_lt_of_le h HKB.out.size)
      clear rh0 k1
      go_wp2_with fail
      refine rk0.mono ?_
      rintro e w2 ⟨rfl, k2⟩
      have HK2 : Hid (Kept (fun k => k < w.heap.size) w w2) := HK1.out.trans (k2.mono fun k h => Nat.lt_of_lt_of_le h HK1.out.size)
      clear rk0 k2
      go_wp2
      go_ret
      exact ⟨rfl, HK2.out⟩
    · have e300 : decide ((data.size : Int) > 300) = false := decide_eq_false (by omega)
      have e60 : decide ((rn : Int) > 60) = true := decide_eq_true (by rcases hno with h | h | h; cases h; omega; omega)
      clear hno hd
      go_enter Tryz.func7, Tryz.ntmps7
      go_upto_region 1 with fail
      rw [HW0.out, HNB.out]
      clear HW0 HNB
      go_wp2_with fail
      refine rh0.mono ?_
      rintro e w1 ⟨rfl, k1⟩
      have rk0 := known16_any w1
      have hh : w1.heap[NB]? = some (.cells #[.bool sr, .slice la rn rc] 41 (0, 0)) := (k1.block NB (lt_block HBB.out)).trans HBB.out
      have o1 : w1.cell? ⟨NB, 1, none⟩ = some (.slice la rn rc) := by rw [cell_block hh]; rfl
      have HK1 : Hid (Kept (fun k => k < w.heap.size) w w1) := HKB.out.trans (k1.mono fun k h => Nat.lt_of_lt_of_le h HKB.out.size)
      clear rh0 k1 hh
      go_wp2_with fail
      refine rk0.mono ?_
      rintro e w2 ⟨rfl, k2⟩
      have HK2 : Hid (Kept (fun k => k < w.heap.size) w w2) := HK1.out.trans (k2.mono fun k h => Nat.lt_of_lt_of_le h HK1.out.size)
      clear rk0 k2
      go_wp2
      go_ret
      exact ⟨rfl, HK2.out⟩
end
end Go.Proofs.YteccdijjpmeeaaaGreat
