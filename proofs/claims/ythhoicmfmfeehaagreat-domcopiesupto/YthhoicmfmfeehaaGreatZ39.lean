/-
  The document's own Give of nodes that may be given.
-/
import Derived.Test.YthhoicmfmfeehaaGreatZ38
namespace Go.Proofs.YthhoicmfmfeehaaGreat
open Go.RowKit Go.Sort
set_option linter.unusedVariables false
set_option maxRecDepth 20000 in
set_option maxHeartbeats 4000000 in
theorem rgive_ok (K : Nat → Prop) (p slot : Nat) (l : List Nat) (n : Nat) (hln : l.length = n) (hnn : n ≤ 1000000) (a : Option Addr) (cap : Nat) (M : Dm) (R G : Nat → List Nat) (w : World) (h : RX K w p M R G) (hW : WF M.n M.gf G) (hs : slot < M.n) (hn : M.n ≤ 1000000) (hl : ∀ i ∈ l, i < M.n) (hg : Gives M (slot : Int) (l.map fun k : Nat => (k : Int)) 0) (hr : IntsAt K w a l) :
    Calls Tryz.prog 47 #[.pointer (some ⟨p, 0, none⟩), .int .i64 (slot : Int), .slice a n cap] w fun e w' => e = .returned (.int .i64 0) ∧ RX K w' p M R (gsR slot (outsL M.gf (G slot)) (updR G slot []) l) ∧ Kept K w w' := by
  have hKl := h.lt
  have rg := rgives_in K p slot M R G (l.map fun k : Nat => (k : Int)) a n cap w h hs hn (by rw [List.length_map]; exact hln) hnn (fun j hj => by
    rw [List.length_map] at hj
    obtain ⟨g, o, e, hF, hc⟩ := hr j hj
    exact ⟨g, o, e, hKl g hF, by rw [List.getElem_map]; exact hc⟩) 0 hg
  have hW0 := WF.outs hs (G slot) hW rfl
  obtain ⟨L0, hL0⟩ : ∃ L0, outsL M.gf (G slot) = L0 := ⟨_, rfl⟩
  obtain ⟨G0, hG0⟩ : ∃ G0, updR G slot [] = G0 := ⟨_, rfl⟩
  rw [hL0, hG0] at hW0 ⊢
  have HX : Hid (RX K w p M R G) := h
  have HW0 : Hid (WF M.n L0 G0) := hW0
  have HG0 : Hid (updR G slot [] = G0) := hG0
  have HL : Hid (∀ i ∈ l, i < M.n) := hl
  have HR : Hid (IntsAt K w a l) := hr
  have HLN : Hid (l.length = n) := hln
  have HS : Hid (slot < M.n) := hs
  have HN : Hid (M.n ≤ 1000000) := hn
  have HKL : Hid (∀ k, K k → k < w.heap.size) := hKl
  clear h hW hL0 hG0 hl hg hr hln hW0 hKl
  obtain ⟨m, hm⟩ : ∃ m, M.n = m := ⟨_, rfl⟩
  have HM : Hid (M.n = m) := hm
  rw [hm] at hs hn
  clear hm
  go_enter Tryz.func47, Tryz.ntmps47
  go_wp2_with fail
  refine rg.mono ?_
  rintro e w1 ⟨rfl, k1⟩
  obtain ⟨A1, hY1⟩ := HX.out.kept k1
  obtain ⟨q, hqa, -, -, hql⟩ := hY1.qat (by have := HS.out; omega)
  have c2 := hY1.c2
  rw [hqa, HM.out] at c2
  have q0 := hY1.qcell hqa HS.out
  have qf := hY1.qfg hqa slot
  obtain ⟨hY2, hK2⟩ := hY1.setG ((Kept.refl _ w1).mono fun k h => h) hqa HS.out [] none 0 (K2 := fun _ => False) (OwnZ.nil _ _ _ _) (fun g hg => by cases hg)
  have HX2 : Hid (RX K (w1.setCell ⟨q, slot, none⟩ (.slice none 0 0)) p M R G0) := by rw [← HG0.out]; exact (show Hid _ from ⟨_, hY2⟩)
  have HK2 : Hid (Kept K w (w1.setCell ⟨q, slot, none⟩ (.slice none 0 0))) := (k1.mono HKL.out).trans hK2
  obtain ⟨v0, hv0⟩ : ∃ v0 : Value, .slice (A1.ga slot) (G slot).length (A1.gc slot) = v0 := ⟨_, rfl⟩
  rw [hv0] at q0
  clear rg hY1 hY2 hK2 k1 hqa hv0
  go_upto_region 6 with fail
  go_loopg [8] n (fun gh v wr => ∃ k : Nat, gh = n - k ∧ k ≤ n ∧ v = .int .i64 (k : Int) ∧ RX K wr p M R (gsR slot L0 G0 (l.take k)) ∧ Kept K w wr)
  case atStart => exact ⟨0, rfl, Nat.zero_le _, rfl, HX2.out, HK2.out⟩
  case round =>
    clear HX2 HK2 c2 q0 qf
    obtain ⟨k, hgk, hk, rfl, hXk, hKk⟩ := hrel
    by_cases hlt : k < n
    · have hll : k < l.length := by rw [HLN.out]; exact hlt
      have hmem := List.getElem_mem hll
      have hxn := HL.out l[k] hmem
      have hWk := HW0.out.gs HS.out (l.take k) (fun i hi => HL.out i (List.mem_of_mem_take hi))
      obtain ⟨g1, o1, rfl, hg1, hc1⟩ := HR.out k hll
      have d : wr.cell? ⟨g1, o1 + k, none⟩ = some (.int .i64 (l[k] : Int)) := (hKk.cell (p := ⟨g1, o1 + k, none⟩) hg1).trans hc1
      have htk : l.take (k + 1) = l.take k ++ [l[k]] := List.take_succ_eq_append_getElem hll
      have hsn := gsR_snoc slot l[k] (l.take k) L0 G0
      rw [← htk] at hsn
      obtain ⟨x, hx⟩ : ∃ x, l[k] = x := ⟨_, rfl⟩
      obtain ⟨L', hL'⟩ : ∃ L', addsL L0 slot (l.take k) = L' := ⟨_, rfl⟩
      obtain ⟨Gk, hGk⟩ : ∃ Gk, gsR slot L0 G0 (l.take k) = Gk := ⟨_, rfl⟩
      rw [hx] at d hsn hxn hc1
      have HC1 : Hid (w.cell? ⟨g1, o1 + k, none⟩ = some (.int .i64 (x : Int))) := hc1
      rw [hL', hGk] at hsn hWk
      rw [hGk] at hXk
      have hlen : ∀ i, i < M.n → (Gk i).length ≤ 1000000 := fun i hi => Nat.le_trans (hWk.len_le hi) HN.out
      have rs : Calls Tryz.prog 56 #[.pointer (some ⟨p, 0, none⟩), .int .i64 (x : Int)] wr fun e w' => e = .returned (.int .i64 (L' x).up) ∧ w' = wr := (rslot_any K p M R Gk (x : Int) wr hXk HN.out hlen).mono (by
        rintro e w' ⟨z, hz, rfl, rfl⟩
        exact ⟨by rw [hz.one (hWk.slotA hxn)], rfl⟩)
      have HSN : Hid (gsR slot L0 G0 (l.take (k + 1)) = if (L' x).up = (slot : Int) then Gk else updR (outR L' Gk x) slot (outR L' Gk x slot ++ [x])) := hsn
      have HWK : Hid (WF M.n L' Gk) := hWk
      have HXK : Hid (RX K wr p M R Gk) := hXk
      have HKK : Hid (Kept K w wr) := hKk
      have HXN : Hid (x < M.n) := hxn
      have HLEN : Hid (∀ i, i < M.n → (Gk i).length ≤ 1000000) := hlen
      have HG1 : Hid (K g1) := hg1
      clear hmem hsn htk hx hL' hGk hWk hXk hKk hxn hlen hc1 hg1
      obtain ⟨z, hz⟩ : ∃ z, (L' x).up = z := ⟨_, rfl⟩
      rw [hz] at rs
      have HZ : Hid ((L' x).up = z) := hz
      by_cases cz : z = (slot : Int)
      · have e1 : (z == (slot : Int)) = true := by simpa using cz
        have HXN : Hid (RX K wr p M R (gsR slot L0 G0 (l.take (k + 1)))) := by rw [HSN.out, if_pos (by rw [HZ.out]; exact cz)]; exact HXK
        clear hz cz
        go_wp2_with (go_at_call 56; refine rs.mono ?_; rintro e w6 ⟨rfl, hw6⟩; replace hw6 := hw6.symm; subst hw6)
        go_roundg (n - (k + 1))
        case rel => exact ⟨k + 1, rfl, by omega, by go_num, HXN.out, HKK.out⟩
        case measure => omega
      · have e1 : (z == (slot : Int)) = false := by simpa using cz
        obtain ⟨Gx, hGx⟩ : ∃ Gx, outR L' Gk x = Gx := ⟨_, rfl⟩
        have HGX : Hid (outR L' Gk x = Gx) := hGx
        have HE : Hid (gsR slot L0 G0 (l.take (k + 1)) = updR Gx slot (Gx slot ++ [x])) := by rw [HSN.out, if_neg (by rw [HZ.out]; exact cz), hGx]; exact (show Hid _ from rfl)
        have HCZ : Hid (¬ z = (slot : Int)) := cz
        have hGl : (Gx slot).length ≤ 1000000 := by
          rw [← hGx]
          unfold outR
          rw [hz]
          by_cases c : z = -1
          · rw [if_pos c]; exact HLEN.out slot HS.out
          · rw [if_neg c]
            by_cases c2 : slot = z.toNat
            · rw [← c2, updR_same]
              exact Nat.le_trans (List.length_erase_le ..) (HLEN.out slot HS.out)
            · rw [updR_ne _ _ c2]; exact HLEN.out slot HS.out
        have HGL : Hid ((Gx slot).length ≤ 1000000) := hGl
        clear hz cz hGx hGl HSN
        obtain ⟨W5, rfl⟩ : ∃ W5, W5 = wr := ⟨_, rfl⟩
        go_upto_if 39 with (go_at_call 56; refine rs.mono ?_; rintro e w6 ⟨rfl, hw6⟩; replace hw6 := hw6.symm; subst hw6)
        go_cut [] (fun wx => RX K wx p M R Gx ∧ Kept K w wx)
        case first =>
          by_cases z1 : z = -1
          · subst z1
            have e0 : decide ((-1 : Int) ≥ 0) = false := by decide
            have HXx : Hid (RX K W5 p M R Gx) := by
              have : Gx = Gk := by rw [← HGX.out]; unfold outR; rw [if_pos HZ.out]
              rw [this]; exact HXK
            clear rs
            go_wp2
            go_meet
            case rel => exact ⟨HXx.out, HKK.out⟩
          · obtain ⟨u, hu, hzu, hxu⟩ : ∃ u, u < M.n ∧ z = (u : Int) ∧ x ∈ Gk u := by
              rcases HWK.out.inn x HXN.out with e | ⟨u, hu, e, hm⟩
              · exact absurd (HZ.out.symm.trans e) z1
              · exact ⟨u, hu, HZ.out.symm.trans e, hm⟩
            subst hzu
            have e0 : decide ((u : Int) ≥ 0) = true := decide_eq_true (by omega)
            obtain ⟨A5, hY5⟩ := HXK.out
            obtain ⟨q5, hqa5, -, -, hql5⟩ := hY5.qat (by omega)
            have HY5 : Hid (RY K W5 p M R Gk A5) := hY5
            have c2d : W5.drew.cell? ⟨p, 2, none⟩ = some (.slice (some ⟨q5, 0, none⟩) m A5.qc) := by have := hY5.c2; rw [hqa5, HM.out] at this; exact this
            have qud := hY5.qcell hqa5 hu
            have fzd : W5.drew.frozen? ⟨q5, u, none⟩ = false := hY5.qfg hqa5 u
            have hgo := hY5.gown u hu
            have hIn : IntsAt (fun k => k < W5.heap.size) W5 (A5.ga u) (Gk u) := hgo.intsAt fun x hx => (OwnZ.out hgo hx).2
            obtain ⟨ga5, hga5⟩ : ∃ ga5, A5.ga u = ga5 := ⟨_, rfl⟩
            obtain ⟨gc5, hgc5⟩ : ∃ gc5, A5.gc u = gc5 := ⟨_, rfl⟩
            obtain ⟨l5, hl5⟩ : ∃ l5, Gk u = l5 := ⟨_, rfl⟩
            obtain ⟨ln5, hln5⟩ : ∃ ln5, l5.length = ln5 := ⟨_, rfl⟩
            have hlb := HLEN.out u hu
            rw [hl5, hln5] at hlb
            rw [hga5, hgc5, hl5, hln5] at qud
            rw [hga5, hl5] at hIn
            have qudd : W5.drew.cell? ⟨q5, u, none⟩ = some (.slice ga5 ln5 gc5) := qud
            have rw1 := rwithout_any l5 ga5 ln5 gc5 hln5 (by omega) (x : Int) W5.drew (hIn.to (fun _ h => h) (fun _ _ => rfl))
            have dd : W5.drew.cell? ⟨g1, o1 + k, none⟩ = some (.int .i64 (x : Int)) := d
            have hpl : p < W5.drew.heap.size := hY5.plt
            have hql : q5 < W5.drew.heap.size := hql5
            have hum : u < m := by rw [← HM.out]; exact hu
            have HGU : Hid (Gx = updR Gk u (wo l5 (x : Int))) := by
              have : Gx = updR Gk u (wo l5 (x : Int)) := by
                rw [← HGX.out]; unfold outR; rw [if_neg (by rw [HZ.out]; omega), HZ.out, Int.toNat_natCast, wo_erase (by rw [← hl5]; exact HWK.out.nodup u hu), hl5]
              exact (show Hid _ from this)
            have HGA : Hid (A5.ga u = ga5) := hga5
            have HU : Hid (u < M.n) := hu
            have HQA : Hid (A5.qa = some ⟨q5, 0, none⟩) := hqa5
            clear hY5 qud hgo hIn hga5 hgc5 hl5 hln5 hqa5 rs d hxu hql5
            go_wp2_with fail
            go_region_with (go_at_call 91; refine rw1.mono ?_; rintro e w3 ⟨ao, c, rfl, hO, hk3⟩; have c2w : w3.cell? ⟨p, 2, none⟩ = some (.slice (some ⟨q5, 0, none⟩) m A5.qc) := (hk3.cell (p := ⟨p, 2, none⟩) hpl).trans c2d; have quw : w3.cell? ⟨q5, u, none⟩ = some (.slice ga5 ln5 gc5) := (hk3.cell (p := ⟨q5, u, none⟩) hql).trans qudd; have fzw : w3.frozen? ⟨q5, u, none⟩ = false := (hk3.frozen (p := ⟨q5, u, none⟩) hql).trans fzd)
            all_goals
              have k3 : Kept (fun k => k < W5.heap.size) W5 w3 := ((Kept.refl _ W5).drew).trans hk3
              obtain ⟨hY6, hK6⟩ := HY5.out.setG (w := w3) (k3.mono fun k h => h.1) HQA.out HU.out (wo l5 (x : Int)) ao c hO (fun g hg => .inr (Nat.le_of_not_lt fun hl => (OwnZ.out hO hg).1 hl))
              have HXx : Hid (RX K (w3.setCell ⟨q5, u, none⟩ (.slice ao (wo l5 (x : Int)).length c)) p M R Gx) := by rw [HGU.out]; exact (show Hid _ from ⟨_, hY6⟩)
              have HKx : Hid (Kept K w (w3.setCell ⟨q5, u, none⟩ (.slice ao (wo l5 (x : Int)).length c))) := HKK.out.trans hK6
              clear c2w quw fzw hO hk3 k3 hY6 hK6 rw1 c2d qudd fzd dd
              go_wp2
              go_meet
              case rel => exact ⟨HXx.out, HKx.out⟩
        case rest =>
          obtain ⟨hXc, hKc⟩ := hcut
          obtain ⟨A7, hY7⟩ := hXc
          obtain ⟨q7, hqa7, -, -, hql7⟩ := hY7.qat (by have := HS.out; omega)
          obtain ⟨ga', gc', w', hr', f1, f2, f3, hX8, hK8⟩ := hY7.appG (w := wc.drew) ((Kept.refl _ wc).drew) hqa7 HS.out HGL.out x
          have c2d : wc.drew.cell? ⟨p, 2, none⟩ = some (.slice (some ⟨q7, 0, none⟩) m A7.qc) := by have := hY7.c2; rw [hqa7, HM.out] at this; exact this
          have qsd := hY7.qcell hqa7 HS.out
          have dd : wc.drew.cell? ⟨g1, o1 + k, none⟩ = some (.int .i64 (x : Int)) := by
            have : wc.cell? ⟨g1, o1 + k, none⟩ = some (.int .i64 (x : Int)) := (hKc.cell (p := ⟨g1, o1 + k, none⟩) HG1.out).trans HC1.out
            exact this
          rw [hqa7, HM.out] at f1
          obtain ⟨ga7, hga7⟩ : ∃ ga7, A7.ga slot = ga7 := ⟨_, rfl⟩
          obtain ⟨gc7, hgc7⟩ : ∃ gc7, A7.gc slot = gc7 := ⟨_, rfl⟩
          obtain ⟨ln7, hln7⟩ : ∃ ln7, (Gx slot).length = ln7 := ⟨_, rfl⟩
          rw [hga7, hgc7, hln7] at hr' f2 qsd
          rw [hln7] at hX8 hK8
          have qsdd : wc.drew.cell? ⟨q7, slot, none⟩ = some (.slice ga7 ln7 gc7) := qsd
          have ka : Kept (fun k => k < wc.heap.size) wc (wc.drew.alloc (.cells #[.int .i64 (x : Int)] 3)) := ((Kept.refl _ wc).drew).alloc (fun _ h => h) _
          have c2a : (wc.drew.alloc (.cells #[.int .i64 (x : Int)] 3)).cell? ⟨p, 2, none⟩ = some (.slice (some ⟨q7, 0, none⟩) m A7.qc) := (ka.cell (p := ⟨p, 2, none⟩) hY7.plt).trans c2d
          have qsa : (wc.drew.alloc (.cells #[.int .i64 (x : Int)] 3)).cell? ⟨q7, slot, none⟩ = some (.slice ga7 ln7 gc7) := (ka.cell (p := ⟨q7, slot, none⟩) hql7).trans qsd
          have HX8 : Hid (RX K (w'.setCell ⟨q7, slot, none⟩ (.slice ga' (ln7 + 1) gc')) p M R (gsR slot L0 G0 (l.take (k + 1)))) := by rw [HE.out]; exact hX8
          have HK8 : Hid (Kept K w (w'.setCell ⟨q7, slot, none⟩ (.slice ga' (ln7 + 1) gc'))) := hKc.trans hK8
          have qsp : wc.cell? ⟨q7, slot, none⟩ = some (.slice ga7 ln7 gc7) := qsd
          have c2p : wc.cell? ⟨p, 2, none⟩ = some (.slice (some ⟨q7, 0, none⟩) m A7.qc) := c2d
          have dp : wc.cell? ⟨g1, o1 + k, none⟩ = some (.int .i64 (x : Int)) := dd
          have c2b : (wc.alloc (.cells #[.int .i64 (x : Int)] 3)).cell? ⟨p, 2, none⟩ = some (.slice (some ⟨q7, 0, none⟩) m A7.qc) := c2a
          have qsb : (wc.alloc (.cells #[.int .i64 (x : Int)] 3)).cell? ⟨q7, slot, none⟩ = some (.slice ga7 ln7 gc7) := qsa
          have hr2 : (Builtin.append_ #[33, 33] 33 #[.slice ga7 ln7 gc7, .slice (some ⟨wc.heap.size, 0, none⟩) 1 1]).run Tryz.prog (wc.alloc (.cells #[.int .i64 (x : Int)] 3)).drew = .ok (.slice ga' (ln7 + 1) gc') w' := hr'
          clear hY7 hX8 hK8 hqa7 hga7 hgc7 hln7 hKc qsd ka rs d
          go_upto_region 12 with fail
          go_region_law (refine step_appR (w' := w') rfl (.tmp 69) (.tmp 74) 33 33 rfl _ _ (.slice ga' (ln7 + 1) gc') rfl rfl hr2 ?_)
          all_goals
            clear hr' hr2 c2a c2b c2d c2p qsa qsb qsdd qsp dd dp f1 f2 f3
            go_wp2
            go_roundg (n - (k + 1))
            case rel => exact ⟨k + 1, rfl, by omega, by go_num, HX8.out, HK8.out⟩
            case measure => omega
    · have hkn : n = k := by omega
      subst hkn
      have hall : l.take n = l := List.take_of_length_le (by rw [HLN.out]; exact Nat.le_refl _)
      rw [hall] at hXk
      have HXF : Hid (RX K wr p M R (gsR slot L0 G0 l)) := hXk
      have HKF : Hid (Kept K w wr) := hKk
      clear hXk hKk hall
      go_wp2
      go_ret
      exact ⟨rfl, HXF.out, HKF.out⟩
end Go.Proofs.YthhoicmfmfeehaaGreat
