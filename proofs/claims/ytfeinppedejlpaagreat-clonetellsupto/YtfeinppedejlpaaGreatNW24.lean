/-
 The document's own Give of nodes that may be given.; The program's Give, whole: what it refuses; a slot that is given to itself.
-/
import Derived.Test.YtfeinppedejlpaaGreatNW22
import Derived.Test.YtfeinppedejlpaaGreatNB19
namespace Go.Proofs.YtfeinppedejlpaaGreat
set_option linter.unusedVariables false
set_option maxRecDepth 100000
set_option maxHeartbeats 8000000
section
open Go.RowKit Go.Sort
theorem zpc (K : Nat -> Prop) (p slot : Nat) (l : List Nat) (n : Nat) (hln : l.length = n) (hnn : n <= 1000000) (a : Option Addr) (cap : Nat) (M : Dm) (R G : Nat -> List Nat) (w : World) (h : RX K TT w p M R G) (hW : WF M.n M.gf G) (hs : slot < M.n) (hn : M.n <= 1000000) (hl : ∀ i ∈ l, i < M.n) (hg : Gives M (slot : Int) (l.map fun k : Nat => (k : Int)) 0) (hr : Zan K w a l) :
  Calls Tryz.prog 104 #[.pointer (some ⟨p, 0, none⟩), .int .i64 (slot : Int), .slice a n cap] w fun e w' => e = .returned (.int .i64 0) /\ RX K TT w' p M R (gsR slot (zcj M.gf (G slot)) (zax G slot []) l) /\ Kept K w w' := by
 have hKl := h.lt
 have rg := zhq K p slot M R G (l.map fun k : Nat => (k : Int)) a n cap w h hs hn (by rw [List.length_map]; exact hln) hnn (fun j hj => by
  rw [List.length_map] at hj
  obtain ⟨g, o, e, hF, hc⟩ := hr j hj
  exact ⟨g, o, e, hKl g hF, by rw [List.getElem_map]; exact hc⟩) 0 hg
 have hW0 := WF.outs hs (G slot) hW rfl
 obtain ⟨L0, hL0⟩ : ∃ L0, zcj M.gf (G slot) = L0 := ⟨_, rfl⟩
 obtain ⟨G0, hG0⟩ : ∃ G0, zax G slot [] = G0 := ⟨_, rfl⟩
 rw [hL0, hG0] at hW0 ⊢
 have HX : Hid (RX K TT w p M R G) := h
 have HW0 : Hid (WF M.n L0 G0) := hW0
 have HG0 : Hid (zax G slot [] = G0) := hG0
 have HL : Hid (∀ i ∈ l, i < M.n) := hl
 have HR : Hid (Zan K w a l) := hr
 have HLN : Hid (l.length = n) := hln
 have HS : Hid (slot < M.n) := hs
 have HN : Hid (M.n <= 1000000) := hn
 have HKL : Hid (∀ k, K k -> k < w.heap.size) := hKl
 clear h hW hL0 hG0 hl hg hr hln hW0 hKl
 obtain ⟨m, hm⟩ : ∃ m, M.n = m := ⟨_, rfl⟩
 have HM : Hid (M.n = m) := hm
 rw [hm] at hs hn
 clear hm
 go_enter Tryz.func104, Tryz.ntmps104
 go_wp2_with fail
 refine rg.mono ?_
 rintro e w1 ⟨rfl, k1⟩
 obtain ⟨A1, hY1⟩ := HX.out.kept k1
 obtain ⟨q, hqa, -, -, hql⟩ := hY1.qat (by have := HS.out; omega)
 have c2 := hY1.c2
 rw [hqa, HM.out] at c2
 have q0 := hY1.qcell hqa HS.out
 have qf := hY1.qfg hqa slot
 obtain ⟨hY2, hK2⟩ := hY1.setG ((Kept.refl _ w1).mono fun k h => h) hqa HS.out [] none 0 (K2 := fun _ => False) (Zac.nil _ _ _ _) (fun g hg => by cases hg)
 have HX2 : Hid (RX K TT (w1.setCell ⟨q, slot, none⟩ (.slice none 0 0)) p M R G0) := by rw [<- HG0.out]; exact (show Hid _ from ⟨_, hY2⟩)
 have HK2 : Hid (Kept K w (w1.setCell ⟨q, slot, none⟩ (.slice none 0 0))) := (k1.mono HKL.out).trans hK2
 obtain ⟨v0, hv0⟩ : ∃ v0 : Value, .slice (A1.ga slot) (G slot).length (A1.gc slot) = v0 := ⟨_, rfl⟩
 rw [hv0] at q0
 clear rg hY1 hY2 hK2 k1 hqa hv0
 go_upto_region 6 with fail
 go_loopg [8] n (fun gh v wr => ∃ k : Nat, gh = n - k /\ k <= n /\ v = .int .i64 (k : Int) /\ RX K TT wr p M R (gsR slot L0 G0 (l.take k)) /\ Kept K w wr)
 case atStart => exact ⟨0, rfl, Nat.zero_le _, rfl, HX2.out, HK2.out⟩
 case round =>
  clear HX2 HK2 c2 q0 qf
  obtain ⟨k, hgk, hk, rfl, hXk, hKk⟩ := hrel
  by_cases hlt : k < n
  ·have hll : k < l.length := by rw [HLN.out]; exact hlt
   have hmem := List.getElem_mem hll
   have hxn := HL.out l[k] hmem
   have hWk := HW0.out.gs HS.out (l.take k) (fun i hi => HL.out i (List.mem_of_mem_take hi))
   obtain ⟨g1, o1, rfl, hg1, hc1⟩ := HR.out k hll
   have d : wr.cell? ⟨g1, o1 + k, none⟩ = some (.int .i64 (l[k] : Int)) := (hKk.cell (p := ⟨g1, o1 + k, none⟩) hg1).trans hc1
   have htk : l.take (k + 1) = l.take k ++ [l[k]] := List.take_succ_eq_append_getElem hll
   have hsn := zjf slot l[k] (l.take k) L0 G0
   rw [<- htk] at hsn
   obtain ⟨x, hx⟩ : ∃ x, l[k] = x := ⟨_, rfl⟩
   obtain ⟨L', hL'⟩ : ∃ L', zbi L0 slot (l.take k) = L' := ⟨_, rfl⟩
   obtain ⟨Gk, hGk⟩ : ∃ Gk, gsR slot L0 G0 (l.take k) = Gk := ⟨_, rfl⟩
   rw [hx] at d hsn hxn hc1
   have HC1 : Hid (w.cell? ⟨g1, o1 + k, none⟩ = some (.int .i64 (x : Int))) := hc1
   rw [hL', hGk] at hsn hWk
   rw [hGk] at hXk
   have hlen : ∀ i, i < M.n -> (Gk i).length <= 1000000 := fun i hi => Nat.le_trans (hWk.len_le hi) HN.out
   have rs : Calls Tryz.prog 77 #[.pointer (some ⟨p, 0, none⟩), .int .i64 (x : Int)] wr fun e w' => e = .returned (.int .i64 (L' x).up) /\ w' = wr := (zfr K p M R Gk (x : Int) wr hXk HN.out hlen).mono (by
    rintro e w' ⟨z, hz, rfl, rfl⟩
    exact ⟨by rw [hz.one (hWk.slotA hxn)], rfl⟩)
   have HSN : Hid (gsR slot L0 G0 (l.take (k + 1)) = if (L' x).up = (slot : Int) then Gk else zax (zcy L' Gk x) slot (zcy L' Gk x slot ++ [x])) := hsn
   have HWK : Hid (WF M.n L' Gk) := hWk
   have HXK : Hid (RX K TT wr p M R Gk) := hXk
   have HKK : Hid (Kept K w wr) := hKk
   have HXN : Hid (x < M.n) := hxn
   have HLEN : Hid (∀ i, i < M.n -> (Gk i).length <= 1000000) := hlen
   have HG1 : Hid (K g1) := hg1
   clear hmem hsn htk hx hL' hGk hWk hXk hKk hxn hlen hc1 hg1
   obtain ⟨z, hz⟩ : ∃ z, (L' x).up = z := ⟨_, rfl⟩
   rw [hz] at rs
   have HZ : Hid ((L' x).up = z) := hz
   by_cases cz : z = (slot : Int)
   ·have e1 : (z == (slot : Int)) = true := by simpa using cz
    have HXN : Hid (RX K TT wr p M R (gsR slot L0 G0 (l.take (k + 1)))) := by rw [HSN.out, if_pos (by rw [HZ.out]; exact cz)]; exact HXK
    clear hz cz
    go_wp2_with (go_at_call 77; refine rs.mono ?_; rintro e w6 ⟨rfl, hw6⟩; replace hw6 := hw6.symm; subst hw6)
    go_roundg (n - (k + 1))
    case rel => exact ⟨k + 1, rfl, by omega, by go_num, HXN.out, HKK.out⟩
    case measure => omega
   ·have e1 : (z == (slot : Int)) = false := by simpa using cz
    obtain ⟨Gx, hGx⟩ : ∃ Gx, zcy L' Gk x = Gx := ⟨_, rfl⟩
    have HGX : Hid (zcy L' Gk x = Gx) := hGx
    have HE : Hid (gsR slot L0 G0 (l.take (k + 1)) = zax Gx slot (Gx slot ++ [x])) := by rw [HSN.out, if_neg (by rw [HZ.out]; exact cz), hGx]; exact (show Hid _ from rfl)
    have HCZ : Hid (¬ z = (slot : Int)) := cz
    have hGl : (Gx slot).length <= 1000000 := by
     rw [<- hGx]
     unfold zcy
     rw [hz]
     by_cases c : z = -1
     ·rw [if_pos c]; exact HLEN.out slot HS.out
     ·rw [if_neg c]
      by_cases c2 : slot = z.toNat
      ·rw [<- c2, zaf]
       exact Nat.le_trans (List.length_erase_le ..) (HLEN.out slot HS.out)
      ·rw [zaj _ _ c2]; exact HLEN.out slot HS.out
    have HGL : Hid ((Gx slot).length <= 1000000) := hGl
    clear hz cz hGx hGl HSN
    obtain ⟨W5, rfl⟩ : ∃ W5, W5 = wr := ⟨_, rfl⟩
    go_upto_if 39 with (go_at_call 77; refine rs.mono ?_; rintro e w6 ⟨rfl, hw6⟩; replace hw6 := hw6.symm; subst hw6)
    go_cut [] (fun wx => RX K TT wx p M R Gx /\ Kept K w wx)
    case first =>
     by_cases z1 : z = -1
     ·subst z1
      have e0 : decide ((-1 : Int) >= 0) = false := by decide
      have HXx : Hid (RX K TT W5 p M R Gx) := by
       have : Gx = Gk := by rw [<- HGX.out]; unfold zcy; rw [if_pos HZ.out]
       rw [this]; exact HXK
      clear rs
      go_wp2
      go_meet
      case rel => exact ⟨HXx.out, HKK.out⟩
     ·obtain ⟨u, hu, hzu, hxu⟩ : ∃ u, u < M.n /\ z = (u : Int) /\ x ∈ Gk u := by
       rcases HWK.out.inn x HXN.out with e | ⟨u, hu, e, hm⟩
       ·exact absurd (HZ.out.symm.trans e) z1
       ·exact ⟨u, hu, HZ.out.symm.trans e, hm⟩
      subst hzu
      have e0 : decide ((u : Int) >= 0) = true := decide_eq_true (by omega)
      obtain ⟨A5, hY5⟩ := HXK.out
      obtain ⟨q5, hqa5, -, -, hql5⟩ := hY5.qat (by omega)
      have HY5 : Hid (RY K TT W5 p M R Gk A5) := hY5
      have c2d : W5.drew.cell? ⟨p, 2, none⟩ = some (.slice (some ⟨q5, 0, none⟩) m A5.qc) := by have := hY5.c2; rw [hqa5, HM.out] at this; exact this
      have qud := hY5.qcell hqa5 hu
      have fzd : W5.drew.frozen? ⟨q5, u, none⟩ = false := hY5.qfg hqa5 u
      have hgo := hY5.gown u hu
      have hIn : Zan (fun k => k < W5.heap.size) W5 (A5.ga u) (Gk u) := hgo.intsAt fun x hx => (Zac.out hgo hx).2
      obtain ⟨ga5, hga5⟩ : ∃ ga5, A5.ga u = ga5 := ⟨_, rfl⟩
      obtain ⟨gc5, hgc5⟩ : ∃ gc5, A5.gc u = gc5 := ⟨_, rfl⟩
      obtain ⟨l5, hl5⟩ : ∃ l5, Gk u = l5 := ⟨_, rfl⟩
      obtain ⟨ln5, hln5⟩ : ∃ ln5, l5.length = ln5 := ⟨_, rfl⟩
      have hlb := HLEN.out u hu
      rw [hl5, hln5] at hlb
      rw [hga5, hgc5, hl5, hln5] at qud
      rw [hga5, hl5] at hIn
      have qudd : W5.drew.cell? ⟨q5, u, none⟩ = some (.slice ga5 ln5 gc5) := qud
      have rw1 := zey l5 ga5 ln5 gc5 hln5 (by omega) (x : Int) W5.drew (hIn.to (fun _ h => h) (fun _ _ => rfl))
      have dd : W5.drew.cell? ⟨g1, o1 + k, none⟩ = some (.int .i64 (x : Int)) := d
      have hpl : p < W5.drew.heap.size := hY5.plt
      have hql : q5 < W5.drew.heap.size := hql5
      have hum : u < m := by rw [<- HM.out]; exact hu
      have HGU : Hid (Gx = zax Gk u (wo l5 (x : Int))) := by
       have : Gx = zax Gk u (wo l5 (x : Int)) := by
        rw [<- HGX.out]; unfold zcy; rw [if_neg (by rw [HZ.out]; omega), HZ.out, Int.toNat_natCast, zjh (by rw [<- hl5]; exact HWK.out.nodup u hu), hl5]
       exact (show Hid _ from this)
      have HGA : Hid (A5.ga u = ga5) := hga5
      have HU : Hid (u < M.n) := hu
      have HQA : Hid (A5.qa = some ⟨q5, 0, none⟩) := hqa5
      clear hY5 qud hgo hIn hga5 hgc5 hl5 hln5 hqa5 rs d hxu hql5
      go_wp2_with fail
      go_region_with (go_at_call 183; refine rw1.mono ?_; rintro e w3 ⟨ao, c, rfl, hO, hk3⟩; have c2w : w3.cell? ⟨p, 2, none⟩ = some (.slice (some ⟨q5, 0, none⟩) m A5.qc) := (hk3.cell (p := ⟨p, 2, none⟩) hpl).trans c2d; have quw : w3.cell? ⟨q5, u, none⟩ = some (.slice ga5 ln5 gc5) := (hk3.cell (p := ⟨q5, u, none⟩) hql).trans qudd; have fzw : w3.frozen? ⟨q5, u, none⟩ = false := (hk3.frozen (p := ⟨q5, u, none⟩) hql).trans fzd)
      all_goals
       have k3 : Kept (fun k => k < W5.heap.size) W5 w3 := ((Kept.refl _ W5).drew).trans hk3
       obtain ⟨hY6, hK6⟩ := HY5.out.setG (w := w3) (k3.mono fun k h => h.1) HQA.out HU.out (wo l5 (x : Int)) ao c hO (fun g hg => .inr (Nat.le_of_not_lt fun hl => (Zac.out hO hg).1 hl))
       have HXx : Hid (RX K TT (w3.setCell ⟨q5, u, none⟩ (.slice ao (wo l5 (x : Int)).length c)) p M R Gx) := by rw [HGU.out]; exact (show Hid _ from ⟨_, hY6⟩)
       have HKx : Hid (Kept K w (w3.setCell ⟨q5, u, none⟩ (.slice ao (wo l5 (x : Int)).length c))) := HKK.out.trans hK6
       clear c2w quw fzw hO hk3 k3 hY6 hK6 rw1 c2d qudd fzd dd
       go_wp2
       go_meet
       case rel => exact ⟨HXx.out, HKx.out⟩
    case rest =>
     obtain ⟨hXc, hKc⟩ := hcut
     obtain ⟨A7, hY7⟩ := hXc
     obtain ⟨q7, hqa7, -, -, hql7⟩ := hY7.qat (by have := HS.out; omega)
     obtain ⟨ga', gc', w', hr', f1, f2, f3, hX8, hK8⟩ := hY7.appG (w := wc.drew) ((Kept.refl _ wc).drew) hqa7 HS.out HGL.out x
     have c2d : wc.drew.cell? ⟨p, 2, none⟩ = some (.slice (some ⟨q7, 0, none⟩) m A7.qc) := by have := hY7.c2; rw [hqa7, HM.out] at this; exact this
     have qsd := hY7.qcell hqa7 HS.out
     have dd : wc.drew.cell? ⟨g1, o1 + k, none⟩ = some (.int .i64 (x : Int)) := by
      have : wc.cell? ⟨g1, o1 + k, none⟩ = some (.int .i64 (x : Int)) := (hKc.cell (p := ⟨g1, o1 + k, none⟩) HG1.out).trans HC1.out
      exact this
     rw [hqa7, HM.out] at f1
     obtain ⟨ga7, hga7⟩ : ∃ ga7, A7.ga slot = ga7 := ⟨_, rfl⟩
     obtain ⟨gc7, hgc7⟩ : ∃ gc7, A7.gc slot = gc7 := ⟨_, rfl⟩
     obtain ⟨ln7, hln7⟩ : ∃ ln7, (Gx slot).length = ln7 := ⟨_, rfl⟩
     rw [hga7, hgc7, hln7] at hr' f2 qsd
     rw [hln7] at hX8 hK8
     have qsdd : wc.drew.cell? ⟨q7, slot, none⟩ = some (.slice ga7 ln7 gc7) := qsd
     have ka : Kept (fun k => k < wc.heap.size) wc (wc.drew.alloc (.cells #[.int .i64 (x : Int)] 3)) := ((Kept.refl _ wc).drew).alloc (fun _ h => h) _
     have c2a : (wc.drew.alloc (.cells #[.int .i64 (x : Int)] 3)).cell? ⟨p, 2, none⟩ = some (.slice (some ⟨q7, 0, none⟩) m A7.qc) := (ka.cell (p := ⟨p, 2, none⟩) hY7.plt).trans c2d
     have qsa : (wc.drew.alloc (.cells #[.int .i64 (x : Int)] 3)).cell? ⟨q7, slot, none⟩ = some (.slice ga7 ln7 gc7) := (ka.cell (p := ⟨q7, slot, none⟩) hql7).trans qsd
     have HX8 : Hid (RX K TT (w'.setCell ⟨q7, slot, none⟩ (.slice ga' (ln7 + 1) gc')) p M R (gsR slot L0 G0 (l.take (k + 1)))) := by rw [HE.out]; exact hX8
     have HK8 : Hid (Kept K w (w'.setCell ⟨q7, slot, none⟩ (.slice ga' (ln7 + 1) gc'))) := hKc.trans hK8
     have qsp : wc.cell? ⟨q7, slot, none⟩ = some (.slice ga7 ln7 gc7) := qsd
     have c2p : wc.cell? ⟨p, 2, none⟩ = some (.slice (some ⟨q7, 0, none⟩) m A7.qc) := c2d
     have dp : wc.cell? ⟨g1, o1 + k, none⟩ = some (.int .i64 (x : Int)) := dd
     have c2b : (wc.alloc (.cells #[.int .i64 (x : Int)] 3)).cell? ⟨p, 2, none⟩ = some (.slice (some ⟨q7, 0, none⟩) m A7.qc) := c2a
     have qsb : (wc.alloc (.cells #[.int .i64 (x : Int)] 3)).cell? ⟨q7, slot, none⟩ = some (.slice ga7 ln7 gc7) := qsa
     have hr2 : (Builtin.append_ #[33, 33] 33 #[.slice ga7 ln7 gc7, .slice (some ⟨wc.heap.size, 0, none⟩) 1 1]).run Tryz.prog (wc.alloc (.cells #[.int .i64 (x : Int)] 3)).drew = .ok (.slice ga' (ln7 + 1) gc') w' := hr'
     clear hY7 hX8 hK8 hqa7 hga7 hgc7 hln7 hKc qsd ka rs d
     go_upto_region 12 with fail
     go_region_law (refine zbf (w' := w') rfl (.tmp 69) (.tmp 74) 33 33 rfl _ _ (.slice ga' (ln7 + 1) gc') rfl rfl hr2 ?_)
     all_goals
      clear hr' hr2 c2a c2b c2d c2p qsa qsb qsdd qsp dd dp f1 f2 f3
      go_wp2
      go_roundg (n - (k + 1))
      case rel => exact ⟨k + 1, rfl, by omega, by go_num, HX8.out, HK8.out⟩
      case measure => omega
  ·have hkn : n = k := by omega
   subst hkn
   have hall : l.take n = l := List.take_of_length_le (by rw [HLN.out]; exact Nat.le_refl _)
   rw [hall] at hXk
   have HXF : Hid (RX K TT wr p M R (gsR slot L0 G0 l)) := hXk
   have HKF : Hid (Kept K w wr) := hKk
   clear hXk hKk hall
   go_wp2
   go_ret
   exact ⟨rfl, HXF.out, HKF.out⟩
end
section
open Go.RowKit
def Tells (w : World) (v : Value) (b : Int -> Bool) (l : List Int) : Prop :=
 ∃ f caps, v = .func (.func f) #[] caps /\ (∀ args X, (callFunc f args).run Tryz.prog X = .ok (.enter f args) X) /\ ∀ x ∈ l, Calls Tryz.prog f (#[.int .i64 x] ++ caps) w fun e Y => e = .returned (.bool (b x)) /\ Y = w
inductive Zany (l : List Int) (b : Int -> Bool) : Int -> Prop
 | yes (k : Nat) : l.any b = true -> Zany l b (k : Int)
 | no : l.any b = false -> Zany l b (-1)
theorem zko (l : List Int) (n : Nat) (hln : l.length = n) (hn : n <= 1000000) (a : Option Addr) (cap : Nat) (v : Value) (b : Int -> Bool) (w : World) (hr : Zbo (fun k => k < w.heap.size) w a l) (hv : Tells w v b l) :
  Calls Tryz.prog 229 #[.slice a n cap, v] w fun e w' => ∃ z, Zany l b z /\ e = .returned (.int .i64 z) /\ w' = w := by
 obtain ⟨f, caps, rfl, he, hc⟩ := hv
 have HR : Hid (Zbo (fun k => k < w.heap.size) w a l) := hr
 have HC : Hid (∀ x ∈ l, Calls Tryz.prog f (#[.int .i64 x] ++ caps) w fun e Y => e = .returned (.bool (b x)) /\ Y = w) := hc
 have HL : Hid (l.length = n) := hln
 clear hr hc hln
 go_enter Tryz.func229, Tryz.ntmps229
 go_upto_region 2 with fail
 go_loopg [8] n (fun gh s wr => ∃ j : Nat, gh = n - j /\ j <= n /\ s = .int .i64 (j : Int) /\ (l.take j).any b = false /\ wr = w)
 case atStart => exact ⟨0, rfl, Nat.zero_le _, rfl, rfl, rfl⟩
 case round =>
  obtain ⟨j, hgj, hj, rfl, hno, rfl⟩ := hrel
  have HNO : Hid ((l.take j).any b = false) := hno
  clear hno
  by_cases hlt : j < n
  ·have hl : j < l.length := by rw [HL.out]; exact hlt
   obtain ⟨g, o, rfl, -, d⟩ := HR.out j hl
   have r := HC.out l[j] (List.getElem_mem hl)
   have htk : l.take (j + 1) = l.take j ++ [l[j]] := List.take_succ_eq_append_getElem hl
   have hmem := List.getElem_mem hl
   obtain ⟨q, hq⟩ : ∃ q, l[j] = q := ⟨_, rfl⟩
   rw [hq] at d r htk hmem
   obtain ⟨t, ht⟩ : ∃ t, b q = t := ⟨_, rfl⟩
   rw [ht] at r
   have HT : Hid (b q = t) := ht
   have HMEM : Hid (q ∈ l) := hmem
   have HTK : Hid (l.take (j + 1) = l.take j ++ [q]) := htk
   have HRR : Hid (Calls Tryz.prog f (#[.int .i64 q] ++ caps) wr fun e Y => e = .returned (.bool t) /\ Y = wr) := r
   clear hq r htk hmem ht
   cases t with
   | false =>
    go_wp2_with fail
    refine HRR.out.mono ?_
    rintro e w2 ⟨rfl, hw2⟩
    replace hw2 := hw2.symm
    subst hw2
    clear HRR d
    go_wp2
    go_roundg (n - (j + 1))
    case rel => exact ⟨j + 1, rfl, by omega, by go_num, by rw [HTK.out, List.any_append, HNO.out]; simp [HT.out], rfl⟩
    case measure => omega
   | true =>
    go_wp2_with fail
    refine HRR.out.mono ?_
    rintro e w2 ⟨rfl, hw2⟩
    replace hw2 := hw2.symm
    subst hw2
    clear HRR d
    go_wp2
    go_ret
    exact ⟨_, .yes j (List.any_eq_true.2 ⟨q, HMEM.out, HT.out⟩), rfl, rfl⟩
  ·have hjn : j = n := by omega
   subst hjn
   clear he
   go_wp2
   go_ret
   exact ⟨_, .no (by have := HNO.out; rw [List.take_of_length_le (by rw [HL.out]; exact Nat.le_refl _)] at this; exact this), rfl, rfl⟩
theorem ze4 (l : List Int) (n : Nat) (hln : l.length = n) (hn : n <= 1000000) (a : Option Addr) (cap : Nat) (v : Value) (b : Int -> Bool) (w : World) (hr : Zbo (fun k => k < w.heap.size) w a l) (hv : Tells w v b l) :
  Calls Tryz.prog 159 #[.slice a n cap, v] w fun e w' => e = .returned (.bool (l.any b)) /\ w' = w := by
 have r := zko l n hln hn a cap v b w hr hv
 obtain ⟨q, hq⟩ : ∃ q, l.any b = q := ⟨_, rfl⟩
 rw [hq]
 have HR : Hid (Calls Tryz.prog 229 #[.slice a n cap, v] w fun e w' => ∃ z : Int, decide (z >= 0) = q /\ e = .returned (.int .i64 z) /\ w' = w) := r.mono (by
  rintro e w' ⟨z, hz, he, hw⟩
  refine ⟨z, ?_, he, hw⟩
  rw [<- hq]
  cases hz with
  | yes k h => rw [h]; exact decide_eq_true (by omega)
  | no h => rw [h]; rfl)
 clear hr hv hln r hq
 go_enter Tryz.func159, Tryz.ntmps159
 go_wp2_with fail
 refine HR.out.mono ?_
 rintro e w2 ⟨z, hz, rfl, hw2⟩
 replace hw2 := hw2.symm
 subst hw2
 have hz' : decide (0 <= z) = q := hz
 clear HR
 go_wp2
 go_ret
 first | exact ⟨rfl, rfl⟩ | exact ⟨by rw [hz'], rfl⟩ | exact ⟨by rw [hz], rfl⟩
theorem zoe (p b g n cap : Nat) (i : Int) (w : World) (hb : w.cell? ⟨b, 0, none⟩ = some (.pointer (some ⟨p, 0, none⟩))) (hc : w.cell? ⟨p, 1, none⟩ = some (.slice (some ⟨g, 0, none⟩) n cap)) (hn : n <= 1000000000) :
  Calls Tryz.prog 235 #[.int .i64 i, .pointer (some ⟨b, 0, none⟩)] w fun e w' => e = .returned (.bool (!(decide (0 <= i) && decide (i < (n : Int))))) /\ w' = w := by
 by_cases hi : i < 0 \/ (n : Int) <= i
 ·have r := zfk p n cap (some ⟨g, 0, none⟩) i w hc hi hn
  rw [zbv hi]
  clear hi
  go_enter Tryz.func235, Tryz.ntmps235
  go_wp2_with (go_at_call 110; refine r.mono ?_; rintro e w2 ⟨rfl, hw2⟩; replace hw2 := hw2.symm; subst hw2)
  go_ret
  exact ⟨rfl, rfl⟩
 ·obtain ⟨k, rfl⟩ : ∃ k : Nat, i = (k : Int) := ⟨i.toNat, by omega⟩
  rw [zal (by omega)]
  exact zlp p b g n cap k w hb hc (by omega) hn
def zlo (n : Nat) (x : Int) : Bool := !(decide (0 <= x) && decide (x < (n : Int)))
def zlq (M : Dm) (x : Int) : Bool := !zkh (M.nd x.toNat)
theorem zhw {n : Nat} {x : Int} : zlo n x = false ↔ inN n x := by
 unfold zlo inN
 by_cases h1 : 0 <= x <;> by_cases h2 : x < (n : Int) <;> simp [h1, h2]
theorem zg7 {M : Dm} {x : Int} : zlq M x = false ↔ shows M x := by
 unfold zlq zkh shows
 by_cases h1 : (M.nd x.toNat).kind = 1 <;> simp [h1]
theorem zfd (K : Nat -> Prop) (p : Nat) (slot : Int) (l : List Int) (n : Nat) (hln : l.length = n) (hnl : n <= 1000000) (a : Option Addr) (cap : Nat) (M : Dm) (w : World) (h : DX K w p M) (hn : M.n <= 1000000) (hr : Zbo (fun k => k < w.heap.size) w a l) (z : Int) (hz : Gives M slot l z) :
  Calls Tryz.prog 179 #[.pointer (some ⟨p, 0, none⟩), .int .i64 slot, .slice a n cap] w fun e w' => e = .returned (.int .u16 z) /\ Kept (fun k => k < w.heap.size) w w' := by
 obtain ⟨ga, gc, hY⟩ := h
 obtain ⟨V, hV⟩ : ∃ V, w.alloc (.cells #[.pointer (some ⟨p, 0, none⟩)] 25) = V := ⟨_, rfl⟩
 obtain ⟨b, hb⟩ : ∃ b, w.heap.size = b := ⟨_, rfl⟩
 have kV : Kept (fun k => k < w.heap.size) w V := by rw [<- hV]; exact (Kept.refl _ w).alloc (fun _ h => h) _
 have hbV : V.cell? ⟨b, 0, none⟩ = some (.pointer (some ⟨p, 0, none⟩)) := by
  rw [<- hV, <- hb, zaa (heap_alloc_new w _)]; rfl
 have hYV := hY.kept kV
 have hrV : Zbo (fun k => k < V.heap.size) V a l := hr.kept kV fun g hg => ltl hg kV.size
 have HV : Hid (w.alloc (.cells #[.pointer (some ⟨p, 0, none⟩)] 25) = V) := hV
 have HB : Hid (w.heap.size = b) := hb
 have HK : Hid (Kept (fun k => k < w.heap.size) w V) := kV
 by_cases hsl : inN M.n slot
 ·obtain ⟨s, rfl⟩ : ∃ s : Nat, slot = (s : Int) := ⟨slot.toNat, by have := hsl.1; omega⟩
  have hs : s < M.n := by have := hsl.2; omega
  obtain ⟨g, rfl, -, -, -⟩ := hYV.at (by omega)
  have c1 := hYV.c1
  have r0 := zlp p b g M.n gc s V hbV c1 hs (by omega)
  have n1 : Tells V (.func (.func 235) #[] #[.pointer (some ⟨b, 0, none⟩)]) (zlo M.n) l := ⟨235, _, rfl, enter235, fun x _ => zoe p b g M.n gc x V hbV c1 (by omega)⟩
  have q1 := ze4 l n hln hnl a cap _ _ V hrV n1
  obtain ⟨t1, ht1⟩ : ∃ t, l.any (zlo M.n) = t := ⟨_, rfl⟩
  rw [ht1] at q1
  cases t1 with
  | true =>
   have hz0 : z = 80 := hz.gOne hsl (by
    obtain ⟨x, hx, hb⟩ := List.any_eq_true.1 ht1
    exact ⟨x, hx, fun hi => by rw [zhw.2 hi] at hb; cases hb⟩)
   subst hz0
   clear hY hV hb kV hYV hrV n1 hr hln hz ht1 hsl
   go_enter Tryz.func179, Tryz.ntmps179
   go_upto_region 1 with fail
   rw [HV.out, HB.out]
   clear HV HB
   go_wp2_with (first | (go_at_call 235; with_reducible refine r0.mono ?_; rintro e w2 ⟨rfl, hw2⟩; replace hw2 := hw2.symm; subst hw2) | (go_at_call 159; with_reducible refine q1.mono ?_; rintro e w2 ⟨rfl, hw2⟩; replace hw2 := hw2.symm; subst hw2))
   go_ret
   exact ⟨rfl, HK.out⟩
  | false =>
   have hall : ∀ x ∈ l, inN M.n x := fun x hx => zhw.1 (by
    cases hm : zlo M.n x with
    | false => rfl
    | true => rw [List.any_eq_true.2 ⟨x, hx, hm⟩] at ht1; cases ht1)
   obtain ⟨aa, ac, hc, -⟩ := hYV.cell hs
   have s0 : V.cell? ⟨g, s * 22, none⟩ = some (.int .u8 ((M.nd s).kind : Int)) := hc 0 _ rfl
   have s1 : V.cell? ⟨g, s * 22 + 1, none⟩ = some (sv (M.nd s).name) := hc 1 _ rfl
   have re := zea g (s * 22) (M.nd s).kind ⟨(M.nd s).name.toArray⟩ ⟨#[115, 108, 111, 116]⟩ V s0 s1
   have n2 : Tells V (.func (.func 236) #[] #[.pointer (some ⟨b, 0, none⟩)]) (zlq M) l := ⟨236, _, rfl, enter236, fun x hx => by
    obtain ⟨k, rfl⟩ : ∃ k : Nat, x = (k : Int) := ⟨x.toNat, by have := (hall x hx).1; omega⟩
    have hk : k < M.n := by have := (hall _ hx).2; omega
    obtain ⟨aa, ac, hc, -⟩ := hYV.cell hk
    exact zqt p b g M.n gc k (M.nd k) V hbV c1 (hc 0 _ rfl) hk (by omega)⟩
   have q2 := ze4 l n hln hnl a cap _ _ V hrV n2
   obtain ⟨t2, ht2⟩ : ∃ t, l.any (zlq M) = t := ⟨_, rfl⟩
   rw [ht2] at q2
   obtain ⟨te, hte⟩ : ∃ t, (decide ((M.nd s).kind = 1) && ByteArray.toList ⟨(M.nd s).name.toArray⟩ == ByteArray.toList ⟨#[115, 108, 111, 116]⟩) = t := ⟨_, rfl⟩
   rw [hte] at re
   obtain ⟨mm, hmm⟩ : ∃ mm, M.n = mm := ⟨_, rfl⟩
   rw [hmm] at c1 hs
   cases te with
   | false =>
    have hz0 : z = 110 := hz.gSlot hsl hall (by
     rw [zf9, ByteArray.toList_eq] at hte
     show (M.nd s).kind ≠ 1 \/ (M.nd s).name ≠ zeg
     by_cases c : (M.nd s).kind = 1
     ·right
      intro e
      rw [decide_eq_true c, e] at hte
      simp at hte
     ·exact .inl c)
    subst hz0
    clear hY hV hb kV hYV hrV n1 n2 hr hln hz ht1 hsl hall hc s0 s1 hte ht2 hmm q2
    go_enter Tryz.func179, Tryz.ntmps179
    go_upto_region 1 with fail
    rw [HV.out, HB.out]
    clear HV HB
    go_wp2_with (first | (go_at_call 235; with_reducible refine r0.mono ?_; rintro e w2 ⟨rfl, hw2⟩; replace hw2 := hw2.symm; subst hw2) | (go_at_call 159; with_reducible refine q1.mono ?_; rintro e w2 ⟨rfl, hw2⟩; replace hw2 := hw2.symm; subst hw2) | (go_at_call 147; refine re.mono ?_; rintro e w2 ⟨rfl, hw2⟩; replace hw2 := hw2.symm; subst hw2))
    go_ret
    exact ⟨rfl, HK.out⟩
   | true =>
    have hel : (M.nd s).kind = 1 /\ (M.nd s).name = zeg := by
     rw [zf9, ByteArray.toList_eq] at hte
     simpa using hte
    cases t2 with
    | true =>
     have hz0 : z = 81 := hz.gShow hsl hall hel.1 hel.2 (by
      obtain ⟨x, hx, hb⟩ := List.any_eq_true.1 ht2
      exact ⟨x, hx, fun hi => by rw [zg7.2 hi] at hb; cases hb⟩)
     subst hz0
     clear hY hV hb kV hYV hrV n1 n2 hr hln hz ht1 hsl hall hc s0 s1 hte ht2 hmm hel
     go_enter Tryz.func179, Tryz.ntmps179
     go_upto_region 1 with fail
     rw [HV.out, HB.out]
     clear HV HB
     go_wp2_with (first | (go_at_call 235; with_reducible refine r0.mono ?_; rintro e w2 ⟨rfl, hw2⟩; replace hw2 := hw2.symm; subst hw2) | (go_at_call 159; with_reducible refine q1.mono ?_; rintro e w2 ⟨rfl, hw2⟩; replace hw2 := hw2.symm; subst hw2) | (go_at_call 159; with_reducible refine q2.mono ?_; rintro e w2 ⟨rfl, hw2⟩; replace hw2 := hw2.symm; subst hw2) | (go_at_call 147; refine re.mono ?_; rintro e w2 ⟨rfl, hw2⟩; replace hw2 := hw2.symm; subst hw2))
     go_ret
     exact ⟨rfl, HK.out⟩
    | false =>
     have hsh : ∀ x ∈ l, shows M x := fun x hx => zg7.1 (by
      cases hm : zlq M x with
      | false => rfl
      | true => rw [List.any_eq_true.2 ⟨x, hx, hm⟩] at ht2; cases ht2)
     by_cases h200 : n <= 200
     ·have hle : decide ((n : Int) > 200) = false := decide_eq_false (by omega)
      have hz0 : z = 0 := hz.gOk hsl hall hel.1 hel.2 hsh (by rw [hln]; exact h200)
      subst hz0
      clear hY hV hb kV hYV hrV n1 n2 hr hln hz ht1 hsl hall hc s0 s1 hte ht2 hmm hel hsh
      go_enter Tryz.func179, Tryz.ntmps179
      go_upto_region 1 with fail
      rw [HV.out, HB.out]
      clear HV HB
      go_wp2_with (first | (go_at_call 235; with_reducible refine r0.mono ?_; rintro e w2 ⟨rfl, hw2⟩; replace hw2 := hw2.symm; subst hw2) | (go_at_call 159; with_reducible refine q1.mono ?_; rintro e w2 ⟨rfl, hw2⟩; replace hw2 := hw2.symm; subst hw2) | (go_at_call 159; with_reducible refine q2.mono ?_; rintro e w2 ⟨rfl, hw2⟩; replace hw2 := hw2.symm; subst hw2) | (go_at_call 147; refine re.mono ?_; rintro e w2 ⟨rfl, hw2⟩; replace hw2 := hw2.symm; subst hw2))
      go_ret
      exact ⟨rfl, HK.out⟩
     ·have hle : decide ((n : Int) > 200) = true := decide_eq_true (by omega)
      have hz0 : z = 1 := hz.gMany hsl hall hel.1 hel.2 hsh (by rw [hln]; omega)
      subst hz0
      clear hY hV hb kV hYV hrV n1 n2 hr hln hz ht1 hsl hall hc s0 s1 hte ht2 hmm hel hsh
      go_enter Tryz.func179, Tryz.ntmps179
      go_upto_region 1 with fail
      rw [HV.out, HB.out]
      clear HV HB
      go_wp2_with (first | (go_at_call 235; with_reducible refine r0.mono ?_; rintro e w2 ⟨rfl, hw2⟩; replace hw2 := hw2.symm; subst hw2) | (go_at_call 159; with_reducible refine q1.mono ?_; rintro e w2 ⟨rfl, hw2⟩; replace hw2 := hw2.symm; subst hw2) | (go_at_call 159; with_reducible refine q2.mono ?_; rintro e w2 ⟨rfl, hw2⟩; replace hw2 := hw2.symm; subst hw2) | (go_at_call 147; refine re.mono ?_; rintro e w2 ⟨rfl, hw2⟩; replace hw2 := hw2.symm; subst hw2))
      go_ret
      exact ⟨rfl, HK.out⟩
 ·have hz0 : z = 80 := hz.gNone hsl
  subst hz0
  have hno : slot < 0 \/ (M.n : Int) <= slot := by
   unfold inN at hsl
   omega
  have c1 := hYV.c1
  have ra := zfk p M.n gc ga slot V c1 hno (by omega)
  have r0 : Calls Tryz.prog 235 #[.int .i64 slot, .pointer (some ⟨b, 0, none⟩)] V fun e w' => e = .returned (.bool true) /\ w' = V := by
   clear hY hV hb kV hYV hrV hr hln hz hsl hno HV HB HK
   go_enter Tryz.func235, Tryz.ntmps235
   go_wp2_with (go_at_call 110; refine ra.mono ?_; rintro e w2 ⟨rfl, hw2⟩; replace hw2 := hw2.symm; subst hw2)
   go_ret
   exact ⟨rfl, rfl⟩
  clear hY hV hb kV hYV hrV hr hln hz hsl hno ra c1
  go_enter Tryz.func179, Tryz.ntmps179
  go_upto_region 1 with fail
  rw [HV.out, HB.out]
  clear HV HB
  go_wp2_with (go_at_call 235; with_reducible refine r0.mono ?_; rintro e w2 ⟨rfl, hw2⟩; replace hw2 := hw2.symm; subst hw2)
  go_ret
  exact ⟨rfl, HK.out⟩
structure Zlm (S : Dm) (slot : Nat) (l : List Nat) : Prop where
 slt : slot < S.n
 all : ∀ i ∈ l, i < S.n
 few : l.length <= 200
 gives : Gives S (slot : Int) (l.map fun k : Nat => (k : Int)) 0
theorem zn4 (K : Nat -> Prop) (p slot : Nat) (l : List Nat) (n : Nat) (hln : l.length = n) (a : Option Addr) (cap : Nat) (S : Dm) (G : Nat -> List Nat) (w : World) (h : DX K w p S) (hW : WF S.n S.gf G) (hG : Zlm S slot l) (hn : S.n <= 1000000) (hr : Zr3 w a l) (hra : ∀ g o, a = some ⟨g, o, none⟩ -> l ≠ [] -> K g) :
  Calls Tryz.prog 103 #[.pointer (some ⟨p, 0, none⟩), .int .i64 (slot : Int), .slice a n cap] w fun e w' => e = .returned (.int .u16 0) /\ DX K w' p (S.setG (zbi (zcj S.gf (G slot)) slot l)) /\ Kept K w w' := by
 have rm := zfd K p (slot : Int) (l.map fun k : Nat => (k : Int)) n (by rw [List.length_map]; exact hln) (by have := hG.few; omega) a cap S w h hn (fun j hj => by
  rw [List.length_map] at hj
  obtain ⟨g, o, e, d⟩ := hr j hj
  exact ⟨g, o, e, h.lt g (hra g o e (fun e' => by rw [e'] at hj; cases hj)), by rw [List.getElem_map]; exact d⟩) 0 hG.gives
 obtain ⟨ga, gc, hY⟩ := h
 obtain ⟨g, rfl, -, -, -⟩ := hY.at (by have := hG.slt; omega)
 have RR : Hid (∀ X, Kept (fun k => k < w.heap.size) w X -> Calls Tryz.prog 113 #[chG p, .int .i64 (slot : Int)] X fun e w' => ∃ ao c, e = .returned (.slice ao (G slot).length c) /\ Zac (fun k => k < X.heap.size) w' 3 1 ao (G slot).length c (ivs (G slot)) /\ Kept (fun k => k < X.heap.size) X w') := fun X hX => zsn K p g gc slot S G X (hY.kept hX) hW hG.slt hn
 have hQl := hW.len_le hG.slt
 have hQlt := hW.lt slot hG.slt
 obtain ⟨Q, hQ⟩ : ∃ Q, G slot = Q := ⟨_, rfl⟩
 rw [hQ] at RR hQl hQlt ⊢
 have HY : Hid (DY K w p S (some ⟨g, 0, none⟩) gc) := hY
 have HWX : Hid (WFx S.n S.gf) := ⟨G, hW⟩
 have HQL : Hid (∀ i ∈ Q, i < S.n) := hQlt
 have HG : Hid (Zlm S slot l) := hG
 have HR : Hid (Zr3 w a l) := hr
 have HRA : Hid (∀ g o, a = some ⟨g, o, none⟩ -> l ≠ [] -> K g) := hra
 have HLN : Hid (l.length = n) := hln
 have hn200 : n <= 200 := by rw [<- hln]; exact hG.few
 have hQ6 : Q.length <= 1000000 := by omega
 have HNN : Hid (S.n <= 1000000) := hn
 clear hY hW hG hr hra hln hQ hQl hQlt hn
 go_enter Tryz.func103, Tryz.ntmps103
 go_wp2_with fail
 refine rm.mono ?_
 rintro e w1 ⟨rfl, k1⟩
 have rr := RR.out w1 k1
 have HRR : Hid (Calls Tryz.prog 113 #[chG p, .int .i64 (slot : Int)] w1 fun e w' => ∃ ao c, e = .returned (.slice ao Q.length c) /\ Zac (fun k => k < w1.heap.size) w' 3 1 ao Q.length c (ivs Q) /\ Kept (fun k => k < w1.heap.size) w1 w') := rr
 have HK1 : Hid (Kept (fun k => k < w.heap.size) w w1) := k1
 clear rm rr RR k1
 go_wp2_with (go_at_call 180; refine (zhh _ _).mono ?_; rintro e w2 ⟨rfl, hw2⟩; replace hw2 := hw2.symm; subst hw2)
 refine HRR.out.mono ?_
 rintro e w2 ⟨ao, c, rfl, hO, hK2⟩
 obtain ⟨K2, hK2e⟩ : ∃ K2 : Nat -> Prop, (fun k => K k \/ zap ao k) = K2 := ⟨_, rfl⟩
 have kk : Kept (fun k => k < w.heap.size) w w2 := kt HK1.out hK2
 have hY2 : DY K2 w2 p S (some ⟨g, 0, none⟩) gc := by
  rw [<- hK2e]
  refine HY.out.more kk (fun k hk => ?_) (fun k hk => ?_)
  ·rcases hk with hk | hk
   ·exact .inl hk
   ·exact .inr (Nat.le_trans HK1.out.size (Nat.le_of_not_lt (Zac.out hO hk).1))
  ·rcases hk with hk | hk
   ·exact ltl (HY.out.1 k hk) kk.size
   ·exact (Zac.out hO hk).2
 have HO : Hid (Zac (fun k => k < w1.heap.size) w2 3 1 ao Q.length c (ivs Q)) := hO
 have HY2 : Hid (DY K2 w2 p S (some ⟨g, 0, none⟩) gc) := hY2
 have HK2 : Hid ((fun k => K k \/ zap ao k) = K2) := hK2e
 have HKW : Hid (Kept K w w2) := kk.mono HY.out.1
 obtain ⟨N, hN⟩ : ∃ N, Q.length = N := ⟨_, rfl⟩
 rw [hN] at hQ6 ⊢
 have HN : Hid (Q.length = N) := hN
 clear hO hK2 hY2 hK2e kk hN HRR
 go_upto_region 6 with fail
 go_loopg [26] N (fun gh v wr => ∃ j : Nat, gh = N - j /\ j <= N /\ v = .int .i64 (j : Int) /\ DY K2 wr p (S.setG (zcj S.gf (Q.take j))) (some ⟨g, 0, none⟩) gc /\ Kept K2 w2 wr)
 case atStart => exact ⟨0, rfl, Nat.zero_le _, rfl, HY2.out, Kept.refl _ _⟩
 case round =>
  obtain ⟨j, hgj, hj, rfl, hYj, hKj⟩ := hrel
  by_cases hlt : j < N
  ·have hl : j < Q.length := by rw [HN.out]; exact hlt
   obtain ⟨R', hW'⟩ := HWX.out.outs (Q.take j) (fun q hq => HQL.out q (List.mem_of_mem_take hq))
   have hQj : Q[j] < S.n := HQL.out Q[j] (List.getElem_mem hl)
   have rt := zgx K2 p g gc Q[j] (S.setG (zcj S.gf (Q.take j))) R' wr hYj hW' hQj (by have := HNN.out; show S.n <= _; omega)
   obtain ⟨gq, hgq, hcell⟩ := HO.out.cell (j := j) (u := iv Q[j]) (by simp [ivs, hl])
   have hcw : wr.cell? ⟨gq, j, none⟩ = some (.int .i64 (Q[j] : Int)) := by
    rw [hKj.cell (p := ⟨gq, j, none⟩) (by rw [<- HK2.out]; exact .inr hgq)]
    exact hcell
   have e1 : zct (zcj S.gf (Q.take j)) Q[j] = zcj S.gf (Q.take (j + 1)) := by
    rw [List.take_succ_eq_append_getElem hl, zht]; rfl
   have rt' : Calls Tryz.prog 171 #[chG p, .int .i64 (Q[j] : Int)] wr fun e w' => e = .returned (.tuple #[]) /\ DY K2 w' p (S.setG (zcj S.gf (Q.take (j + 1)))) (some ⟨g, 0, none⟩) gc /\ Kept K2 wr w' := by
    rw [<- e1]; exact rt
   subst hgq
   obtain ⟨q, hq⟩ : ∃ q, Q[j] = q := ⟨_, rfl⟩
   rw [hq] at rt' hcw
   have HKj : Hid (Kept K2 w2 wr) := hKj
   clear rt e1 hcell hYj hKj hq hQj hW'
   go_wp2_with fail
   refine rt'.mono ?_
   rintro e w3 ⟨rfl, hY3, hK3⟩
   have HY3 : Hid (DY K2 w3 p (S.setG (zcj S.gf (Q.take (j + 1)))) (some ⟨g, 0, none⟩) gc) := hY3
   have HK3 : Hid (Kept K2 w2 w3) := HKj.out.trans hK3
   clear rt' hY3 hK3 hcw
   go_wp2
   go_roundg (N - (j + 1))
   case rel => exact ⟨j + 1, rfl, by omega, by go_num, HY3.out, HK3.out⟩
   case measure => omega
  ·have hjN : j = N := by omega
   subst hjN
   have hall : Q.take j = Q := List.take_of_length_le (by rw [HN.out]; exact Nat.le_refl _)
   rw [hall] at hYj
   obtain ⟨L0, hL0⟩ : ∃ L0, zcj S.gf Q = L0 := ⟨_, rfl⟩
   have hWX0 := HWX.out.outs Q HQL.out
   rw [hL0] at hYj hWX0
   have HL0 : Hid (zcj S.gf Q = L0) := hL0
   have HWX0 : Hid (WFx S.n L0) := hWX0
   have HYF : Hid (DY K wr p (S.setG L0) (some ⟨g, 0, none⟩) gc) := hYj.more (Kept.refl _ _) (fun k hk => .inl (by rw [<- HK2.out]; exact .inl hk)) (fun k hk => hYj.1 k (by rw [<- HK2.out]; exact .inl hk))
   have HKF : Hid (Kept K w wr) := HKW.out.trans (hKj.mono fun k hk => by rw [<- HK2.out]; exact .inl hk)
   obtain ⟨W5, rfl⟩ : ∃ W5, W5 = wr := ⟨_, rfl⟩
   clear hYj hKj hall hL0 hWX0 HO HY2 HK2 HKW
   go_upto_region 11 with fail
   go_loopg [36] n (fun gh2 s wy => ∃ j2 : Nat, gh2 = n - j2 /\ j2 <= n /\ s = .int .i64 (j2 : Int) /\ DX K wy p (S.setG (zbi L0 slot (l.take j2))) /\ Kept K w wy)
   case atStart => exact ⟨0, rfl, Nat.zero_le _, rfl, ⟨_, _, HYF.out⟩, HKF.out⟩
   case round =>
    obtain ⟨j2, hg2, hj2, rfl, hX5, hK5⟩ := hrel
    by_cases hl2 : j2 < n
    ·have hl : j2 < l.length := by rw [HLN.out]; exact hl2
     have hmem := List.getElem_mem hl
     have hli := HG.out.all l[j2] hmem
     obtain ⟨x, o, rfl, d⟩ := HR.out j2 hl
     have hd : wr.cell? ⟨x, o + j2, none⟩ = some (.int .i64 (l[j2] : Int)) := (hK5.cell (p := ⟨x, o + j2, none⟩) (HRA.out x o rfl (fun e => by rw [e] at hl; cases hl))).trans d
     have hn9 : (S.setG (zbi L0 slot (l.take j2))).n <= 1000000000 := by have := HNN.out; show S.n <= _; omega
     have rs := zmq K p l[j2] _ wr hX5 hli hn9
     obtain ⟨R5, hW5⟩ := HWX0.out.adds HG.out.slt (l.take j2) (fun i hi => HG.out.all i (List.mem_of_mem_take hi))
     have e1 : zbi L0 slot (l.take (j2 + 1)) = if (zbi L0 slot (l.take j2) l[j2]).up = (slot : Int) then zbi L0 slot (l.take j2) else zdn (zbi L0 slot (l.take j2)) slot l[j2] (-1) := by
      rw [List.take_succ_eq_append_getElem hl, zh6]; rfl
     obtain ⟨ga5, gc5, hY5⟩ := hX5
     obtain ⟨g5, rfl, -, -, -⟩ := hY5.at (by show 0 < S.n; omega)
     have rp : Calls Tryz.prog 181 #[chG p, .int .i64 (slot : Int), .int .i64 (l[j2] : Int), .int .i64 (-1)] wr fun e w' => e = .returned (.tuple #[]) /\ DY K w' p ((S.setG (zbi L0 slot (l.take j2))).setG (zdn (S.setG (zbi L0 slot (l.take j2))).gf slot l[j2] (-1))) (some ⟨g5, 0, none⟩) gc5 /\ Kept K wr w' := by
      by_cases cs : slot = l[j2]
      ·rw [<- cs]; exact zn3 K p g5 gc5 slot (S.setG (zbi L0 slot (l.take j2))) R5 wr hY5 hW5 HG.out.slt hn9
      ·exact zsq K p g5 gc5 slot l[j2] (-1) (S.setG (zbi L0 slot (l.take j2))) R5 wr hY5 hW5 HG.out.slt hli cs (.inl rfl) hn9
     obtain ⟨z, hz⟩ : ∃ z, (zbi L0 slot (l.take j2) l[j2]).up = z := ⟨_, rfl⟩
     have rs' : Calls Tryz.prog 124 #[.pointer (some ⟨p, 0, none⟩), .int .i64 (l[j2] : Int)] wr fun e w' => e = .returned (.int .i64 z) /\ w' = wr := by rw [<- hz]; exact rs
     rw [hz] at e1
     obtain ⟨q, hq⟩ : ∃ q, l[j2] = q := ⟨_, rfl⟩
     rw [hq] at hd rs' rp e1
     have HY5 : Hid (DY K wr p (S.setG (zbi L0 slot (l.take j2))) (some ⟨g5, 0, none⟩) gc5) := hY5
     have HK5 : Hid (Kept K w wr) := hK5
     have HE1 : Hid (zbi L0 slot (l.take (j2 + 1)) = if z = (slot : Int) then zbi L0 slot (l.take j2) else zdn (zbi L0 slot (l.take j2)) slot q (-1)) := e1
     have HRP : Hid (Calls Tryz.prog 181 #[chG p, .int .i64 (slot : Int), .int .i64 (q : Int), .int .i64 (-1)] wr fun e w' => e = .returned (.tuple #[]) /\ DY K w' p (S.setG (zdn (zbi L0 slot (l.take j2)) slot q (-1))) (some ⟨g5, 0, none⟩) gc5 /\ Kept K wr w') := rp
     clear rs rp hY5 hK5 e1 hW5 d hz hq hmem hli
     by_cases cz : z = (slot : Int)
     ·subst cz
      have he := HE1.out
      rw [if_pos rfl] at he
      have HE : Hid (zbi L0 slot (l.take (j2 + 1)) = zbi L0 slot (l.take j2)) := he
      clear he HE1 HRP
      go_wp2_with (go_at_call 124; refine rs'.mono ?_; rintro e w6 ⟨rfl, hw6⟩; replace hw6 := hw6.symm; subst hw6)
      go_roundg (n - (j2 + 1))
      case rel => exact ⟨j2 + 1, rfl, by omega, by go_num, by rw [HE.out]; exact ⟨_, _, HY5.out⟩, HK5.out⟩
      case measure => omega
     ·have he := HE1.out
      rw [if_neg cz] at he
      have HE : Hid (zbi L0 slot (l.take (j2 + 1)) = zdn (zbi L0 slot (l.take j2)) slot q (-1)) := he
      have hne : (z != (slot : Int)) = true := by simpa using cz
      clear he HE1 cz
      go_wp2_with (go_at_call 124; refine rs'.mono ?_; rintro e w6 ⟨rfl, hw6⟩; replace hw6 := hw6.symm; subst hw6)
      refine HRP.out.mono ?_
      rintro e w7 ⟨rfl, hY7, hK7⟩
      have HX7 : Hid (DX K w7 p (S.setG (zbi L0 slot (l.take (j2 + 1))))) := by rw [HE.out]; exact ⟨_, _, hY7⟩
      have HK7 : Hid (Kept K w w7) := HK5.out.trans hK7
      clear HRP hY7 hK7 rs' hd
      go_wp2
      go_roundg (n - (j2 + 1))
      case rel => exact ⟨j2 + 1, rfl, by omega, by go_num, HX7.out, HK7.out⟩
      case measure => omega
    ·have hjn : j2 = n := by omega
     subst hjn
     have hall : l.take j2 = l := List.take_of_length_le (by rw [HLN.out]; exact Nat.le_refl _)
     rw [hall] at hX5
     have HX5 : Hid (DX K wr p (S.setG (zbi L0 slot l))) := hX5
     have HK5 : Hid (Kept K w wr) := hK5
     clear hX5 hK5 hall
     go_wp2
     go_ret
     exact ⟨rfl, by have := HX5.out; rw [<- HL0.out] at this; exact this, HK5.out⟩
theorem zqw (K : Nat -> Prop) (p : Nat) (slot : Int) (l : List Int) (n : Nat) (hln : l.length = n) (hnl : n <= 1000000) (a : Option Addr) (cap : Nat) (M : Dm) (w : World) (h : DX K w p M) (hn : M.n <= 1000000) (hr : Zbo (fun k => k < w.heap.size) w a l) (z : Int) (hz : Gives M slot l z) (hz0 : z ≠ 0) :
  Calls Tryz.prog 103 #[.pointer (some ⟨p, 0, none⟩), .int .i64 slot, .slice a n cap] w fun e w' => e = .returned (.int .u16 z) /\ Kept (fun k => k < w.heap.size) w w' := by
 have rm := zfd K p slot l n hln hnl a cap M w h hn hr z hz
 have hzn : (z != 0) = true := by simpa using hz0
 clear h hr hz hln
 go_enter Tryz.func103, Tryz.ntmps103
 go_wp2_with (go_at_call 179; refine rm.mono ?_; rintro e w1 ⟨rfl, k1⟩)
 go_ret
 exact ⟨rfl, k1⟩
end
end Go.Proofs.YtfeinppedejlpaaGreat
