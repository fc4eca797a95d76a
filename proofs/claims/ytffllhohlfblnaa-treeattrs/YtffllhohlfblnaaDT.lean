/-
  What the document's reader does with a tag.
-/
import Derived.Test.YtffllhohlfblnaaDK
import Derived.Test.YtffllhohlfblnaaDG
namespace Go.Proofs.Ytffllhohlfblnaa
open Go.RowKit Go.Sort

set_option maxRecDepth 20000 in
set_option maxHeartbeats 40000000 in
theorem dtag (s : List UInt8) (K : Nat → Prop) (p : Nat) (st : TS) (w : World) (h : DX s K w p st) (hs : s.length < 100000) (hp : pot st ≤ 700000000) (kind n : Nat) (hkd : kind = 1 ∨ kind = 2) (hn : n ≤ st.rest.length) (hn2 : n ≤ 2) :
    Calls Try.prog 30 #[.pointer (some ⟨p, 0, none⟩), .int .u8 kind, .int .i64 n] w fun e w' => e = .returned (.tuple #[]) ∧ ∃ D, (D = (st.endT.cut n).tag kind st.pl ∨ D = ((st.endT.cut n).tag kind st.pl).endT) ∧ D.run = ((st.endT.cut n).tag kind st.pl).run ∧ DX s K w' p D ∧ Kept K w w' := by
  have hlen := h.len
  have hE := endT_rest st
  have hpE := pot_endT hp
  have r1 := ddone s K p st w h (by omega)
  obtain ⟨a, ha⟩ : ∃ a, st.pl = a := ⟨_, rfl⟩
  obtain ⟨y, hy⟩ : ∃ y, st.endT.cut n = y := ⟨_, rfl⟩
  have hyt : y.text = [] := by rw [← hy]; exact endT_text st
  have hyp : y.pl = a + n := by rw [← hy, ← ha]; show st.endT.pl + n = _; rw [hE.2]
  have hypot : pot y ≤ 700000000 := by
    rw [← hy]
    unfold pot at hpE ⊢
    show st.endT.toks.length + st.endT.flts.length + st.endT.text.length + 16 * (st.endT.rest.drop n).length ≤ _
    rw [List.length_drop]
    omega
  obtain ⟨c, hc⟩ : ∃ c, y.cutTo (hdIn (blk ++ [47, 62])) = c := ⟨_, rfl⟩
  obtain ⟨nm, hnm⟩ : ∃ x, nmL (y.front (hdIn (blk ++ [47, 62]))) = x := ⟨_, rfl⟩
  obtain ⟨RES, hRES⟩ : ∃ R, TS.tagF c.rest.length.succ c [] = R := ⟨_, rfl⟩
  obtain ⟨T, hT⟩ : ∃ T, y.tag kind a = T := ⟨_, rfl⟩
  have HT : Hid (T = if RES.ok = true then (if kind = 2 then RES.st.add ⟨2, nm, [], false, [], a⟩ else (RES.st.add ⟨kind, nm, RES.attrs, RES.self, [], a⟩).inside nm) else RES.st) := by
    show T = _
    rw [← hT, ← hRES, ← hc, ← hnm]
    rfl
  rw [ha, hy, hT]
  have hct : c.text = [] := by rw [← hc]; exact hyt
  have hself : RES.st = RES.st.wt c.toks c.text c.tat := by
    have := tagF_wt c.toks c.text c.tat c.rest.length.succ c []
    rw [show c.wt c.toks c.text c.tat = c from rfl, hRES] at this
    exact congrArg Tg.st this
  have HRT : Hid (RES.st.text = [] ∧ RES.st.toks = c.toks) := by
    have e1 : RES.st.toks = (RES.st.wt c.toks c.text c.tat).toks := congrArg TS.toks hself
    have e2 : RES.st.text = (RES.st.wt c.toks c.text c.tat).text := congrArg TS.text hself
    exact ⟨e2.trans hct, e1⟩
  have hcl : c.pl + c.rest.length = st.pl + st.rest.length := by
    have h1 : c.pl + c.rest.length = y.pl + y.rest.length := by rw [← hc]; exact (mv_cutTo y _).sum
    have h2 : y.rest.length + n = st.rest.length := by rw [← hy]; show (st.endT.rest.drop n).length + n = _; rw [hE.1, List.length_drop]; omega
    omega
  have hFc : Fit 700000000 c := ⟨by omega, by rw [← hc]; unfold pot at hypot ⊢; show y.toks.length + y.flts.length + y.text.length + 16 * (y.rest.drop _).length ≤ _; rw [List.length_drop]; omega⟩
  have q1 := fun K1 X hX => dname s K1 p y X hX hs [47, 62] (by decide)
  simp only [hc, hnm] at q1
  have HC : Hid (∀ K1 X, DX s K1 X p st.endT → X.cell? ⟨p, 1, none⟩ = some (.int .i64 (a : Int)) ∧ X.frozen? ⟨p, 1, none⟩ = false ∧ DX s K1 (X.setCell ⟨p, 1, none⟩ (.int .i64 ((a : Int) + (n : Int)))) p y ∧ Kept K1 X (X.setCell ⟨p, 1, none⟩ (.int .i64 ((a : Int) + (n : Int))))) := by
    intro K1 X hX
    have c1 := hX.cells.2.1
    rw [hE.2, ha] at c1
    obtain ⟨q1, q2⟩ := hX.cutAt (m := n) (by rw [hE.1]; exact hn) (n := (a : Int) + (n : Int)) (by rw [hE.2, ha]; omega)
    rw [hy] at q1
    exact ⟨c1, hX.cells.2.2 1, q1, q2⟩
  obtain ⟨S, hS⟩ : ∃ S : ByteArray, (⟨s.toArray⟩ : ByteArray) = S := ⟨_, rfl⟩
  have sS : S.size = s.length := by rw [← hS]; exact sv_size _
  have hzS : S.size < 100000 := by omega
  have HS : Hid ((⟨s.toArray⟩ : ByteArray) = S) := hS
  have HSS : Hid (S.size = s.length) := sS
  have HRES : Hid (TS.tagF c.rest.length.succ c [] = RES) := hRES
  have HFC : Hid (Fit 700000000 c) := hFc
  have haS : a < 100000 := by omega
  clear h hlen hE hp hpE hyt hyp hypot hy hc hnm hRES hT hct hself hcl hFc hS sS hn ha
  go_enter Try.func30, Try.ntmps30
  go_wp2_with fail
  refine r1.mono ?_
  rintro e w1 ⟨rfl, x1, k1⟩
  clear r1
  -- the token that is made
  obtain ⟨M, hM⟩ : ∃ M, w1.heap.size = M := ⟨_, rfl⟩
  obtain ⟨K1, hK1⟩ : ∃ K1 : Nat → Prop, (fun k => K k ∨ k = M) = K1 := ⟨_, rfl⟩
  have x1a := x1.allocK (.cells #[.int .u8 (kind : Int), .string ⟨#[]⟩, .slice none 0 0, .bool false, .string ⟨#[]⟩, .int .i64 (a : Int)] 43)
  have hb1 := heap_alloc_new w1 (.cells #[.int .u8 (kind : Int), .string ⟨#[]⟩, .slice none 0 0, .bool false, .string ⟨#[]⟩, .int .i64 (a : Int)] 43)
  rw [hM] at x1a hb1
  rw [hK1] at x1a
  have c1 := (HC.out K w1 x1).1
  have HKK : Hid (∀ k, K k → K1 k) := by rw [← hK1]; exact fun k h => .inl h
  have HKM : Hid (K1 M ∧ ¬ K M) := by rw [← hK1]; exact ⟨.inr rfl, fun h => by have := x1.lt M h; omega⟩
  have kA : Kept K w (w1.alloc (.cells #[.int .u8 (kind : Int), .string ⟨#[]⟩, .slice none 0 0, .bool false, .string ⟨#[]⟩, .int .i64 (a : Int)] 43)) := k1.alloc x1.lt _
  obtain ⟨WA, hWA⟩ : ∃ W, w1.alloc (.cells #[.int .u8 (kind : Int), .string ⟨#[]⟩, .slice none 0 0, .bool false, .string ⟨#[]⟩, .int .i64 (a : Int)] 43) = W := ⟨_, rfl⟩
  have HWA : Hid (w1.alloc (.cells #[.int .u8 (kind : Int), .string ⟨#[]⟩, .slice none 0 0, .bool false, .string ⟨#[]⟩, .int .i64 (a : Int)] 43) = WA) := hWA
  rw [hWA] at x1a hb1 kA
  obtain ⟨d1, g1, x2, k2⟩ := HC.out K1 WA x1a
  have hb2 := (k2.block M HKM.out.1).trans hb1
  obtain ⟨WB, hWB⟩ : ∃ W, WA.setCell ⟨p, 1, none⟩ (.int .i64 ((a : Int) + (n : Int))) = W := ⟨_, rfl⟩
  have HWB : Hid (WA.setCell ⟨p, 1, none⟩ (.int .i64 ((a : Int) + (n : Int))) = WB) := hWB
  rw [hWB] at x2 k2 hb2
  have kB : Kept K w WB := kA.trans (k2.mono HKK.out)
  replace q1 := q1 K1 WB x2
  clear x1 k1 x1a hK1 hWA hWB kA k2 x2 HC hb1
  go_upto_region 2 with fail
  rw [HWA.out]
  clear HWA c1 hM
  go_upto_region 3 with fail
  rw [HWB.out]
  clear HWB d1 g1
  go_wp2_with fail
  refine q1.mono ?_
  rintro e w3 ⟨rfl, x3, k3⟩
  have hb3 := (k3.block M HKM.out.1).trans hb2
  have x4 := x3.setK HKM.out.1 1 (sv nm)
  have hb4 := heap_setCell_at hb3 1 (sv nm)
  have k4 : Kept K w (w3.setCell ⟨M, 1, none⟩ (sv nm)) := (kB.trans (k3.mono HKK.out)).setCell (p := ⟨M, 1, none⟩) HKM.out.2 _
  have f3 : w3.frozen? ⟨M, 1, none⟩ = false := frozen_block hb3 _
  have e3 : w3.cell? ⟨M, 1, none⟩ = some (.string ⟨#[]⟩) := by rw [cell_block hb3]; rfl
  obtain ⟨W4, hW4⟩ : ∃ W, w3.setCell ⟨M, 1, none⟩ (sv nm) = W := ⟨_, rfl⟩
  have HW4 : Hid (w3.setCell ⟨M, 1, none⟩ (sv nm) = W4) := hW4
  rw [hW4] at x4 hb4 k4
  have HST : Hid (DX s K1 W4 p c ∧ W4.heap[M]? = some (.cells #[.int .u8 (kind : Int), sv nm, .slice none 0 0, .bool false, .string ⟨#[]⟩, .int .i64 (a : Int)] 43 (0, 0)) ∧ Kept K w W4) := ⟨x4, hb4, k4⟩
  clear q1 x3 k3 hb3 x4 hb4 k4 hW4 kB hb2
  go_upto_block 0 with fail
  rw [HW4.out]
  clear HW4 e3 f3
  go_cut [] (fun wx => ∃ (attrs : List Atr) (aa : Option Addr) (ac : Nat), RES.ok = true ∧ RES.attrs = attrs ∧ DX s (fun k => K1 k ∨ blkOf aa k) wx p RES.st ∧ OwnZ K1 wx 41 2 aa attrs.length ac (atrCells attrs) ∧ wx.heap[M]? = some (.cells #[.int .u8 (kind : Int), sv nm, .slice aa attrs.length ac, .bool RES.self, .string ⟨#[]⟩, .int .i64 (a : Int)] 43 (0, 0)) ∧ attrs.length ≤ 50 ∧ Fit 700000002 RES.st ∧ Kept K w wx)
  case first =>
    go_wp2_with fail
    go_loopg [7] c.rest.length (fun gm v wr => ∃ (st' : TS) (attrs : List Atr) (aa : Option Addr) (ac : Nat), gm = st'.rest.length ∧ TS.tagF st'.rest.length.succ st' attrs = RES ∧ DX s (fun k => K1 k ∨ blkOf aa k) wr p st' ∧ OwnZ K1 wr 41 2 aa attrs.length ac (atrCells attrs) ∧ wr.heap[M]? = some (.cells #[.int .u8 (kind : Int), sv nm, .slice aa attrs.length ac, .bool false, .string ⟨#[]⟩, .int .i64 (a : Int)] 43 (0, 0)) ∧ attrs.length ≤ 50 ∧ Fit 700000000 st' ∧ Kept K w wr)
    case atStart => exact ⟨c, [], none, 0, rfl, HRES.out, HST.out.1.weaken (fun k h => h.elim id (fun h => by cases h)), OwnZ.nil _ _ _ _, HST.out.2.1, Nat.zero_le _, HFC.out, HST.out.2.2⟩
    case round =>
      clear HST HRES HFC
      obtain ⟨st', attrs, aa, ac, hgm, hTG, hX, how, hMB, hal, hfit, kp⟩ := hrel
      obtain ⟨WO, hWO⟩ : ∃ WO, WO = wr := ⟨_, rfl⟩
      subst hWO
      obtain ⟨K2, hK2⟩ : ∃ K2 : Nat → Prop, (fun k => K1 k ∨ blkOf aa k) = K2 := ⟨_, rfl⟩
      rw [hK2] at hX
      have HK2 : Hid ((fun k => K1 k ∨ blkOf aa k) = K2) := hK2
      have HK12 : Hid (∀ k, K1 k → K2 k) := by rw [← hK2]; exact fun k h => .inl h
      have HMB : Hid (∀ X, Kept K2 WO X → OwnZ K1 X 41 2 aa attrs.length ac (atrCells attrs) ∧ X.heap[M]? = some (.cells #[.int .u8 (kind : Int), sv nm, .slice aa attrs.length ac, .bool false, .string ⟨#[]⟩, .int .i64 (a : Int)] 43 (0, 0)) ∧ Kept K w X) := fun X hX => by
        refine ⟨how.to (fun g hg => (how.out hg).1) (fun g hg => hX.block g (by rw [← hK2]; exact .inr hg)), (hX.block M (HK12.out M HKM.out.1)).trans hMB, kp.trans (hX.mono fun k hk => HK12.out k (HKK.out k hk))⟩
      obtain ⟨R2, hR2⟩ : ∃ R, st'.cutTo (hdOut sla) = R := ⟨_, rfl⟩
      obtain ⟨SL, hSL⟩ : ∃ q, slP (st'.front (hdOut sla)) = q := ⟨_, rfl⟩
      have hTG2 := tagF_here (attrs := attrs) (Nat.lt_succ_self st'.rest.length)
      rw [hTG, hR2, hSL] at hTG2
      have HTG : Hid (RES = if R2.rest = [] then ⟨R2.flt 6 R2.pl, attrs, false, false⟩ else if pre [62] R2.rest = true then ⟨R2.cut 1, attrs, SL, true⟩ else TS.tagF (R2.attr attrs).st.rest.length.succ (R2.attr attrs).st (R2.attr attrs).attrs) := hTG2
      have HSL : Hid (∀ k, (st'.cut k).pl = R2.pl → slP (st'.rest.take k) = SL) := by
        intro k hk
        rw [← hSL]
        have : k = upTo (hdOut sla) st'.rest := by
          have e : st'.pl + k = st'.pl + upTo (hdOut sla) st'.rest := by rw [← hR2] at hk; exact hk
          omega
        rw [this]
        rfl
      have HX0 : Hid (DX s K2 WO p st') := hX
      have HR2 : Hid (st'.cutTo (hdOut sla) = R2) := hR2
      have hfit2 : Fit 700000000 R2 := by rw [← hR2]; exact hfit.cutTo _
      have hle2 : R2.rest.length ≤ st'.rest.length := by rw [← hR2]; exact (mv_cutTo st' _).le
      have HFIT : Hid (Fit 700000000 R2 ∧ R2.rest.length ≤ st'.rest.length) := ⟨hfit2, hle2⟩
      have HAL : Hid (attrs.length ≤ 50) := hal
      have HXT : Hid True := trivial
      have HSL2 : Hid True := trivial
      have HGM : Hid (gk = st'.rest.length) := hgm
      clear hX how hMB hal hfit kp hK2 hR2 hSL hTG hTG2 hfit2 hle2 hgm
      go_upto_block 2 with fail
      go_cut [7] (fun s7 wx => s7 = .bool SL ∧ DX s K2 wx p R2 ∧ Kept K2 WO wx)
      case first =>
        clear HXT HMB HFIT HAL HTG HSL2
        go_wp2_with fail
        go_loopg [7] st'.rest.length (fun gm sv7 wr => ∃ (k : Nat), gm = st'.rest.length - k ∧ k ≤ st'.rest.length ∧ sv7 = .bool (slP (st'.rest.take k)) ∧ (st'.cut k).cutTo (hdOut sla) = R2 ∧ DX s K2 wr p (st'.cut k) ∧ Kept K2 WO wr)
        case atStart => exact ⟨0, rfl, Nat.zero_le _, rfl, HR2.out, HX0.out, Kept.refl _ _⟩
        case round =>
          clear HX0 HR2
          obtain ⟨k, hgk, hk, rfl, hR, hX, kp⟩ := hrel
          obtain ⟨c0, c1, -⟩ := hX.cells
          replace c0 : wr.cell? ⟨p, 0, none⟩ = some (.string S) := by rw [← HS.out]; exact c0
          have hlen := hX.len
          rw [← HSS.out] at hlen
          have hrk : (st'.cut k).rest = st'.rest.drop k := rfl
          by_cases hE : (st'.cut k).rest = []
          · have e1 : decide (((st'.cut k).pl : Int) < (S.size : Int)) = false := decide_eq_false (by rw [hE] at hlen; simp only [List.length_nil] at hlen; omega)
            have n1 : ¬ (st'.cut k).pl < S.size := by rw [hE] at hlen; simp only [List.length_nil] at hlen; omega
            rw [cutTo_here (.inl hE)] at hR
            have HO : Hid (∀ m, DX s K2 (wr.drewN m) p R2 ∧ Kept K2 WO (wr.drewN m)) := fun m => by rw [← hR]; exact ⟨hX.drewN m, kp.drewN m⟩
            have HK : Hid (slP (st'.rest.take k) = SL) := HSL.out k (by rw [← hR])
            rw [HK.out]
            obtain ⟨b, hb⟩ : ∃ b, (st'.cut k).pl = b := ⟨_, rfl⟩
            rw [hb] at c1 e1 n1
            clear hX hR hE hlen hb hgk hk kp hrk HSL
            go_wp2_with fail
            go_quiet (fail)
            go_wp2
            go_meet
            case rel => exact ⟨rfl, (HO.out _).1, (HO.out _).2⟩
          · obtain ⟨c2, r, hcr⟩ : ∃ c r, (st'.cut k).rest = c :: r := by cases hh : (st'.cut k).rest with | nil => exact absurd hh hE | cons c r => exact ⟨c, r, rfl⟩
            obtain ⟨hl, hcc⟩ := hX.byte hcr HS.out
            have e1 : decide (((st'.cut k).pl : Int) < (S.size : Int)) = true := decide_eq_true (by omega)
            have hout := out_sla c2 r
            rw [← hcr] at hout
            have hq := fun X => dblank (S[(st'.cut k).pl]'hl) X
            obtain ⟨b, hb⟩ : ∃ b, (st'.cut k).pl = b := ⟨_, rfl⟩
            simp only [hb] at c1 e1 hl hcc hq
            have hkl : k < st'.rest.length := by
              rw [hrk] at hcr
              have := congrArg List.length hcr
              rw [List.length_drop, List.length_cons] at this
              omega
            have htk : st'.rest.take (k + 1) = st'.rest.take k ++ [c2] := by
              rw [List.take_succ_eq_append_getElem hkl]
              congr 2
              have h1 := List.drop_eq_getElem_cons hkl
              rw [← hrk, hcr] at h1
              injection h1 with h1 _
              exact h1.symm
            have HX : Hid (DX s K2 wr p (st'.cut k) ∧ Kept K2 WO wr) := ⟨hX, kp⟩
            have HCU : Hid (∀ X, DX s K2 X p (st'.cut k) → X.frozen? ⟨p, 1, none⟩ = false ∧ DX s K2 (X.setCell ⟨p, 1, none⟩ (.int .i64 ((b : Int) + 1))) p (st'.cut (k + 1)) ∧ Kept K2 X (X.setCell ⟨p, 1, none⟩ (.int .i64 ((b : Int) + 1)))) := by
              intro X hX
              obtain ⟨q1, q2⟩ := hX.cutAt (m := 1) (by rw [hcr]; simp) (n := (b : Int) + 1) (by rw [hb]; omega)
              rw [cut_cut] at q1
              exact ⟨hX.cells.2.2 1, q1, q2⟩
            have HON : Hid (hdOut sla (st'.cut k).rest = false → (st'.cut (k + 1)).cutTo (hdOut sla) = R2) := fun hno => by rw [← hR, cutTo_on hE hno, cut_cut]
            have HOFF : Hid (hdOut sla (st'.cut k).rest = true → st'.cut k = R2) := fun hy => by rw [← hR, cutTo_here (.inr hy)]
            obtain ⟨bb, hbb⟩ : ∃ q, blankP c2 = q := ⟨_, rfl⟩
            rw [hbb] at hout
            have hq2 : ∀ X, Calls Try.prog 47 #[.int .u8 (S[b]'hl).toNat] X fun e w' => e = .returned (.bool bb) ∧ w' = X := by rw [← hbb, ← hcc]; exact hq
            clear hq hrk hE hX kp
            by_cases h47 : c2 = 47
            · have e47 : (((S[b]'hl).toNat : Int) == 47) = true := by rw [hcc, h47]; rfl
              have hno : hdOut sla (st'.cut k).rest = false := by rw [hout, h47, show ((47 : UInt8) == 47) = true from rfl, Bool.or_true]; rfl
              have HSN : Hid (slP (st'.rest.take (k + 1)) = true) := by show slP _ = _; rw [htk, slP_snoc, h47]; rfl
              have HRN := HON.out hno
              have HRN : Hid ((st'.cut (k + 1)).cutTo (hdOut sla) = R2) := HRN
              have bbf : bb = false := by rw [← hbb, h47]; rfl
              subst bbf
              clear hout HON HOFF htk hcr hcc h47 hno hlen hb hR HSL hbb
              go_wp2_with fail
              go_quiet ((go_at_call 47; exact Calls.quiet_of_same (hq2 _)))
              go_wp2_with fail
              go_quiet (fail)
              have g1 := fun m => (HCU.out _ (HX.out.1.drewN m)).1
              go_wp2
              go_roundg (st'.rest.length - (k + 1))
              case rel =>
                refine ⟨k + 1, rfl, by omega, by rw [HSN.out], HRN.out, ?_, ?_⟩
                · first | exact (HCU.out _ (HX.out.1.drewN _)).2.1 | exact (HCU.out _ ((HX.out.1.drewN _).drewN _)).2.1
                · first | exact (HX.out.2.drewN _).trans (HCU.out _ (HX.out.1.drewN _)).2.2 | exact ((HX.out.2.drewN _).drewN _).trans (HCU.out _ ((HX.out.1.drewN _).drewN _)).2.2
              case measure => omega
            · have e47 : (((S[b]'hl).toNat : Int) == 47) = false := by rw [hcc]; exact u8_ne (d := 47) h47
              have hc47 : (c2 == 47) = false := by simpa using h47
              have HSN : Hid (slP (st'.rest.take (k + 1)) = false) := by show slP _ = _; rw [htk, slP_snoc, hc47]
              cases bb with
              | true =>
                have hno : hdOut sla (st'.cut k).rest = false := by rw [hout]; rfl
                have HRN : Hid ((st'.cut (k + 1)).cutTo (hdOut sla) = R2) := HON.out hno
                clear hout HON HOFF htk hcr hcc h47 hno hlen hb hR HSL hbb hc47
                go_wp2_with fail
                go_quiet ((go_at_call 47; exact Calls.quiet_of_same (hq2 _)))
                go_wp2_with fail
                go_quiet (fail)
                have g1 := fun m => (HCU.out _ (HX.out.1.drewN m)).1
                go_wp2
                go_roundg (st'.rest.length - (k + 1))
                case rel =>
                  refine ⟨k + 1, rfl, by omega, by rw [HSN.out], HRN.out, ?_, ?_⟩
                  · first | exact (HCU.out _ (HX.out.1.drewN _)).2.1 | exact (HCU.out _ ((HX.out.1.drewN _).drewN _)).2.1
                  · first | exact (HX.out.2.drewN _).trans (HCU.out _ (HX.out.1.drewN _)).2.2 | exact ((HX.out.2.drewN _).drewN _).trans (HCU.out _ ((HX.out.1.drewN _).drewN _)).2.2
                case measure => omega
              | false =>
                have hyes : hdOut sla (st'.cut k).rest = true := by rw [hout, hc47]; rfl
                have hRk := HOFF.out hyes
                have HO : Hid (∀ m, DX s K2 (wr.drewN m) p R2 ∧ Kept K2 WO (wr.drewN m)) := fun m => by rw [← hRk]; exact ⟨HX.out.1.drewN m, HX.out.2.drewN m⟩
                have HK : Hid (slP (st'.rest.take k) = SL) := HSL.out k (by rw [← hRk])
                rw [HK.out]
                clear hout HON HOFF htk hcr hcc h47 hyes hlen hb hR HSL hbb hc47 HSN HX HCU hRk
                go_wp2_with fail
                go_quiet ((go_at_call 47; exact Calls.quiet_of_same (hq2 _)))
                go_wp2
                go_meet
                case rel => exact ⟨rfl, (HO.out _).1, (HO.out _).2⟩
      case rest =>
        clear HSL HX0 HR2 HXT HSL2
        obtain ⟨rfl, xr, kr⟩ := hcut
        obtain ⟨own0, mb0, kw0⟩ := HMB.out wc kr
        obtain ⟨c0, c1, -⟩ := xr.cells
        replace c0 : wc.cell? ⟨p, 0, none⟩ = some (.string S) := by rw [← HS.out]; exact c0
        have hlen := xr.len
        rw [← HSS.out] at hlen
        obtain ⟨b, hb⟩ : ∃ b, R2.pl = b := ⟨_, rfl⟩
        rw [hb] at c1
        by_cases hE : R2.rest = []
        · have hbS : b = S.size := by rw [hE] at hlen; simp only [List.length_nil] at hlen; omega
          have e2 : ((b : Int) == (S.size : Int)) = true := by rw [hbS]; simp
          have l1 := fun X hX => dfault s K2 p R2 X hX (by have := HFIT.out.1.room; omega) 6 b
          have HRS : Hid (RES.ok = false ∧ RES.st = R2.flt 6 b) := by rw [HTG.out, if_pos hE, hb]; exact ⟨rfl, rfl⟩
          have HXr : Hid (DX s K2 wc p R2 ∧ Kept K2 WO wc) := ⟨xr, kr⟩
          have HTT : Hid (T = R2.flt 6 b) := by show T = _; rw [HT.out, HRS.out.1, if_neg (by decide), HRS.out.2]
          clear xr kr hlen hE hbS HTG HRS HT
          go_wp2_with fail
          go_quiet (fail)
          go_wp2_with fail
          refine Calls.mono (l1 _ (by repeat (first | exact HXr.out.1 | refine DX.drewN ?_ _))) ?_
          rintro e w5 ⟨rfl, x5, k5⟩
          have k6 := Kept.trans (show Kept K2 WO _ by repeat (first | exact HXr.out.2 | refine Kept.drewN ?_ _)) k5
          obtain ⟨-, -, kf⟩ := HMB.out w5 k6
          clear l1 HXr k5 k6 HMB
          go_wp2
          refine bodyPost_ret (results_none rfl _ _ _) rfl ?_
          exact ⟨rfl, T, .inl rfl, rfl, by rw [HTT.out]; exact x5.weaken fun k hk => HK12.out k (HKK.out k hk), kf⟩
        · obtain ⟨c2, r, hcr⟩ : ∃ c r, R2.rest = c :: r := by cases hh : R2.rest with | nil => exact absurd hh hE | cons c r => exact ⟨c, r, rfl⟩
          obtain ⟨hl, hcc⟩ := xr.byte hcr HS.out
          simp only [hb] at hl hcc
          have e2 : ((b : Int) == (S.size : Int)) = false := by simp; omega
          by_cases h62 : c2 = 62
          · have e3 : (((S[b]'hl).toNat : Int) == 62) = true := by rw [hcc, h62]; rfl
            have hpre : pre [62] R2.rest = true := by rw [hcr, h62]; simp [pre]
            have HL1 : Hid (1 ≤ R2.rest.length) := by show 1 ≤ _; rw [hcr]; simp
            have HRS : Hid (RES = ⟨R2.cut 1, attrs, SL, true⟩) := by show RES = _; rw [HTG.out, if_neg hE, if_pos hpre]
            have HFIN : Hid (∀ m, (wc.drewN m).frozen? ⟨p, 1, none⟩ = false ∧ ((wc.drewN m).setCell ⟨p, 1, none⟩ (.int .i64 ((b : Int) + 1))).frozen? ⟨M, 3, none⟩ = false ∧ ((wc.drewN m).setCell ⟨p, 1, none⟩ (.int .i64 ((b : Int) + 1))).cell? ⟨M, 3, none⟩ = some (.bool false) ∧ (DX s (fun k => K1 k ∨ blkOf aa k) (((wc.drewN m).setCell ⟨p, 1, none⟩ (.int .i64 ((b : Int) + 1))).setCell ⟨M, 3, none⟩ (.bool SL)) p (R2.cut 1) ∧ OwnZ K1 (((wc.drewN m).setCell ⟨p, 1, none⟩ (.int .i64 ((b : Int) + 1))).setCell ⟨M, 3, none⟩ (.bool SL)) 41 2 aa attrs.length ac (atrCells attrs) ∧ (((wc.drewN m).setCell ⟨p, 1, none⟩ (.int .i64 ((b : Int) + 1))).setCell ⟨M, 3, none⟩ (.bool SL)).heap[M]? = some (.cells #[.int .u8 (kind : Int), sv nm, .slice aa attrs.length ac, .bool SL, .string ⟨#[]⟩, .int .i64 (a : Int)] 43 (0, 0)) ∧ Kept K w (((wc.drewN m).setCell ⟨p, 1, none⟩ (.int .i64 ((b : Int) + 1))).setCell ⟨M, 3, none⟩ (.bool SL)))) := by
              intro m
              obtain ⟨z1, z2⟩ := (xr.drewN m).cutAt (m := 1) (by rw [hcr]; simp) (n := (b : Int) + 1) (by rw [hb]; omega)
              obtain ⟨o1, m1, kw1⟩ := HMB.out _ ((kr.drewN m).trans z2)
              refine ⟨(xr.drewN m).cells.2.2 1, frozen_block m1 _, by rw [cell_block m1]; rfl, ?_, ?_, ?_, kw1.setCell (p := ⟨M, 3, none⟩) HKM.out.2 _⟩
              · rw [HK2.out]
                exact z1.setK (HK12.out M HKM.out.1) 3 _
              · exact o1.to (fun g hg => (o1.out hg).1) (fun g hg => Below.heap_setCell _ _ _ _ (fun e => (o1.out hg).1 (e ▸ HKM.out.1)))
              · rw [heap_setCell_at m1]
                rfl
            clear xr kr own0 mb0 kw0 hlen hE hcc h62 hpre HTG hcr HMB HT HK2
            go_wp2_with fail
            go_quiet (fail)
            go_wp2_with fail
            go_quiet (fail)
            have g1 := fun m => (HFIN.out m).1
            have g2 := fun m => (HFIN.out m).2.1
            have g3 := fun m => (HFIN.out m).2.2.1
            go_wp2
            go_meet
            case rel =>
              rw [HRS.out]
              refine ⟨attrs, aa, ac, rfl, rfl, ?_, ?_, ?_, HAL.out, (HFIT.out.1.cut (n := 1) HL1.out).mono (by omega), ?_⟩
              · exact (HFIN.out _).2.2.2.1
              · exact (HFIN.out _).2.2.2.2.1
              · exact (HFIN.out _).2.2.2.2.2.1
              · exact (HFIN.out _).2.2.2.2.2.2
          · have e3 : (((S[b]'hl).toNat : Int) == 62) = false := by rw [hcc]; exact u8_ne (d := 62) h62
            have hpre : ¬ pre [62] R2.rest = true := by rw [hcr]; simp [pre]; exact fun h => h62 h.symm
            obtain ⟨Q, hQ⟩ : ∃ Q, (R2.attr attrs).st = Q := ⟨_, rfl⟩
            obtain ⟨at2, hat2⟩ : ∃ Q, (R2.attr attrs).attrs = Q := ⟨_, rfl⟩
            obtain ⟨OK, hOK⟩ : ∃ q, (R2.first.cutTo (hdIn atE)).value.ok = q := ⟨_, rfl⟩
            have HRS : Hid (RES = TS.tagF Q.rest.length.succ Q at2) := by show RES = _; rw [HTG.out, if_neg hE, if_neg hpre, hQ, hat2]
            have HBAD : Hid (OK = false → Q.rest = [] ∧ at2 = attrs) := fun h => by rw [← hQ, ← hat2]; exact attr_bad (by rw [hOK]; exact h)
            have HLT : Hid (Q.rest.length < gk) := by
              have h1 := attr_lt hE attrs
              rw [hQ] at h1
              have h2 := HFIT.out.2
              have h3 := HGM.out
              show _ < _
              omega
            have HFQ : Hid (Fit 700000000 Q ∧ at2.length ≤ 50) := by rw [← hQ, ← hat2]; exact ⟨HFIT.out.1.attr hE attrs, attr_few HAL.out⟩
            have l2 := fun m => dattr s K1 p R2 attrs aa ac (wc.drewN m) (by rw [HK2.out]; exact xr.drewN m) (own0.to (fun g hg => (own0.out hg).1) (fun _ _ => rfl)) hs (by have := HFIT.out.1.room; omega) hE HAL.out
            simp only [hQ, hat2, hOK] at l2
            have m2 : wc.cell? ⟨M, 2, none⟩ = some (.slice aa attrs.length ac) := by rw [cell_block mb0]; rfl
            have HM0 : Hid (wc.heap[M]? = some (.cells #[.int .u8 (kind : Int), sv nm, .slice aa attrs.length ac, .bool false, .string ⟨#[]⟩, .int .i64 (a : Int)] 43 (0, 0)) ∧ Kept K w wc) := ⟨mb0, kw0⟩
            clear xr kr own0 mb0 kw0 hlen hE hcc h62 hpre HTG hcr HMB HK2 hQ hat2 hOK HFIT HAL HK12 HGM
            go_wp2_with fail
            go_quiet (fail)
            go_wp2_with fail
            go_quiet (fail)
            go_wp2_with fail
            refine Calls.mono (l2 _) ?_
            rintro e w6 ⟨aa', ac', rfl, x6, o6, k6⟩
            have mb6 : w6.heap[M]? = some (.cells #[.int .u8 (kind : Int), sv nm, .slice aa attrs.length ac, .bool false, .string ⟨#[]⟩, .int .i64 (a : Int)] 43 (0, 0)) := (k6.block M HKM.out.1).trans HM0.out.1
            have kw6 : Kept K w w6 := Kept.trans (show Kept K w _ by repeat (first | exact HM0.out.2 | refine Kept.drewN ?_ _)) (k6.mono HKK.out)
            have x7 := x6.setK (b := M) (.inl HKM.out.1) 2 (.slice aa' at2.length ac')
            have o7 : OwnZ K1 (w6.setCell ⟨M, 2, none⟩ (.slice aa' at2.length ac')) 41 2 aa' at2.length ac' (atrCells at2) := o6.to (fun g hg => (o6.out hg).1) (fun g hg => Below.heap_setCell _ _ _ _ (fun e => (o6.out hg).1 (e ▸ HKM.out.1)))
            have mb7 := heap_setCell_at mb6 2 (.slice aa' at2.length ac')
            have kw7 : Kept K w (w6.setCell ⟨M, 2, none⟩ (.slice aa' at2.length ac')) := kw6.setCell (p := ⟨M, 2, none⟩) HKM.out.2 _
            have f6 : w6.frozen? ⟨M, 2, none⟩ = false := frozen_block mb6 _
            have e6 : w6.cell? ⟨M, 2, none⟩ = some (.slice aa attrs.length ac) := by rw [cell_block mb6]; rfl
            obtain ⟨W7, hW7⟩ : ∃ W, w6.setCell ⟨M, 2, none⟩ (.slice aa' at2.length ac') = W := ⟨_, rfl⟩
            have HW7 : Hid (w6.setCell ⟨M, 2, none⟩ (.slice aa' at2.length ac') = W7) := hW7
            rw [hW7] at x7 o7 mb7 kw7
            have HX7 : Hid (DX s (fun k => K1 k ∨ blkOf aa' k) W7 p Q ∧ OwnZ K1 W7 41 2 aa' at2.length ac' (atrCells at2) ∧ W7.heap[M]? = some (.cells #[.int .u8 (kind : Int), sv nm, .slice aa' at2.length ac', .bool false, .string ⟨#[]⟩, .int .i64 (a : Int)] 43 (0, 0)) ∧ Kept K w W7) := ⟨x7, o7, mb7, kw7⟩
            clear l2 x6 o6 k6 mb6 kw6 x7 o7 mb7 kw7 hW7 HM0 m2 c0 c1
            go_upto_region 15 with fail
            rw [HW7.out]
            clear HW7 f6 e6
            cases OK with
            | true =>
              clear HBAD HT
              go_wp2
              go_roundg Q.rest.length
              case rel => exact ⟨Q, at2, aa', ac', rfl, HRS.out.symm, HX7.out.1, HX7.out.2.1, HX7.out.2.2.1, HFQ.out.2, HFQ.out.1, HX7.out.2.2.2⟩
              case measure => exact HLT.out
            | false =>
              obtain ⟨hQ0, -⟩ := HBAD.out rfl
              have hpQ : Q.pl = S.size := by
                have := HX7.out.1.len
                rw [hQ0] at this
                simp only [List.length_nil] at this
                rw [HSS.out]
                exact this
              have hRS := tagF_here (attrs := at2) (Nat.lt_succ_self Q.rest.length)
              rw [cutTo_here (.inl hQ0), if_pos hQ0, hpQ] at hRS
              have HTT : Hid (T = Q.flt 6 S.size) := by show T = _; rw [HT.out, HRS.out, hRS, if_neg (fun h => by cases h)]
              have l3 := dfault s (fun k => K1 k ∨ blkOf aa' k) p Q W7 HX7.out.1 (by have := HFQ.out.1.room; omega) 6 S.size
              have d0 : W7.cell? ⟨p, 0, none⟩ = some (.string S) := by rw [← HS.out]; exact HX7.out.1.cells.1
              have HPQ : Hid (Q.pl = S.size) := hpQ
              clear hQ0 hRS HRS HBAD HFQ HLT HT hpQ
              go_wp2_with fail
              refine l3.mono ?_
              rintro e w8 ⟨rfl, x8, k8⟩
              have kw8 := HX7.out.2.2.2.trans (k8.mono fun k hk => .inl (HKK.out k hk))
              have d8 : w8.cell? ⟨p, 0, none⟩ = some (.string S) := by rw [← HS.out]; exact x8.cells.1
              have d9 := x8.cells.2.1
              have g8 := x8.cells.2.2 1
              obtain ⟨x9, k9⟩ := x8.cutAt (m := 0) (Nat.zero_le _) (n := (S.size : Int)) (by show _ = ((Q.pl + 0 : Nat) : Int); rw [HPQ.out]; rfl)
              have HX9 : Hid (DX s K (w8.setCell ⟨p, 1, none⟩ (.int .i64 (S.size : Int))) p T ∧ Kept K w (w8.setCell ⟨p, 1, none⟩ (.int .i64 (S.size : Int)))) := by
                rw [HTT.out]
                exact ⟨x9.weaken fun k hk => .inl (HKK.out k hk), kw8.trans (k9.mono fun k hk => .inl (HKK.out k hk))⟩
              clear l3 x8 k8 kw8 x9 k9 HX7 d0
              go_wp2
              refine bodyPost_ret (results_none rfl _ _ _) rfl ?_
              exact ⟨rfl, T, .inl rfl, rfl, HX9.out.1, HX9.out.2⟩
  case rest =>
    obtain ⟨attrs, aa, ac, hok, hat, xr, own0, mb0, hal, hfit, kw0⟩ := hcut
    clear HST HRES HFC
    have htoks : RES.st.toks.length ≤ 1000000000 := by have := hfit.room; unfold pot at this; omega
    rcases hkd with rfl | rfl
    · -- a beginning
      obtain ⟨Y, hY0⟩ : ∃ Y, RES.st.add ⟨1, nm, RES.attrs, RES.self, [], a⟩ = Y := ⟨_, rfl⟩
      have hTT : T = Y.inside nm := by rw [HT.out, hok, if_pos rfl, if_neg (by decide), hY0]
      have hYt : Y.text = [] := by rw [← hY0, add0 HRT.out.1]; exact HRT.out.1
      have hYp : pot Y ≤ 800000000 := by
        have := (hfit.add ⟨1, nm, RES.attrs, RES.self, [], a⟩).room
        rw [hY0] at this
        omega
      obtain ⟨ta, tc, c2, c2a, ta', tc', w', hr, e2, g2, hY, kY⟩ := DX.appT (K := K1) (B := fun k => blkOf aa k) xr.drew (fun k hb hk => (own0.out hb).1 hk) htoks ⟨1, nm, attrs, RES.self, [], a⟩ aa ac ((ats_own own0).kept (Kept.refl _ wc).drew fun _ h => h)
      have c2b : (wc.alloc (.cells #[.int .u8 1, sv nm, .slice aa attrs.length ac, .bool RES.self, .string ⟨#[]⟩, .int .i64 (a : Int)] 43)).drew.cell? ⟨p, 2, none⟩ = some (.slice ta RES.st.toks.length tc) := c2a
      have c2c : (wc.alloc (.cells #[.int .u8 1, sv nm, .slice aa attrs.length ac, .bool RES.self, .string ⟨#[]⟩, .int .i64 (a : Int)] 43)).cell? ⟨p, 2, none⟩ = some (.slice ta RES.st.toks.length tc) := c2a
      have hr : (Builtin.append_ #[24, 24] 24 #[.slice ta RES.st.toks.length tc, .slice (some ⟨wc.drew.heap.size, 0, none⟩) 1 1]).run Try.prog (wc.drew.alloc (.cells #[.int .u8 1, sv nm, .slice aa attrs.length ac, .bool RES.self, .string ⟨#[]⟩, .int .i64 (a : Int)] 43)) = .ok (.slice ta' (RES.st.toks.length + 1) tc') w' := hr
      have m0 : wc.drew.cell? ⟨M, 0, none⟩ = some (.int .u8 1) := by rw [cell_block (w := wc.drew) mb0]; rfl
      have m1 : wc.drew.cell? ⟨M, 1, none⟩ = some (sv nm) := by rw [cell_block (w := wc.drew) mb0]; rfl
      have m2 : wc.drew.cell? ⟨M, 2, none⟩ = some (.slice aa attrs.length ac) := by rw [cell_block (w := wc.drew) mb0]; rfl
      have m3 : wc.drew.cell? ⟨M, 3, none⟩ = some (.bool RES.self) := by rw [cell_block (w := wc.drew) mb0]; rfl
      have m4 : wc.drew.cell? ⟨M, 4, none⟩ = some (.string ⟨#[]⟩) := by rw [cell_block (w := wc.drew) mb0]; rfl
      have m5 : wc.drew.cell? ⟨M, 5, none⟩ = some (.int .i64 (a : Int)) := by rw [cell_block (w := wc.drew) mb0]; rfl
      obtain ⟨W, hW⟩ : ∃ W, w'.setCell ⟨p, 2, none⟩ (.slice ta' (RES.st.toks.length + 1) tc') = W := ⟨_, rfl⟩
      have HW : Hid (w'.setCell ⟨p, 2, none⟩ (.slice ta' (RES.st.toks.length + 1) tc') = W) := hW
      rw [hW] at hY kY
      have xY : DX s K1 W p Y := by
        rw [← hY0, add0 HRT.out.1, hat]
        exact hY
      have kWY : Kept K w W := (kw0.drew).trans (kY.mono HKK.out)
      have n1 : W.cell? ⟨M, 1, none⟩ = some (sv nm) := (kY.cell (p := ⟨M, 1, none⟩) HKM.out.1).trans m1
      obtain ⟨k, hk⟩ : ∃ k, RES.st.toks.length = k := ⟨_, rfl⟩
      rw [hk] at c2 c2b c2c hr e2 HW
      have HXY : Hid (DX s K1 W p Y ∧ Kept K w W ∧ W.cell? ⟨M, 1, none⟩ = some (sv nm)) := ⟨xY, kWY, n1⟩
      have HY : Hid (T = Y.inside nm ∧ Y.text = [] ∧ pot Y ≤ 800000000) := ⟨hTT, hYt, hYp⟩
      have r5 : ∀ X, Calls Try.prog 49 #[sv nm] X fun e w' => e = .returned (.bool (softP nm)) ∧ Kept (fun k => k < X.heap.size) X w' := fun X => by
        have := rsoft_any ⟨nm.toArray⟩ (fun k => k < X.heap.size) X
        rwa [ByteArray.toList_eq] at this
      have r6 : ∀ X, Calls Try.prog 50 #[sv nm] X fun e w' => e = .returned (.bool (rawP nm)) ∧ Kept (fun k => k < X.heap.size) X w' := fun X => by
        have := rraw_any ⟨nm.toArray⟩ (fun k => k < X.heap.size) X
        rwa [ByteArray.toList_eq] at this
      clear c2a hok hat xr own0 mb0 hal hfit kw0 htoks hY0 hTT hYt hYp hY kY hW xY kWY n1 hk HT HRT
      obtain ⟨so, hso⟩ : ∃ q, softP nm = q := ⟨_, rfl⟩
      obtain ⟨ra, hra⟩ : ∃ q, rawP nm = q := ⟨_, rfl⟩
      simp only [hso] at r5
      simp only [hra] at r6
      have r7 := fun (hk : softP nm = true ∨ rawP nm = true) X hX => draw s K1 p Y X hX hs (by have := HY.out.2.2; omega) HY.out.2.1 nm hk
      rw [hso, hra] at r7
      have HEND : Hid (T.endT.run = T.run) := by rw [HY.out.1]; exact flush_inside HY.out.2.1 nm
      have HNO : Hid (so = false → ra = false → T = Y) := by
        intro h1 h2
        rw [HY.out.1]
        unfold TS.inside
        rw [hso, h1, if_neg (by decide), hra, h2, if_neg (by decide)]
      have HTY : Hid (T = Y.inside nm) := HY.out.1
      clear hso hra HY
      go_wp2_with fail
      go_region_law (refine step_appR (w' := w') rfl (.tmp 150) (.tmp 152) 24 24 rfl _ _ (.slice ta' (k + 1) tc') rfl rfl hr ?_)
      all_goals
        rw [HW.out]
        have n1 := HXY.out.2.2
        clear hr e2 g2 c2 c2b c2c m0 m1 m2 m3 m4 m5 HW
        go_wp2_with fail
        refine (r5 _).mono ?_
        rintro e w5 ⟨rfl, k5⟩
        have x5 := HXY.out.1.kept k5
        have kw5 := HXY.out.2.1.trans (k5.mono fun j hj => HXY.out.1.lt j (HKK.out j hj))
        have n5 : w5.cell? ⟨M, 1, none⟩ = some (sv nm) := (k5.cell (p := ⟨M, 1, none⟩) (HXY.out.1.lt M HKM.out.1)).trans n1
        clear n1 HXY k5 r5
        cases so with
        | true =>
          replace r7 := r7 (.inl rfl) w5 x5
          clear r6 HNO x5
          go_wp2_with fail
          refine r7.mono ?_
          rintro e w6 ⟨rfl, x6, k6⟩
          rw [← HTY.out] at x6
          have HF : Hid (DX s K w6 p T.endT ∧ Kept K w w6) := ⟨x6.weaken HKK.out, kw5.trans (k6.mono HKK.out)⟩
          clear r7 x6 k6 kw5 n5
          go_wp2
          go_end0
          exact ⟨rfl, T.endT, .inr rfl, HEND.out, HF.out.1, HF.out.2⟩
        | false =>
          go_wp2_with fail
          refine (r6 _).mono ?_
          rintro e w6 ⟨rfl, k6⟩
          have x6 := x5.kept k6
          have kw6 := kw5.trans (k6.mono fun j hj => x5.lt j (HKK.out j hj))
          have n6 : w6.cell? ⟨M, 1, none⟩ = some (sv nm) := (k6.cell (p := ⟨M, 1, none⟩) (x5.lt M HKM.out.1)).trans n5
          clear r6 x5 kw5 n5 k6
          cases ra with
          | true =>
            replace r7 := r7 (.inr rfl) w6 x6
            clear HNO x6
            go_wp2_with fail
            refine r7.mono ?_
            rintro e w7 ⟨rfl, x7, k7⟩
            rw [← HTY.out] at x7
            have HF : Hid (DX s K w7 p T.endT ∧ Kept K w w7) := ⟨x7.weaken HKK.out, kw6.trans (k7.mono HKK.out)⟩
            clear r7 x7 k7 kw6 n6
            go_wp2
            go_end0
            exact ⟨rfl, T.endT, .inr rfl, HEND.out, HF.out.1, HF.out.2⟩
          | false =>
            have hTY := HNO.out (by first | trivial | rfl) (by first | trivial | rfl)
            rw [← hTY] at x6
            have HF : Hid (DX s K w6 p T ∧ Kept K w w6) := ⟨x6.weaken HKK.out, kw6⟩
            clear r7 x6 kw6 HNO hTY n6
            go_wp2
            go_end0
            exact ⟨rfl, T, .inl rfl, rfl, HF.out.1, HF.out.2⟩
    · -- an end
      have hTT : T = RES.st.add ⟨2, nm, [], false, [], a⟩ := by rw [HT.out, hok, if_pos rfl, if_pos rfl]
      have f2 : wc.frozen? ⟨M, 2, none⟩ = false := frozen_block mb0 _
      have m2 : wc.cell? ⟨M, 2, none⟩ = some (.slice aa attrs.length ac) := by rw [cell_block mb0]; rfl
      have mb1 := heap_setCell_at mb0 2 (.slice none 0 0)
      have x1 := xr.setK (b := M) (.inl HKM.out.1) 2 (.slice none 0 0)
      have kw1 : Kept K w (wc.setCell ⟨M, 2, none⟩ (.slice none 0 0)) := kw0.setCell (p := ⟨M, 2, none⟩) HKM.out.2 _
      have f3 : (wc.setCell ⟨M, 2, none⟩ (.slice none 0 0)).frozen? ⟨M, 3, none⟩ = false := frozen_block mb1 _
      have m3 : (wc.setCell ⟨M, 2, none⟩ (.slice none 0 0)).cell? ⟨M, 3, none⟩ = some (.bool RES.self) := by rw [cell_block mb1]; rfl
      have mb2 := heap_setCell_at mb1 3 (.bool false)
      have x2 := x1.setK (b := M) (.inl HKM.out.1) 3 (.bool false)
      have kw2 : Kept K w ((wc.setCell ⟨M, 2, none⟩ (.slice none 0 0)).setCell ⟨M, 3, none⟩ (.bool false)) := kw1.setCell (p := ⟨M, 3, none⟩) HKM.out.2 _
      obtain ⟨WX, hWX⟩ : ∃ W, (wc.setCell ⟨M, 2, none⟩ (.slice none 0 0)).setCell ⟨M, 3, none⟩ (.bool false) = W := ⟨_, rfl⟩
      have HWX : Hid ((wc.setCell ⟨M, 2, none⟩ (.slice none 0 0)).setCell ⟨M, 3, none⟩ (.bool false) = WX) := hWX
      rw [hWX] at mb2 x2 kw2
      have mbx : WX.heap[M]? = some (.cells #[.int .u8 2, sv nm, .slice none 0 0, .bool false, .string ⟨#[]⟩, .int .i64 (a : Int)] 43 (0, 0)) := mb2
      obtain ⟨ta, tc, c2, c2a, ta', tc', w', hr, e2, g2, hY, kY⟩ := (x2.weaken (K' := K1) fun k hk => .inl hk).drew.app0 htoks 2 nm [] false a
      have c2b : (WX.alloc (.cells #[.int .u8 2, sv nm, .slice none 0 0, .bool false, .string ⟨#[]⟩, .int .i64 (a : Int)] 43)).drew.cell? ⟨p, 2, none⟩ = some (.slice ta RES.st.toks.length tc) := c2a
      have c2c : (WX.alloc (.cells #[.int .u8 2, sv nm, .slice none 0 0, .bool false, .string ⟨#[]⟩, .int .i64 (a : Int)] 43)).cell? ⟨p, 2, none⟩ = some (.slice ta RES.st.toks.length tc) := c2a
      have hr : (Builtin.append_ #[24, 24] 24 #[.slice ta RES.st.toks.length tc, .slice (some ⟨WX.drew.heap.size, 0, none⟩) 1 1]).run Try.prog (WX.drew.alloc (.cells #[.int .u8 2, sv nm, .slice none 0 0, .bool false, .string ⟨#[]⟩, .int .i64 (a : Int)] 43)) = .ok (.slice ta' (RES.st.toks.length + 1) tc') w' := hr
      have n0 : WX.drew.cell? ⟨M, 0, none⟩ = some (.int .u8 2) := by rw [cell_block (w := WX.drew) mbx]; rfl
      have n1 : WX.drew.cell? ⟨M, 1, none⟩ = some (sv nm) := by rw [cell_block (w := WX.drew) mbx]; rfl
      have n2 : WX.drew.cell? ⟨M, 2, none⟩ = some (.slice none 0 0) := by rw [cell_block (w := WX.drew) mbx]; rfl
      have n3 : WX.drew.cell? ⟨M, 3, none⟩ = some (.bool false) := by rw [cell_block (w := WX.drew) mbx]; rfl
      have n4 : WX.drew.cell? ⟨M, 4, none⟩ = some (.string ⟨#[]⟩) := by rw [cell_block (w := WX.drew) mbx]; rfl
      have n5 : WX.drew.cell? ⟨M, 5, none⟩ = some (.int .i64 (a : Int)) := by rw [cell_block (w := WX.drew) mbx]; rfl
      obtain ⟨W, hW⟩ : ∃ W, w'.setCell ⟨p, 2, none⟩ (.slice ta' (RES.st.toks.length + 1) tc') = W := ⟨_, rfl⟩
      have HW : Hid (w'.setCell ⟨p, 2, none⟩ (.slice ta' (RES.st.toks.length + 1) tc') = W) := hW
      rw [hW] at hY kY
      have xT : DX s K1 W p T := by
        rw [hTT, add0 HRT.out.1]
        exact hY
      have kWY : Kept K w W := (kw2.drew).trans (kY.mono HKK.out)
      have nW : W.cell? ⟨M, 1, none⟩ = some (sv nm) := (kY.cell (p := ⟨M, 1, none⟩) HKM.out.1).trans n1
      obtain ⟨k, hk⟩ : ∃ k, RES.st.toks.length = k := ⟨_, rfl⟩
      rw [hk] at c2 c2b c2c hr e2 HW
      have HXT : Hid (DX s K1 W p T ∧ Kept K w W ∧ W.cell? ⟨M, 1, none⟩ = some (sv nm)) := ⟨xT, kWY, nW⟩
      have r5 : ∀ X, Calls Try.prog 49 #[sv nm] X fun e w' => e = .returned (.bool (softP nm)) ∧ Kept (fun k => k < X.heap.size) X w' := fun X => by
        have := rsoft_any ⟨nm.toArray⟩ (fun k => k < X.heap.size) X
        rwa [ByteArray.toList_eq] at this
      clear c2a hok hat xr own0 mb0 hal hfit kw0 htoks hTT mb1 x1 kw1 mb2 x2 kw2 hWX mbx hY kY hW xT kWY nW hk HT HRT
      go_upto_region 21 with fail
      rw [HWX.out]
      clear HWX f2 m2 f3 m3
      go_region_law (refine step_appR (w' := w') rfl (.tmp 150) (.tmp 152) 24 24 rfl _ _ (.slice ta' (k + 1) tc') rfl rfl hr ?_)
      all_goals
        rw [HW.out]
        have nW := HXT.out.2.2
        clear hr e2 g2 c2 c2b c2c n0 n1 n2 n3 n4 n5 HW
        go_wp2_with fail
        refine (r5 _).mono ?_
        rintro e w5 ⟨rfl, k5⟩
        have HF : Hid (DX s K w5 p T ∧ Kept K w w5) := ⟨(HXT.out.1.kept k5).weaken HKK.out, HXT.out.2.1.trans (k5.mono fun j hj => HXT.out.1.lt j (HKK.out j hj))⟩
        clear HXT k5 r5 nW
        go_wp2
        go_end0
        exact ⟨rfl, T, .inl rfl, rfl, HF.out.1, HF.out.2⟩
end Go.Proofs.Ytffllhohlfblnaa
