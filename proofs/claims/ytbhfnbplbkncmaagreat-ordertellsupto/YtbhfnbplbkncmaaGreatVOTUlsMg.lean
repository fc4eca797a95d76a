/-
  Several texts, one behind the other.
-/
import Derived.Test.YtbhfnbplbkncmaaGreatYT37
import Derived.Test.YtbhfnbplbkncmaaGreatYT38
import Derived.Test.YtbhfnbplbkncmaaGreatZ23
import Derived.Deep.MidRow
import Derived.Test.YtbhfnbplbkncmaaGreatVOTUlsKg
import Derived.Test.YtbhfnbplbkncmaaGreatZ12
import Derived.Test.YtbhfnbplbkncmaaGreatZ28
import Derived.Test.YtbhfnbplbkncmaaGreatVOTUlsPu
import Derived.BigQuiet
import Derived.Lib.QuietBelow
namespace Go.Proofs.YtbhfnbplbkncmaaGreat
open Go.RowKit Go.Sort
set_option linter.unusedVariables false
theorem OpOk.inn {o : Opx} (h : OpOk o) : OpOk { o with inn := true } := ⟨h.k, h.nk, h.a, h.b, h.c, h.l⟩
end Go.Proofs.YtbhfnbplbkncmaaGreat
namespace Go.Proofs.YtbhfnbplbkncmaaGreat
open Go.RowKit Go.Sort
set_option linter.unusedVariables false
set_option maxRecDepth 20000 in
theorem heavy9_long (n : Nat) (hnn : 60 < n) (a : Option Addr) (c : Nat) (w : World) :
    Calls Tryz.prog 20 #[.slice a n c] w fun e w' => e = .returned (.bool true) ∧ Kept (fun k => k < w.heap.size) w w' := by
  have hg60 : decide ((n : Int) > 60) = true := decide_eq_true (by omega)
  go_enter Tryz.func20, Tryz.ntmps20
  go_wp2
  go_ret
  exact ⟨rfl, Kept.refl _ _⟩
set_option maxRecDepth 20000 in
theorem heavy9_any (l : List Opx) (n : Nat) (hln : l.length = n) (hnn : n ≤ 60) (a : Option Addr) (c : Nat) (hb2 : opsH l ≤ 2000000) (w : World) (h : OpsAt (fun k => k < w.heap.size) w a l) :
    Calls Tryz.prog 20 #[.slice a n c] w fun e w' => e = .returned (.bool (decide (6000 < opsH l))) ∧ Kept (fun k => k < w.heap.size) w w' := by
  have rh := heavy_any l n hln (by omega) a c hb2 w h
  have hg60 : decide ((n : Int) > 60) = false := decide_eq_false (by omega)
  obtain ⟨hv, hhv⟩ : ∃ hv, opsH l = hv := ⟨_, rfl⟩
  rw [hhv] at rh ⊢
  have hg6 : decide ((hv : Int) > 6000) = decide (6000 < hv) := by
    by_cases c6 : 6000 < hv
    · rw [decide_eq_true c6]; exact decide_eq_true (by omega)
    · rw [decide_eq_false c6]; exact decide_eq_false (by omega)
  obtain ⟨b, hbb⟩ : ∃ b, decide (6000 < hv) = b := ⟨_, rfl⟩
  rw [hbb] at hg6 ⊢
  clear hhv h hln hb2 hbb
  go_enter Tryz.func20, Tryz.ntmps20
  go_wp2_with (go_at_call 64; refine rh.mono ?_; rintro e w1 ⟨rfl, k1⟩)
  go_ret
  exact ⟨rfl, k1⟩
set_option maxRecDepth 20000 in
set_option maxHeartbeats 4000000 in
theorem grown9 (l : List Opx) (n : Nat) (hln : l.length = n) (hnn : n ≤ 1000000) (a : Option Addr) (c : Nat) (hok : ∀ o ∈ l, OpOk o) (hb : opsH l ≤ 900000) (w : World) (h : OpsAt (fun k => k < w.heap.size) w a l) :
    Calls Tryz.prog 22 #[.slice a n c] w fun e w' => ∃ p r E M R G rk, e = .returned (.tuple #[.pointer (some ⟨p, 0, none⟩), .pointer (some ⟨r, 0, none⟩)]) ∧ Grown (fun k => k < w.heap.size) E w' p r M R G rk 300 ∧ Kept (fun k => k < w.heap.size) w w' := by
  have rn := new_yes 300 w (by decide) (by decide)
  have HRN : Hid (∀ X, Calls Tryz.prog 45 #[.int .i64 300] X fun e w' => ∃ p, e = .returned (.pointer (some ⟨p, 0, none⟩)) ∧ X.heap.size ≤ p ∧ RX (fun k => k < X.heap.size) w' p (Dm.new 300) (fun _ => []) (fun _ => []) ∧ Kept (fun k => k < X.heap.size) X w') := fun X => rnew_yes 300 X (by decide) (by decide)
  have HL : Hid (l.length = n) := hln
  have HB : Hid (opsH l ≤ 900000) := hb
  have HH : Hid (OpsAt (fun k => k < w.heap.size) w a l) := h
  have HOK : Hid (∀ o ∈ l, OpOk o) := hok
  clear hln hb h hok
  go_enter Tryz.func22, Tryz.ntmps22
  go_wp2_with fail
  refine rn.mono ?_
  rintro e w1 ⟨p, rfl, hp, hX1, k1⟩
  clear rn
  have rn2 := HRN.out w1
  have HX1 : Hid (DX (fun k => k < w.heap.size) w1 p (Dm.new 300)) := hX1
  have HK1 : Hid (Kept (fun k => k < w.heap.size) w w1) := k1
  clear hX1 k1 HRN
  go_wp2_with fail
  refine rn2.mono ?_
  rintro e w2 ⟨r, rfl, hr, hX2, k2⟩
  clear rn2
  have HG2 : Hid (Grown (fun k => k < w.heap.size) (fun k => w1.heap.size ≤ k ∧ k < w2.heap.size) w2 p r (Dm.new 300) (fun _ => []) (fun _ => []) (fun _ => 0) 300) := ⟨two_new HX1.out HK1.out hX2 k2, Inv.new 300, rfl, by show 1 ≤ 300; decide⟩
  have HK2 : Hid (Kept (fun k => k < w.heap.size) w w2) := HK1.out.trans (k2.mono fun k h => Nat.lt_of_lt_of_le h HK1.out.size)
  clear HX1 HK1 hX2 k2 hp hr
  go_upto_region 4 with fail
  go_loopg [6] n (fun gh v wr => ∃ (k : Nat) (E : Nat → Prop) (M : Dm) (R G : Nat → List Nat) (rk : Nat → Nat), gh = n - k ∧ k ≤ n ∧ v = .int .i64 (k : Int) ∧ Grown (fun k => k < w.heap.size) E wr p r M R G rk 300 ∧ Kept (fun k => k < w.heap.size) w wr)
  case atStart => exact ⟨0, _, _, _, _, _, rfl, Nat.zero_le _, rfl, HG2.out, HK2.out⟩
  case round =>
    clear HG2 HK2
    obtain ⟨k, E, M, R, G, rk, hgk, hk, rfl, hG, hK⟩ := hrel
    have HG : Hid (Grown (fun k => k < w.heap.size) E wr p r M R G rk 300) := hG
    have HK : Hid (Kept (fun k => k < w.heap.size) w wr) := hK
    by_cases hlt : k < n
    · have hll : k < l.length := by rw [HL.out]; exact hlt
      obtain ⟨g, o, A, rfl, hg, hA, hc⟩ := HH.out k hll
      have hmem := List.getElem_mem hll
      obtain ⟨x, hx⟩ : ∃ x, l[k] = x := ⟨_, rfl⟩
      rw [hx] at hA hc hmem
      have hvx := opsH_mem hmem
      have hrange : wr.rangeAt g (o + k * 17) (opC x A) := fun f u hu => (hK.cell (p := ⟨g, o + k * 17 + f, none⟩) hg).trans (hc f u hu)
      obtain ⟨N, hN⟩ : ∃ N, wr.heap.size = N := ⟨_, rfl⟩
      have hb1 : (wr.alloc (.cells zero17 54)).heap[N]? = some (.cells zero17 54 (0, 0)) := by rw [← hN]; exact heap_alloc_new wr _
      obtain ⟨W1, hW1⟩ : ∃ W1, (wr.alloc (.cells zero17 54)).setRow N (opC x A).toArray = W1 := ⟨_, rfl⟩
      have hB1 : W1.heap[N]? = some (.cells (opC x A).toArray 54 (0, 0)) := by rw [← hW1]; exact setRow_heap _ _ _ _ _ _ hb1
      have k1 : Kept (fun k => k < wr.heap.size) wr W1 := by rw [← hW1]; exact kept_setRow ((Kept.refl _ wr).alloc (fun _ h => h) _) (by rw [hN]; exact Nat.lt_irrefl _) _
      obtain ⟨W2, hW2⟩ : ∃ W2, W1.setCell ⟨N, 4, none⟩ (.bool true) = W2 := ⟨_, rfl⟩
      have hB2 : W2.heap[N]? = some (.cells (opC { x with inn := true } A).toArray 54 (0, 0)) := by rw [← hW2]; exact heap_setCell_list hB1 4 (.bool true)
      have k2 : Kept (fun k => k < wr.heap.size) wr W2 := by rw [← hW2]; exact k1.setCell (p := ⟨N, 4, none⟩) (by rw [hN]; exact Nat.lt_irrefl _) _
      have k2w : Kept (fun k => k < w.heap.size) w W2 := hK.trans (k2.mono fun k h => Nat.lt_of_lt_of_le h hK.size)
      have b4 : W1.cell? ⟨N, 4, none⟩ = some (.bool x.inn) := by rw [cell_block hB1]; rfl
      have f4 : W1.frozen? ⟨N, 4, none⟩ = false := frozen_block hB1 4
      have e0 : W2.cell? ⟨N, 0, none⟩ = some (.int .u8 (x.k : Int)) := by rw [cell_block hB2]; rfl
      have hdoes := does_any (fun k => k < w.heap.size) E p r M R G rk W2 { x with inn := true } A ⟨(hG.kept k2).two, hG.inv, hG.le, by rw [hG.lim]; decide, (HOK.out x hmem).inn, by have := HB.out; show opH x ≤ _; omega, hA.kept k2w (fun g hg => hg)⟩
      obtain ⟨cs, hcs⟩ : ∃ cs, (opC x A).toArray = cs := ⟨_, rfl⟩
      have hsz : cs.size = 17 := by rw [← hcs]; rfl
      have hone : cs.all (·.oneCell') = true := by rw [← hcs]; exact opC_one x A
      have hlen : (opC x A).length = 17 := rfl
      obtain ⟨cl, hcl⟩ : ∃ cl, opC x A = cl := ⟨_, rfl⟩
      have hcc : cl.toArray = cs := by rw [← hcl]; exact hcs
      rw [hcl] at hrange hlen
      have hil : (Tryz.prog.info? 54).map (·.size) = some cl.length := by rw [hlen]; exact size37 cs hsz |>.trans (by rw [hsz])
      have HW1 : Hid ((wr.alloc (.cells zero17 54)).setRow N cs = W1) := by rw [← hcs]; exact hW1
      have HW2 : Hid (W1.setCell ⟨N, 4, none⟩ (.bool true) = W2) := hW2
      have HN : Hid (wr.heap.size = N) := hN
      have HN' : Hid (N = wr.heap.size) := hN.symm
      obtain ⟨cs2, hcs2⟩ : ∃ cs2, (opC { x with inn := true } A).toArray = cs2 := ⟨_, rfl⟩
      have hsz2 : cs2.size = 17 := by rw [← hcs2]; rfl
      rw [hcs2] at hB2
      obtain ⟨q, hq⟩ : ∃ q, x.k % 16 = q := ⟨_, rfl⟩
      have hkm : (x.k : Int).tmod 16 = (q : Int) := by rw [← hq]; rfl
      have HD : Hid (Calls Tryz.prog 40 #[.pointer (some ⟨p, 0, none⟩), .pointer (some ⟨r, 0, none⟩), .agg cs2] W2 (DoesOk (fun k => k < w.heap.size) p r M W2)) := by rw [← hcs2]; exact hdoes
      have HG2 : Hid (Grown (fun k => k < w.heap.size) E W2 p r M R G rk 300) := hG.kept k2
      have HK2 : Hid (Kept (fun k => k < w.heap.size) w W2) := k2w
      clear hG hK hc hA hmem hx hvx hdoes hq hW1 hW2 hB1 k1 k2 k2w hcs hcs2 hN hlen hcl
      go_upto_region 6 with fail
      go_upto_region 7 with (first | (refine wpList_load_mid rfl 54 _ rfl g (o + k * 17) rfl cl _ hrange Tryz.underlying54 rfl hil ?_; rw [hcc]) | (rw [HN.out]; refine wpList_store_row rfl 54 _ _ rfl N cs rfl rfl 54 _ hb1 (size37 _ hsz) (by rw [hsz]; rfl) hone ?_))
      rw [HW1.out]
      clear hrange hb1 HW1
      go_upto_region 8 with fail
      rw [HW2.out]
      clear b4 f4 HW2
      by_cases q15 : q = 15
      · subst q15
        clear HD
        go_wp2
        go_roundg (n - (k + 1))
        case rel => exact ⟨k + 1, E, M, R, G, rk, rfl, by omega, by go_num, HG2.out, HK2.out⟩
        case measure => omega
      · have n15 : ((q : Int) == 15) = false := by simp; omega
        have n15' : ((q : Int) != 15) = true := by simp; omega
        go_upto_region 9 with fail
        go_wp2_with (refine wpList_load_row rfl 54 _ rfl N rfl 54 cs2 (0, 0) _ hB2 Tryz.underlying54 rfl (size37 _ hsz2) ?_)
        refine HD.out.mono ?_
        rintro e w3 ⟨rfl, E', M', R', G', rk', h2, hI, hG', hK3⟩
        have HG3 : Hid (Grown (fun k => k < w.heap.size) E' w3 p r M' R' G' rk' 300) := ⟨h2, hI, hG'.limit.trans HG2.out.lim, hG'.le HG2.out.le⟩
        have HK3 : Hid (Kept (fun k => k < w.heap.size) w w3) := HK2.out.trans hK3
        clear HD h2 hI hG' hK3 HG2 HK2 e0 hB2
        go_wp2
        go_roundg (n - (k + 1))
        case rel => exact ⟨k + 1, E', M', R', G', rk', rfl, by omega, by go_num, HG3.out, HK3.out⟩
        case measure => omega
    · have hkn : n = k := by omega
      subst hkn
      clear hG hK
      go_wp2
      go_ret2
      exact ⟨p, r, E, M, R, G, rk, rfl, HG.out, HK.out⟩
end Go.Proofs.YtbhfnbplbkncmaaGreat
namespace Go.Proofs.YtbhfnbplbkncmaaGreat
open Go.RowKit
set_option linter.unusedVariables false
set_option maxRecDepth 20000 in
set_option maxHeartbeats 1000000 in
theorem top_any (K : Nat → Prop) (p : Nat) (M : Dm) (R G : Nat → List Nat) (rk : Nat → Nat) (w : World) (hd : DX K w p M) (hI : Inv M R G rk) (hn : M.n ≤ 100000) :
    ∀ (f i : Nat), rk i < f → i < M.n → ∀ t, TopT M i t → ∀ X, Kept (fun k => k < w.heap.size) w X → Calls Tryz.prog 25 #[.pointer (some ⟨p, 0, none⟩), .int .i64 (i : Int)] X fun e w' => e = .returned (.int .i64 (t : Int)) ∧ Kept (fun k => k < X.heap.size) X w' := by
  intro f
  induction f with
  | zero => exact fun i h => absurd h (Nat.not_lt_zero _)
  | succ f ih =>
    intro i hf hi t hT X hX
    obtain ⟨r, hr, hTr, hup, hle⟩ := hI.good.top _ i (Nat.lt_succ_self _) hi
    have r1 := (oroot_any K p i M R rk X (hd.kept hX) hI.good hi (by omega)).mono (R' := fun e w' => e = .returned (.int .i64 (r : Int)) ∧ Kept (fun k => k < X.heap.size) X w') fun e w' ⟨t', _, q2, q3, q4⟩ => by rw [q2.one hTr] at q3; exact ⟨q3, q4⟩
    have HND : Hid (∀ Y, Kept (fun k => k < X.heap.size) X Y → Calls Tryz.prog 24 #[.pointer (some ⟨p, 0, none⟩), .int .i64 (r : Int)] Y fun e w' => Told Y (M.nd r) (M.pl r).up (R r) e w') := fun Y hY => node_any K p r M R Y ((hd.kept hX).kept hY) hI.good.wf hr (by omega) hI.good.few
    by_cases c : (M.nd r).kind = 5
    · obtain ⟨o, ho, e, -, hlt, -⟩ := hI.host hr c
      have hTo : TopT M o t := by
        cases hT with
        | here h0 k0 => rw [h0.one hTr] at k0; exact absurd c k0
        | up h0 k0 e' h' =>
          have := h0.one hTr
          subst this
          have h9 := Int.ofNat.inj (e.symm.trans e')
          subst h9
          exact h'
      have HTOP : Hid (∀ Y, Kept (fun k => k < X.heap.size) X Y → Calls Tryz.prog 25 #[.pointer (some ⟨p, 0, none⟩), .int .i64 (o : Int)] Y fun e w' => e = .returned (.int .i64 (t : Int)) ∧ Kept (fun k => k < Y.heap.size) Y w') := fun Y hY => ih o (by omega) ho t hTo Y (hX.trans (hY.mono fun k h => Nat.lt_of_lt_of_le h hX.size))
      obtain ⟨x, hx⟩ : ∃ x, M.nd r = x := ⟨_, rfl⟩
      rw [hx] at c e
      have HXF : Hid (x.kind = 5 ∧ x.host = (o : Int)) := ⟨c, e⟩
      have HX : Hid (M.nd r = x) := hx
      clear ih hT hTr hTo c e hx hd hI hup
      go_enter Tryz.func25, Tryz.ntmps25
      go_wp2_with fail
      refine r1.mono ?_
      rintro e v1 ⟨rfl, hk1⟩
      have rn := HND.out v1 hk1
      rw [HX.out] at rn
      have HK1 : Hid (Kept (fun k => k < X.heap.size) X v1) := hk1
      clear r1 hk1
      go_wp2_with fail
      refine rn.mono ?_
      rintro e v2 ⟨ao1, ac1, ko1, kc1, rfl, -, hQ1, hKa⟩
      obtain ⟨N1, hN1⟩ : ∃ N, v2.heap.size = N := ⟨_, rfl⟩
      obtain ⟨V1, hV1⟩ : ∃ V, v2.alloc (.cells (outN x ao1 ac1 (M.pl r).up ko1 (R r).length kc1) 36) = V := ⟨_, rfl⟩
      have hB1 := Box.of hQ1 hKa V1 N1 hN1 hV1
      have HV1 : Hid (v2.alloc (.cells (outN x ao1 ac1 (M.pl r).up ko1 (R r).length kc1) 36) = V1) := hV1
      have HN1 : Hid (v2.heap.size = N1) := hN1
      have b0 := hB1.c0
      have b7 := hB1.c7
      rw [HXF.out.1] at b0
      rw [HXF.out.2] at b7
      have kXV : Kept (fun k => k < X.heap.size) X V1 := HK1.out.trans (hB1.kept.mono fun k h => Nat.lt_of_lt_of_le h HK1.out.size)
      have rt := HTOP.out V1 kXV
      have HKV : Hid (Kept (fun k => k < X.heap.size) X V1) := kXV
      clear rn hQ1 hKa hN1 hV1 hB1 kXV
      go_upto_region 3 with fail
      rw [HV1.out, HN1.out]
      clear HV1 HN1
      go_wp2_with (go_at_call 25; refine rt.mono ?_; rintro e v3 ⟨rfl, hk3⟩)
      go_ret
      exact ⟨rfl, HKV.out.trans (hk3.mono fun k h => Nat.lt_of_lt_of_le h HKV.out.size)⟩
    · have hrt : t = r := by
        cases hT with
        | here h0 k0 => exact h0.one hTr
        | up h0 k0 _ _ => rw [h0.one hTr] at k0; exact absurd k0 c
      subst hrt
      obtain ⟨kd, hkd⟩ : ∃ kd, (M.nd t).kind = kd := ⟨_, rfl⟩
      have HKD : Hid ((M.nd t).kind = kd) := hkd
      rw [hkd] at c
      have e1 : ((kd : Int) == 5) = false := by simp; omega
      clear ih hT hTr hd hI hkd hup
      go_enter Tryz.func25, Tryz.ntmps25
      go_wp2_with fail
      refine r1.mono ?_
      rintro e v1 ⟨rfl, hk1⟩
      have rn := HND.out v1 hk1
      have HK1 : Hid (Kept (fun k => k < X.heap.size) X v1) := hk1
      clear r1 hk1
      go_wp2_with fail
      refine rn.mono ?_
      rintro e v2 ⟨ao1, ac1, ko1, kc1, rfl, -, hQ1, hKa⟩
      have HK2 : Hid (∀ o, Kept (fun k => k < X.heap.size) X (v2.alloc o)) := fun o => (HK1.out.trans (hKa.mono fun k h => Nat.lt_of_lt_of_le h HK1.out.size)).alloc (fun k h => Nat.lt_of_lt_of_le h (Nat.le_trans HK1.out.size hKa.size)) o
      rw [HKD.out]
      clear rn hQ1 hKa
      go_wp2
      go_ret
      exact ⟨rfl, HK2.out _⟩
set_option maxRecDepth 20000 in
theorem top_none (K : Nat → Prop) (p : Nat) (M : Dm) (i : Int) (w : World) (h : DX K w p M) (hi : i < 0 ∨ (M.n : Int) ≤ i) (hn : M.n ≤ 1000000) :
    Calls Tryz.prog 25 #[.pointer (some ⟨p, 0, none⟩), .int .i64 i] w fun e w' => e = .returned (.int .i64 (-1)) ∧ Kept (fun k => k < w.heap.size) w w' := by
  have r1 := oroot_none K p i M w h hi hn
  have HX : Hid (DX K w p M) := h
  clear h hi
  go_enter Tryz.func25, Tryz.ntmps25
  go_wp2_with fail
  refine r1.mono ?_
  rintro e w1 ⟨rfl, hK1⟩
  have r2 := node_none K p M (-1) w1 (HX.out.kept hK1) (.inl (by decide)) hn
  have HK1 : Hid (Kept (fun k => k < w.heap.size) w w1) := hK1
  clear r1 hK1
  go_wp2_with fail
  refine r2.mono ?_
  rintro e v1 ⟨rfl, hK2⟩
  have HK2 : Hid (∀ o, Kept (fun k => k < w.heap.size) w (v1.alloc o)) := fun o => (HK1.out.trans (hK2.mono fun k h => Nat.lt_of_lt_of_le h HK1.out.size)).alloc (fun k h => Nat.lt_of_lt_of_le h (Nat.le_trans HK1.out.size hK2.size)) o
  clear r2 hK2
  go_wp2
  go_ret
  exact ⟨rfl, HK2.out _⟩
theorem kT4 : trI kM4.n kR4 0 = [0, 1, 2] := by kernel_rfl
theorem kTop2 : RootI kM4 2 0 := .inr ⟨2, 0, by decide, rfl, .up (m := 1) (by kernel_rfl) (.up (m := 0) (by kernel_rfl) (.here (by kernel_rfl))), by decide, rfl⟩
theorem kTop1 : RootI kM4 1 0 := .inr ⟨1, 0, by decide, rfl, .up (m := 0) (by kernel_rfl) (.here (by kernel_rfl)), by decide, rfl⟩
theorem kTop9 : RootI kM4 9 (-1) := .inl ⟨.inr (by decide), rfl⟩
theorem kBef : befB kM4 kR4 1 2 0 0 = true := by kernel_rfl
set_option maxRecDepth 20000 in
set_option maxHeartbeats 2000000 in
theorem oknown_any (w : World) : Calls Tryz.prog 21 #[] w fun e w' => e = .returned (.bool true) ∧ Kept (fun k => k < w.heap.size) w w' := by
  have r0 := new_yes 9 w (by decide) (by decide)
  go_enter Tryz.func21, Tryz.ntmps21
  go_wp2_with fail
  refine r0.mono ?_
  rintro e w1 ⟨p, rfl, hp, hX1, hK1⟩
  have HK1 : Hid (Kept (fun k => k < w.heap.size) w w1) := hK1
  have H1 : Hid (Calls Tryz.prog 75 #[.pointer (some ⟨p, 0, none⟩), plainV 1 divB ⟨#[]⟩] w1 fun e w' => e = .returned (.tuple #[.int .i64 1, .int .u16 0]) ∧ DX (fun k => k < w.heap.size) w' p ((Dm.new 9).add divN) ∧ Kept (fun k => k < w.heap.size) w1 w') := make1 (fun k => k < w.heap.size) p (Dm.new 9) w1 1 1 divB ⟨#[]⟩ [100, 105, 118] [] rfl divB_list empB_list hX1 (by decide) (by decide) sound_div (by decide) (by decide)
  clear r0 hX1 hK1
  go_wp2_with fail
  refine H1.out.mono ?_
  rintro e w2 ⟨rfl, hX2, hK2⟩
  have HK2 : Hid (Kept (fun k => k < w.heap.size) w w2) := HK1.out.trans hK2
  have H2 : Hid (Calls Tryz.prog 75 #[.pointer (some ⟨p, 0, none⟩), plainV 2 ⟨#[]⟩ ⟨#[120]⟩] w2 fun e w' => e = .returned (.tuple #[.int .i64 2, .int .u16 0]) ∧ DX (fun k => k < w.heap.size) w' p kM2 ∧ Kept (fun k => k < w.heap.size) w2 w') := make1 (fun k => k < w.heap.size) p ((Dm.new 9).add divN) w2 2 2 ⟨#[]⟩ ⟨#[120]⟩ [] [120] rfl empB_list xB_list hX2 (by decide) (by decide) sound_txt (by decide) (by decide)
  clear hX2 hK2 H1
  go_wp2_with fail
  refine H2.out.mono ?_
  rintro e w3 ⟨rfl, hX3, hK3⟩
  have HK3 : Hid (Kept (fun k => k < w.heap.size) w w3) := HK2.out.trans hK3
  have r1 := insert_in (fun k => k < w.heap.size) p 0 1 (-1) kM2 kR2 _ w3 hX3 kG2.wf kG2.acy (by decide) (by decide) (.inl rfl) (by decide)
  have H3 : Hid (Calls Tryz.prog 36 #[.pointer (some ⟨p, 0, none⟩), .int .i64 0, .int .i64 1, .int .i64 (-1)] w3 fun e w' => e = .returned (.int .u16 0) ∧ DX (fun k => k < w.heap.size) w' p kM3 ∧ Kept (fun k => k < w.heap.size) w3 w') := r1.mono fun e w' h => by
    rcases h with ⟨hK, ⟨_, h, _⟩ | ⟨h1, _, h2⟩⟩
    · exact absurd kF2 h
    · exact ⟨h1, h2, hK⟩
  clear r1 hX3 hK3 H2
  go_wp2_with fail
  refine H3.out.mono ?_
  rintro e w4 ⟨rfl, hX4, hK4⟩
  have HK4 : Hid (Kept (fun k => k < w.heap.size) w w4) := HK3.out.trans hK4
  obtain ⟨rk3, hG3⟩ := kG2.ins (by decide) (by decide) kF2
  have hG3' : Good kM3 kR3 rk3 := hG3
  have r1 := insert_in (fun k => k < w.heap.size) p 1 2 (-1) kM3 kR3 rk3 w4 hX4 hG3'.wf hG3'.acy (by decide) (by decide) (.inl rfl) (by decide)
  have H4 : Hid (Calls Tryz.prog 36 #[.pointer (some ⟨p, 0, none⟩), .int .i64 1, .int .i64 2, .int .i64 (-1)] w4 fun e w' => e = .returned (.int .u16 0) ∧ DX (fun k => k < w.heap.size) w' p kM4 ∧ Kept (fun k => k < w.heap.size) w4 w') := r1.mono fun e w' h => by
    rcases h with ⟨hK, ⟨_, h, _⟩ | ⟨h1, _, h2⟩⟩
    · exact absurd kF3 h
    · exact ⟨h1, h2, hK⟩
  have HG4 : Hid (∃ rk4, Good kM4 kR4 rk4) := hG3'.ins (by decide) (by decide) kF3
  clear r1 hX4 hK4 H3 hG3 hG3'
  go_wp2_with fail
  refine H4.out.mono ?_
  rintro e w5 ⟨rfl, hX5, hK5⟩
  have HK5 : Hid (Kept (fun k => k < w.heap.size) w w5) := HK4.out.trans hK5
  obtain ⟨rk4, hG4⟩ := HG4.out
  have rt := tree_any (fun k => k < w.heap.size) p kM4 kR4 rk4 w5 hX5 hG4 (by decide) 0
  rw [kT4] at rt
  have HX5 : Hid (DX (fun k => k < w.heap.size) w5 p kM4) := hX5
  have HG : Hid (Good kM4 kR4 rk4) := hG4
  clear H4 hX5 hK5 hG4 HG4
  go_wp2_with fail
  refine rt.mono ?_
  rintro e w6 ⟨ao, c, rfl, hO, hK6⟩
  have hI : IntsAt (fun g => g < w6.heap.size) w6 ao [0, 1, 2] := hO.intsAt fun g hg => (hO.out hg).2
  obtain ⟨g, rfl, hg, hcl⟩ : ∃ g, ao = some ⟨g, 0, none⟩ ∧ g < w6.heap.size ∧ w6.cell? ⟨g, 0, none⟩ = some (.int .i64 0) ∧ w6.cell? ⟨g, 1, none⟩ = some (.int .i64 1) ∧ w6.cell? ⟨g, 2, none⟩ = some (.int .i64 2) := by
    obtain ⟨g, e, h0⟩ := hO.cell (j := 0) (u := .int .i64 0) rfl
    obtain ⟨g1, e1, h1⟩ := hO.cell (j := 1) (u := .int .i64 1) rfl
    obtain ⟨g2, e2, h2⟩ := hO.cell (j := 2) (u := .int .i64 2) rfl
    rw [e] at e1 e2
    injection e1 with e1
    injection e1 with e1
    injection e2 with e2
    injection e2 with e2
    subst e1 e2
    exact ⟨g, e, (hO.out (g := g) e).2, h0, h1, h2⟩
  obtain ⟨a0, a1, a2⟩ := hcl
  have hX6 : DX (fun k => k < w.heap.size) w6 p kM4 := HX5.out.kept hK6
  have q2 := kTop2.calls hX6 HG.out (by decide)
  have HQ9 : Hid (∀ X, Kept (fun k => k < w6.heap.size) w6 X → Calls Tryz.prog 26 #[.pointer (some ⟨p, 0, none⟩), .int .i64 9] X fun e w' => e = .returned (.int .i64 (-1)) ∧ Kept (fun k => k < X.heap.size) X w') := fun X hX => kTop9.calls (hX6.kept hX) HG.out (by decide)
  have HQB : Hid (∀ X, Kept (fun k => k < w6.heap.size) w6 X → Calls Tryz.prog 34 #[.pointer (some ⟨p, 0, none⟩), .int .i64 1, .int .i64 2] X fun e w' => e = .returned (.bool true) ∧ Kept (fun k => k < X.heap.size) X w') := fun X hX => by
    have := before_any (fun k => k < w.heap.size) p kM4 kR4 rk4 X (hX6.kept hX) HG.out (by decide) 1 2 0 0 kTop1 kTop2
    rw [kBef] at this
    exact this
  have HK6 : Hid (Kept (fun k => k < w.heap.size) w w6) := HK5.out.trans (hK6.mono fun k h => Nat.lt_of_lt_of_le h HK5.out.size)
  clear rt hO hK6 hI hX6
  go_wp2_with fail
  refine q2.mono ?_
  rintro e w7 ⟨rfl, hk7⟩
  have q9 := HQ9.out w7 hk7
  have HK7 : Hid (Kept (fun k => k < w6.heap.size) w6 w7) := hk7
  clear q2 hk7
  go_wp2_with fail
  refine q9.mono ?_
  rintro e w8 ⟨rfl, hk8⟩
  have k68 : Kept (fun k => k < w6.heap.size) w6 w8 := HK7.out.trans (hk8.mono fun k h => Nat.lt_of_lt_of_le h HK7.out.size)
  have qb := HQB.out w8 k68
  have HK8 : Hid (Kept (fun k => k < w.heap.size) w w8) := HK6.out.trans (k68.mono fun k h => Nat.lt_of_lt_of_le h HK6.out.size)
  clear q9 hk8 k68
  go_wp2_with (go_at_call 34; refine qb.mono ?_; rintro e w9 ⟨rfl, hk9⟩)
  go_ret
  exact ⟨rfl, HK8.out.trans (hk9.mono fun k h => Nat.lt_of_lt_of_le h HK8.out.size)⟩
end Go.Proofs.YtbhfnbplbkncmaaGreat
namespace Go.Proofs.YtbhfnbplbkncmaaGreat
open Go.RowKit
set_option linter.unusedVariables false
set_option maxRecDepth 20000 in
set_option maxHeartbeats 1000000 in
theorem of_any (K : Nat → Prop) (p i : Nat) (M : Dm) (R : Nat → List Nat) (rk : Nat → Nat) (w : World) (h : DX K w p M) (hG : Good M R rk) (hi : i < M.n) (hn : M.n ≤ 1000000) :
    Calls Tryz.prog 42 #[.pointer (some ⟨p, 0, none⟩), .int .i64 (i : Int)] w fun e w' => ∃ z : Int, OfOf M i z ∧ e = .returned (.int .i64 z) ∧ Kept (fun k => k < w.heap.size) w w' := by
  have r1 := oroot_any K p i M R rk w h hG hi hn
  have HG : Hid (Good M R rk) := hG
  have HX : Hid (DX K w p M) := h
  clear h hG
  go_enter Tryz.func42, Tryz.ntmps42
  go_wp2_with fail
  refine r1.mono ?_
  rintro e w1 ⟨t, ht, hT, rfl, hK1⟩
  have r2 := node_any K p t M R w1 (HX.out.kept hK1) HG.out.wf ht hn HG.out.few
  have HT : Hid (TopOf M i t) := hT
  have HK1 : Hid (Kept (fun k => k < w.heap.size) w w1) := hK1
  clear r1 hT hK1
  go_upto_region 2 with fail
  go_wp2_with fail
  refine r2.mono ?_
  rintro e v1 ⟨ao1, ac1, ko1, kc1, rfl, -, -, hK2⟩
  have HK2 : Hid (∀ o, Kept (fun k => k < w.heap.size) w (v1.alloc o)) := fun o => (HK1.out.trans (hK2.mono fun k h => Nat.lt_of_lt_of_le h HK1.out.size)).alloc (fun k h => Nat.lt_of_lt_of_le h (Nat.le_trans HK1.out.size hK2.size)) o
  obtain ⟨kd, hkd⟩ : ∃ kd, (M.nd t).kind = kd := ⟨_, rfl⟩
  have HKD : Hid ((M.nd t).kind = kd) := hkd
  rw [hkd]
  clear r2 hK2 hkd
  by_cases c : kd = 5
  · subst c
    go_wp2
    go_ret
    exact ⟨_, .yes HT.out HKD.out, rfl, HK2.out _⟩
  · have e1 : ((kd : Int) == 5) = false := by simp; omega
    have e2 : ¬ (kd : Int) = 5 := by omega
    go_wp2
    go_ret
    exact ⟨_, .no HT.out (by rw [HKD.out]; exact c), rfl, HK2.out _⟩
end Go.Proofs.YtbhfnbplbkncmaaGreat
namespace Go.Proofs.YtbhfnbplbkncmaaGreat
open Go.RowKit Go.Sort
set_option linter.unusedVariables false
set_option maxRecDepth 20000 in
theorem othere_any (K : Nat → Prop) (p : Nat) (M : Dm) (R G : Nat → List Nat) (i : Int) (w : World) (h : RX K w p M R G) :
    Calls Tryz.prog 84 #[.pointer (some ⟨p, 0, none⟩), .int .i64 i] w fun e w' => e = .returned (.bool (decide (0 ≤ i) && decide (i < (M.n : Int)))) ∧ w' = w := by
  obtain ⟨A, h⟩ := h
  have c1 := h.c1
  clear h
  by_cases h0 : 0 ≤ i
  · have e0 : decide (i ≥ 0) = true := decide_eq_true h0
    rw [decide_eq_true h0]
    go_enter Tryz.func84, Tryz.ntmps84
    go_wp2
    go_ret
    exact ⟨by simp, rfl⟩
  · have e0 : decide (i ≥ 0) = false := decide_eq_false h0
    rw [decide_eq_false h0]
    go_enter Tryz.func84, Tryz.ntmps84
    go_wp2
    go_ret
    exact ⟨by simp, rfl⟩
set_option maxRecDepth 20000 in
theorem pRoot_none (K : Nat → Prop) (p : Nat) (M : Dm) (R G : Nat → List Nat) (i : Int) (w : World) (h : RX K w p M R G) (hi : i < 0 ∨ (M.n : Int) ≤ i) :
    Calls Tryz.prog 29 #[.pointer (some ⟨p, 0, none⟩), .int .i64 i] w fun e w' => e = .returned (.int .i64 (-1)) ∧ w' = w := by
  have rt := othere_any K p M R G i w h
  rw [there_no hi] at rt
  clear h hi
  go_enter Tryz.func29, Tryz.ntmps29
  go_wp2_with (go_at_call 84; refine rt.mono ?_; rintro e1 w3 ⟨rfl, hw3⟩; replace hw3 := hw3.symm; subst hw3)
  go_ret
  exact ⟨rfl, rfl⟩
set_option maxRecDepth 20000 in
set_option maxHeartbeats 1000000 in
theorem pRoot_any (K : Nat → Prop) (p i : Nat) (M : Dm) (R G : Nat → List Nat) (rk : Nat → Nat) (w : World) (h : RX K w p M R G) (hG : Good M R rk) (hi : i < M.n) (hn : M.n ≤ 1000000) :
    Calls Tryz.prog 29 #[.pointer (some ⟨p, 0, none⟩), .int .i64 (i : Int)] w fun e w' => ∃ t, t < M.n ∧ TopOf M i t ∧ e = .returned (.int .i64 (t : Int)) ∧ w' = w := by
  have rt := othere_any K p M R G (i : Int) w h
  rw [there_yes hi] at rt
  obtain ⟨A, h⟩ := h
  obtain ⟨g, hg, -, -, -⟩ := h.nat (by omega)
  have c1 := h.c1
  rw [hg] at c1
  have HC : Hid (∀ k, k < M.n → w.cell? ⟨g, k * 14 + 4, none⟩ = some (.int .i64 (M.pl k).up)) := fun k hk => h.cell hg hk 4 _ rfl
  have HG : Hid (Good M R rk) := hG
  clear h hg hG
  go_enter Tryz.func29, Tryz.ntmps29
  go_upto_region 3 with (go_at_call 84; refine rt.mono ?_; rintro e1 w3 ⟨rfl, hw3⟩; replace hw3 := hw3.symm; subst hw3)
  go_loopg [1] (rk i) (fun gh v wr => wr = w ∧ ∃ k : Nat, gh = rk k ∧ v = .int .i64 (k : Int) ∧ k < M.n ∧ (∀ t, TopOf M k t → TopOf M i t))
  case atStart => exact ⟨rfl, i, rfl, rfl, hi, fun _ h => h⟩
  case round =>
    obtain ⟨rfl, k, hgk, rfl, hk, hT⟩ := hrel
    have HT : Hid (∀ t, TopOf M k t → TopOf M i t) := hT
    have d4 := HC.out k hk
    clear hT
    rcases HG.out.wf.inn k hk with h0 | ⟨u, hu, hup, -⟩
    · rw [h0] at d4
      have H0 : Hid ((M.pl k).up = -1) := h0
      have e0 : decide ((-1 : Int) ≥ 0) = false := by decide
      clear h0
      go_wp2
      go_ret
      exact ⟨k, hk, HT.out k (.here H0.out), rfl, rfl⟩
    · have HUP : Hid ((M.pl k).up = (u : Int)) := hup
      have hrk := (HG.out.rk_up hk hup).2
      have e0 : decide ((u : Int) ≥ 0) = true := decide_eq_true (by omega)
      rw [hup] at d4
      clear hup
      go_wp2
      go_roundg (rk u)
      case rel => exact ⟨rfl, u, rfl, rfl, hu, fun t ht => HT.out t (.up HUP.out ht)⟩
      case measure => omega
theorem OfOf.ex {M : Dm} {R : Nat → List Nat} {rk : Nat → Nat} (h : Good M R rk) {i : Nat} (hi : i < M.n) : ∃ z, OfOf M i z := by
  obtain ⟨t, ht, hT, _⟩ := h.top (rk i + 1) i (Nat.lt_succ_self _) hi
  by_cases c : (M.nd t).kind = 5
  · exact ⟨_, .yes hT c⟩
  · exact ⟨_, .no hT c⟩
end Go.Proofs.YtbhfnbplbkncmaaGreat
namespace Go.Proofs.YtbhfnbplbkncmaaGreat
open Go.RowKit
set_option linter.unusedVariables false
section
variable {K E : Nat → Prop} {w : World} {p r : Nat} {M : Dm} {R G : Nat → List Nat} {rk : Nat → Nat} {lim : Nat}
theorem Grown.nle (h : Grown K E w p r M R G rk lim) (hl : lim ≤ 100000) : M.n ≤ 100000 := by have := h.le; rw [h.lim] at this; omega
theorem Grown.root (h : Grown K E w p r M R G rk lim) (hl : lim ≤ 100000) {i t : Nat} (hi : i < M.n) (hT : TopOf M i t) {X : World} (hk : Kept (fun k => k < w.heap.size) w X) :
    Calls Tryz.prog 26 #[.pointer (some ⟨p, 0, none⟩), .int .i64 (i : Int)] X fun e w' => e = .returned (.int .i64 (t : Int)) ∧ Kept (fun k => k < X.heap.size) X w' :=
  (oroot_any _ p i M R rk X (h.two.d.kept hk) h.inv.good hi (by have := h.nle hl; omega)).mono fun e w' ⟨t', _, h2, h3, h4⟩ => by rw [h2.one hT] at h3; exact ⟨h3, h4⟩
theorem Grown.of (h : Grown K E w p r M R G rk lim) (hl : lim ≤ 100000) {i : Nat} {z : Int} (hi : i < M.n) (hT : OfOf M i z) {X : World} (hk : Kept (fun k => k < w.heap.size) w X) :
    Calls Tryz.prog 42 #[.pointer (some ⟨p, 0, none⟩), .int .i64 (i : Int)] X fun e w' => e = .returned (.int .i64 z) ∧ Kept (fun k => k < X.heap.size) X w' :=
  (of_any _ p i M R rk X (h.two.d.kept hk) h.inv.good hi (by have := h.nle hl; omega)).mono fun e w' ⟨t', h2, h3, h4⟩ => by rw [h2.one hT] at h3; exact ⟨h3, h4⟩
theorem Inv.of (h : Inv M R G rk) {i : Nat} (hi : i < M.n) : ∃ z t, OfOf M i z ∧ t < M.n ∧ TopOf M i t ∧ ((z = (t : Int) ∧ (M.nd t).kind = 5) ∨ (z = -1 ∧ (M.nd t).kind ≠ 5)) := by
  obtain ⟨t, ht, hT, _⟩ := h.good.top (rk i + 1) i (Nat.lt_succ_self _) hi
  by_cases c : (M.nd t).kind = 5
  · exact ⟨_, t, .yes hT c, ht, hT, .inl ⟨rfl, c⟩⟩
  · exact ⟨_, t, .no hT c, ht, hT, .inr ⟨rfl, c⟩⟩
end
end Go.Proofs.YtbhfnbplbkncmaaGreat
namespace Go.Proofs.YtbhfnbplbkncmaaGreat
open Go.RowKit Go.Sort
set_option linter.unusedVariables false
section
variable {K E : Nat → Prop} {w : World} {p r : Nat} {M : Dm} {R G : Nat → List Nat} {rk : Nat → Nat} {lim : Nat}
theorem Grown.top (h : Grown K E w p r M R G rk lim) (hl : lim ≤ 100000) {i t : Nat} (hi : i < M.n) (hT : TopT M i t) {X : World} (hk : Kept (fun k => k < w.heap.size) w X) :
    Calls Tryz.prog 25 #[.pointer (some ⟨p, 0, none⟩), .int .i64 (i : Int)] X fun e w' => e = .returned (.int .i64 (t : Int)) ∧ Kept (fun k => k < X.heap.size) X w' :=
  top_any _ p M R G rk w h.two.d h.inv (h.nle hl) _ i (Nat.lt_succ_self _) hi t hT X hk
end
end Go.Proofs.YtbhfnbplbkncmaaGreat
namespace Go.Proofs.YtbhfnbplbkncmaaGreat
open Go.RowKit Go.Sort
set_option linter.unusedVariables false
section
variable {K E : Nat → Prop} {w : World} {p r : Nat} {M : Dm} {R G : Nat → List Nat} {rk : Nat → Nat} {lim : Nat}
theorem Grown.tree (h : Grown K E w p r M R G rk lim) (hl : lim ≤ 100000) (i : Int) {X : World} (hk : Kept (fun k => k < w.heap.size) w X) : Calls Tryz.prog 27 #[.pointer (some ⟨p, 0, none⟩), .int .i64 i] X (Lst X (trI M.n R i)) :=
  tree_any _ p M R rk X (h.two.d.kept hk) h.inv.good (h.nle hl) i
theorem Grown.all (h : Grown K E w p r M R G rk lim) (hl : lim ≤ 100000) (i : Int) {X : World} (hk : Kept (fun k => k < w.heap.size) w X) : Calls Tryz.prog 28 #[.pointer (some ⟨p, 0, none⟩), .int .i64 i] X (Lst X (trI M.n (fwd M R) i)) :=
  all_any _ p M R G rk X (h.two.d.kept hk) h.inv (h.nle hl) i
end
end Go.Proofs.YtbhfnbplbkncmaaGreat
