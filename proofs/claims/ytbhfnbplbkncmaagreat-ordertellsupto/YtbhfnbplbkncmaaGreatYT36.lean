/-
  The statements' own Within.
  Does: what comes ahead of each call (both documents beside a box of one's own).
-/
import Derived.Test.YtbhfnbplbkncmaaGreatYT35
namespace Go.Proofs.YtbhfnbplbkncmaaGreat
open Go.RowKit
set_option linter.unusedVariables false
def insN (n : Nat) (z : Int) : Nat := z.toNat % n
/-- A call whose numbers are those of nodes. -/
def Opx.within (o : Opx) (n : Nat) : Opx := if o.inn = false then o else { o with a := (insN n o.a : Int), b := (insN n o.b : Int), c := if 0 ≤ o.c then (insN n o.c : Int) else -1, l := o.l.map fun z => (insN n z : Int) }
abbrev opV (o : Opx) (A : OpA) : Value := .agg (opC o A).toArray
theorem size37 (cs : Array Value) (h : cs.size = 17) : (Tryz.prog.info? 54).map (·.size) = some cs.size := by rw [h]; kernel_rfl
theorem opC_one (o : Opx) (A : OpA) : (opC o A).toArray.all (·.oneCell') = true := by unfold opC; kernel_rfl
abbrev zero17 : Array Value := #[.int .u8 0, .int .i64 0, .int .i64 0, .int .i64 0, .bool false, .int .u8 0, .string ⟨#[]⟩, .string ⟨#[]⟩, .slice none 0 0, .string ⟨#[]⟩, .string ⟨#[]⟩, .slice none 0 0, .bool false, .bool false, .bool false, .bool false, .bool false]
theorem heap_two (w : World) (a b : Obj) : ((w.alloc a).alloc b).heap[w.heap.size]? = some a ∧ ((w.alloc a).alloc b).heap[w.heap.size + 1]? = some b := by
  constructor
  · rw [Below.heap_alloc _ _ _ (by simp)]; exact heap_alloc_new w a
  · have := heap_alloc_new (w.alloc a) b
    simpa using this
theorem kept_two (w : World) (a b : Obj) : Kept (fun j => j < w.heap.size) w ((w.alloc a).alloc b) :=
  ((Kept.refl _ w).alloc (fun _ h => h) a).alloc (fun k h => by simp; omega) b
set_option maxRecDepth 20000 in
theorem within_out (o : Opx) (A : OpA) (n : Nat) (ho : o.inn = false) (w : World) :
    Calls Tryz.prog 87 #[opV o A, .int .i64 (n : Int)] w fun e w' => e = .returned (opV o A) ∧ Kept (fun k => k < w.heap.size) w w' := by
  obtain ⟨N, hN⟩ : ∃ N, w.heap.size = N := ⟨_, rfl⟩
  have HN : Hid (w.heap.size = N) := hN
  obtain ⟨cs, hcs⟩ : ∃ cs, (opC o A).toArray = cs := ⟨_, rfl⟩
  have hsz : cs.size = 17 := by rw [← hcs]; rfl
  have hone : cs.all (·.oneCell') = true := by rw [← hcs]; exact opC_one o A
  have h4 : cs[4]? = some (.bool false) := by rw [← hcs]; show some (Value.bool o.inn) = _; rw [ho]
  show Calls Tryz.prog 87 #[.agg (opC o A).toArray, _] w fun e w' => e = .returned (.agg (opC o A).toArray) ∧ _
  rw [hcs]
  obtain ⟨W, hW⟩ : ∃ W, (w.alloc (.cells cs 54)).alloc (.cells zero17 54) = W := ⟨_, rfl⟩
  have HW : Hid ((w.alloc (.cells cs 54)).alloc (.cells zero17 54) = W) := hW
  have hb := heap_two w (.cells cs 54) (.cells zero17 54)
  have hk := kept_two w (.cells cs 54) (.cells zero17 54)
  rw [hW, hN] at hb
  rw [hW] at hk
  have c4 : W.cell? ⟨N, 4, none⟩ = some (.bool false) := by rw [cell_block hb.1]; exact h4
  have hb0 := hb.1
  have hb1 := hb.2
  have HA : Hid ((W.setRow (N + 1) cs).heap[N + 1]? = some (.cells cs 54 (0, 0))) := setRow_heap _ _ _ _ _ _ hb1
  have HKA : Hid (Kept (fun k => k < N) w (W.setRow (N + 1) cs)) := kept_setRow (by rw [hN] at hk; exact hk) (by omega) _
  clear hW hN hb hcs hk h4 ho
  go_enter Tryz.func87, Tryz.ntmps87
  go_upto_region 1 with fail
  rw [HW.out, HN.out]
  clear HW
  go_wp2_with (first | (refine wpList_load_row rfl 54 _ rfl N rfl 54 cs (0, 0) _ hb0 Tryz.underlying54 rfl (size37 _ hsz) ?_) | (refine wpList_store_row rfl 54 _ _ rfl (N + 1) cs rfl rfl 54 _ hb1 (size37 _ hsz) (by rw [hsz]; rfl) hone ?_))
  refine bodyPost_ret (results_cell_row (p := 4) (ty := 54) rfl _ _ (N + 1) 54 _ _ _ rfl HA.out Tryz.underlying54 rfl (size37 _ hsz)) rfl ?_
  exact ⟨rfl, by rw [HN.out]; exact HKA.out⟩
theorem heap_setCell_list {w : World} {g : Nat} {l : List Value} {t : TypeId} (h : w.heap[g]? = some (.cells l.toArray t (0, 0))) (i : Nat) (v : Value) : (w.setCell ⟨g, i, none⟩ v).heap[g]? = some (.cells (l.set i v).toArray t (0, 0)) := by
  rw [heap_setCell_at h i v]
  simp
set_option maxRecDepth 20000 in
set_option maxHeartbeats 2000000 in
theorem within_in (o : Opx) (A : OpA) (n : Nat) (h1 : 1 ≤ n) (hn : n ≤ 1000000) (ho : o.inn = true) (hl : o.l.length ≤ 1000000) (w : World) (hA : IntsZ (fun k => k < w.heap.size) w A.la o.l) :
    Calls Tryz.prog 87 #[opV o A, .int .i64 (n : Int)] w fun e w' => ∃ ao c, e = .returned (opV (o.within n) { A with la := ao, lc := c }) ∧ OwnZ (fun k => k < w.heap.size) w' 3 1 ao o.l.length c (ivs (o.l.map (insN n))) ∧ Kept (fun k => k < w.heap.size) w w' := by
  obtain ⟨N, hN⟩ : ∃ N, w.heap.size = N := ⟨_, rfl⟩
  have HN : Hid (w.heap.size = N) := hN
  obtain ⟨kd, kd'⟩ : ∃ z, o.k = z := ⟨_, rfl⟩
  obtain ⟨za, za'⟩ : ∃ z, o.a = z := ⟨_, rfl⟩
  obtain ⟨zb, zb'⟩ : ∃ z, o.b = z := ⟨_, rfl⟩
  obtain ⟨zc, zc'⟩ : ∃ z, o.c = z := ⟨_, rfl⟩
  obtain ⟨ln, hln⟩ : ∃ ln, o.l.length = ln := ⟨_, rfl⟩
  obtain ⟨ro, hro⟩ : ∃ ro : List Value, [.int .u8 (o.nk : Int), .string o.nn, .string o.nd, .slice A.aa o.ats.length A.ac, .string o.s, .string o.t] = ro := ⟨_, rfl⟩
  obtain ⟨la, hla⟩ : ∃ la, A.la = la := ⟨_, rfl⟩
  obtain ⟨lc, hlc⟩ : ∃ lc, A.lc = lc := ⟨_, rfl⟩
  obtain ⟨L, hL⟩ : ∃ L, o.l = L := ⟨_, rfl⟩
  obtain ⟨ia, hia⟩ : ∃ z, insN n za = z := ⟨_, rfl⟩
  obtain ⟨ib, hib⟩ : ∃ z, insN n zb = z := ⟨_, rfl⟩
  obtain ⟨ic, hic⟩ : ∃ z, insN n zc = z := ⟨_, rfl⟩
  have ra : ∀ X, Calls Tryz.prog 147 #[.int .i64 za, .int .i64 (n : Int)] X fun e w' => e = .returned (.int .i64 (ia : Int)) ∧ w' = X := fun X => by rw [← hia]; exact inside_any za n h1 hn X
  have rb : ∀ X, Calls Tryz.prog 147 #[.int .i64 zb, .int .i64 (n : Int)] X fun e w' => e = .returned (.int .i64 (ib : Int)) ∧ w' = X := fun X => by rw [← hib]; exact inside_any zb n h1 hn X
  have rc : ∀ X, Calls Tryz.prog 147 #[.int .i64 zc, .int .i64 (n : Int)] X fun e w' => e = .returned (.int .i64 (ic : Int)) ∧ w' = X := fun X => by rw [← hic]; exact inside_any zc n h1 hn X
  have RL : Hid (∀ z X, Calls Tryz.prog 147 #[.int .i64 z, .int .i64 (n : Int)] X fun e w' => e = .returned (.int .i64 (insN n z : Int)) ∧ w' = X) := fun z X => inside_any z n h1 hn X
  obtain ⟨c2, hc2⟩ : ∃ c2 : Int, (if 0 ≤ zc then (insN n zc : Int) else -1) = c2 := ⟨_, rfl⟩
  rw [hic] at hc2
  have hw : ∀ ao c, opC (o.within n) { A with la := ao, lc := c } = [.int .u8 (kd : Int), .int .i64 (ia : Int), .int .i64 (ib : Int), .int .i64 c2, .bool true, .int .u8 (o.nk : Int), .string o.nn, .string o.nd, .slice A.aa o.ats.length A.ac, .string o.s, .string o.t, .slice ao ln c, .bool o.f.a, .bool o.f.b, .bool o.f.c, .bool o.f.d, .bool o.f.e] := fun ao c => by
    have e : o.within n = { o with a := (insN n o.a : Int), b := (insN n o.b : Int), c := if 0 ≤ o.c then (insN n o.c : Int) else -1, l := o.l.map fun z => (insN n z : Int) } := if_neg (by rw [ho]; decide)
    rw [e, ← hc2, ← hic, ← hib, ← hia, ← zc', ← zb', ← za', ← kd', ← hln]
    simp only [opC, ho, List.length_map]
  have hv : opV o A = .agg #[.int .u8 (kd : Int), .int .i64 za, .int .i64 zb, .int .i64 zc, .bool true, .int .u8 (o.nk : Int), .string o.nn, .string o.nd, .slice A.aa o.ats.length A.ac, .string o.s, .string o.t, .slice la ln lc, .bool o.f.a, .bool o.f.b, .bool o.f.c, .bool o.f.d, .bool o.f.e] := by
    rw [← zc', ← zb', ← za', ← kd', ← hln, ← hla, ← hlc]
    simp only [opV, opC, ho]
  rw [hv]
  have HWI : Hid (∀ ao c, opC (o.within n) { A with la := ao, lc := c } = [.int .u8 (kd : Int), .int .i64 (ia : Int), .int .i64 (ib : Int), .int .i64 c2, .bool true, .int .u8 (o.nk : Int), .string o.nn, .string o.nd, .slice A.aa o.ats.length A.ac, .string o.s, .string o.t, .slice ao ln c, .bool o.f.a, .bool o.f.b, .bool o.f.c, .bool o.f.d, .bool o.f.e]) := hw
  have HA : Hid (IntsZ (fun k => k < w.heap.size) w la L) := by rw [← hla, ← hL]; exact hA
  have HLN : Hid (L.length = ln) := by rw [← hL]; exact hln
  have hll : ln ≤ 1000000 := by rw [← hln]; exact hl
  rw [hln, hL]
  obtain ⟨LM, hLM⟩ : ∃ LM, L.map (insN n) = LM := ⟨_, rfl⟩
  rw [hLM]
  have HLM : Hid (L.map (insN n) = LM) := hLM
  clear hLM
  obtain ⟨nk, hnk⟩ : ∃ z, o.nk = z := ⟨_, rfl⟩
  obtain ⟨nn, hnn⟩ : ∃ z, o.nn = z := ⟨_, rfl⟩
  obtain ⟨nd, hnd⟩ : ∃ z, o.nd = z := ⟨_, rfl⟩
  obtain ⟨an, han⟩ : ∃ z, o.ats.length = z := ⟨_, rfl⟩
  obtain ⟨ss, hss⟩ : ∃ z, o.s = z := ⟨_, rfl⟩
  obtain ⟨tt, htt⟩ : ∃ z, o.t = z := ⟨_, rfl⟩
  obtain ⟨f, hf⟩ : ∃ z, o.f = z := ⟨_, rfl⟩
  rw [hnk, hnn, hnd, han, hss, htt, hf] at HWI ⊢
  clear hv hw hA hL hla hlc hro kd' za' zb' zc' hln hl hnk hnn hnd han hss htt hf ho hia hib hic
  obtain ⟨W, hW⟩ : ∃ W, (w.alloc (.cells #[.int .u8 (kd : Int), .int .i64 (ia : Int), .int .i64 (ib : Int), .int .i64 c2, .bool true, .int .u8 (nk : Int), .string nn, .string nd, .slice A.aa an A.ac, .string ss, .string tt, .slice la ln lc, .bool f.a, .bool f.b, .bool f.c, .bool f.d, .bool f.e] 54)).alloc (.cells zero17 54) = W := ⟨_, rfl⟩
  have hb := heap_two w (.cells #[.int .u8 (kd : Int), .int .i64 (ia : Int), .int .i64 (ib : Int), .int .i64 c2, .bool true, .int .u8 (nk : Int), .string nn, .string nd, .slice A.aa an A.ac, .string ss, .string tt, .slice la ln lc, .bool f.a, .bool f.b, .bool f.c, .bool f.d, .bool f.e] 54) (.cells zero17 54)
  have hk := kept_two w (.cells #[.int .u8 (kd : Int), .int .i64 (ia : Int), .int .i64 (ib : Int), .int .i64 c2, .bool true, .int .u8 (nk : Int), .string nn, .string nd, .slice A.aa an A.ac, .string ss, .string tt, .slice la ln lc, .bool f.a, .bool f.b, .bool f.c, .bool f.d, .bool f.e] 54) (.cells zero17 54)
  rw [hW, hN] at hb
  rw [hW] at hk
  have HB : Hid (W.heap[N]? = some (.cells [.int .u8 (kd : Int), .int .i64 (ia : Int), .int .i64 (ib : Int), .int .i64 c2, .bool true, .int .u8 (nk : Int), .string nn, .string nd, .slice A.aa an A.ac, .string ss, .string tt, .slice la ln lc, .bool f.a, .bool f.b, .bool f.c, .bool f.d, .bool f.e].toArray 54 (0, 0)) ∧ W.heap[N + 1]? = some (.cells zero17 54 (0, 0))) := hb
  have HKW : Hid (Kept (fun k => k < N) w W) := by rw [hN] at hk; exact hk
  have HW : Hid ((w.alloc (.cells #[.int .u8 (kd : Int), .int .i64 (ia : Int), .int .i64 (ib : Int), .int .i64 c2, .bool true, .int .u8 (nk : Int), .string nn, .string nd, .slice A.aa an A.ac, .string ss, .string tt, .slice la ln lc, .bool f.a, .bool f.b, .bool f.c, .bool f.d, .bool f.e] 54)).alloc (.cells zero17 54) = W) := hW
  have HC2 : Hid ((if 0 ≤ zc then (ic : Int) else -1) = c2) := hc2
  clear hW hb hk hN hc2
  go_enter Tryz.func87, Tryz.ntmps87
  go_upto_if 23 with (first | (go_at_call 147; with_reducible refine (ra _).mono ?_; rintro e w1 ⟨rfl, hw1⟩; replace hw1 := hw1.symm; subst hw1) | (go_at_call 147; with_reducible refine (rb _).mono ?_; rintro e w1 ⟨rfl, hw1⟩; replace hw1 := hw1.symm; subst hw1))
  go_cut [] (fun wx => wx = W)
  case first =>
    by_cases hz : 0 ≤ zc
    · have e0 : decide (zc ≥ 0) = true := decide_eq_true hz
      have e1 : decide (0 ≤ zc) = true := decide_eq_true hz
      have hc : c2 = (ic : Int) := by rw [← HC2.out, if_pos hz]
      clear HC2
      subst hc
      go_wp2_with (go_at_call 147; with_reducible refine (rc _).mono ?_; rintro e w1 ⟨rfl, hw1⟩; replace hw1 := hw1.symm; subst hw1)
      go_meet
      case rel => exact HW.out
    · have e0 : decide (zc ≥ 0) = false := decide_eq_false hz
      have e1 : decide (0 ≤ zc) = false := decide_eq_false hz
      have hc : c2 = -1 := by rw [← HC2.out, if_neg hz]
      clear HC2
      subst hc
      go_wp2
      go_meet
      case rel => exact HW.out
  case rest =>
    subst hcut
    have c11 : wc.cell? ⟨N, 11, none⟩ = some (.slice la ln lc) := by rw [cell_block HB.out.1]; rfl
    have hNl : N < wc.heap.size := lt_block HB.out.1
    obtain ⟨W, hW⟩ : ∃ W, wc = W := ⟨_, rfl⟩
    subst hW
    clear ra rb rc HC2 HW
    rw [HN.out]
    go_upto_region 10 with fail
    go_loopg [5, 6] ln (fun gh v5 v6 wr => ∃ (k : Nat) (ao : Option Addr) (c : Nat), gh = ln - k ∧ k ≤ ln ∧ v6 = .int .i64 (k : Int) ∧ v5 = .slice ao k c ∧ OwnZ (fun k => k < wc.heap.size) wr 3 1 ao k c (ivs ((L.take k).map (insN n))) ∧ Kept (fun k => k < wc.heap.size) wc wr)
    case atStart => exact ⟨0, none, 0, rfl, Nat.zero_le _, rfl, rfl, OwnZ.nil _ _ _ _, Kept.refl _ _⟩
    case round =>
      obtain ⟨k, ao, c, hgk, hk, rfl, rfl, hO, hK⟩ := hrel
      have d11 : wr.cell? ⟨N, 11, none⟩ = some (.slice la ln lc) := (hK.cell (p := ⟨N, 11, none⟩) hNl).trans c11
      by_cases hlt : k < ln
      · have hll' : k < L.length := by rw [HLN.out]; exact hlt
        obtain ⟨g1, o1, rfl, hg1, hc1⟩ := HA.out k hll'
        have d : wr.cell? ⟨g1, o1 + k, none⟩ = some (.int .i64 L[k]) := (hK.cell (p := ⟨g1, o1 + k, none⟩) (Nat.lt_of_lt_of_le hg1 HKW.out.size)).trans ((HKW.out.cell (p := ⟨g1, o1 + k, none⟩) (by rw [← HN.out]; exact hg1)).trans hc1)
        have htk : L.take (k + 1) = L.take k ++ [L[k]] := List.take_succ_eq_append_getElem hll'
        obtain ⟨z, hz⟩ : ∃ z, L[k] = z := ⟨_, rfl⟩
        rw [hz] at d htk
        have rl := RL.out z wr
        obtain ⟨iz, hiz⟩ : ∃ iz, insN n z = iz := ⟨_, rfl⟩
        rw [hiz] at rl
        obtain ⟨ao', c', w', hr', hO', hK'⟩ := appI hO (fun k hk => Nat.lt_of_lt_of_le hk hK.size) (by omega) (iz : Int)
        have HO2 : Hid (OwnZ (fun k => k < wc.heap.size) w' 3 1 ao' (k + 1) c' (ivs ((L.take (k + 1)).map (insN n)))) := by
          rw [htk, List.map_append, ivs, List.map_append, List.map_cons, List.map_nil, hiz]; exact (show Hid _ from hO')
        have HK2 : Hid (Kept (fun k => k < wc.heap.size) wc w') := hK.trans hK'
        clear hO hK hc1 hz hiz htk hO' hK'
        go_wp2_with (first | (go_at_call 147; refine rl.mono ?_; rintro e w1 ⟨rfl, hw1⟩; replace hw1 := hw1.symm; subst hw1) | (at_builtin; refine wpList_appR (w' := w') rfl (.tmp 37) (.tmp 45) 32 32 rfl _ _ (.slice ao' (k + 1) c') rfl rfl hr' ?_))
        go_roundg (ln - (k + 1))
        case rel => exact ⟨k + 1, ao', c', rfl, by omega, by go_num, rfl, HO2.out, HK2.out⟩
        case measure => omega
      · have hkn : ln = k := by omega
        subst hkn
        have hall : L.take ln = L := List.take_of_length_le (by rw [HLN.out]; exact Nat.le_refl _)
        rw [hall, HLM.out] at hO
        have hb0 : wr.heap[N]? = _ := (hK.block N hNl).trans HB.out.1
        have hb1 : wr.heap[N + 1]? = _ := (hK.block (N + 1) (lt_block HB.out.2)).trans HB.out.2
        have fz : wr.frozen? ⟨N, 11, none⟩ = false := frozen_block hb0 11
        have hs0 := heap_setCell_list hb0 11 (.slice ao ln c)
        have hne : (⟨N, 11, none⟩ : Addr).block ≠ N + 1 := by show N ≠ N + 1; omega
        obtain ⟨V, hV⟩ : ∃ V, wr.setCell ⟨N, 11, none⟩ (.slice ao ln c) = V := ⟨_, rfl⟩
        have hs1 : V.heap[N + 1]? = some (.cells zero17 54 (0, 0)) := by rw [← hV, Below.heap_setCell _ _ _ _ (fun e => by have e : N + 1 = N := e; omega)]; exact hb1
        rw [hV] at hs0
        have HV : Hid (wr.setCell ⟨N, 11, none⟩ (.slice ao ln c) = V) := hV
        obtain ⟨cs, hcs⟩ : ∃ cs : Array Value, (([.int .u8 (kd : Int), .int .i64 (ia : Int), .int .i64 (ib : Int), .int .i64 c2, .bool true, .int .u8 (nk : Int), .string nn, .string nd, .slice A.aa an A.ac, .string ss, .string tt, .slice la ln lc, .bool f.a, .bool f.b, .bool f.c, .bool f.d, .bool f.e] : List Value).set 11 (.slice ao ln c)).toArray = cs := ⟨_, rfl⟩
        rw [hcs] at hs0
        have hsz : cs.size = 17 := by rw [← hcs]; rfl
        have HCS : Hid ((opC (o.within n) { A with la := ao, lc := c }).toArray = cs) := by rw [HWI.out, ← hcs]; exact (show Hid _ from rfl)
        have hone : cs.all (·.oneCell') = true := by rw [← HCS.out]; exact opC_one _ _
        have HO : Hid (OwnZ (fun k => k < wc.heap.size) wr 3 1 ao ln c (ivs LM)) := hO
        have HK : Hid (Kept (fun k => k < wc.heap.size) wc wr) := hK
        have HANS : Hid ((V.setRow (N + 1) cs).heap[N + 1]? = some (.cells cs 54 (0, 0))) := setRow_heap _ _ _ _ _ _ hs1
        clear hO hK hV hcs hall
        go_upto_region 14 with fail
        rw [HV.out]
        go_wp2_with (first | (refine wpList_load_row rfl 54 _ rfl N rfl 54 cs (0, 0) _ hs0 Tryz.underlying54 rfl (size37 _ hsz) ?_) | (refine wpList_store_row rfl 54 _ _ rfl (N + 1) cs rfl rfl 54 _ hs1 (size37 _ hsz) (by rw [hsz]; rfl) hone ?_))
        refine bodyPost_ret (results_cell_row (p := 4) (ty := 54) rfl _ _ (N + 1) 54 _ _ _ rfl HANS.out Tryz.underlying54 rfl (size37 _ hsz)) rfl ?_
        have kV : Kept (fun k => k < N) w wr := HKW.out.trans (HK.out.mono fun k h => by omega)
        refine ⟨ao, c, by rw [opV, HCS.out], ?_, by rw [HN.out, ← HV.out]; exact kept_setRow (kV.setCell (p := ⟨N, 11, none⟩) (by show ¬ N < N; omega) _) (by omega) _⟩
        refine OwnZ.to HO.out (fun g hg hh => (HO.out.out hg).1 (by rw [HN.out] at hh; show g < wc.heap.size; omega)) (fun g hg => ?_)
        have hgn := (HO.out.out hg).1
        have hgN : g ≠ N := fun e => hgn (by rw [e]; exact hNl)
        have hgN1 : g ≠ N + 1 := fun e => hgn (by rw [e]; exact lt_block HB.out.2)
        rw [setRow_other _ _ _ _ hgN1, ← HV.out, Below.heap_setCell _ _ _ _ (fun e => hgN (by have e : g = N := e; exact e))]
end Go.Proofs.YtbhfnbplbkncmaaGreat

namespace Go.Proofs.YtbhfnbplbkncmaaGreat
open Go.RowKit
set_option linter.unusedVariables false
theorem Two.elt {K E : Nat → Prop} {w : World} {p r : Nat} {M : Dm} {R G : Nat → List Nat} (h : Two K E w p r M R G) : ∀ k, E k → k < w.heap.size := fun k hk => h.d.lt k (.inr hk)
/-- More is kept: what is new. -/
theorem Two.more {K K' E : Nat → Prop} {w w' : World} {p r : Nat} {M : Dm} {R G : Nat → List Nat} (h : Two K E w p r M R G) (hk : Kept (fun k => k < w.heap.size) w w') (hs : ∀ k, k < w.heap.size → K' k → K k) (hl : ∀ k, K' k → k < w'.heap.size) : Two K' E w' p r M R G := by
  refine ⟨h.d.move (fun g hg _ => hk.block g hg) (fun k hl' hh => ?_) (fun k hh => ?_), h.r.move (fun g hg _ => hk.block g hg) hk.size (fun k hl' hh => ?_) (fun k hh => ?_), fun k he hk' => ?_⟩
  · rcases hh with hh | hh
    · exact .inl (hs k hl' hh)
    · exact .inr hh
  · rcases hh with hh | hh
    · exact hl k hh
    · exact Nat.lt_of_lt_of_le (h.elt k hh) hk.size
  · rcases hh with hh | hh
    · exact .inl (hs k hl' hh)
    · exact .inr ⟨hl', hh.2⟩
  · rcases hh with hh | hh
    · exact hl k hh
    · exact hh.1
  · exact h.nk k he (hs k (h.elt k he) hk')
/-- Less is kept. -/
theorem Two.less {K K' E : Nat → Prop} {w : World} {p r : Nat} {M : Dm} {R G : Nat → List Nat} (h : Two K' E w p r M R G) (hs : ∀ k, K k → K' k) : Two K E w p r M R G :=
  ⟨h.d.more (Kept.refl _ _) (fun k hk => .inl (by
      rcases hk with hk | hk
      · exact .inl (hs k hk)
      · exact .inr hk)) (fun k hk => by
      rcases hk with hk | hk
      · exact h.lt k (hs k hk)
      · exact h.elt k hk),
    h.r.more (Kept.refl _ _) (fun k hk => .inl (by
      rcases hk with hk | hk
      · exact .inl (hs k hk)
      · exact .inr hk)) (fun k hk => by
      rcases hk with hk | hk
      · exact h.lt k (hs k hk)
      · exact hk.1), fun k he hk => h.nk k he (hs k hk)⟩
/-- A box with the call, both documents beside it. -/
structure DoesSt (K E : Nat → Prop) (w : World) (p r : Nat) (M : Dm) (R G : Nat → List Nat) (o : Opx) (N : Nat) (K1 : Nat → Prop) (A : OpA) (V : World) : Prop where
  blk : V.heap[N]? = some (.cells (opC o A).toArray 54 (0, 0))
  two : Two K1 E V p r M R G
  ats : AtsAt K1 V A.aa o.ats
  al : o.ats.length ≤ A.ac
  ints : IntsZ K1 V A.la o.l
  il : o.l.length ≤ A.lc
  kk : ∀ k, K k → K1 k
  kn : K1 N
  keep : Kept K w V
theorem step_load17 {ops : Array Oper} {o : Oper} {a : Act} {w : World} {Kn : Act → World → Prop} {Q : Exit → Act → World → Prop} {E : Prop} (hgd : o.guard = none) (x : Operand) (ho : o.op = .load 54 x)
    (g : Nat) (hx : a.eval x = .pointer (some ⟨g, 0, none⟩)) (cs : Array Value) (hg : w.heap[g]? = some (.cells cs 54)) (hc : cs.size = 17) (h : Kn (a.put o.dst (.agg cs)) w) : if Region.wanted o (yielded ops a.tmps) = true then Oper.wp Tryz.prog o a w Kn Q else E := by
  have hw : Region.wanted o (yielded ops a.tmps) = true := by simp [Region.wanted, hgd]
  rw [if_pos hw]
  exact wp_load_row 54 x ho g hx 54 cs _ _ hg Tryz.underlying54 rfl (size37 cs hc) h
theorem step_store17 {ops : Array Oper} {o : Oper} {a : Act} {w : World} {Kn : Act → World → Prop} {Q : Exit → Act → World → Prop} {E : Prop} (hgd : o.guard = none) (x y : Operand) (ho : o.op = .store 54 x y)
    (g : Nat) (cells : Array Value) (hx : a.eval x = .pointer (some ⟨g, 0, none⟩)) (hy : a.eval y = .agg cells) (old : Array Value) (hg : w.heap[g]? = some (.cells old 54 (0, 0))) (hc : cells.size = 17) (hold : old.size = 17) (h1 : cells.all (·.oneCell') = true)
    (h : Kn (a.put o.dst undef) (w.setRow g cells)) : if Region.wanted o (yielded ops a.tmps) = true then Oper.wp Tryz.prog o a w Kn Q else E := by
  have hw : Region.wanted o (yielded ops a.tmps) = true := by simp [Region.wanted, hgd]
  rw [if_pos hw]
  exact wp_store_row 54 x y ho g cells hx hy 54 old hg (size37 cells hc) (by rw [hold, hc]) h1 h
theorem enter88 (args : Array Value) (X : World) : (callFunc 88 args).run Tryz.prog X = .ok (.enter 88 args) X := entersE Tryz.func88 (by kernel_rfl) (c := _) rfl args X
theorem enter87 (args : Array Value) (X : World) : (callFunc 87 args).run Tryz.prog X = .ok (.enter 87 args) X := entersE Tryz.func87 (by kernel_rfl) (c := _) rfl args X
/-- Within, both ways. -/
theorem opWithin_any (o : Opx) (A : OpA) (n : Nat) (h1 : 1 ≤ n) (hn : n ≤ 1000000) (hl : o.l.length ≤ 1000000) (w : World) (hA : IntsZ (fun k => k < w.heap.size) w A.la o.l) (hlc : o.l.length ≤ A.lc) :
    Calls Tryz.prog 87 #[opV o A, .int .i64 (n : Int)] w fun e w' => ∃ A' : OpA, e = .returned (opV (o.within n) A') ∧ A'.aa = A.aa ∧ A'.ac = A.ac ∧ (o.within n).l.length ≤ A'.lc ∧ (A'.la = A.la ∧ (o.within n).l = o.l ∨ IntsZ (fun k => w.heap.size ≤ k ∧ k < w'.heap.size) w' A'.la (o.within n).l) ∧ Kept (fun k => k < w.heap.size) w w' := by
  cases hi : o.inn with
  | false =>
    have e : o.within n = o := if_pos hi
    refine (within_out o A n hi w).mono ?_
    rintro e1 w' ⟨rfl, hk⟩
    exact ⟨A, by rw [e], rfl, rfl, by rw [e]; exact hlc, .inl ⟨rfl, by rw [e]⟩, hk⟩
  | true =>
    have e : (o.within n).l = o.l.map fun z => (insN n z : Int) := by
      unfold Opx.within
      rw [if_neg (by rw [hi]; decide)]
    refine (within_in o A n h1 hn hi hl w hA).mono ?_
    rintro e1 w' ⟨ao, c, rfl, hO, hk⟩
    refine ⟨_, rfl, rfl, rfl, by rw [e, List.length_map]; exact hO.2.1, .inr fun j hj => ?_, hk⟩
    rw [e, List.length_map] at hj
    obtain ⟨g, he, hc⟩ := hO.cell (j := j) (u := iv (insN n o.l[j])) (by rw [ivs, List.getElem?_map, List.getElem?_map, List.getElem?_eq_getElem hj]; rfl)
    have hb : blkOf ao g := by rw [he]; rfl
    refine ⟨g, 0, he, ⟨Nat.le_of_not_lt (OwnZ.out hO hb).1, (OwnZ.out hO hb).2⟩, ?_⟩
    rw [Nat.zero_add, hc]
    congr 2
    simp only [e, List.getElem_map]
theorem within_eq (o : Opx) (n : Nat) : (o.within n).k = o.k ∧ (o.within n).inn = o.inn ∧ (o.within n).nk = o.nk ∧ (o.within n).nn = o.nn ∧ (o.within n).nd = o.nd ∧ (o.within n).ats = o.ats ∧ (o.within n).s = o.s ∧ (o.within n).t = o.t ∧ (o.within n).f = o.f ∧ (o.within n).l.length = o.l.length := by
  unfold Opx.within
  split
  · exact ⟨rfl, rfl, rfl, rfl, rfl, rfl, rfl, rfl, rfl, rfl⟩
  · exact ⟨rfl, rfl, rfl, rfl, rfl, rfl, rfl, rfl, rfl, by rw [List.length_map]⟩
end Go.Proofs.YtbhfnbplbkncmaaGreat
