/-
  Node of no node; order.Root; shadow.Of, Open, isClosed.
  The document's own Node.
  The document's own Node.
-/
import Derived.Test.YthhoicmfmfeehaaGreatZ18
import Derived.Test.YthhoicmfmfeehaaGreatZ32
import Derived.Test.YthhoicmfmfeehaaGreatZ14
namespace Go.Proofs.YthhoicmfmfeehaaGreat
open Go.RowKit
set_option linter.unusedVariables false

abbrev zero14 : Array Value := #[.int .u8 0, .string ⟨#[]⟩, .string ⟨#[]⟩, .slice none 0 0, .int .i64 0, .slice none 0 0, .int .i64 0, .int .i64 0, .int .i64 0, .bool false, .bool false, .bool false, .bool false, .bool false]
set_option maxRecDepth 20000 in
theorem node_none (K : Nat → Prop) (p : Nat) (M : Dm) (i : Int) (w : World) (h : DX K w p M) (hi : i < 0 ∨ (M.n : Int) ≤ i) (hn : M.n ≤ 1000000) :
    Calls Tryz.prog 18 #[.pointer (some ⟨p, 0, none⟩), .int .i64 i] w fun e w' => e = .returned (.tuple #[.agg zero14, .int .u16 80]) ∧ Kept (fun k => k < w.heap.size) w w' := by
  obtain ⟨ga, cap, hY⟩ := h
  obtain ⟨W, hW⟩ : ∃ W, w.alloc (.cells zero14 45) = W := ⟨_, rfl⟩
  have kW : Kept (fun k => k < w.heap.size) w W := by rw [← hW]; exact (Kept.refl _ w).alloc (fun _ h => h) _
  have hYW := hY.kept kW
  have r := at_no p M.n cap ga i W hYW.c1 hi (by omega)
  have HW : Hid (w.alloc (.cells zero14 45) = W) := hW
  obtain ⟨N, hN⟩ : ∃ N, w.heap.size = N := ⟨_, rfl⟩
  have HN : Hid (w.heap.size = N) := hN
  have hb : W.heap[N]? = some (.cells zero14 45 (0, 0)) := by rw [← hW, ← hN]; exact heap_alloc_new w _
  have HK : Hid (Kept (fun k => k < w.heap.size) w W) := kW
  clear hN hY hYW hW kW hi
  go_enter Tryz.func18, Tryz.ntmps18
  go_upto_region 1 with fail
  rw [HW.out, HN.out]
  go_wp2_with (first | (go_at_call 57; refine r.mono ?_; rintro e w2 ⟨rfl, hw2⟩; replace hw2 := hw2.symm; subst hw2) | (refine wpList_store_row rfl 45 _ _ rfl N zero14 rfl rfl 45 zero14 hb info36 rfl (by kernel_rfl) ?_))
  exact bodyPost_ret (res18 _ _ N zero14 rfl rfl (setRow_heap _ _ _ _ _ _ hb) rfl) rfl ⟨rfl, kept_setRow HK.out (by rw [HN.out]; exact Nat.lt_irrefl _) zero14⟩
/-- The topmost node above one. -/
inductive TopOf (M : Dm) : Nat → Nat → Prop
  | here {k : Nat} : (M.pl k).up = -1 → TopOf M k k
  | up {k m t : Nat} : (M.pl k).up = (m : Int) → TopOf M m t → TopOf M k t
theorem TopOf.one {M : Dm} {k t u : Nat} (h : TopOf M k t) : TopOf M k u → t = u := by
  induction h with
  | here h0 =>
    intro h
    cases h with
    | here _ => rfl
    | up e _ => omega
  | up e _ ih =>
    intro h
    cases h with
    | here h0 => omega
    | up e' h' =>
      have := e.symm.trans e'
      injection this with this
      subst this
      exact ih h'
set_option maxRecDepth 20000 in
set_option maxHeartbeats 1000000 in
theorem oroot_any (K : Nat → Prop) (p i : Nat) (M : Dm) (R : Nat → List Nat) (rk : Nat → Nat) (w : World) (h : DX K w p M) (hG : Good M R rk) (hi : i < M.n) (hn : M.n ≤ 1000000) :
    Calls Tryz.prog 37 #[.pointer (some ⟨p, 0, none⟩), .int .i64 (i : Int)] w fun e w' => ∃ t, t < M.n ∧ TopOf M i t ∧ e = .returned (.int .i64 (t : Int)) ∧ Kept (fun k => k < w.heap.size) w w' := by
  have rn := fun (j : Nat) (hj : j < M.n) (X : World) (hk : Kept (fun k => k < w.heap.size) w X) => node_any K p j M R X (h.kept hk) hG.wf hj hn hG.few
  have r1 := rn i hi w (Kept.refl _ _)
  have HG : Hid (Good M R rk) := hG
  have HRN : Hid (∀ (j : Nat) (hj : j < M.n) (X : World) (hk : Kept (fun k => k < w.heap.size) w X), Calls Tryz.prog 18 #[.pointer (some ⟨p, 0, none⟩), .int .i64 (j : Int)] X fun e w' => Told X (M.nd j) (M.pl j).up (R j) e w') := rn
  clear rn h hG
  go_enter Tryz.func37, Tryz.ntmps37
  go_wp2_with fail
  refine r1.mono ?_
  rintro e v1 ⟨ao1, ac1, ko1, kc1, rfl, -, -, hK1⟩
  obtain ⟨cs, hcs⟩ : ∃ cs : Array Value, outC (M.nd i).kind ⟨(M.nd i).name.toArray⟩ ⟨(M.nd i).data.toArray⟩ ao1 (M.nd i).attrs.length ac1 (M.pl i).up ko1 (R i).length kc1 (M.nd i).shadow (M.nd i).host (M.nd i).content (M.nd i).fl = cs := ⟨_, rfl⟩
  obtain ⟨N, hN⟩ : ∃ N, v1.heap.size = N := ⟨_, rfl⟩
  obtain ⟨V, hV⟩ : ∃ V, v1.alloc (.cells (outC (M.nd i).kind ⟨(M.nd i).name.toArray⟩ ⟨(M.nd i).data.toArray⟩ ao1 (M.nd i).attrs.length ac1 (M.pl i).up ko1 (R i).length kc1 (M.nd i).shadow (M.nd i).host (M.nd i).content (M.nd i).fl) 45) = V := ⟨_, rfl⟩
  have kV : Kept (fun k => k < v1.heap.size) v1 V := by rw [← hV]; exact (Kept.refl _ v1).alloc (fun _ h => h) _
  have HKV : Hid (Kept (fun k => k < w.heap.size) w V) := hK1.trans (kV.mono fun k h => Nat.lt_of_lt_of_le h hK1.size)
  have HNw : Hid (w.heap.size ≤ N) := by rw [← hN]; exact hK1.size
  have hb : V.heap[N]? = some (.cells cs 45 (0, 0)) := by rw [← hV, ← hN, ← hcs]; exact heap_alloc_new v1 _
  have HB : Hid (V.heap[N]? = some (.cells cs 45 (0, 0)) ∧ cs.size = 14 ∧ cs[4]? = some (.int .i64 (M.pl i).up)) := ⟨hb, by rw [← hcs]; rfl, by rw [← hcs]; rfl⟩
  have HV : Hid (v1.alloc (.cells (outC (M.nd i).kind ⟨(M.nd i).name.toArray⟩ ⟨(M.nd i).data.toArray⟩ ao1 (M.nd i).attrs.length ac1 (M.pl i).up ko1 (R i).length kc1 (M.nd i).shadow (M.nd i).host (M.nd i).content (M.nd i).fl) 45) = V) := hV
  have HN : Hid (v1.heap.size = N) := hN
  clear hcs hN hV kV hK1 hb r1
  go_upto_region 4 with fail
  rw [HV.out, HN.out]
  clear HV HN
  go_loopg [1] (rk i) (fun gh v wr => ∃ (j : Nat) (cs : Array Value), gh = rk j ∧ v = .int .i64 (j : Int) ∧ j < M.n ∧ (∀ t, TopOf M j t → TopOf M i t) ∧ wr.heap[N]? = some (.cells cs 45 (0, 0)) ∧ cs.size = 14 ∧ cs[4]? = some (.int .i64 (M.pl j).up) ∧ Kept (fun k => k < w.heap.size) w wr)
  case atStart => exact ⟨i, cs, rfl, rfl, hi, fun _ h => h, HB.out.1, HB.out.2.1, HB.out.2.2, HKV.out⟩
  case round =>
    clear HB HKV
    obtain ⟨j, cs, hgj, rfl, hj, hT, hb, hs, h4, hK⟩ := hrel
    have c4 : wr.cell? ⟨N, 4, none⟩ = some (.int .i64 (M.pl j).up) := by rw [cell_block hb]; exact h4
    have HT : Hid (∀ t, TopOf M j t → TopOf M i t) := hT
    have HB : Hid (wr.heap[N]? = some (.cells cs 45 (0, 0)) ∧ cs.size = 14) := ⟨hb, hs⟩
    have HK : Hid (Kept (fun k => k < w.heap.size) w wr) := hK
    rcases HG.out.wf.inn j hj with h0 | ⟨u, hu, hup, -⟩
    · rw [h0] at c4
      have H0 : Hid ((M.pl j).up = -1) := h0
      clear hT hb hs h4 hK h0
      go_wp2
      go_ret
      exact ⟨j, hj, HT.out j (.here H0.out), rfl, HK.out⟩
    · have HUP : Hid ((M.pl j).up = (u : Int)) := hup
      have e1 : ((u : Int) == -1) = false := by simp
      have r2 := HRN.out u hu wr hK
      have hrk : rk u < rk j := by
        rcases HG.out.acy j hj with h1 | ⟨m, _, h2, h3⟩
        · unfold parI at h1; rw [if_neg (by omega)] at h1; omega
        · unfold parI at h2
          rw [if_neg (by omega), hup] at h2
          injection h2 with h2
          subst h2
          exact h3
      rw [hup] at c4
      clear hT hb hs h4 hK hup
      go_upto_region 6 with fail
      go_wp2_with fail
      refine r2.mono ?_
      rintro e v2 ⟨ao2, ac2, ko2, kc2, rfl, -, -, hK2⟩
      obtain ⟨cs2, hcs2⟩ : ∃ cs2 : Array Value, outC (M.nd u).kind ⟨(M.nd u).name.toArray⟩ ⟨(M.nd u).data.toArray⟩ ao2 (M.nd u).attrs.length ac2 (M.pl u).up ko2 (R u).length kc2 (M.nd u).shadow (M.nd u).host (M.nd u).content (M.nd u).fl = cs2 := ⟨_, rfl⟩
      have hone : cs2.all (·.oneCell') = true := by rw [← hcs2]; exact outC_one _ _ _ _ _ _ _ _ _ _ _ _ _ _
      have hs2 : cs2.size = 14 := by rw [← hcs2]; rfl
      have h42 : cs2[4]? = some (.int .i64 (M.pl u).up) := by rw [← hcs2]; rfl
      have hb2 : v2.heap[N]? = some (.cells cs 45 (0, 0)) := by rw [hK2.block N (lt_block HB.out.1)]; exact HB.out.1
      have hI : (Tryz.prog.info? 45).map (·.size) = some cs2.size := by rw [hs2]; exact info36
      have hold : cs.size = cs2.size := by rw [hs2]; exact HB.out.2
      have HB2 : Hid ((v2.setRow N cs2).heap[N]? = some (.cells cs2 45 (0, 0)) ∧ cs2.size = 14 ∧ cs2[4]? = some (.int .i64 (M.pl u).up)) := ⟨setRow_heap _ _ _ _ _ _ hb2, hs2, h42⟩
      have HK2 : Hid (Kept (fun k => k < w.heap.size) w (v2.setRow N cs2)) := kept_setRow (HK.out.trans (hK2.mono fun k h => Nat.lt_of_lt_of_le h HK.out.size)) (by have := HNw.out; omega) cs2
      rw [hcs2]
      clear hcs2 hs2 h42 hK2 r2 c4
      go_wp2_with (refine wpList_store_row rfl 45 _ _ rfl N cs2 rfl rfl 45 cs hb2 hI hold hone ?_)
      go_roundg (rk u)
      case rel => exact ⟨u, cs2, rfl, rfl, hu, fun t ht => HT.out t (.up HUP.out ht), HB2.out.1, HB2.out.2.1, HB2.out.2.2, HK2.out⟩
      case measure => omega
set_option maxRecDepth 20000 in
theorem oroot_none (K : Nat → Prop) (p : Nat) (i : Int) (M : Dm) (w : World) (h : DX K w p M) (hi : i < 0 ∨ (M.n : Int) ≤ i) (hn : M.n ≤ 1000000) :
    Calls Tryz.prog 37 #[.pointer (some ⟨p, 0, none⟩), .int .i64 i] w fun e w' => e = .returned (.int .i64 (-1)) ∧ Kept (fun k => k < w.heap.size) w w' := by
  have r1 := node_none K p M i w h hi hn
  clear h hi
  go_enter Tryz.func37, Tryz.ntmps37
  go_wp2_with fail
  refine r1.mono ?_
  rintro e v1 ⟨rfl, hK1⟩
  have HK : Hid (∀ o, Kept (fun k => k < w.heap.size) w (v1.alloc o)) := fun o => hK1.alloc (fun k h => Nat.lt_of_lt_of_le h hK1.size) o
  clear r1 hK1
  go_wp2
  go_ret
  exact ⟨rfl, HK.out _⟩
/-- What Of tells of a node. -/
inductive OfOf (M : Dm) (i : Nat) : Int → Prop
  | yes {t : Nat} : TopOf M i t → (M.nd t).kind = 5 → OfOf M i (t : Int)
  | no {t : Nat} : TopOf M i t → (M.nd t).kind ≠ 5 → OfOf M i (-1)
theorem OfOf.one {M : Dm} {i : Nat} {a b : Int} (h : OfOf M i a) (h' : OfOf M i b) : a = b := by
  cases h with
  | yes t1 k1 => cases h' with
    | yes t2 k2 => rw [t1.one t2]
    | no t2 k2 => rw [t1.one t2] at k1; exact absurd k1 k2
  | no t1 k1 => cases h' with
    | yes t2 k2 => rw [t1.one t2] at k1; exact absurd k2 k1
    | no t2 k2 => rfl


/-- What Open tells of a node. -/
def openI (M : Dm) (i : Nat) : Int := if (M.nd i).shadow = -1 then -1 else if (M.nd (M.nd i).shadow.toNat).fl.a = true then -1 else (M.nd i).shadow

end Go.Proofs.YthhoicmfmfeehaaGreat

namespace Go.Proofs.YthhoicmfmfeehaaGreat
open Go.RowKit Go.Sort
set_option linter.unusedVariables false
theorem res52 (tmps : Array Value) (w : World) (g : Nat) (cs : Array Value) (h4 : tmps.getD 4 undef = .pointer (some ⟨g, 0, none⟩)) {u : Value} (h5 : tmps.getD 5 undef = u) (hg : w.heap[g]? = some (.cells cs 45)) (hc : cs.size = 14) :
    (results Tryz.f52 tmps).run Tryz.prog w = .ok (.tuple #[.agg cs, u]) w := by
  rw [results_cell_tmp (p := 4) (u := 5) (ty := 45) Tryz.results52, h4, h5]
  simp only [asAddr, Sem.run_pure, Result.andThen_ok, run_loadVar_row w g 45 45 cs _ _ hg Tryz.underlying45 rfl (by rw [hc]; exact info36)]
set_option maxRecDepth 20000 in
set_option maxHeartbeats 1000000 in
theorem rnode_none (K : Nat → Prop) (p : Nat) (M : Dm) (R G : Nat → List Nat) (i : Int) (w : World) (h : RX K w p M R G) (hi : i < 0 ∨ (M.n : Int) ≤ i) :
    Calls Tryz.prog 52 #[.pointer (some ⟨p, 0, none⟩), .int .i64 i] w fun e w' => e = .returned (.tuple #[.agg zero14, .int .i64 80]) ∧ Kept (fun k => k < w.heap.size) w w' := by
  obtain ⟨W, hW⟩ : ∃ W, w.alloc (.cells zero14 45) = W := ⟨_, rfl⟩
  have kW : Kept (fun k => k < w.heap.size) w W := by rw [← hW]; exact (Kept.refl _ w).alloc (fun _ h => h) _
  have rt := rthere_any K p M R G i W (h.kept kW)
  rw [there_no hi] at rt
  have HW : Hid (w.alloc (.cells zero14 45) = W) := hW
  obtain ⟨N, hN⟩ : ∃ N, w.heap.size = N := ⟨_, rfl⟩
  have HN : Hid (w.heap.size = N) := hN
  have hb : W.heap[N]? = some (.cells zero14 45 (0, 0)) := by rw [← hW, ← hN]; exact heap_alloc_new w _
  have HK : Hid (Kept (fun k => k < w.heap.size) w W) := kW
  clear hN hW kW hi h
  go_enter Tryz.func52, Tryz.ntmps52
  go_upto_region 1 with fail
  rw [HW.out, HN.out]
  go_wp2_with (first | (go_at_call 81; refine rt.mono ?_; rintro e w1 ⟨rfl, hw1⟩; replace hw1 := hw1.symm; subst hw1) | (refine wpList_store_row rfl 45 _ _ rfl N zero14 rfl rfl 45 zero14 hb info36 rfl (by kernel_rfl) ?_))
  exact bodyPost_ret (res52 _ _ N zero14 rfl rfl (setRow_heap _ _ _ _ _ _ hb) rfl) rfl ⟨rfl, kept_setRow HK.out (by rw [HN.out]; exact Nat.lt_irrefl _) zero14⟩
end Go.Proofs.YthhoicmfmfeehaaGreat

namespace Go.Proofs.YthhoicmfmfeehaaGreat
open Go.RowKit Go.Sort
set_option linter.unusedVariables false
set_option maxRecDepth 20000 in
set_option maxHeartbeats 2000000 in
theorem rnode_in (K : Nat → Prop) (p i : Nat) (M : Dm) (R G : Nat → List Nat) (w : World) (h : RX K w p M R G) (hi : i < M.n) (hn : M.n ≤ 1000000) (hla : (M.nd i).attrs.length ≤ 1000000) (hlr : (R i).length ≤ 1000000) :
    Calls Tryz.prog 52 #[.pointer (some ⟨p, 0, none⟩), .int .i64 (i : Int)] w fun e w' => ∃ aa ac ka kc, e = .returned (.tuple #[.agg (rCells M R i aa ac ka kc).toArray, .int .i64 0]) ∧ AtsAt (fun k => w.heap.size ≤ k ∧ k < w'.heap.size) w' aa (M.nd i).attrs ∧ (M.nd i).attrs.length ≤ ac ∧ IntsAt (fun k => w.heap.size ≤ k ∧ k < w'.heap.size) w' ka (R i) ∧ (R i).length ≤ kc ∧ Kept (fun k => k < w.heap.size) w w' := by
  obtain ⟨W, hW⟩ : ∃ W, w.alloc (.cells zero14 45) = W := ⟨_, rfl⟩
  have kW : Kept (fun k => k < w.heap.size) w W := by rw [← hW]; exact (Kept.refl _ w).alloc (fun _ h => h) _
  have hX := h.kept kW
  have rt := rthere_any K p M R G (i : Int) W hX
  rw [there_yes hi] at rt
  have HW : Hid (w.alloc (.cells zero14 45) = W) := hW
  obtain ⟨N, hN⟩ : ∃ N, w.heap.size = N := ⟨_, rfl⟩
  have HN : Hid (w.heap.size = N) := hN
  have hb : W.heap[N]? = some (.cells zero14 45 (0, 0)) := by rw [← hW, ← hN]; exact heap_alloc_new w _
  have HK : Hid (Kept (fun k => k < w.heap.size) w W) := kW
  obtain ⟨A, hY⟩ := hX
  obtain ⟨g, hg, -, -, hgl⟩ := hY.nat (by omega)
  have c1 := hY.c1
  rw [hg] at c1
  have d := fun f u hf => hY.cell hg hi f u hf
  have d0 : W.cell? ⟨g, i * 14, none⟩ = _ := d 0 _ rfl
  have d1 := d 1 _ rfl
  have d2 := d 2 _ rfl
  have d3 := d 3 _ rfl
  have d4 := d 4 _ rfl
  have d5 := d 5 _ rfl
  have d6 := d 6 _ rfl
  have d7 := d 7 _ rfl
  have d8 := d 8 _ rfl
  have d9 := d 9 _ rfl
  have d10 := d 10 _ rfl
  have d11 := d 11 _ rfl
  have d12 := d 12 _ rfl
  have d13 := d 13 _ rfl
  have hat : AtsAt (fun k => k < W.heap.size) W (A.aa i) (M.nd i).attrs := (hY.ats i hi).to (fun _ h => h.1) (fun _ _ => rfl)
  have hki : IntsAt (fun k => k < W.heap.size) W (A.ka i) (R i) := (hY.kid i hi).to (fun _ h => h.1) (fun _ _ => rfl)
  obtain ⟨cs, hcs⟩ : ∃ cs : Array Value, #[.int .u8 ((M.nd i).kind : Int), .string ⟨(M.nd i).name.toArray⟩, .string ⟨(M.nd i).data.toArray⟩, .slice (A.aa i) (M.nd i).attrs.length (A.ac i), .int .i64 (M.pl i).up, .slice (A.ka i) (R i).length (A.kc i), .int .i64 (M.nd i).shadow, .int .i64 (M.nd i).host, .int .i64 (M.nd i).content, .bool (M.nd i).fl.a, .bool (M.nd i).fl.b, .bool (M.nd i).fl.c, .bool (M.nd i).fl.d, .bool (M.nd i).fl.e] = cs := ⟨_, rfl⟩
  obtain ⟨V, hV⟩ : ∃ V, W.alloc (.cells cs 45) = V := ⟨_, rfl⟩
  obtain ⟨N2, hN2⟩ : ∃ N2, W.heap.size = N2 := ⟨_, rfl⟩
  have kV : Kept (fun k => k < W.heap.size) W V := by rw [← hV]; exact (Kept.refl _ W).alloc (fun _ h => h) _
  have hbV : V.heap[N2]? = some (.cells cs 45 (0, 0)) := by rw [← hV, ← hN2]; exact heap_alloc_new W _
  have ra := rattrs_any (M.nd i).attrs (A.aa i) (M.nd i).attrs.length (A.ac i) rfl (by omega) V (hat.kept kV fun k h => Nat.lt_of_lt_of_le h kV.size)
  have HV : Hid (W.alloc (.cells #[.int .u8 ((M.nd i).kind : Int), .string ⟨(M.nd i).name.toArray⟩, .string ⟨(M.nd i).data.toArray⟩, .slice (A.aa i) (M.nd i).attrs.length (A.ac i), .int .i64 (M.pl i).up, .slice (A.ka i) (R i).length (A.kc i), .int .i64 (M.nd i).shadow, .int .i64 (M.nd i).host, .int .i64 (M.nd i).content, .bool (M.nd i).fl.a, .bool (M.nd i).fl.b, .bool (M.nd i).fl.c, .bool (M.nd i).fl.d, .bool (M.nd i).fl.e] 45) = V) := by rw [hcs]; exact hV
  have HN2 : Hid (W.heap.size = N2) := hN2
  have HCS : Hid (_ = cs) := hcs
  clear hN hW kW d hV hN2 hcs
  go_enter Tryz.func52, Tryz.ntmps52
  go_upto_region 1 with fail
  rw [HW.out, HN.out]
  go_upto_region 3 with (go_at_call 81; refine rt.mono ?_; rintro e w1 ⟨rfl, hw1⟩; replace hw1 := hw1.symm; subst hw1)
  go_wp2_with fail
  rw [HV.out, HN2.out]
  refine ra.mono ?_
  rintro e w3 ⟨ao, c, rfl, hO, hk3⟩
  have hb3 : w3.heap[N2]? = some (.cells cs 45 (0, 0)) := (hk3.block N2 (lt_block hbV)).trans hbV
  obtain ⟨X4, hX4⟩ : ∃ X4, w3.setCell ⟨N2, 3, none⟩ (.slice ao (M.nd i).attrs.length c) = X4 := ⟨_, rfl⟩
  have hb4 : X4.heap[N2]? = some (.cells (cs.setIfInBounds 3 (.slice ao (M.nd i).attrs.length c)) 45 (0, 0)) := by rw [← hX4]; exact heap_setCell_at hb3 _ _
  have k4 : Kept (fun k => k < W.heap.size) W X4 := by
    rw [← hX4]
    exact (kV.trans (hk3.mono fun k h => Nat.lt_of_lt_of_le h kV.size)).setCell (p := ⟨N2, 3, none⟩) (by rw [HN2.out]; exact Nat.lt_irrefl _) _
  have kV4 : Kept (fun k => k < V.heap.size ∧ k ≠ N2) V X4 := by
    rw [← hX4]
    exact (hk3.mono fun k h => h.1).setCell (p := ⟨N2, 3, none⟩) (fun h => h.2 rfl) _
  have ri := rints_any (R i) (A.ka i) (R i).length (A.kc i) rfl (by omega) X4 (hki.to (fun k h => Nat.lt_of_lt_of_le h k4.size) (fun k h => k4.block k h))
  have f3 : w3.cell? ⟨N2, 3, none⟩ = some (.slice (A.aa i) (M.nd i).attrs.length (A.ac i)) := by rw [cell_block hb3, ← HCS.out]; rfl
  have f3z := frozen_block hb3 3
  have f5 : X4.cell? ⟨N2, 5, none⟩ = some (.slice (A.ka i) (R i).length (A.kc i)) := by rw [cell_block hb4, ← HCS.out]; rfl
  have HX4 : Hid (w3.setCell ⟨N2, 3, none⟩ (.slice ao (M.nd i).attrs.length c) = X4) := hX4
  clear hX4 ra rt
  go_upto_region 5 with fail
  rw [HX4.out]
  go_wp2_with fail
  refine ri.mono ?_
  rintro e w5 ⟨ko, kc', rfl, hO5, hk5⟩
  have hb5 : w5.heap[N2]? = some (.cells (cs.setIfInBounds 3 (.slice ao (M.nd i).attrs.length c)) 45 (0, 0)) := (hk5.block N2 (lt_block hb4)).trans hb4
  obtain ⟨X6, hX6⟩ : ∃ X6, w5.setCell ⟨N2, 5, none⟩ (.slice ko (R i).length kc') = X6 := ⟨_, rfl⟩
  obtain ⟨cs6, hcs6⟩ : ∃ cs6, (rCells M R i ao c ko kc').toArray = cs6 := ⟨_, rfl⟩
  have hb6 : X6.heap[N2]? = some (.cells cs6 45 (0, 0)) := by
    rw [← hX6, ← hcs6]
    have := heap_setCell_at hb5 5 (.slice ko (R i).length kc')
    rw [this, ← HCS.out]
    rfl
  have f5w : w5.cell? ⟨N2, 5, none⟩ = some (.slice (A.ka i) (R i).length (A.kc i)) := by rw [cell_block hb5, ← HCS.out]; rfl
  have f5z := frozen_block hb5 5
  have hNN : N < W.heap.size := lt_block hb
  have k6 : Kept (fun k => k < W.heap.size) W X6 := by
    rw [← hX6]
    exact (k4.trans (hk5.mono fun k h => Nat.lt_of_lt_of_le h k4.size)).setCell (p := ⟨N2, 5, none⟩) (by rw [HN2.out]; exact Nat.lt_irrefl _) _
  have hbN : X6.heap[N]? = some (.cells zero14 45 (0, 0)) := (k6.block N hNN).trans hb
  have HX6 : Hid (w5.setCell ⟨N2, 5, none⟩ (.slice ko (R i).length kc') = X6) := hX6
  have hc6 : cs6.size = 14 := by rw [← hcs6]; rfl
  have hone : cs6.all (·.oneCell') = true := by
    rw [← hcs6, List.all_toArray, List.all_eq_true]
    exact fun u hu => rn_one _ _ _ _ _ _ _ u hu
  have HF : Hid (Kept (fun k => k < w.heap.size) w (X6.setRow N cs6)) := kept_setRow (HK.out.trans (k6.mono fun k h => Nat.lt_of_lt_of_le h HK.out.size)) (by rw [HN.out]; exact Nat.lt_irrefl _) cs6
  have hN2V : N2 < V.heap.size := lt_block hbV
  have hNV : N < V.heap.size := Nat.lt_of_lt_of_le hNN kV.size
  have hWw : w.heap.size ≤ V.heap.size := Nat.le_trans HK.out.size kV.size
  have HAT : Hid (AtsAt (fun k => w.heap.size ≤ k ∧ k < (X6.setRow N cs6).heap.size) (X6.setRow N cs6) ao (M.nd i).attrs) := by
    have k34 : Kept (fun k => V.heap.size ≤ k ∧ k < w3.heap.size) w3 X4 := by
      rw [← HX4.out]
      exact (Kept.refl _ w3).setCell (p := ⟨N2, 3, none⟩) (fun h => Nat.lt_irrefl _ (Nat.lt_of_lt_of_le hN2V h.1)) _
    have k35 := k34.trans (hk5.mono fun k h => Nat.lt_of_lt_of_le h.2 k34.size)
    have k36 : Kept (fun k => V.heap.size ≤ k ∧ k < w3.heap.size) w3 X6 := by
      rw [← hX6]
      exact k35.setCell (p := ⟨N2, 5, none⟩) (fun h => Nat.lt_irrefl _ (Nat.lt_of_lt_of_le hN2V h.1)) _
    have k37 := kept_setRow k36 (g := N) (fun h => Nat.lt_irrefl _ (Nat.lt_of_lt_of_le hNV h.1)) cs6
    exact (hO.atsAt (K' := fun k => V.heap.size ≤ k ∧ k < w3.heap.size) fun x hx => ⟨Nat.le_of_not_lt (OwnZ.out hO hx).1, (OwnZ.out hO hx).2⟩).kept k37 fun k h => ⟨Nat.le_trans hWw h.1, Nat.lt_of_lt_of_le h.2 k37.size⟩
  have HIT : Hid (IntsAt (fun k => w.heap.size ≤ k ∧ k < (X6.setRow N cs6).heap.size) (X6.setRow N cs6) ko (R i)) := by
    have hN24 : N2 < X4.heap.size := lt_block hb4
    have hN4 : N < X4.heap.size := Nat.lt_of_lt_of_le hNN k4.size
    have hw4 : w.heap.size ≤ X4.heap.size := Nat.le_trans HK.out.size k4.size
    have k56 : Kept (fun k => X4.heap.size ≤ k ∧ k < w5.heap.size) w5 X6 := by
      rw [← hX6]
      exact (Kept.refl _ w5).setCell (p := ⟨N2, 5, none⟩) (fun h => Nat.lt_irrefl _ (Nat.lt_of_lt_of_le hN24 h.1)) _
    have k57 := kept_setRow k56 (g := N) (fun h => Nat.lt_irrefl _ (Nat.lt_of_lt_of_le hN4 h.1)) cs6
    exact (hO5.intsAt (F := fun k => X4.heap.size ≤ k ∧ k < w5.heap.size) fun x hx => ⟨Nat.le_of_not_lt (OwnZ.out hO5 hx).1, (OwnZ.out hO5 hx).2⟩).to (fun k h => ⟨Nat.le_trans hw4 h.1, Nat.lt_of_lt_of_le h.2 k57.size⟩) (fun k h => k57.block k h)
  clear hX6 ri f3 f3z f5
  go_upto_region 6 with fail
  rw [HX6.out]
  go_wp2_with (first | (refine wpList_load_row rfl 45 _ rfl N2 rfl 45 cs6 (0, 0) _ hb6 Tryz.underlying45 rfl (by rw [hc6]; exact info36) ?_) | (refine wpList_store_row rfl 45 _ _ rfl N cs6 rfl rfl 45 zero14 hbN (by rw [hc6]; exact info36) (by rw [hc6]; rfl) hone ?_))
  refine bodyPost_ret (res52 _ _ N cs6 rfl rfl (setRow_heap _ _ _ _ _ _ hbN) hc6) rfl ⟨ao, c, ko, kc', ?_, ?_, hO.2.1, ?_, hO5.2.1, HF.out⟩
  · rw [hcs6]; rfl
  · exact HAT.out
  · exact HIT.out
end Go.Proofs.YthhoicmfmfeehaaGreat
