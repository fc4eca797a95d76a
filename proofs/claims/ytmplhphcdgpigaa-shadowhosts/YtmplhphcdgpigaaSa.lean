/-
  Node of no node; order.Root; shadow.Of, Open, isClosed.
-/
import Derived.Test.YtmplhphcdgpigaaRa
namespace Go.Proofs.Ytmplhphcdgpigaa
open Go.RowKit
set_option linter.unusedVariables false

abbrev zero14 : Array Value := #[.int .u8 0, .string ⟨#[]⟩, .string ⟨#[]⟩, .slice none 0 0, .int .i64 0, .slice none 0 0, .int .i64 0, .int .i64 0, .int .i64 0, .bool false, .bool false, .bool false, .bool false, .bool false]
set_option maxRecDepth 20000 in
theorem node_none (K : Nat → Prop) (p : Nat) (M : Dm) (i : Int) (w : World) (h : DX K w p M) (hi : i < 0 ∨ (M.n : Int) ≤ i) (hn : M.n ≤ 1000000) :
    Calls Try.prog 18 #[.pointer (some ⟨p, 0, none⟩), .int .i64 i] w fun e w' => e = .returned (.tuple #[.agg zero14, .int .u16 80]) ∧ Kept (fun k => k < w.heap.size) w w' := by
  obtain ⟨ga, cap, hY⟩ := h
  obtain ⟨W, hW⟩ : ∃ W, w.alloc (.cells zero14 36) = W := ⟨_, rfl⟩
  have kW : Kept (fun k => k < w.heap.size) w W := by rw [← hW]; exact (Kept.refl _ w).alloc (fun _ h => h) _
  have hYW := hY.kept kW
  have r := at_no p M.n cap ga i W hYW.c1 hi (by omega)
  have HW : Hid (w.alloc (.cells zero14 36) = W) := hW
  obtain ⟨N, hN⟩ : ∃ N, w.heap.size = N := ⟨_, rfl⟩
  have HN : Hid (w.heap.size = N) := hN
  have hb : W.heap[N]? = some (.cells zero14 36 (0, 0)) := by rw [← hW, ← hN]; exact heap_alloc_new w _
  have HK : Hid (Kept (fun k => k < w.heap.size) w W) := kW
  clear hN hY hYW hW kW hi
  go_enter Try.func18, Try.ntmps18
  go_upto_region 1 with fail
  rw [HW.out, HN.out]
  go_wp2_with (first | (go_at_call 22; refine r.mono ?_; rintro e w2 ⟨rfl, hw2⟩; replace hw2 := hw2.symm; subst hw2) | (refine wpList_store_row rfl 36 _ _ rfl N zero14 rfl rfl 36 zero14 hb info36 rfl (by kernel_rfl) ?_))
  exact bodyPost_ret (res18 _ _ N zero14 rfl rfl (setRow_heap _ _ _ _ _ _ hb) rfl) rfl ⟨rfl, kept_setRow HK.out (by rw [HN.out]; exact Nat.lt_irrefl _) zero14⟩
/-- The topmost node above one. -/
inductive TopOf (M : Dm) : Nat → Nat → Prop
  | here {k : Nat} : (M.pl k).up = -1 → TopOf M k k
  | up {k m t : Nat} : (M.pl k).up = (m : Int) → TopOf M m t → TopOf M k t
theorem TopOf.one {M : Dm} {k t u : Nat} (h : TopOf M k t) : TopOf M k u → t = u := by
  induction h with
  | here h0 =>
    intro h
    cases h with
    | here _ => rfl
    | up e _ => omega
  | up e _ ih =>
    intro h
    cases h with
    | here h0 => omega
    | up e' h' =>
      have := e.symm.trans e'
      injection this with this
      subst this
      exact ih h'
set_option maxRecDepth 20000 in
set_option maxHeartbeats 1000000 in
theorem oroot_any (K : Nat → Prop) (p i : Nat) (M : Dm) (R : Nat → List Nat) (rk : Nat → Nat) (w : World) (h : DX K w p M) (hG : Good M R rk) (hi : i < M.n) (hn : M.n ≤ 1000000) :
    Calls Try.prog 21 #[.pointer (some ⟨p, 0, none⟩), .int .i64 (i : Int)] w fun e w' => ∃ t, t < M.n ∧ TopOf M i t ∧ e = .returned (.int .i64 (t : Int)) ∧ Kept (fun k => k < w.heap.size) w w' := by
  have rn := fun (j : Nat) (hj : j < M.n) (X : World) (hk : Kept (fun k => k < w.heap.size) w X) => node_any K p j M R X (h.kept hk) hG.wf hj hn hG.few
  have r1 := rn i hi w (Kept.refl _ _)
  have HG : Hid (Good M R rk) := hG
  have HRN : Hid (∀ (j : Nat) (hj : j < M.n) (X : World) (hk : Kept (fun k => k < w.heap.size) w X), Calls Try.prog 18 #[.pointer (some ⟨p, 0, none⟩), .int .i64 (j : Int)] X fun e w' => Told X (M.nd j) (M.pl j).up (R j) e w') := rn
  clear rn h hG
  go_enter Try.func21, Try.ntmps21
  go_wp2_with fail
  refine r1.mono ?_
  rintro e v1 ⟨ao1, ac1, ko1, kc1, rfl, -, -, hK1⟩
  obtain ⟨cs, hcs⟩ : ∃ cs : Array Value, outC (M.nd i).kind ⟨(M.nd i).name.toArray⟩ ⟨(M.nd i).data.toArray⟩ ao1 (M.nd i).attrs.length ac1 (M.pl i).up ko1 (R i).length kc1 (M.nd i).shadow (M.nd i).host (M.nd i).content (M.nd i).fl = cs := ⟨_, rfl⟩
  obtain ⟨N, hN⟩ : ∃ N, v1.heap.size = N := ⟨_, rfl⟩
  obtain ⟨V, hV⟩ : ∃ V, v1.alloc (.cells (outC (M.nd i).kind ⟨(M.nd i).name.toArray⟩ ⟨(M.nd i).data.toArray⟩ ao1 (M.nd i).attrs.length ac1 (M.pl i).up ko1 (R i).length kc1 (M.nd i).shadow (M.nd i).host (M.nd i).content (M.nd i).fl) 36) = V := ⟨_, rfl⟩
  have kV : Kept (fun k => k < v1.heap.size) v1 V := by rw [← hV]; exact (Kept.refl _ v1).alloc (fun _ h => h) _
  have HKV : Hid (Kept (fun k => k < w.heap.size) w V) := hK1.trans (kV.mono fun k h => Nat.lt_of_lt_of_le h hK1.size)
  have HNw : Hid (w.heap.size ≤ N) := by rw [← hN]; exact hK1.size
  have hb : V.heap[N]? = some (.cells cs 36 (0, 0)) := by rw [← hV, ← hN, ← hcs]; exact heap_alloc_new v1 _
  have HB : Hid (V.heap[N]? = some (.cells cs 36 (0, 0)) ∧ cs.size = 14 ∧ cs[4]? = some (.int .i64 (M.pl i).up)) := ⟨hb, by rw [← hcs]; rfl, by rw [← hcs]; rfl⟩
  have HV : Hid (v1.alloc (.cells (outC (M.nd i).kind ⟨(M.nd i).name.toArray⟩ ⟨(M.nd i).data.toArray⟩ ao1 (M.nd i).attrs.length ac1 (M.pl i).up ko1 (R i).length kc1 (M.nd i).shadow (M.nd i).host (M.nd i).content (M.nd i).fl) 36) = V) := hV
  have HN : Hid (v1.heap.size = N) := hN
  clear hcs hN hV kV hK1 hb r1
  go_upto_region 4 with fail
  rw [HV.out, HN.out]
  clear HV HN
  go_loopg [1] (rk i) (fun gh v wr => ∃ (j : Nat) (cs : Array Value), gh = rk j ∧ v = .int .i64 (j : Int) ∧ j < M.n ∧ (∀ t, TopOf M j t → TopOf M i t) ∧ wr.heap[N]? = some (.cells cs 36 (0, 0)) ∧ cs.size = 14 ∧ cs[4]? = some (.int .i64 (M.pl j).up) ∧ Kept (fun k => k < w.heap.size) w wr)
  case atStart => exact ⟨i, cs, rfl, rfl, hi, fun _ h => h, HB.out.1, HB.out.2.1, HB.out.2.2, HKV.out⟩
  case round =>
    clear HB HKV
    obtain ⟨j, cs, hgj, rfl, hj, hT, hb, hs, h4, hK⟩ := hrel
    have c4 : wr.cell? ⟨N, 4, none⟩ = some (.int .i64 (M.pl j).up) := by rw [cell_block hb]; exact h4
    have HT : Hid (∀ t, TopOf M j t → TopOf M i t) := hT
    have HB : Hid (wr.heap[N]? = some (.cells cs 36 (0, 0)) ∧ cs.size = 14) := ⟨hb, hs⟩
    have HK : Hid (Kept (fun k => k < w.heap.size) w wr) := hK
    rcases HG.out.wf.inn j hj with h0 | ⟨u, hu, hup, -⟩
    · rw [h0] at c4
      have H0 : Hid ((M.pl j).up = -1) := h0
      clear hT hb hs h4 hK h0
      go_wp2
      go_ret
      exact ⟨j, hj, HT.out j (.here H0.out), rfl, HK.out⟩
    · have HUP : Hid ((M.pl j).up = (u : Int)) := hup
      have e1 : ((u : Int) == -1) = false := by simp
      have r2 := HRN.out u hu wr hK
      have hrk : rk u < rk j := by
        rcases HG.out.acy j hj with h1 | ⟨m, _, h2, h3⟩
        · unfold parI at h1; rw [if_neg (by omega)] at h1; omega
        · unfold parI at h2
          rw [if_neg (by omega), hup] at h2
          injection h2 with h2
          subst h2
          exact h3
      rw [hup] at c4
      clear hT hb hs h4 hK hup
      go_upto_region 6 with fail
      go_wp2_with fail
      refine r2.mono ?_
      rintro e v2 ⟨ao2, ac2, ko2, kc2, rfl, -, -, hK2⟩
      obtain ⟨cs2, hcs2⟩ : ∃ cs2 : Array Value, outC (M.nd u).kind ⟨(M.nd u).name.toArray⟩ ⟨(M.nd u).data.toArray⟩ ao2 (M.nd u).attrs.length ac2 (M.pl u).up ko2 (R u).length kc2 (M.nd u).shadow (M.nd u).host (M.nd u).content (M.nd u).fl = cs2 := ⟨_, rfl⟩
      have hone : cs2.all (·.oneCell') = true := by rw [← hcs2]; exact outC_one _ _ _ _ _ _ _ _ _ _ _ _ _ _
      have hs2 : cs2.size = 14 := by rw [← hcs2]; rfl
      have h42 : cs2[4]? = some (.int .i64 (M.pl u).up) := by rw [← hcs2]; rfl
      have hb2 : v2.heap[N]? = some (.cells cs 36 (0, 0)) := by rw [hK2.block N (lt_block HB.out.1)]; exact HB.out.1
      have hI : (Try.prog.info? 36).map (·.size) = some cs2.size := by rw [hs2]; exact info36
      have hold : cs.size = cs2.size := by rw [hs2]; exact HB.out.2
      have HB2 : Hid ((v2.setRow N cs2).heap[N]? = some (.cells cs2 36 (0, 0)) ∧ cs2.size = 14 ∧ cs2[4]? = some (.int .i64 (M.pl u).up)) := ⟨setRow_heap _ _ _ _ _ _ hb2, hs2, h42⟩
      have HK2 : Hid (Kept (fun k => k < w.heap.size) w (v2.setRow N cs2)) := kept_setRow (HK.out.trans (hK2.mono fun k h => Nat.lt_of_lt_of_le h HK.out.size)) (by have := HNw.out; omega) cs2
      rw [hcs2]
      clear hcs2 hs2 h42 hK2 r2 c4
      go_wp2_with (refine wpList_store_row rfl 36 _ _ rfl N cs2 rfl rfl 36 cs hb2 hI hold hone ?_)
      go_roundg (rk u)
      case rel => exact ⟨u, cs2, rfl, rfl, hu, fun t ht => HT.out t (.up HUP.out ht), HB2.out.1, HB2.out.2.1, HB2.out.2.2, HK2.out⟩
      case measure => omega
set_option maxRecDepth 20000 in
theorem oroot_none (K : Nat → Prop) (p : Nat) (i : Int) (M : Dm) (w : World) (h : DX K w p M) (hi : i < 0 ∨ (M.n : Int) ≤ i) (hn : M.n ≤ 1000000) :
    Calls Try.prog 21 #[.pointer (some ⟨p, 0, none⟩), .int .i64 i] w fun e w' => e = .returned (.int .i64 (-1)) ∧ Kept (fun k => k < w.heap.size) w w' := by
  have r1 := node_none K p M i w h hi hn
  clear h hi
  go_enter Try.func21, Try.ntmps21
  go_wp2_with fail
  refine r1.mono ?_
  rintro e v1 ⟨rfl, hK1⟩
  have HK : Hid (∀ o, Kept (fun k => k < w.heap.size) w (v1.alloc o)) := fun o => hK1.alloc (fun k h => Nat.lt_of_lt_of_le h hK1.size) o
  clear r1 hK1
  go_wp2
  go_ret
  exact ⟨rfl, HK.out _⟩
/-- What Of tells of a node. -/
inductive OfOf (M : Dm) (i : Nat) : Int → Prop
  | yes {t : Nat} : TopOf M i t → (M.nd t).kind = 5 → OfOf M i (t : Int)
  | no {t : Nat} : TopOf M i t → (M.nd t).kind ≠ 5 → OfOf M i (-1)
theorem OfOf.one {M : Dm} {i : Nat} {a b : Int} (h : OfOf M i a) (h' : OfOf M i b) : a = b := by
  cases h with
  | yes t1 k1 => cases h' with
    | yes t2 k2 => rw [t1.one t2]
    | no t2 k2 => rw [t1.one t2] at k1; exact absurd k1 k2
  | no t1 k1 => cases h' with
    | yes t2 k2 => rw [t1.one t2] at k1; exact absurd k2 k1
    | no t2 k2 => rfl
set_option maxRecDepth 20000 in
set_option maxHeartbeats 1000000 in
theorem of_any (K : Nat → Prop) (p i : Nat) (M : Dm) (R : Nat → List Nat) (rk : Nat → Nat) (w : World) (h : DX K w p M) (hG : Good M R rk) (hi : i < M.n) (hn : M.n ≤ 1000000) :
    Calls Try.prog 9 #[.pointer (some ⟨p, 0, none⟩), .int .i64 (i : Int)] w fun e w' => ∃ z : Int, OfOf M i z ∧ e = .returned (.int .i64 z) ∧ Kept (fun k => k < w.heap.size) w w' := by
  have r1 := oroot_any K p i M R rk w h hG hi hn
  have HG : Hid (Good M R rk) := hG
  have HX : Hid (DX K w p M) := h
  clear h hG
  go_enter Try.func9, Try.ntmps9
  go_wp2_with fail
  refine r1.mono ?_
  rintro e w1 ⟨t, ht, hT, rfl, hK1⟩
  have r2 := node_any K p t M R w1 (HX.out.kept hK1) HG.out.wf ht hn HG.out.few
  have HT : Hid (TopOf M i t) := hT
  have HK1 : Hid (Kept (fun k => k < w.heap.size) w w1) := hK1
  clear r1 hT hK1
  go_upto_region 2 with fail
  go_wp2_with fail
  refine r2.mono ?_
  rintro e v1 ⟨ao1, ac1, ko1, kc1, rfl, -, -, hK2⟩
  have HK2 : Hid (∀ o, Kept (fun k => k < w.heap.size) w (v1.alloc o)) := fun o => (HK1.out.trans (hK2.mono fun k h => Nat.lt_of_lt_of_le h HK1.out.size)).alloc (fun k h => Nat.lt_of_lt_of_le h (Nat.le_trans HK1.out.size hK2.size)) o
  obtain ⟨kd, hkd⟩ : ∃ kd, (M.nd t).kind = kd := ⟨_, rfl⟩
  have HKD : Hid ((M.nd t).kind = kd) := hkd
  rw [hkd]
  clear r2 hK2 hkd
  by_cases c : kd = 5
  · subst c
    go_wp2
    go_ret
    exact ⟨_, .yes HT.out HKD.out, rfl, HK2.out _⟩
  · have e1 : ((kd : Int) == 5) = false := by simp; omega
    have e2 : ¬ (kd : Int) = 5 := by omega
    go_wp2
    go_ret
    exact ⟨_, .no HT.out (by rw [HKD.out]; exact c), rfl, HK2.out _⟩
set_option maxRecDepth 20000 in
set_option maxHeartbeats 1000000 in
theorem isClosed_any (K : Nat → Prop) (p i : Nat) (M : Dm) (R : Nat → List Nat) (rk : Nat → Nat) (w : World) (h : DX K w p M) (hG : Good M R rk) (hi : i < M.n) (hn : M.n ≤ 1000000) :
    Calls Try.prog 25 #[.pointer (some ⟨p, 0, none⟩), .int .i64 (i : Int)] w fun e w' => e = .returned (.bool (M.nd i).fl.a) ∧ Kept (fun k => k < w.heap.size) w w' := by
  have r2 := node_any K p i M R w h hG.wf hi hn hG.few
  clear h hG
  go_enter Try.func25, Try.ntmps25
  go_wp2_with fail
  refine r2.mono ?_
  rintro e v1 ⟨ao1, ac1, ko1, kc1, rfl, -, -, hK2⟩
  have HK2 : Hid (∀ o, Kept (fun k => k < w.heap.size) w (v1.alloc o)) := fun o => hK2.alloc (fun k h => Nat.lt_of_lt_of_le h hK2.size) o
  clear r2 hK2
  go_wp2
  go_ret
  exact ⟨rfl, HK2.out _⟩
/-- What Open tells of a node. -/
def openI (M : Dm) (i : Nat) : Int := if (M.nd i).shadow = -1 then -1 else if (M.nd (M.nd i).shadow.toNat).fl.a = true then -1 else (M.nd i).shadow
set_option maxRecDepth 20000 in
set_option maxHeartbeats 1000000 in
theorem open_any (K : Nat → Prop) (p i : Nat) (M : Dm) (R : Nat → List Nat) (rk : Nat → Nat) (w : World) (h : DX K w p M) (hG : Good M R rk) (hi : i < M.n) (hn : M.n ≤ 1000000) (hs : (M.nd i).shadow = -1 ∨ ∃ s : Nat, s < M.n ∧ (M.nd i).shadow = (s : Int)) :
    Calls Try.prog 11 #[.pointer (some ⟨p, 0, none⟩), .int .i64 (i : Int)] w fun e w' => e = .returned (.int .i64 (openI M i)) ∧ Kept (fun k => k < w.heap.size) w w' := by
  have r2 := node_any K p i M R w h hG.wf hi hn hG.few
  have HG : Hid (Good M R rk) := hG
  have HX : Hid (DX K w p M) := h
  unfold openI
  clear h hG
  rcases hs with hs | ⟨s, hsn, hs⟩
  · rw [if_pos hs]
    go_enter Try.func11, Try.ntmps11
    go_wp2_with fail
    refine r2.mono ?_
    rintro e v1 ⟨ao1, ac1, ko1, kc1, rfl, -, -, hK2⟩
    have HK2 : Hid (∀ o, Kept (fun k => k < w.heap.size) w (v1.alloc o)) := fun o => hK2.alloc (fun k h => Nat.lt_of_lt_of_le h hK2.size) o
    rw [hs]
    clear r2 hK2
    go_wp2
    go_ret
    exact ⟨rfl, HK2.out _⟩
  · rw [hs, if_neg (by omega), Int.toNat_natCast]
    have e1 : ((s : Int) == -1) = false := by simp
    have e2 : ¬ (s : Int) = -1 := by omega
    have HS : Hid ((M.nd i).shadow = (s : Int)) := hs
    obtain ⟨b, hbe⟩ : ∃ b, (M.nd s).fl.a = b := ⟨_, rfl⟩
    rw [hbe]
    have HBE : Hid ((M.nd s).fl.a = b) := hbe
    clear hs hbe
    go_enter Try.func11, Try.ntmps11
    go_wp2_with fail
    refine r2.mono ?_
    rintro e v1 ⟨ao1, ac1, ko1, kc1, rfl, -, -, hK2⟩
    rw [HS.out]
    obtain ⟨V, hV⟩ : ∃ V, v1.alloc (.cells (outC (M.nd i).kind ⟨(M.nd i).name.toArray⟩ ⟨(M.nd i).data.toArray⟩ ao1 (M.nd i).attrs.length ac1 (M.pl i).up ko1 (R i).length kc1 (s : Int) (M.nd i).host (M.nd i).content (M.nd i).fl) 36) = V := ⟨_, rfl⟩
    obtain ⟨N, hN⟩ : ∃ N, v1.heap.size = N := ⟨_, rfl⟩
    have kV : Kept (fun k => k < w.heap.size) w V := by rw [← hV]; exact hK2.alloc (fun k h => Nat.lt_of_lt_of_le h hK2.size) _
    have hb : V.heap[N]? = some (.cells (outC (M.nd i).kind ⟨(M.nd i).name.toArray⟩ ⟨(M.nd i).data.toArray⟩ ao1 (M.nd i).attrs.length ac1 (M.pl i).up ko1 (R i).length kc1 (s : Int) (M.nd i).host (M.nd i).content (M.nd i).fl) 36 (0, 0)) := by rw [← hV, ← hN]; exact heap_alloc_new v1 _
    have c6 : V.cell? ⟨N, 6, none⟩ = some (.int .i64 (s : Int)) := by rw [cell_block hb]; rfl
    have r3 := isClosed_any K p s M R rk V (HX.out.kept kV) HG.out hsn hn
    have HN : Hid (N < V.heap.size) := lt_block hb
    have HKV : Hid (Kept (fun k => k < w.heap.size) w V) := kV
    have HV : Hid (v1.alloc (.cells (outC (M.nd i).kind ⟨(M.nd i).name.toArray⟩ ⟨(M.nd i).data.toArray⟩ ao1 (M.nd i).attrs.length ac1 (M.pl i).up ko1 (R i).length kc1 (s : Int) (M.nd i).host (M.nd i).content (M.nd i).fl) 36) = V) := hV
    have HNE : Hid (v1.heap.size = N) := hN
    rw [HBE.out] at r3
    clear r2 hK2 hV hN kV hb
    go_upto_region 3 with fail
    rw [HV.out, HNE.out]
    clear HV HNE
    cases b with
    | true =>
      go_wp2_with (go_at_call 25; refine r3.mono ?_; rintro e w3 ⟨rfl, hk3⟩)
      go_ret
      exact ⟨rfl, HKV.out.trans (hk3.mono fun k h => Nat.lt_of_lt_of_le h HKV.out.size)⟩
    | false =>
      go_upto_region 2 with (go_at_call 25; refine r3.mono ?_; rintro e w3 ⟨rfl, hk3⟩)
      have c6' : w3.cell? ⟨N, 6, none⟩ = some (.int .i64 (s : Int)) := (hk3.cell (p := ⟨N, 6, none⟩) HN.out).trans c6
      have HK3 : Hid (Kept (fun k => k < w.heap.size) w w3) := HKV.out.trans (hk3.mono fun k h => Nat.lt_of_lt_of_le h HKV.out.size)
      clear c6 hk3 r3
      go_wp2
      go_ret
      exact ⟨rfl, HK3.out⟩
end Go.Proofs.Ytmplhphcdgpigaa
