/-
  A page of a document: what is in a node.
-/
import Derived.Test.YteccdijjpmeeaaaQd
import Derived.Test.YteccdijjpmeeaaaP08
namespace Go.Proofs.Yteccdijjpmeeaaa
open Go.RowKit
set_option linter.unusedVariables false
set_option maxRecDepth 100000
set_option maxHeartbeats 4000000
theorem Pq.setN {w0 : World} {o : Ask} {K : Nat → Prop} {w : World} {c : Cf} {l : List UInt8} (h : Pq w0 o K w c l) {N : Nat} (hN : K N) (hg : N ≠ c.g) (h0 : w0.heap.size ≤ N) (cs : Array Value) : Pq w0 o K (w.setRow N cs) c l := by
  obtain ⟨⟨h1, h2, p, ao, cap, hb, hp, ho⟩, ha, kg, old, kept, sr⟩ := h
  refine ⟨⟨h1, fun k hk => by rw [setRow_size]; exact h2 k hk, p, ao, cap, ?_, hp, ?_⟩, ?_, kg, old, kept_setRow kept (fun h => by omega) _, sr⟩
  · rw [setRow_other _ _ _ _ (fun e => h1 (by rw [← e] at hN; exact hN))]; exact hb
  · exact ho.to (fun g hg => (ho.out hg).1) (fun g hg => setRow_other _ _ _ _ (fun e => (ho.out hg).1 (.inl (by rw [← e] at hN; exact hN))))
  · obtain ⟨cs', a1, a2, a3⟩ := ha
    exact ⟨cs', by rw [setRow_other _ _ _ _ (fun e => hg (by rw [← e]))]; exact a1, a2, a3⟩
/-- A kid of a node: how it is told, and how it is written. -/
structure Kid (w0 : World) (o : Ask) (c : Cf) (raw : Bool) (k : Nat) (O : List UInt8) (x : Nd) (up : Int) (q : List Nat) : Prop where
  node : ∀ V, Kept (fun k => k < w0.heap.size) w0 V → Calls Try.prog 27 #[.pointer (some ⟨c.d, 0, none⟩), .int .i64 (k : Int)] V fun e w' => Told V x up q e w'
  out : ∀ (K : Nat → Prop) (w : World) (l : List UInt8) (ao : Option Addr) (ac : Nat) (ko : Option Addr) (kc : Nat), Pq w0 o K w c l → AtsAt K w ao x.attrs → IntsAt K w ko q → l.length + O.length ≤ 1099511627776 →
    Calls Try.prog 33 #[.pointer (some ⟨c.b, 0, none⟩), .agg (nW x ao ac up ko q.length kc), .bool raw] w fun e w' => e = .returned (.tuple #[]) ∧ Pq w0 o K w' c (l ++ O) ∧ Kept K w w'
theorem nW_one (x : Nd) (ao : Option Addr) (ac : Nat) (up : Int) (ko : Option Addr) (kn kc : Nat) : (nW x ao ac up ko kn kc).all (·.oneCell') = true := by rw [← Array.all_toList]; rfl
theorem nW_size (x : Nd) (ao : Option Addr) (ac : Nat) (up : Int) (ko : Option Addr) (kn kc : Nat) : (nW x ao ac up ko kn kc).size = 14 := rfl
theorem enterN (args : Array Value) (X : World) : (callFunc 27 args).run Try.prog X = .ok (.enter 27 args) X := entersE Try.func27 (by kernel_rfl) (c := _) rfl args X
theorem inner_void {w0 : World} {o : Ask} {c : Cf} {x : Nd} {q : List Nat} (hv : isV x = true) : Inn w0 o c x q [] := by
  intro K w l ao ac up ko kc h hi hl
  obtain ⟨W, N, hW, hN, hb, hkW, hzW⟩ := alloc_bx w (nW x ao ac up ko q.length kc) 33
  have hqW := h.stay hkW
  have r := isVoid_any x ao ac up ko q.length kc W
  rw [hv] at r
  have HQW : Hid (Pq w0 o K W c l) := hqW
  have HKW : Hid (Kept K w W) := hkW.mono h.lt
  have HW : Hid (w.alloc (.cells (nW x ao ac up ko q.length kc) 33) = W) := hW
  have HN : Hid (w.heap.size = N) := hN
  rw [List.append_nil]
  clear h hi hl hW hN hkW hzW hqW
  go_enter Try.func29, Try.ntmps29
  go_upto_region 1 with fail
  rw [HW.out, HN.out]
  clear HW HN
  go_wp2_with (refine wpList_load_row rfl 33 _ rfl N rfl 33 (nW x ao ac up ko q.length kc) (0, 0) _ hb Try.underlying33 rfl (sizeN _ rfl) ?_)
  refine r.mono ?_
  rintro e Y ⟨rfl, hKY⟩
  have HQY : Hid (Pq w0 o K Y c l) := HQW.out.stay hKY
  have HKY : Hid (Kept K w Y) := HKW.out.trans (hKY.mono HQW.out.lt)
  clear r hKY hb
  go_wp2
  refine bodyPost_ret (results_none rfl _ _ _) rfl ?_
  exact ⟨rfl, HQY.out, HKY.out⟩
/-- What stands in a box, and where its kids lie. -/
def BoxK (w0 : World) (o : Ask) (K : Nat → Prop) (w : World) (c : Cf) (N : Nat) (y : Nd) (q : List Nat) (F : List UInt8) (wx : World) : Prop :=
  ∃ (K2 : Nat → Prop) (ao : Option Addr) (ac : Nat) (up : Int) (ko : Option Addr) (kc : Nat), (∀ k, K k → K2 k) ∧ K2 N ∧ wx.heap[N]? = some (.cells (nW y ao ac up ko q.length kc) 33 (0, 0)) ∧ IntsAt K2 wx ko q ∧ Pq w0 o K2 wx c F ∧ Kept K w wx
theorem inner_abs {w0 : World} {o : Ask} {c : Cf} {x y : Nd} {q q' : List Nat} {SH KD : List UInt8} (O : Nat → List UInt8) (xs : Nat → Nd) (us : Nat → Int) (qs : Nat → List Nat) (hv : isV x = false) (hkd : KD = q'.flatMap O) (hq : q'.length ≤ 1000000) (hqm : ∀ k ∈ q', k ≤ 1000000)
    (sh0 : x.shadow = -1 → SH = []) (sh1 : x.shadow ≠ -1 → -1 ≤ x.shadow ∧ x.shadow ≤ 1000000 ∧ ∀ (K : Nat → Prop) (w : World) (l : List UInt8), Pq w0 o K w c l → l.length + SH.length ≤ 1099511627776 → Calls Try.prog 45 #[.pointer (some ⟨c.b, 0, none⟩), .int .i64 x.shadow] w fun e w' => e = .returned (.tuple #[]) ∧ Pq w0 o K w' c (l ++ SH) ∧ Kept K w w')
    (co0 : x.content = -1 → y = x ∧ q' = q) (co1 : x.content ≠ -1 → -1 ≤ x.content ∧ x.content ≤ 1000000 ∧ ∃ up, ∀ V, Kept (fun k => k < w0.heap.size) w0 V → Calls Try.prog 27 #[.pointer (some ⟨c.d, 0, none⟩), .int .i64 x.content] V fun e w' => Told V y up q' e w')
    (kid : ∀ k ∈ q', Kid w0 o c (isR y) k (O k) (xs k) (us k) (qs k)) : Inn w0 o c x q (SH ++ KD) := by
  intro K w l ao ac up ko kc h hi hl
  rw [List.length_append] at hl
  obtain ⟨W, N, hW, hN, hb, hkW, hzW⟩ := alloc_bx w (nW x ao ac up ko q.length kc) 33
  have hqW := h.up hkW
  have hlt := h.lt
  have hN0 : w0.heap.size ≤ N ∧ N ≠ c.g := ⟨by have := h.kept.size; omega, by have := hlt _ h.kg; omega⟩
  obtain ⟨K1, hK1⟩ : ∃ K1 : Nat → Prop, (fun k => K k ∨ (w.heap.size ≤ k ∧ k < W.heap.size)) = K1 := ⟨_, rfl⟩
  rw [hK1] at hqW
  have hKK : ∀ k, K k → K1 k := fun k h => by rw [← hK1]; exact .inl h
  have hNK : K1 N := by rw [← hK1]; exact .inr ⟨by omega, by omega⟩
  have hKN : ¬ K N := fun h => by have := hlt N h; omega
  have hiW : IntsAt K1 W ko q := hi.go hKK (hkW.mono hlt)
  have r := isVoid_any x ao ac up ko q.length kc W
  rw [hv] at r
  obtain ⟨F, hF⟩ : ∃ F, l ++ (SH ++ KD) = F := ⟨_, rfl⟩
  rw [hF]
  have HF : Hid ((l ++ SH) ++ KD = F) := by show (l ++ SH) ++ KD = F; rw [List.append_assoc]; exact hF
  have HQ : Hid (Pq w0 o K w c l) := h
  have HQW : Hid (Pq w0 o K1 W c l) := hqW
  have HIW : Hid (IntsAt K1 W ko q) := hiW
  have HKW : Hid (Kept K w W) := hkW.mono hlt
  have HB : Hid (W.heap[N]? = some (.cells (nW x ao ac up ko q.length kc) 33 (0, 0))) := hb
  have HNK : Hid (K1 N) := hNK
  have HKN : Hid (¬ K N) := hKN
  have HN0 : Hid (w0.heap.size ≤ N ∧ N ≠ c.g) := hN0
  have HKK : Hid (∀ k, K k → K1 k) := hKK
  have HLT : Hid (∀ k, K k → k < w.heap.size) := hlt
  have HW : Hid (w.alloc (.cells (nW x ao ac up ko q.length kc) 33) = W) := hW
  have HN : Hid (w.heap.size = N) := hN
  have HL : Hid (l.length + (SH.length + KD.length) ≤ 1099511627776) := hl
  have S0 : Hid _ := sh0
  have S1 : Hid _ := sh1
  have C0 : Hid _ := co0
  have C1 : Hid _ := co1
  have HKID : Hid _ := kid
  have HKD : Hid (KD = q'.flatMap O) := hkd
  have HQM : Hid (∀ k ∈ q', k ≤ 1000000) := hqm
  obtain ⟨shd, hsh⟩ : ∃ z, x.shadow = z := ⟨_, rfl⟩
  obtain ⟨cnt, hco⟩ : ∃ z, x.content = z := ⟨_, rfl⟩
  have HSH : Hid (x.shadow = shd) := hsh
  have HCO : Hid (x.content = cnt) := hco
  clear h hi hl hW hN hkW hzW hqW hK1 hKK hNK hKN hN0 hiW hlt hF sh0 sh1 co0 co1 kid hkd hqm hsh hco
  go_enter Try.func29, Try.ntmps29
  go_upto_region 1 with fail
  rw [HW.out, HN.out]
  clear HW HN
  go_wp2_with (refine wpList_load_row rfl 33 _ rfl N rfl 33 (nW x ao ac up ko q.length kc) (0, 0) _ hb Try.underlying33 rfl (sizeN _ rfl) ?_)
  refine r.mono ?_
  rintro e X ⟨rfl, hKX⟩
  have hqX := HQW.out.stay hKX
  have hWX : Kept K1 W X := hKX.mono HQW.out.lt
  have hbX : X.heap[N]? = some (.cells (nW x ao ac up ko q.length kc) 33 (0, 0)) := (hWX.block N HNK.out).trans HB.out
  have c6 : X.cell? ⟨N, 6, none⟩ = some (.int .i64 shd) := by rw [cell_block hbX, ← HSH.out]; rfl
  have HQX : Hid (Pq w0 o K1 X c l) := hqX
  have HWX : Hid (Kept K1 W X) := hWX
  have HBX : Hid (X.heap[N]? = some (.cells (nW x ao ac up ko q.length kc) 33 (0, 0))) := hbX
  clear r hKX hqX hWX hbX hb
  go_upto_if 13 with fail
  go_cut [] (fun wx => Pq w0 o K1 wx c (l ++ SH) ∧ Kept K1 W wx)
  case first =>
    by_cases hs : shd = -1
    · subst hs
      have e := S0.out HSH.out
      have HE : Hid (Pq w0 o K1 X c (l ++ SH)) := by rw [e, List.append_nil]; exact HQX.out
      clear e
      go_wp2_with fail
      go_meet
      case rel => exact ⟨HE.out, HWX.out⟩
    · obtain ⟨h1, h2, rr⟩ := S1.out (by rw [HSH.out]; exact hs)
      rw [HSH.out] at rr h1 h2
      have rr' := rr K1 X l HQX.out (by have := HL.out; omega)
      have hs' : (shd != -1) = true := by simpa using hs
      clear rr hs
      go_wp2_with fail
      refine rr'.mono ?_
      rintro e Y ⟨rfl, hqY, hKY⟩
      have HQY : Hid (Pq w0 o K1 Y c (l ++ SH)) := hqY
      have HKY : Hid (Kept K1 W Y) := HWX.out.trans hKY
      clear rr' hqY hKY
      go_wp2_with fail
      go_meet
      case rel => exact ⟨HQY.out, HKY.out⟩
  case rest =>
  obtain ⟨hq1, hk1⟩ := hcut
  clear c6 HQX HWX HBX
  have hbc : wc.heap[N]? = some (.cells (nW x ao ac up ko q.length kc) 33 (0, 0)) := (hk1.block N HNK.out).trans HB.out
  have c8 : wc.cell? ⟨N, 8, none⟩ = some (.int .i64 cnt) := by rw [cell_block hbc, ← HCO.out]; rfl
  have HQ1 : Hid (Pq w0 o K1 wc c (l ++ SH)) := hq1
  have HK1 : Hid (Kept K1 W wc) := hk1
  have HBC : Hid (wc.heap[N]? = some (.cells (nW x ao ac up ko q.length kc) 33 (0, 0))) := hbc
  clear hq1 hk1 hbc
  go_upto_if 20 with fail
  go_cut [] (fun wx => BoxK w0 o K w c N y q' (l ++ SH) wx)
  case first =>
    by_cases hs : cnt = -1
    · subst hs
      obtain ⟨e1, e2⟩ := C0.out HCO.out
      have HE : Hid (BoxK w0 o K w c N y q' (l ++ SH) wc) := by
        rw [e1, e2]
        exact ⟨K1, ao, ac, up, ko, kc, HKK.out, HNK.out, HBC.out, HIW.out.go (fun _ h => h) HK1.out, HQ1.out, HKW.out.trans (HK1.out.mono HKK.out)⟩
      clear e1 e2
      go_wp2_with fail
      go_meet
      case rel => exact HE.out
    · obtain ⟨h1, h2, up2, rn⟩ := C1.out (by rw [HCO.out]; exact hs)
      rw [HCO.out] at rn h1 h2
      have hs' : (cnt != -1) = true := by simpa using hs
      have p2 := HQ1.out.pg.cells.1
      have HP2 : Hid (∀ Y, Kept (fun k => k < wc.heap.size ∧ k ≠ N) wc Y → Y.cell? ⟨c.b, 2, none⟩ = some (.pointer (some ⟨c.d, 0, none⟩))) := fun Y hY => (hY.cell (p := ⟨c.b, 2, none⟩) ⟨HQ1.out.pg.out.2, fun e => HQ1.out.pg.out.1 (by have e' : c.b = N := e; rw [e']; exact HNK.out)⟩).trans p2
      have RN : Hid _ := rn
      clear rn hs p2
      go_upto_region 5 with fail
      refine wp_region_held_drew (S := fun Y => Kept (fun k => k < wc.heap.size ∧ k ≠ N) wc Y) (by kernel_rfl) ((Kept.refl _ wc).drew) (fun hHeld => ?_)
      refine tkH 0 22 (.pointer (some ⟨c.b, 0, none⟩)) rfl rfl (by kernel_rfl) (by rfl) (by intro Y hY; go_simp; try with_reducible rfl) (fun _ _ _ h => h) hHeld ?_
      try simp only [Act.put, List.setIfInBounds_toArray, List.set_cons_zero, List.set_cons_succ]
      refine tkH 1 23 (.pointer (some ⟨c.b, 0, none⟩)) rfl rfl (by kernel_rfl) (by rfl) (by intro Y hY; go_simp; try with_reducible rfl) (fun _ _ _ h => h) hHeld ?_
      try simp only [Act.put, List.setIfInBounds_toArray, List.set_cons_zero, List.set_cons_succ]
      refine tkH 2 24 (.pointer (some ⟨c.b, 2, none⟩)) rfl rfl (by kernel_rfl) (by rfl) (by intro Y hY; go_simp; try with_reducible rfl) (fun _ _ _ h => h) hHeld ?_
      try simp only [Act.put, List.setIfInBounds_toArray, List.set_cons_zero, List.set_cons_succ]
      refine tkH 3 25 (.pointer (some ⟨c.d, 0, none⟩)) rfl rfl (by kernel_rfl) (by rfl) (by intro Y hY; have hc := HP2.out Y hY; go_simp; try with_reducible rfl) (fun _ _ _ h => h) hHeld ?_
      try simp only [Act.put, List.setIfInBounds_toArray, List.set_cons_zero, List.set_cons_succ]
      refine tkH 4 26 (.pointer (some ⟨N, 8, none⟩)) rfl rfl (by kernel_rfl) (by rfl) (by intro Y hY; go_simp; try with_reducible rfl) (fun _ _ _ h => h) hHeld ?_
      try simp only [Act.put, List.setIfInBounds_toArray, List.set_cons_zero, List.set_cons_succ]
      have c8' : wc.drew.cell? ⟨N, 8, none⟩ = some (.int .i64 cnt) := c8
      refine opY 5 rfl (by kernel_rfl) (by rfl) (fun K' hK' => ?_)
      unfold Oper.wp
      go_simp
      refine hK'.out _ _ hHeld (fun hHeld2 => ?_)
      clear hK' hHeld2
      try simp only [Act.put, List.setIfInBounds_toArray, List.set_cons_zero, List.set_cons_succ]
      have rn := RN.out wc.drew (HQ1.out.kept.drew)
      refine clH 6 28 27 #[.pointer (some ⟨c.d, 0, none⟩), .int .i64 cnt] rfl rfl (by kernel_rfl) (by rfl) rfl (by first | rfl | (simp [Act.eval]; done) | (simp [Act.eval, Act.put]; done)) (enterN _ _) rn ?_
      rintro e Y ⟨ao2, ac2, ko2, kc2, rfl, hA2, hQ2, hK2⟩
      have hkY : Kept (fun k => k < wc.heap.size) wc Y := ((Kept.refl _ wc).drew).trans hK2
      refine ⟨_, rfl, hkY.mono fun k h => h.1, fun hHeld2 => ?_⟩
      replace hHeld := hHeld2
      clear hHeld2
      try simp only [Act.put, List.setIfInBounds_toArray, List.set_cons_zero, List.set_cons_succ]
      refine tkH 7 21 (.tuple #[.agg (nW y ao2 ac2 up2 ko2 q'.length kc2), .int .u16 0]) rfl rfl (by kernel_rfl) (by rfl) (by intro Y hY; go_simp; try with_reducible rfl) (fun _ _ _ h => h) hHeld ?_
      try simp only [Act.put, List.setIfInBounds_toArray, List.set_cons_zero, List.set_cons_succ]
      refine tkH 8 29 (.agg (nW y ao2 ac2 up2 ko2 q'.length kc2)) rfl rfl (by kernel_rfl) (by rfl) (by intro Y hY; go_simp; try with_reducible rfl) (fun _ _ _ h => h) hHeld ?_
      try simp only [Act.put, List.setIfInBounds_toArray, List.set_cons_zero, List.set_cons_succ]
      first
        | refine tkU 9 30 rfl rfl (by kernel_rfl) (by rfl) (fun _ _ _ h => h) hHeld ?_
        | refine tkH 9 30 (.int .u16 0) rfl rfl (by kernel_rfl) (by rfl) (by intro Y hY; go_simp; try with_reducible rfl) (fun _ _ _ h => h) hHeld ?_
      try simp only [Act.put, List.setIfInBounds_toArray, List.set_cons_zero, List.set_cons_succ]
      have hbY : Y.heap[N]? = some (.cells (nW x ao ac up ko q.length kc) 33 (0, 0)) := (hkY.block N (lt_block HBC.out)).trans HBC.out
      have hSt : Kept (fun k => k < wc.heap.size ∧ k ≠ N) wc (Y.setRow N (nW y ao2 ac2 up2 ko2 q'.length kc2)) := kept_setRow hHeld (fun h => h.2 rfl) _
      refine opY 10 rfl (by kernel_rfl) (by rfl) (fun K' hK' => ?_)
      refine wp_store_row 33 _ _ rfl N (nW y ao2 ac2 up2 ko2 q'.length kc2) rfl rfl 33 _ hbY (sizeN _ rfl) rfl (nW_one _ _ _ _ _ _ _) ?_
      refine hK'.out _ _ hSt (fun hHeld2 => ?_)
      clear hK' hHeld2
      refine wpAnyH_done (by kernel_rfl) ?_ _
      have HE : Hid (BoxK w0 o K w c N y q' (l ++ SH) (Y.setRow N (nW y ao2 ac2 up2 ko2 q'.length kc2))) := by
        have hqY := HQ1.out.up hkY
        have hiY : IntsAt (fun k => K1 k ∨ (wc.heap.size ≤ k ∧ k < Y.heap.size)) Y ko2 q' := hQ2.intsAt fun g hg => .inr ⟨Nat.le_of_not_lt (OwnZ.out hQ2 hg).1, (OwnZ.out hQ2 hg).2⟩
        have hNw := lt_block HBC.out
        refine ⟨_, ao2, ac2, up2, ko2, kc2, fun k h => .inl (HKK.out k h), .inl HNK.out, setRow_heap _ _ _ _ _ _ hbY, fun j hj => ?_, hqY.setN (.inl HNK.out) HN0.out.2 HN0.out.1 _, (HKW.out.trans (HK1.out.mono HKK.out)).trans (kept_setRow (hkY.mono fun k h => HQ1.out.lt k (HKK.out k h)) HKN.out _)⟩
        obtain ⟨g, oo, e, hg, hc⟩ := hiY j hj
        have hgN : g ≠ N := fun e' => by
          have h3 : blkOf ko2 g := by
            rcases hQ2.2.2.2 with ⟨h4, -⟩ | ⟨g2, cur, h4, -⟩
            · rw [h4] at e; cases e
            · rw [h4] at e; injection e with e; injection e with e; subst e; exact h4
          have := (OwnZ.out hQ2 h3).1
          exact this (by rw [e']; exact hNw)
        have hcb : (Y.setRow N (nW y ao2 ac2 up2 ko2 q'.length kc2)).heap[g]? = Y.heap[g]? := setRow_other _ _ _ _ hgN
        exact ⟨g, oo, e, hg, (World.cell?_of_block (w := Y) hcb).trans hc⟩
      clear hHeld hbY hSt rn RN hA2 hQ2 hK2 hkY c8' c8 HP2
      go_wp2_with fail
      go_meet
      case rel => exact HE.out
  case rest =>
  obtain ⟨K2, ao3, ac3, up3, ko3, kc3, hk12, hn2, hb2, hi2, hq2, hkw2⟩ := hcut
  rename World => wd
  clear c8 HQ1 HK1 HBC HIW S0 S1 C0 C1 HKK HNK HKN HN0 HQW HKW HB HSH HCO
  have r := isRaw_any y ao3 ac3 up3 ko3 q'.length kc3 wd
  have HQ2 : Hid (Pq w0 o K2 wd c (l ++ SH)) := hq2
  have HI2 : Hid (IntsAt K2 wd ko3 q') := hi2
  have HK12 : Hid (∀ k, K k → K2 k) := hk12
  have HKW2 : Hid (Kept K w wd) := hkw2
  have HB2 : Hid (wd.heap[N]? = some (.cells (nW y ao3 ac3 up3 ko3 q'.length kc3) 33 (0, 0))) := hb2
  have HN2 : Hid (K2 N) := hn2
  clear hk12 hn2 hi2 hq2 hkw2
  go_wp2_with (refine wpList_load_row rfl 33 _ rfl N rfl 33 (nW y ao3 ac3 up3 ko3 q'.length kc3) (0, 0) _ hb2 Try.underlying33 rfl (sizeN _ rfl) ?_)
  refine r.mono ?_
  rintro e X ⟨rfl, hKX⟩
  have hqX := HQ2.out.stay hKX
  have hbX : X.heap[N]? = some (.cells (nW y ao3 ac3 up3 ko3 q'.length kc3) 33 (0, 0)) := (hKX.block N (lt_block HB2.out)).trans HB2.out
  have c5 : X.cell? ⟨N, 5, none⟩ = some (.slice ko3 q'.length kc3) := by rw [cell_block hbX]; rfl
  have HQX : Hid (Pq w0 o K2 X c (l ++ SH)) := hqX
  have HIX : Hid (IntsAt K2 X ko3 q') := HI2.out.go (fun _ h => h) (hKX.mono HQ2.out.lt)
  have HKX : Hid (Kept K w X) := HKW2.out.trans (hKX.mono fun k h => HQ2.out.lt k (HK12.out k h))
  obtain ⟨raw, hraw⟩ : ∃ b, isR y = b := ⟨_, rfl⟩
  have HKID2 : Hid (∀ k ∈ q', Kid w0 o c raw k (O k) (xs k) (us k) (qs k)) := by rw [← hraw]; exact HKID.out
  rw [hraw]
  obtain ⟨n, hn⟩ : ∃ n, q'.length = n := ⟨_, rfl⟩
  rw [hn] at c5 hq ⊢
  have HNQ : Hid (q'.length = n) := hn
  clear r hKX hqX hbX HQ2 HI2 HKW2 HB2 HN2 hb2 hraw HKID hn
  have hfo : ∀ j (h : j < q'.length), q'.flatMap O = ((q'.take j).flatMap O ++ O q'[j]) ++ (q'.drop (j + 1)).flatMap O := fun j h => by
    have e1 : q' = q'.take j ++ (q'[j] :: q'.drop (j + 1)) := by rw [List.getElem_cons_drop, List.take_append_drop]
    have e2 := congrArg (List.flatMap O) e1
    rw [List.flatMap_append, List.flatMap_cons] at e2
    rw [e2, List.append_assoc]
  have HFO : Hid _ := hfo
  clear hfo
  go_wp2_with fail
  go_loopg [36] n (fun gm i wr => ∃ j : Nat, gm = n - j ∧ j ≤ n ∧ i = .int .i64 j ∧ Pq w0 o K2 wr c ((l ++ SH) ++ (q'.take j).flatMap O) ∧ Kept K2 X wr)
  case atStart => exact ⟨0, rfl, Nat.zero_le _, rfl, by rw [List.take_zero]; show Pq w0 o K2 X c ((l ++ SH) ++ []); rw [List.append_nil]; exact HQX.out, Kept.refl _ _⟩
  case round =>
    obtain ⟨j, hg, hj, rfl, hP, hK⟩ := hrel
    clear HQX c5
    by_cases hlt : j < n
    · have hjl : j < q'.length := by rw [HNQ.out]; exact hlt
      obtain ⟨g, oo, hko, hKg, hc⟩ := HIX.out j hjl
      have d0 : wr.cell? ⟨g, oo + j, none⟩ = some (.int .i64 (q'[j] : Int)) := (hK.cell (p := ⟨g, oo + j, none⟩) hKg).trans hc
      subst hko
      have hkid := HKID2.out q'[j] (List.getElem_mem hjl)
      have hkb := HQM.out q'[j] (List.getElem_mem hjl)
      have efo := HFO.out j hjl
      have estep : (q'.take (j + 1)).flatMap O = (q'.take j).flatMap O ++ O q'[j] := by rw [List.take_succ_eq_append_getElem hjl, List.flatMap_append, List.flatMap_singleton]
      obtain ⟨k, hk⟩ : ∃ k, q'[j] = k := ⟨_, rfl⟩
      rw [hk] at d0 hkid hkb efo estep
      have hp2 := hP.pg.cells.1
      have rn := hkid.node wr hP.kept
      have HKI : Hid (Kid w0 o c raw k (O k) (xs k) (us k) (qs k)) := hkid
      have HP : Hid (Pq w0 o K2 wr c ((l ++ SH) ++ (q'.take j).flatMap O)) := hP
      have HK : Hid (Kept K2 X wr) := hK
      have HES : Hid ((q'.take (j + 1)).flatMap O = (q'.take j).flatMap O ++ O k) := estep
      have HLE : Hid (((l ++ SH) ++ (q'.take j).flatMap O).length + (O k).length ≤ 1099511627776) := by
        have h1 := HL.out
        rw [HKD.out, efo] at h1
        show ((l ++ SH) ++ (q'.take j).flatMap O).length + (O k).length ≤ 1099511627776
        simp only [List.length_append] at h1 ⊢
        omega
      clear hP hK hk hc hKg hkid efo estep
      go_wp2_with fail
      refine rn.mono ?_
      rintro e w1 ⟨ao4, ac4, ko4, kc4, rfl, hA4, hQ4, hK4⟩
      obtain ⟨V, B, hV, hB, hbB, hkB, hzB⟩ := alloc_bx w1 (nW (xs k) ao4 ac4 (us k) ko4 (qs k).length kc4) 33
      have hkV : Kept (fun k => k < wr.heap.size) wr V := hK4.trans (hkB.mono fun k h => Nat.lt_of_lt_of_le h hK4.size)
      have hqV := HP.out.up hkV
      have hiV : IntsAt (fun k => K2 k ∨ (wr.heap.size ≤ k ∧ k < V.heap.size)) V ko4 (qs k) := by
        have h1 : IntsAt (fun k => wr.heap.size ≤ k ∧ k < w1.heap.size) w1 ko4 (qs k) := hQ4.intsAt fun g hg => ⟨Nat.le_of_not_lt (OwnZ.out hQ4 hg).1, (OwnZ.out hQ4 hg).2⟩
        exact h1.go (fun k h => .inr ⟨h.1, by omega⟩) (hkB.mono fun k h => h.2)
      have haV : AtsAt (fun k => K2 k ∨ (wr.heap.size ≤ k ∧ k < V.heap.size)) V ao4 (xs k).attrs := by
        have h1 : AtsAt (fun k => wr.heap.size ≤ k ∧ k < w1.heap.size) w1 ao4 (xs k).attrs := hA4.atsAt (K' := fun k => wr.heap.size ≤ k ∧ k < w1.heap.size) fun g hg => ⟨Nat.le_of_not_lt (OwnZ.out hA4 hg).1, (OwnZ.out hA4 hg).2⟩
        exact h1.go (fun k h => .inr ⟨h.1, by omega⟩) (hkB.mono fun k h => h.2)
      have ro := HKI.out.out _ V _ ao4 ac4 ko4 kc4 hqV haV hiV HLE.out
      have HKV : Hid (Kept K2 wr V) := hkV.mono HP.out.lt
      have HV : Hid (w1.alloc (.cells (nW (xs k) ao4 ac4 (us k) ko4 (qs k).length kc4) 33) = V) := hV
      have HBN : Hid (w1.heap.size = B) := hB
      clear rn hA4 hQ4 hK4 hV hB hkB hzB hkV hqV hiV haV hp2
      go_upto_region 11 with fail
      rw [HV.out, HBN.out]
      clear HV HBN d0
      go_wp2_with (refine wpList_load_row rfl 33 _ rfl B rfl 33 (nW (xs k) ao4 ac4 (us k) ko4 (qs k).length kc4) (0, 0) _ hbB Try.underlying33 rfl (sizeN _ rfl) ?_)
      refine ro.mono ?_
      rintro e Z ⟨rfl, hqZ, hKZ⟩
      have hqz := HP.out.back hqZ fun k h => .inl h
      rw [List.append_assoc, ← HES.out] at hqz
      have HQZ : Hid (Pq w0 o K2 Z c ((l ++ SH) ++ (q'.take (j + 1)).flatMap O)) := hqz
      have HKZ : Hid (Kept K2 X Z) := (HK.out.trans HKV.out).trans (hKZ.mono fun k h => .inl h)
      clear ro hqZ hKZ hqz hbB HP HK HKV HES HLE HKI
      go_wp2
      go_roundg (n - (j + 1))
      case rel => exact ⟨j + 1, rfl, by omega, by go_num, HQZ.out, HKZ.out⟩
      case measure => omega
    · have hjn : j = n := by omega
      have et : q'.take j = q' := by rw [hjn, ← HNQ.out, List.take_length]
      rw [et, ← HKD.out, HF.out] at hP
      have HQF : Hid (Pq w0 o K wr c F) := HQ.out.back hP HK12.out
      have HKF : Hid (Kept K w wr) := HKX.out.trans (hK.mono HK12.out)
      clear hP hK et hjn
      go_wp2
      go_end0
      exact ⟨rfl, HQF.out, HKF.out⟩
end Go.Proofs.Yteccdijjpmeeaaa
