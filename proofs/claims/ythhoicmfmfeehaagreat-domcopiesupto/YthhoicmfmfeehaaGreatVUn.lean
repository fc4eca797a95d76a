/-
  The document's own Copy.
-/
import Derived.Test.YthhoicmfmfeehaaGreatVUm
namespace Go.Proofs.YthhoicmfmfeehaaGreat
open Go.RowKit Go.Sort
set_option linter.unusedVariables false
theorem enter77 (args : Array Value) (X : World) : (callFunc 77 args).run Tryz.prog X = .ok (.enter 77 args) X := entersE Tryz.func77 (by kernel_rfl) (c := _) rfl args X
theorem step_slice1 {ops : Array Oper} {o : Oper} {a : Act} {w : World} {Kn : Act → World → Prop} {Q : Exit → Act → World → Prop} {E : Prop} (hgd : o.guard = none) (x : Operand) (ho : o.op = .buildSlice 82 1 #[(0, x)])
    (v : Value) (hx : a.eval x = v) (hv : v.cells = #[v]) (h : Kn (a.put o.dst (.slice (some ⟨w.heap.size, 0, none⟩) 1 1)) (w.alloc (.cells #[v] 33))) : if Region.wanted o (yielded ops a.tmps) = true then Oper.wp Tryz.prog o a w Kn Q else E := by
  have hw : Region.wanted o (yielded ops a.tmps) = true := by simp [Region.wanted, hgd]
  rw [if_pos hw]
  obtain ⟨inf, hi, hip⟩ := Option.map_eq_some_iff.1 infoQ
  have hz0 : inf.zero = _ := congrArg (·.1) hip
  have hsz : inf.size = 1 := congrArg (·.2.1) hip
  refine wp_buildSlice 82 33 1 #[(0, x)] ho #[v] inf _ Tryz.underlying82 hi hz0 (by rw [hsz]; decide) (by rw [hsz]; decide) ?_ h
  rw [hsz]
  have e : ((#[(0, x)] : Array (Nat × Operand)).map fun (i, x) => (i, a.eval x)).toList = [(0, v)] := by
    simp [hx]
  rw [e]
  have hs : ∀ z : Array Value, z.size = 1 → z.setIfInBounds 0 v = #[v] := fun z hz => by
    obtain ⟨l⟩ := z
    match l, hz with
    | [b], _ => rfl
  simp only [Instr.fill, hv]
  first | exact hs _ (by simp) | (simp; exact hs _ (by simp))
theorem builtD (z : Int) : Tryz.prog.built 84 [(0, .int .i64 z)] = some #[.int .i64 z, .slice none 0 0, .slice none 0 0] := by kernel_rfl
set_option maxRecDepth 20000 in
set_option maxHeartbeats 8000000 in
theorem rcopy_any (K : Nat → Prop) (p : Nat) (M : Dm) (R G : Nat → List Nat) (w : World) (hX : RX K w p M R G) (hn : M.n ≤ 100000) (hla : ∀ i, i < M.n → (M.nd i).attrs.length ≤ 1000000) (hlr : ∀ i, i < M.n → (R i).length ≤ 1000000) (hlg : ∀ i, i < M.n → (G i).length ≤ 1000000) :
    Calls Tryz.prog 31 #[.pointer (some ⟨p, 0, none⟩)] w fun e w' => ∃ c, e = .returned (.pointer (some ⟨c, 0, none⟩)) ∧ RX (fun k => k < w.heap.size) w' c M R G ∧ Kept (fun k => k < w.heap.size) w w' := by
  obtain ⟨A0, hY0⟩ := hX
  obtain ⟨W, hW⟩ : ∃ W, w.alloc (.cells #[.int .i64 (M.limit : Int), .slice none 0 0, .slice none 0 0] 84) = W := ⟨_, rfl⟩
  obtain ⟨c, hc⟩ : ∃ c, w.heap.size = c := ⟨_, rfl⟩
  have kW : Kept (fun k => k < w.heap.size) w W := by rw [← hW]; exact (Kept.refl _ w).alloc (fun _ h => h) _
  have hYc : RYg (fun k => k < w.heap.size) W c (M.cut 0) R G RA.none 0 := by
    refine ⟨fun k hk => Nat.lt_of_lt_of_le hk kW.size, by rw [← hc]; exact Nat.lt_irrefl _, by rw [← hW, ← hc]; exact heap_alloc_new w _, ⟨[], OwnZ.nil _ _ _ _, fun i hi => absurd hi (Nat.not_lt_zero _)⟩, ⟨[], OwnZ.nil _ _ _ _, fun i hi => absurd hi (Nat.not_lt_zero _)⟩, fun i hi => absurd hi (Nat.not_lt_zero _), fun i j hi => absurd hi (Nat.not_lt_zero _), fun i hi => absurd hi (Nat.not_lt_zero _), fun i hi => absurd hi (Nat.not_lt_zero _), fun i hi => absurd hi (Nat.not_lt_zero _), fun i hi => absurd hi (Nat.not_lt_zero _)⟩
  have c0 := hY0.c0
  have hbu := builtD (M.limit : Int)
  have HY0 : Hid (RY K w p M R G A0) := hY0
  have HYC : Hid (RYg (fun k => k < w.heap.size) W c (M.cut 0) R G RA.none 0) := hYc
  have HKW : Hid (Kept (fun k => k < w.heap.size) w W) := kW
  have HW : Hid (w.alloc (.cells #[.int .i64 (M.limit : Int), .slice none 0 0, .slice none 0 0] 84) = W) := hW
  have HC0 : Hid (w.heap.size = c) := hc
  have HLA : Hid (∀ i, i < M.n → (M.nd i).attrs.length ≤ 1000000) := hla
  have HLR : Hid (∀ i, i < M.n → (R i).length ≤ 1000000) := hlr
  have HLG : Hid (∀ i, i < M.n → (G i).length ≤ 1000000) := hlg
  obtain ⟨n, hne⟩ : ∃ n, M.n = n := ⟨_, rfl⟩
  have HNE : Hid (M.n = n) := hne
  have hn' : n ≤ 100000 := by rw [← hne]; exact hn
  clear hY0 hYc kW hW hc hla hlr hlg hne hn
  go_enter Tryz.func31, Tryz.ntmps31
  go_upto_region 3 with fail
  rw [HW.out, HC0.out]
  clear HW c0 hbu
  go_loopg [4] n (fun gh v4 wz => ∃ (i : Nat) (A : RA), gh = n - i ∧ i ≤ n ∧ v4 = .int .i64 (i : Int) ∧ RYg (fun k => k < w.heap.size) wz c (M.cut i) R G A i ∧ Kept (fun k => k < w.heap.size) w wz)
  case atStart => exact ⟨0, RA.none, rfl, Nat.zero_le _, rfl, HYC.out, HKW.out⟩
  case round =>
    obtain ⟨i, A, hgi, hi, rfl, hY, hK⟩ := hrel
    have hYo := HY0.out.kept hK
    have o1 := hYo.c1
    rw [HNE.out] at o1
    by_cases hlt : i < n
    · have hiM : i < M.n := by rw [HNE.out]; exact hlt
      obtain ⟨g0, hg0, -, -, -⟩ := hYo.nat (by omega)
      have rn := rnode_in K p i M R G wr ⟨A0, hYo⟩ hiM (by rw [HNE.out]; omega) (HLA.out i hiM) (HLR.out i hiM)
      have HY : Hid (RYg (fun k => k < w.heap.size) wr c (M.cut i) R G A i) := hY
      have HK : Hid (Kept (fun k => k < w.heap.size) w wr) := hK
      rw [hg0] at o1
      clear hY hK hYo hg0
      obtain ⟨W5, rfl⟩ : ∃ W5, W5 = wr := ⟨_, rfl⟩
      go_wp2_with fail
      refine rn.mono ?_
      rintro e v1 ⟨aa, ac, ka, kc, rfl, hat, hac, hkt, hkc, hKa⟩
      have hrv : (rCells M R i aa ac ka kc).toArray = rV ((M.nd i).kind : Int) ⟨(M.nd i).name.toArray⟩ ⟨(M.nd i).data.toArray⟩ aa (M.nd i).attrs.length ac (M.pl i).up ka (R i).length kc (M.nd i).shadow (M.nd i).host (M.nd i).content (M.nd i).fl := rfl
      rw [hrv]
      obtain ⟨cs, hcs⟩ : ∃ cs, (rCells M R i aa ac ka kc).toArray = cs := ⟨_, rfl⟩
      have hcsz : cs.size = 14 := by rw [← hcs]; rfl
      obtain ⟨N, hN⟩ : ∃ N, v1.heap.size = N := ⟨_, rfl⟩
      obtain ⟨W6, hW6⟩ : ∃ W6, v1.alloc (.cells cs 45) = W6 := ⟨_, rfl⟩
      have hb6 : W6.heap[N]? = some (.cells cs 45 (0, 0)) := by rw [← hW6, ← hN]; exact heap_alloc_new v1 _
      have k16 : Kept (fun k => k < v1.heap.size) v1 W6 := by rw [← hW6]; exact (Kept.refl _ v1).alloc (fun _ h => h) _
      have k56 : Kept (fun k => k < W5.heap.size) W5 W6 := hKa.trans (k16.mono fun k h => Nat.lt_of_lt_of_le h hKa.size)
      obtain ⟨na', nc', w1, hr1, d1, f1, hYN, hKN⟩ := HY.out.copN (w := W6.drew) k56.drew (by omega) aa ac ka kc (hat.to (fun g hg => ⟨hg.1, Nat.lt_of_lt_of_le hg.2 k16.size⟩) (fun g hg => k16.block g hg.2)) hac (hkt.to (fun g hg => ⟨hg.1, Nat.lt_of_lt_of_le hg.2 k16.size⟩) (fun g hg => k16.block g hg.2)) hkc
      rw [hcs] at hr1
      have c1 : W6.drew.cell? ⟨c, 1, none⟩ = some (.slice A.na i A.nc) := (k56.drew.cell (p := ⟨c, 1, none⟩) (lt_block HY.out.blk)).trans (by rw [cell_block HY.out.blk]; rfl)
      have c1b : (W6.drew.alloc (.cells cs 45)).cell? ⟨c, 1, none⟩ = some (.slice A.na i A.nc) := by
        rw [Kept.cell ((Kept.refl (fun k => k < W6.drew.heap.size) W6.drew).alloc (fun _ h => h) _) (p := ⟨c, 1, none⟩) (Nat.lt_of_lt_of_le (lt_block HY.out.blk) k56.size)]
        exact c1
      have c1c : (W6.alloc (.cells cs 45)).drew.cell? ⟨c, 1, none⟩ = some (.slice A.na i A.nc) := c1b
      have c1d : (W6.alloc (.cells cs 45)).cell? ⟨c, 1, none⟩ = some (.slice A.na i A.nc) := c1b
      obtain ⟨V1, hV1⟩ : ∃ V1, w1.setCell ⟨c, 1, none⟩ (.slice na' (i + 1) nc') = V1 := ⟨_, rfl⟩
      rw [hV1] at hYN hKN
      have HF6 : Hid (∃ A' : RA, RYg (fun k => k < w.heap.size) (w1.setCell ⟨c, 1, none⟩ (.slice na' (i + 1) nc')) c (M.cut (i + 1)) R G A' i ∧ Kept (fun k => k < w.heap.size) W5 (w1.setCell ⟨c, 1, none⟩ (.slice na' (i + 1) nc'))) := by rw [hV1]; exact (show Hid _ from ⟨_, hYN, hKN⟩)
      have HC : Hid (W6.heap[N]? = some (.cells cs 45)) := hb6
      have HW6 : Hid (v1.alloc (.cells (rV ((M.nd i).kind : Int) ⟨(M.nd i).name.toArray⟩ ⟨(M.nd i).data.toArray⟩ aa (M.nd i).attrs.length ac (M.pl i).up ka (R i).length kc (M.nd i).shadow (M.nd i).host (M.nd i).content (M.nd i).fl) 45) = W6) := by rw [← hrv, hcs]; exact hW6
      have HN : Hid (v1.heap.size = N) := hN
      clear rn hat hac hkt hkc hKa hcs hrv hN hW6 hb6 k16 k56 hYN hKN hV1 o1
      go_upto_region 6 with fail
      rw [HW6.out, HN.out]
      clear HW6 HN
      go_cut [] (fun wx => ∃ A' : RA, RYg (fun k => k < w.heap.size) wx c (M.cut (i + 1)) R G A' i ∧ Kept (fun k => k < w.heap.size) W5 wx)
      case first =>
        refine wp_region_any (by kernel_rfl) ?_
        change wpAny _ _ _ _ _ _ _ (World.drew _)
        refine wpAny_take (i := 0) (v := .pointer (some ⟨c, 0, none⟩)) rfl (by kernel_rfl) (by kernel_rfl) (by kernel_rfl) (fun _ _ _ h => h) (Or.inl ⟨by rfl, by intro w; go_simp; try with_reducible rfl⟩) ?_
        refine wpAny_take (i := 1) (v := .pointer (some ⟨c, 0, none⟩)) rfl (by kernel_rfl) (by kernel_rfl) (by kernel_rfl) (fun _ _ _ h => h) (Or.inl ⟨by rfl, by intro w; go_simp; try with_reducible rfl⟩) ?_
        refine wpAny_take (i := 2) (v := .pointer (some ⟨c, 0, none⟩)) rfl (by kernel_rfl) (by kernel_rfl) (by kernel_rfl) (fun _ _ _ h => h) (Or.inl ⟨by rfl, by intro w; go_simp; try with_reducible rfl⟩) ?_
        refine wpAny_take (i := 3) (v := .pointer (some ⟨c, 1, none⟩)) rfl (by kernel_rfl) (by kernel_rfl) (by kernel_rfl) (fun _ _ _ h => h) (Or.inl ⟨by rfl, by intro w; go_simp; try with_reducible rfl⟩) ?_
        refine wpAny_ready (rs := [4, 5]) (by kernel_rfl) (by simp) ?_
        refine AllReady.cons rfl (fun K hK => ?_) (AllReady.cons rfl (fun K hK => ?_) AllReady.nil)
        · go_simp
          refine hK _ _ ?_
          clear hK K
          refine wpAny_ready (rs := [5]) (by kernel_rfl) (by simp) ?_
          refine AllReady.cons rfl (fun K hK => ?_) AllReady.nil
          refine step_load14 rfl (.tmp 5) rfl N rfl cs HC.out hcsz ?_
          refine hK _ _ ?_
          clear hK K
          refine wpAny_ready (rs := [6]) (by kernel_rfl) (by simp) ?_
          refine AllReady.cons rfl (fun K hK => ?_) AllReady.nil
          refine step_slice14 rfl (.tmp 33) rfl cs rfl hcsz ?_
          refine hK _ _ ?_
          clear hK K
          refine wpAny_ready (rs := [7]) (by kernel_rfl) (by simp) ?_
          refine AllReady.cons rfl (fun K hK => ?_) AllReady.nil
          refine step_appR (w' := w1) rfl (.tmp 32) (.tmp 34) 81 81 rfl _ _ (.slice na' (i + 1) nc') rfl rfl hr1 ?_
          refine hK _ _ ?_
          clear hK K
          refine wpAny_take (i := 8) (v := .pointer (some ⟨c, 0, none⟩)) rfl (by kernel_rfl) (by kernel_rfl) (by kernel_rfl) (fun _ _ _ h => h) (Or.inl ⟨by rfl, by intro w; go_simp; try with_reducible rfl⟩) ?_
          refine wpAny_take (i := 9) (v := .pointer (some ⟨c, 1, none⟩)) rfl (by kernel_rfl) (by kernel_rfl) (by kernel_rfl) (fun _ _ _ h => h) (Or.inl ⟨by rfl, by intro w; go_simp; try with_reducible rfl⟩) ?_
          refine wpAny_ready (rs := [10]) (by kernel_rfl) (by simp) ?_
          refine AllReady.cons rfl (fun K hK => ?_) AllReady.nil
          go_simp
          refine hK _ _ ?_
          clear hK K
          refine wpAny_done (by kernel_rfl) ?_ _
          go_wp2_with fail
          go_meet
          case rel => exact HF6.out
        · refine step_load14 rfl (.tmp 5) rfl N rfl cs HC.out hcsz ?_
          refine hK _ _ ?_
          clear hK K
          refine wpAny_ready (rs := [4, 6]) (by kernel_rfl) (by simp) ?_
          refine AllReady.cons rfl (fun K hK => ?_) (AllReady.cons rfl (fun K hK => ?_) AllReady.nil)
          · go_simp
            refine hK _ _ ?_
            clear hK K
            refine wpAny_ready (rs := [6]) (by kernel_rfl) (by simp) ?_
            refine AllReady.cons rfl (fun K hK => ?_) AllReady.nil
            refine step_slice14 rfl (.tmp 33) rfl cs rfl hcsz ?_
            refine hK _ _ ?_
            clear hK K
            refine wpAny_ready (rs := [7]) (by kernel_rfl) (by simp) ?_
            refine AllReady.cons rfl (fun K hK => ?_) AllReady.nil
            refine step_appR (w' := w1) rfl (.tmp 32) (.tmp 34) 81 81 rfl _ _ (.slice na' (i + 1) nc') rfl rfl hr1 ?_
            refine hK _ _ ?_
            clear hK K
            refine wpAny_take (i := 8) (v := .pointer (some ⟨c, 0, none⟩)) rfl (by kernel_rfl) (by kernel_rfl) (by kernel_rfl) (fun _ _ _ h => h) (Or.inl ⟨by rfl, by intro w; go_simp; try with_reducible rfl⟩) ?_
            refine wpAny_take (i := 9) (v := .pointer (some ⟨c, 1, none⟩)) rfl (by kernel_rfl) (by kernel_rfl) (by kernel_rfl) (fun _ _ _ h => h) (Or.inl ⟨by rfl, by intro w; go_simp; try with_reducible rfl⟩) ?_
            refine wpAny_ready (rs := [10]) (by kernel_rfl) (by simp) ?_
            refine AllReady.cons rfl (fun K hK => ?_) AllReady.nil
            go_simp
            refine hK _ _ ?_
            clear hK K
            refine wpAny_done (by kernel_rfl) ?_ _
            go_wp2_with fail
            go_meet
            case rel => exact HF6.out
          · refine step_slice14 rfl (.tmp 33) rfl cs rfl hcsz ?_
            refine hK _ _ ?_
            clear hK K
            refine wpAny_ready (rs := [4]) (by kernel_rfl) (by simp) ?_
            refine AllReady.cons rfl (fun K hK => ?_) AllReady.nil
            go_simp
            refine hK _ _ ?_
            clear hK K
            refine wpAny_ready (rs := [7]) (by kernel_rfl) (by simp) ?_
            refine AllReady.cons rfl (fun K hK => ?_) AllReady.nil
            refine step_appR (w' := w1) rfl (.tmp 32) (.tmp 34) 81 81 rfl _ _ (.slice na' (i + 1) nc') rfl rfl hr1 ?_
            refine hK _ _ ?_
            clear hK K
            refine wpAny_take (i := 8) (v := .pointer (some ⟨c, 0, none⟩)) rfl (by kernel_rfl) (by kernel_rfl) (by kernel_rfl) (fun _ _ _ h => h) (Or.inl ⟨by rfl, by intro w; go_simp; try with_reducible rfl⟩) ?_
            refine wpAny_take (i := 9) (v := .pointer (some ⟨c, 1, none⟩)) rfl (by kernel_rfl) (by kernel_rfl) (by kernel_rfl) (fun _ _ _ h => h) (Or.inl ⟨by rfl, by intro w; go_simp; try with_reducible rfl⟩) ?_
            refine wpAny_ready (rs := [10]) (by kernel_rfl) (by simp) ?_
            refine AllReady.cons rfl (fun K hK => ?_) AllReady.nil
            go_simp
            refine hK _ _ ?_
            clear hK K
            refine wpAny_done (by kernel_rfl) ?_ _
            go_wp2_with fail
            go_meet
            case rel => exact HF6.out
      case rest =>
      obtain ⟨A, hYN, hKN⟩ := hcut
      obtain ⟨V1, hV1⟩ : ∃ V1, wc = V1 := ⟨_, rfl⟩
      rw [hV1] at hYN hKN ⊢
      have hKo : Kept (fun k => k < w.heap.size) w V1 := HK.out.trans hKN
      have hYo := HY0.out.kept hKo
      obtain ⟨q, hq, -, -, hqlt⟩ := hYo.qat (by omega)
      have o2 := hYo.c2
      rw [hq, HNE.out] at o2
      have o3 := hYo.qcell hq hiM
      obtain ⟨gl, hgl⟩ : ∃ gl, (G i).length = gl := ⟨_, rfl⟩
      obtain ⟨gai, hgai⟩ : ∃ gai, A0.ga i = gai := ⟨_, rfl⟩
      obtain ⟨gci, hgci⟩ : ∃ gci, A0.gc i = gci := ⟨_, rfl⟩
      have hgo := hYo.gown i hiM
      rw [hgl, hgai, hgci] at o3 hgo
      have ri := rints_any (G i) gai gl gci hgl (by rw [← hgl]; exact Nat.le_trans (HLG.out i hiM) (by decide)) V1.drew (hgo.intsAt fun x hx => (hgo.out hx).2)
      have RI : Hid (Calls Tryz.prog 77 #[.slice gai gl gci] V1.drew fun e w' => ∃ ao c, e = .returned (.slice ao gl c) ∧ OwnZ (fun k => k < V1.drew.heap.size) w' 3 1 ao gl c (ivs (G i)) ∧ Kept (fun k => k < V1.drew.heap.size) V1.drew w') := ri
      have hcl := lt_block hYN.blk
      have e42 : V1.drew.cell? ⟨c, 2, none⟩ = some (.slice A.qa i A.qc) := by show V1.cell? _ = _; rw [cell_block hYN.blk]; rfl
      have E42 : Hid (∀ X, Kept (fun k => k < V1.drew.heap.size) V1.drew X → X.cell? ⟨c, 2, none⟩ = some (.slice A.qa i A.qc)) := fun X hX => (hX.cell (p := ⟨c, 2, none⟩) hcl).trans e42
      have HCQ : Hid (∀ Y ao co, OwnZ (fun k => k < V1.drew.heap.size) Y 3 1 ao gl co (ivs (G i)) → Kept (fun k => k < V1.drew.heap.size) V1.drew Y → ∃ qa' qc' w', (Builtin.append_ #[82, 82] 82 #[.slice A.qa i A.qc, .slice (some ⟨Y.heap.size, 0, none⟩) 1 1]).run Tryz.prog (Y.alloc (.cells #[.slice ao gl co] 33)) = .ok (.slice qa' (i + 1) qc') w' ∧
          w'.cell? ⟨c, 2, none⟩ = some (.slice A.qa i A.qc) ∧ w'.frozen? ⟨c, 2, none⟩ = false ∧ RY (fun k => k < w.heap.size) (w'.setCell ⟨c, 2, none⟩ (.slice qa' (i + 1) qc')) c (M.cut (i + 1)) R G (A.copG i qa' qc' ao co) ∧ Kept (fun k => k < w.heap.size) V1 (w'.setCell ⟨c, 2, none⟩ (.slice qa' (i + 1) qc'))) := fun Y ao co hO hKY => by
        rw [← hgl] at hO ⊢
        exact RYg.copQ hYN rfl (((Kept.refl (fun k => k < V1.heap.size) V1).drew).trans hKY) (by omega) ao co hO
      have o2d : V1.drew.cell? ⟨p, 2, none⟩ = some (.slice (some ⟨q, 0, none⟩) n A0.qc) := o2
      have o3d : V1.drew.cell? ⟨q, i, none⟩ = some (.slice gai gl gci) := o3
      have HKN : Hid (Kept (fun k => k < w.heap.size) W5 V1) := hKN
      clear hYN hKN hV1 hKo hYo hq hqlt hgo ri hgl hgai hgci hcl
      go_upto_region 7 with fail
      refine wp_region_any (by kernel_rfl) ?_
      change wpAny _ _ _ _ _ _ _ (World.drew _)
      refine wpAny_take (i := 0) (v := .pointer (some ⟨c, 0, none⟩)) rfl (by kernel_rfl) (by kernel_rfl) (by kernel_rfl) (fun _ _ _ h => h) (Or.inl ⟨by rfl, by intro w; go_simp; try with_reducible rfl⟩) ?_
      refine wpAny_take (i := 1) (v := .pointer (some ⟨c, 0, none⟩)) rfl (by kernel_rfl) (by kernel_rfl) (by kernel_rfl) (fun _ _ _ h => h) (Or.inl ⟨by rfl, by intro w; go_simp; try with_reducible rfl⟩) ?_
      refine wpAny_take (i := 2) (v := .pointer (some ⟨c, 0, none⟩)) rfl (by kernel_rfl) (by kernel_rfl) (by kernel_rfl) (fun _ _ _ h => h) (Or.inl ⟨by rfl, by intro w; go_simp; try with_reducible rfl⟩) ?_
      refine wpAny_take (i := 3) (v := .pointer (some ⟨c, 2, none⟩)) rfl (by kernel_rfl) (by kernel_rfl) (by kernel_rfl) (fun _ _ _ h => h) (Or.inl ⟨by rfl, by intro w; go_simp; try with_reducible rfl⟩) ?_
      refine wpAny_take (i := 5) (v := .pointer (some ⟨p, 0, none⟩)) rfl (by kernel_rfl) (by kernel_rfl) (by kernel_rfl) (fun _ _ _ h => h) (Or.inl ⟨by rfl, by intro w; go_simp; try with_reducible rfl⟩) ?_
      refine wpAny_take (i := 6) (v := .pointer (some ⟨p, 0, none⟩)) rfl (by kernel_rfl) (by kernel_rfl) (by kernel_rfl) (fun _ _ _ h => h) (Or.inl ⟨by rfl, by intro w; go_simp; try with_reducible rfl⟩) ?_
      refine wpAny_take (i := 7) (v := .pointer (some ⟨p, 2, none⟩)) rfl (by kernel_rfl) (by kernel_rfl) (by kernel_rfl) (fun _ _ _ h => h) (Or.inl ⟨by rfl, by intro w; go_simp; try with_reducible rfl⟩) ?_
      refine wpAny_take (i := 9) (v := .int .i64 (i : Int)) rfl (by kernel_rfl) (by kernel_rfl) (by kernel_rfl) (fun _ _ _ h => h) (Or.inl ⟨by rfl, by intro w; go_simp; try with_reducible rfl⟩) ?_
      refine wpAny_ready (rs := [4, 8]) (by kernel_rfl) (by simp) ?_
      refine AllReady.cons rfl (fun K hK => ?_) (AllReady.cons rfl (fun K hK => ?_) AllReady.nil)
      · go_simp
        refine hK _ _ ?_
        clear hK K
        refine wpAny_ready (rs := [8]) (by kernel_rfl) (by simp) ?_
        refine AllReady.cons rfl (fun K hK => ?_) AllReady.nil
        go_simp
        refine hK _ _ ?_
        clear hK K
        refine wpAny_take (i := 10) (v := .pointer (some ⟨q, i, none⟩)) rfl (by kernel_rfl) (by kernel_rfl) (by kernel_rfl) (fun _ _ _ h => h) (Or.inl ⟨by rfl, by intro w; go_simp; try with_reducible rfl⟩) ?_
        refine wpAny_ready (rs := [11]) (by kernel_rfl) (by simp) ?_
        refine AllReady.cons rfl (fun K hK => ?_) AllReady.nil
        go_simp
        refine hK _ _ ?_
        clear hK K
        refine wpAny_ready (rs := [12]) (by kernel_rfl) (by simp) ?_
        refine AllReady.cons rfl (fun K hK => ?_) AllReady.nil
        refine step_callE rfl 77 #[.tmp 49] #[33] rfl #[.slice gai gl gci] (by first | rfl | (simp [Act.eval]; done) | (simp [Act.eval, Act.put]; done)) (enter77 _ _) _ RI.out ?_
        rintro e Y ⟨ao, co, rfl, hO, hKY⟩
        refine ⟨_, rfl, ?_⟩
        refine hK _ _ ?_
        clear hK K
        obtain ⟨qa', qc', w2, hr2, d2, f2, hY2, hK2⟩ := HCQ.out Y ao co hO hKY
        have e42 := E42.out Y hKY
        have e42b : (Y.alloc (.cells #[.slice ao gl co] 33)).cell? ⟨c, 2, none⟩ = some (.slice A.qa i A.qc) := E42.out _ (hKY.trans ((Kept.refl (fun k => k < Y.heap.size) Y |>.alloc (fun _ h => h) _).mono fun k h => Nat.lt_of_lt_of_le h hKY.size))
        refine wpAny_ready (rs := [13]) (by kernel_rfl) (by simp) ?_
        refine AllReady.cons rfl (fun K hK => ?_) AllReady.nil
        refine step_slice1 rfl (.tmp 50) rfl (.slice ao gl co) rfl rfl ?_
        refine hK _ _ ?_
        clear hK K
        refine wpAny_ready (rs := [14]) (by kernel_rfl) (by simp) ?_
        refine AllReady.cons rfl (fun K hK => ?_) AllReady.nil
        refine step_appR (w' := w2) rfl (.tmp 42) (.tmp 51) 82 82 rfl _ _ (.slice qa' (i + 1) qc') rfl rfl hr2 ?_
        refine hK _ _ ?_
        clear hK K
        refine wpAny_take (i := 15) (v := .pointer (some ⟨c, 0, none⟩)) rfl (by kernel_rfl) (by kernel_rfl) (by kernel_rfl) (fun _ _ _ h => h) (Or.inl ⟨by rfl, by intro w; go_simp; try with_reducible rfl⟩) ?_
        refine wpAny_take (i := 16) (v := .pointer (some ⟨c, 2, none⟩)) rfl (by kernel_rfl) (by kernel_rfl) (by kernel_rfl) (fun _ _ _ h => h) (Or.inl ⟨by rfl, by intro w; go_simp; try with_reducible rfl⟩) ?_
        refine wpAny_ready (rs := [17]) (by kernel_rfl) (by simp) ?_
        refine AllReady.cons rfl (fun K hK => ?_) AllReady.nil
        go_simp
        refine hK _ _ ?_
        clear hK K
        refine wpAny_done (by kernel_rfl) ?_ _
        have HY2 : Hid (RYg (fun k => k < w.heap.size) (w2.setCell ⟨c, 2, none⟩ (.slice qa' (i + 1) qc')) c (M.cut (i + 1)) R G (A.copG i qa' qc' ao co) (i + 1)) := hY2
        have HK2 : Hid (Kept (fun k => k < w.heap.size) w (w2.setCell ⟨c, 2, none⟩ (.slice qa' (i + 1) qc'))) := (HK.out.trans HKN.out).trans hK2
        clear hY2 hK2 hr2 d2 f2 hO hKY
        go_wp2
        go_roundg (n - (i + 1))
        case rel => exact ⟨i + 1, _, rfl, by omega, by go_num, HY2.out, HK2.out⟩
        case measure => omega
      · go_simp
        refine hK _ _ ?_
        clear hK K
        refine wpAny_take (i := 10) (v := .pointer (some ⟨q, i, none⟩)) rfl (by kernel_rfl) (by kernel_rfl) (by kernel_rfl) (fun _ _ _ h => h) (Or.inl ⟨by rfl, by intro w; go_simp; try with_reducible rfl⟩) ?_
        refine wpAny_ready (rs := [4, 11]) (by kernel_rfl) (by simp) ?_
        refine AllReady.cons rfl (fun K hK => ?_) (AllReady.cons rfl (fun K hK => ?_) AllReady.nil)
        · go_simp
          refine hK _ _ ?_
          clear hK K
          refine wpAny_ready (rs := [11]) (by kernel_rfl) (by simp) ?_
          refine AllReady.cons rfl (fun K hK => ?_) AllReady.nil
          go_simp
          refine hK _ _ ?_
          clear hK K
          refine wpAny_ready (rs := [12]) (by kernel_rfl) (by simp) ?_
          refine AllReady.cons rfl (fun K hK => ?_) AllReady.nil
          refine step_callE rfl 77 #[.tmp 49] #[33] rfl #[.slice gai gl gci] (by first | rfl | (simp [Act.eval]; done) | (simp [Act.eval, Act.put]; done)) (enter77 _ _) _ RI.out ?_
          rintro e Y ⟨ao, co, rfl, hO, hKY⟩
          refine ⟨_, rfl, ?_⟩
          refine hK _ _ ?_
          clear hK K
          obtain ⟨qa', qc', w2, hr2, d2, f2, hY2, hK2⟩ := HCQ.out Y ao co hO hKY
          have e42 := E42.out Y hKY
          have e42b : (Y.alloc (.cells #[.slice ao gl co] 33)).cell? ⟨c, 2, none⟩ = some (.slice A.qa i A.qc) := E42.out _ (hKY.trans ((Kept.refl (fun k => k < Y.heap.size) Y |>.alloc (fun _ h => h) _).mono fun k h => Nat.lt_of_lt_of_le h hKY.size))
          refine wpAny_ready (rs := [13]) (by kernel_rfl) (by simp) ?_
          refine AllReady.cons rfl (fun K hK => ?_) AllReady.nil
          refine step_slice1 rfl (.tmp 50) rfl (.slice ao gl co) rfl rfl ?_
          refine hK _ _ ?_
          clear hK K
          refine wpAny_ready (rs := [14]) (by kernel_rfl) (by simp) ?_
          refine AllReady.cons rfl (fun K hK => ?_) AllReady.nil
          refine step_appR (w' := w2) rfl (.tmp 42) (.tmp 51) 82 82 rfl _ _ (.slice qa' (i + 1) qc') rfl rfl hr2 ?_
          refine hK _ _ ?_
          clear hK K
          refine wpAny_take (i := 15) (v := .pointer (some ⟨c, 0, none⟩)) rfl (by kernel_rfl) (by kernel_rfl) (by kernel_rfl) (fun _ _ _ h => h) (Or.inl ⟨by rfl, by intro w; go_simp; try with_reducible rfl⟩) ?_
          refine wpAny_take (i := 16) (v := .pointer (some ⟨c, 2, none⟩)) rfl (by kernel_rfl) (by kernel_rfl) (by kernel_rfl) (fun _ _ _ h => h) (Or.inl ⟨by rfl, by intro w; go_simp; try with_reducible rfl⟩) ?_
          refine wpAny_ready (rs := [17]) (by kernel_rfl) (by simp) ?_
          refine AllReady.cons rfl (fun K hK => ?_) AllReady.nil
          go_simp
          refine hK _ _ ?_
          clear hK K
          refine wpAny_done (by kernel_rfl) ?_ _
          have HY2 : Hid (RYg (fun k => k < w.heap.size) (w2.setCell ⟨c, 2, none⟩ (.slice qa' (i + 1) qc')) c (M.cut (i + 1)) R G (A.copG i qa' qc' ao co) (i + 1)) := hY2
          have HK2 : Hid (Kept (fun k => k < w.heap.size) w (w2.setCell ⟨c, 2, none⟩ (.slice qa' (i + 1) qc'))) := (HK.out.trans HKN.out).trans hK2
          clear hY2 hK2 hr2 d2 f2 hO hKY
          go_wp2
          go_roundg (n - (i + 1))
          case rel => exact ⟨i + 1, _, rfl, by omega, by go_num, HY2.out, HK2.out⟩
          case measure => omega
        · go_simp
          refine hK _ _ ?_
          clear hK K
          refine wpAny_ready (rs := [4, 12]) (by kernel_rfl) (by simp) ?_
          refine AllReady.cons rfl (fun K hK => ?_) (AllReady.cons rfl (fun K hK => ?_) AllReady.nil)
          · go_simp
            refine hK _ _ ?_
            clear hK K
            refine wpAny_ready (rs := [12]) (by kernel_rfl) (by simp) ?_
            refine AllReady.cons rfl (fun K hK => ?_) AllReady.nil
            refine step_callE rfl 77 #[.tmp 49] #[33] rfl #[.slice gai gl gci] (by first | rfl | (simp [Act.eval]; done) | (simp [Act.eval, Act.put]; done)) (enter77 _ _) _ RI.out ?_
            rintro e Y ⟨ao, co, rfl, hO, hKY⟩
            refine ⟨_, rfl, ?_⟩
            refine hK _ _ ?_
            clear hK K
            obtain ⟨qa', qc', w2, hr2, d2, f2, hY2, hK2⟩ := HCQ.out Y ao co hO hKY
            have e42 := E42.out Y hKY
            have e42b : (Y.alloc (.cells #[.slice ao gl co] 33)).cell? ⟨c, 2, none⟩ = some (.slice A.qa i A.qc) := E42.out _ (hKY.trans ((Kept.refl (fun k => k < Y.heap.size) Y |>.alloc (fun _ h => h) _).mono fun k h => Nat.lt_of_lt_of_le h hKY.size))
            refine wpAny_ready (rs := [13]) (by kernel_rfl) (by simp) ?_
            refine AllReady.cons rfl (fun K hK => ?_) AllReady.nil
            refine step_slice1 rfl (.tmp 50) rfl (.slice ao gl co) rfl rfl ?_
            refine hK _ _ ?_
            clear hK K
            refine wpAny_ready (rs := [14]) (by kernel_rfl) (by simp) ?_
            refine AllReady.cons rfl (fun K hK => ?_) AllReady.nil
            refine step_appR (w' := w2) rfl (.tmp 42) (.tmp 51) 82 82 rfl _ _ (.slice qa' (i + 1) qc') rfl rfl hr2 ?_
            refine hK _ _ ?_
            clear hK K
            refine wpAny_take (i := 15) (v := .pointer (some ⟨c, 0, none⟩)) rfl (by kernel_rfl) (by kernel_rfl) (by kernel_rfl) (fun _ _ _ h => h) (Or.inl ⟨by rfl, by intro w; go_simp; try with_reducible rfl⟩) ?_
            refine wpAny_take (i := 16) (v := .pointer (some ⟨c, 2, none⟩)) rfl (by kernel_rfl) (by kernel_rfl) (by kernel_rfl) (fun _ _ _ h => h) (Or.inl ⟨by rfl, by intro w; go_simp; try with_reducible rfl⟩) ?_
            refine wpAny_ready (rs := [17]) (by kernel_rfl) (by simp) ?_
            refine AllReady.cons rfl (fun K hK => ?_) AllReady.nil
            go_simp
            refine hK _ _ ?_
            clear hK K
            refine wpAny_done (by kernel_rfl) ?_ _
            have HY2 : Hid (RYg (fun k => k < w.heap.size) (w2.setCell ⟨c, 2, none⟩ (.slice qa' (i + 1) qc')) c (M.cut (i + 1)) R G (A.copG i qa' qc' ao co) (i + 1)) := hY2
            have HK2 : Hid (Kept (fun k => k < w.heap.size) w (w2.setCell ⟨c, 2, none⟩ (.slice qa' (i + 1) qc'))) := (HK.out.trans HKN.out).trans hK2
            clear hY2 hK2 hr2 d2 f2 hO hKY
            go_wp2
            go_roundg (n - (i + 1))
            case rel => exact ⟨i + 1, _, rfl, by omega, by go_num, HY2.out, HK2.out⟩
            case measure => omega
          · refine step_callE rfl 77 #[.tmp 49] #[33] rfl #[.slice gai gl gci] (by first | rfl | (simp [Act.eval]; done) | (simp [Act.eval, Act.put]; done)) (enter77 _ _) _ RI.out ?_
            rintro e Y ⟨ao, co, rfl, hO, hKY⟩
            refine ⟨_, rfl, ?_⟩
            refine hK _ _ ?_
            clear hK K
            obtain ⟨qa', qc', w2, hr2, d2, f2, hY2, hK2⟩ := HCQ.out Y ao co hO hKY
            have e42 := E42.out Y hKY
            have e42b : (Y.alloc (.cells #[.slice ao gl co] 33)).cell? ⟨c, 2, none⟩ = some (.slice A.qa i A.qc) := E42.out _ (hKY.trans ((Kept.refl (fun k => k < Y.heap.size) Y |>.alloc (fun _ h => h) _).mono fun k h => Nat.lt_of_lt_of_le h hKY.size))
            refine wpAny_ready (rs := [4, 13]) (by kernel_rfl) (by simp) ?_
            refine AllReady.cons rfl (fun K hK => ?_) (AllReady.cons rfl (fun K hK => ?_) AllReady.nil)
            · go_simp
              refine hK _ _ ?_
              clear hK K
              refine wpAny_ready (rs := [13]) (by kernel_rfl) (by simp) ?_
              refine AllReady.cons rfl (fun K hK => ?_) AllReady.nil
              refine step_slice1 rfl (.tmp 50) rfl (.slice ao gl co) rfl rfl ?_
              refine hK _ _ ?_
              clear hK K
              refine wpAny_ready (rs := [14]) (by kernel_rfl) (by simp) ?_
              refine AllReady.cons rfl (fun K hK => ?_) AllReady.nil
              refine step_appR (w' := w2) rfl (.tmp 42) (.tmp 51) 82 82 rfl _ _ (.slice qa' (i + 1) qc') rfl rfl hr2 ?_
              refine hK _ _ ?_
              clear hK K
              refine wpAny_take (i := 15) (v := .pointer (some ⟨c, 0, none⟩)) rfl (by kernel_rfl) (by kernel_rfl) (by kernel_rfl) (fun _ _ _ h => h) (Or.inl ⟨by rfl, by intro w; go_simp; try with_reducible rfl⟩) ?_
              refine wpAny_take (i := 16) (v := .pointer (some ⟨c, 2, none⟩)) rfl (by kernel_rfl) (by kernel_rfl) (by kernel_rfl) (fun _ _ _ h => h) (Or.inl ⟨by rfl, by intro w; go_simp; try with_reducible rfl⟩) ?_
              refine wpAny_ready (rs := [17]) (by kernel_rfl) (by simp) ?_
              refine AllReady.cons rfl (fun K hK => ?_) AllReady.nil
              go_simp
              refine hK _ _ ?_
              clear hK K
              refine wpAny_done (by kernel_rfl) ?_ _
              have HY2 : Hid (RYg (fun k => k < w.heap.size) (w2.setCell ⟨c, 2, none⟩ (.slice qa' (i + 1) qc')) c (M.cut (i + 1)) R G (A.copG i qa' qc' ao co) (i + 1)) := hY2
              have HK2 : Hid (Kept (fun k => k < w.heap.size) w (w2.setCell ⟨c, 2, none⟩ (.slice qa' (i + 1) qc'))) := (HK.out.trans HKN.out).trans hK2
              clear hY2 hK2 hr2 d2 f2 hO hKY
              go_wp2
              go_roundg (n - (i + 1))
              case rel => exact ⟨i + 1, _, rfl, by omega, by go_num, HY2.out, HK2.out⟩
              case measure => omega
            · refine step_slice1 rfl (.tmp 50) rfl (.slice ao gl co) rfl rfl ?_
              refine hK _ _ ?_
              clear hK K
              refine wpAny_ready (rs := [4]) (by kernel_rfl) (by simp) ?_
              refine AllReady.cons rfl (fun K hK => ?_) AllReady.nil
              go_simp
              refine hK _ _ ?_
              clear hK K
              refine wpAny_ready (rs := [14]) (by kernel_rfl) (by simp) ?_
              refine AllReady.cons rfl (fun K hK => ?_) AllReady.nil
              refine step_appR (w' := w2) rfl (.tmp 42) (.tmp 51) 82 82 rfl _ _ (.slice qa' (i + 1) qc') rfl rfl hr2 ?_
              refine hK _ _ ?_
              clear hK K
              refine wpAny_take (i := 15) (v := .pointer (some ⟨c, 0, none⟩)) rfl (by kernel_rfl) (by kernel_rfl) (by kernel_rfl) (fun _ _ _ h => h) (Or.inl ⟨by rfl, by intro w; go_simp; try with_reducible rfl⟩) ?_
              refine wpAny_take (i := 16) (v := .pointer (some ⟨c, 2, none⟩)) rfl (by kernel_rfl) (by kernel_rfl) (by kernel_rfl) (fun _ _ _ h => h) (Or.inl ⟨by rfl, by intro w; go_simp; try with_reducible rfl⟩) ?_
              refine wpAny_ready (rs := [17]) (by kernel_rfl) (by simp) ?_
              refine AllReady.cons rfl (fun K hK => ?_) AllReady.nil
              go_simp
              refine hK _ _ ?_
              clear hK K
              refine wpAny_done (by kernel_rfl) ?_ _
              have HY2 : Hid (RYg (fun k => k < w.heap.size) (w2.setCell ⟨c, 2, none⟩ (.slice qa' (i + 1) qc')) c (M.cut (i + 1)) R G (A.copG i qa' qc' ao co) (i + 1)) := hY2
              have HK2 : Hid (Kept (fun k => k < w.heap.size) w (w2.setCell ⟨c, 2, none⟩ (.slice qa' (i + 1) qc'))) := (HK.out.trans HKN.out).trans hK2
              clear hY2 hK2 hr2 d2 f2 hO hKY
              go_wp2
              go_roundg (n - (i + 1))
              case rel => exact ⟨i + 1, _, rfl, by omega, by go_num, HY2.out, HK2.out⟩
              case measure => omega
    · have hin : n = i := by omega
      subst hin
      have HF : Hid (RX (fun k => k < w.heap.size) wr c M R G) := by
        have e : M.cut n = M := by rw [← HNE.out]; rfl
        rw [e] at hY
        refine (show Hid _ from ⟨A, ?_⟩)
        show RYg _ _ _ _ _ _ _ M.n
        rw [HNE.out]; exact hY
      have HK : Hid (Kept (fun k => k < w.heap.size) w wr) := hK
      clear hY hK hYo
      go_wp2
      go_ret
      exact ⟨c, rfl, HF.out, HK.out⟩
end Go.Proofs.YthhoicmfmfeehaaGreat
