/-
  The walk of ShadowOnce.
-/
import Derived.Test.YtbhfnbplbkncmaaGreatVSOUceVa
import Derived.Test.YtbhfnbplbkncmaaGreatVSOUceVd
import Derived.Test.YtbhfnbplbkncmaaGreatVSOUceSk
import Derived.Test.YtbhfnbplbkncmaaGreatVSOUceRe
import Derived.Test.YtbhfnbplbkncmaaGreatZ37
import Derived.Test.YtbhfnbplbkncmaaGreatZ38
namespace Go.Proofs.YtbhfnbplbkncmaaGreat
open Go.RowKit Go.Sort
set_option linter.unusedVariables false
section
variable {K : Nat → Prop} {w V : World} {p host : Nat} {M : Dm} {R : Nat → List Nat} {rk : Nat → Nat}
theorem DX.ext (h : DX K w p M) (hk : Kept (fun k => k < w.heap.size) w V) : DX (fun j => K j ∨ (w.heap.size ≤ j ∧ j < V.heap.size)) V p M :=
  h.more hk (fun j h => h.elim .inl (fun h => .inr h.1)) (fun j hj => by
    rcases hj with hj | hj
    · exact Nat.lt_of_lt_of_le (h.lt j hj) hk.size
    · exact hj.2)
theorem attach_no (f : Fg) (h : DX K w p M) (hG : Good M R rk) (hi : host < M.n) (hn : M.n ≤ 100000) (hL : M.limit ≤ 100000) (c : ¬ ((M.nd host).kind = 1 ∧ hostP (M.nd host).name = true)) :
    Calls Tryz.prog 46 #[.pointer (some ⟨p, 0, none⟩), .int .i64 (host : Int), fgV f] w fun e w' => e = .returned (.tuple #[.int .i64 0, .int .u16 100]) ∧ DX K w' p M ∧ Kept K w w' :=
  (attach_in K p host M R rk f w h hG hi hn hL).mono fun e w' ⟨hK, hA⟩ => by
    cases hA with
    | host _ h2 h3 => exact ⟨h2, h3, hK⟩
    | root a b _ => exact absurd ⟨b, a⟩ c
theorem attach_tw (f : Fg) (h : DX K w p M) (hG : Good M R rk) (hi : host < M.n) (hn : M.n ≤ 100000) (hL : M.limit ≤ 100000) (c : (M.nd host).kind = 1 ∧ hostP (M.nd host).name = true) (c2 : (M.nd host).shadow ≠ -1) :
    Calls Tryz.prog 46 #[.pointer (some ⟨p, 0, none⟩), .int .i64 (host : Int), fgV f] w fun e w' => e = .returned (.tuple #[.int .i64 0, .int .u16 101]) ∧ DX K w' p M ∧ Kept K w w' :=
  (attach_in K p host M R rk f w h hG hi hn hL).mono fun e w' ⟨hK, hA⟩ => by
    cases hA with
    | host a _ _ => exact absurd c a
    | root _ _ hR => cases hR with
      | host a _ _ => exact absurd c.1 a
      | twice _ _ h2 h3 => exact ⟨h2, h3, hK⟩
      | full _ a _ _ _ => exact absurd a c2
      | made _ a _ _ _ => exact absurd a c2
theorem attach_full (f : Fg) (h : DX K w p M) (hG : Good M R rk) (hi : host < M.n) (hn : M.n ≤ 100000) (hL : M.limit ≤ 100000) (c : (M.nd host).kind = 1 ∧ hostP (M.nd host).name = true) (c2 : (M.nd host).shadow = -1) (c3 : M.limit < M.n + 1) :
    Calls Tryz.prog 46 #[.pointer (some ⟨p, 0, none⟩), .int .i64 (host : Int), fgV f] w fun e w' => e = .returned (.tuple #[.int .i64 0, .int .u16 3]) ∧ DX K w' p M ∧ Kept K w w' :=
  (attach_in K p host M R rk f w h hG hi hn hL).mono fun e w' ⟨hK, hA⟩ => by
    cases hA with
    | host a _ _ => exact absurd c a
    | root _ _ hR => cases hR with
      | host a _ _ => exact absurd c.1 a
      | twice _ a _ _ => exact absurd c2 a
      | full _ _ _ h2 h3 => exact ⟨h2, h3, hK⟩
      | made _ _ a _ _ => omega
theorem attach_made (f : Fg) (h : DX K w p M) (hG : Good M R rk) (hi : host < M.n) (hn : M.n ≤ 100000) (hL : M.limit ≤ 100000) (c : (M.nd host).kind = 1 ∧ hostP (M.nd host).name = true) (c2 : (M.nd host).shadow = -1) (c3 : M.n + 1 ≤ M.limit) :
    Calls Tryz.prog 46 #[.pointer (some ⟨p, 0, none⟩), .int .i64 (host : Int), fgV f] w fun e w' => e = .returned (.tuple #[.int .i64 (M.n : Int), .int .u16 0]) ∧ DX K w' p (M.addR host f) ∧ Kept K w w' :=
  (attach_in K p host M R rk f w h hG hi hn hL).mono fun e w' ⟨hK, hA⟩ => by
    cases hA with
    | host a _ _ => exact absurd c a
    | root _ _ hR => cases hR with
      | host a _ _ => exact absurd c.1 a
      | twice _ a _ _ => exact absurd c2 a
      | full _ _ a _ _ => omega
      | made _ _ _ h2 h3 => exact ⟨h2, h3, hK⟩
end
theorem eql34 (f : Fg) (X : World) : (binOp .eql 34 (fgV f) (fgV f)).run Tryz.prog X = .ok (.bool true) X := by
  have hS : Tryz.prog.underlying 34 = some (.struct (Tryz.prog.fieldsOf 34)) := by kernel_rfl
  have hp : Tryz.prog.stoodInHeld 34 = false := by kernel_rfl
  rw [run_eql_struct, show (10000 : Nat) = 9999 + 1 from rfl, run_equalIn_agg X 9999 34 _ _ hS hp]
  have u3 := Tryz.underlying4
  have z3 : Tryz.prog.cellsOf 4 = 1 := by kernel_rfl
  simp only [Program.fieldsOf, Tryz.underlying34]
  go_simp
abbrev flB (f : Fg) : Obj := .cells #[.bool f.a, .bool f.b, .bool f.c, .bool f.d, .bool f.e] 34
set_option maxRecDepth 20000 in
set_option maxHeartbeats 8000000 in
theorem sonce_go (l : List Opx) (n : Nat) (hln : l.length = n) (hnn : n ≤ 60) (a : Option Addr) (c : Nat) (hok : ∀ o ∈ l, OpOk o) (hb : opsH l ≤ 6000) (w : World) (h : OpsAt (fun k => k < w.heap.size) w a l) (za : Nat) (hza : za < 65536) (f g : Fg) :
    Calls Tryz.prog 11 #[.slice a n c, .int .u16 (za : Int), fgV f, fgV g] w fun e w' => e = .returned (.bool true) ∧ Kept (fun k => k < w.heap.size) w w' := by
  obtain ⟨W0, hW0⟩ : ∃ W0, (w.alloc (flB f)).alloc (flB g) = W0 := ⟨_, rfl⟩
  obtain ⟨N0, hN0⟩ : ∃ N0, w.heap.size = N0 := ⟨_, rfl⟩
  have hk0 := kept_two w (flB f) (flB g)
  have hb0 := heap_two w (flB f) (flB g)
  rw [hW0] at hk0 hb0
  rw [hN0] at hb0
  have h0 : OpsAt (fun k => k < W0.heap.size) W0 a l := h.kept hk0 fun g hg => Nat.lt_of_lt_of_le hg hk0.size
  have HW0 : Hid ((w.alloc (flB f)).alloc (flB g) = W0) := hW0
  have HN0 : Hid (w.heap.size = N0) := hN0
  have HK0 : Hid (Kept (fun k => k < w.heap.size) w W0) := hk0
  have FB : Hid (∀ (K : Nat → Prop) X, (∀ k, k < W0.heap.size → K k) → Kept K W0 X → (X.heap[N0]? = some (.cells #[.bool f.a, .bool f.b, .bool f.c, .bool f.d, .bool f.e] 34 (0, 0))) ∧ X.heap[N0 + 1]? = some (.cells #[.bool g.a, .bool g.b, .bool g.c, .bool g.d, .bool g.e] 34 (0, 0))) := fun K X hK hX => ⟨(hX.block N0 (hK _ (lt_block hb0.1))).trans hb0.1, (hX.block (N0 + 1) (hK _ (lt_block hb0.2))).trans hb0.2⟩
  clear hW0 hN0 hk0 hb0
  have rh := heavy10_any l n hln hnn a c (by omega) W0 h0
  rw [decide_eq_false (by omega : ¬ 6000 < opsH l)] at rh
  have RG : Hid (∀ X, Kept (fun k => k < W0.heap.size) W0 X → Calls Tryz.prog 39 #[.slice a n c] X fun e w' => ∃ p r E M R G rk, e = .returned (.tuple #[.pointer (some ⟨p, 0, none⟩), .pointer (some ⟨r, 0, none⟩)]) ∧ Grown (fun k => k < X.heap.size) E w' p r M R G rk 300 ∧ Kept (fun k => k < X.heap.size) X w') := fun X hX => grown10 l n hln (by omega) a c hok (by omega) X (h0.kept hX fun g hg => Nat.lt_of_lt_of_le hg hX.size)
  clear hln hok hb h h0
  go_enter Tryz.func11, Tryz.ntmps11
  go_upto_region 1 with fail
  rw [HW0.out, HN0.out]
  clear HW0
  go_wp2_with fail
  refine rh.mono ?_
  rintro e w1 ⟨rfl, k1⟩
  have rk0 := sknown_any w1
  clear rh
  go_wp2_with fail
  refine rk0.mono ?_
  rintro e w2 ⟨rfl, k2⟩
  have k12 : Kept (fun k => k < W0.heap.size) W0 w2 := k1.trans (k2.mono fun k h => Nat.lt_of_lt_of_le h k1.size)
  have rg := RG.out w2 k12
  have HK12 : Hid (Kept (fun k => k < W0.heap.size) W0 w2) := k12
  clear rk0 k1 k2 k12 RG
  go_wp2_with fail
  refine rg.mono ?_
  rintro e W ⟨p, r, E, M, R, G, rk, rfl, hG, hK⟩
  have HG : Hid (Grown (fun k => k < w2.heap.size) E W p r M R G rk 300) := hG
  have HKW : Hid (Kept (fun k => k < W0.heap.size) W0 W) := HK12.out.trans (hK.mono fun k h => Nat.lt_of_lt_of_le h HK12.out.size)
  obtain ⟨m, hm⟩ : ∃ m, M.n = m := ⟨_, rfl⟩
  have HM : Hid (M.n = m) := hm
  have hm300 : m ≤ 300 := by have h1 := hG.le; rw [hG.lim, hm] at h1; exact h1
  have hm1 : 1 ≤ m := by rw [← hm]; exact hG.inv.core.pos
  have rl : Calls Tryz.prog 23 #[.pointer (some ⟨p, 0, none⟩)] W fun e w' => e = .returned (.int .i64 (m : Int)) ∧ w' = W := by rw [← hm]; exact hG.len (Kept.refl _ _)
  have NODE : Hid (∀ i, i < m → ∀ X, Kept (fun k => k < W.heap.size) W X → Calls Tryz.prog 24 #[.pointer (some ⟨p, 0, none⟩), .int .i64 (i : Int)] X fun e w' => Told X (M.nd i) (M.pl i).up (R i) e w') := fun i hi X hX => hG.node (by decide) (by rw [hm]; exact hi) hX
  obtain ⟨i, hi⟩ : ∃ i, za % m = i := ⟨_, rfl⟩
  have him : i < m := by rw [← hi]; exact Nat.mod_lt _ (by omega)
  have hi' : (za : Int).tmod (m : Int) = (i : Int) := by rw [← hi]; rfl
  have rn := NODE.out i him W (Kept.refl _ _)
  clear rg hG hK hm hi
  go_upto_region 7 with (go_at_call 23; refine rl.mono ?_; rintro e1 w3 ⟨rfl, hw3⟩; replace hw3 := hw3.symm; subst hw3)
  clear rl
  go_wp2_with fail
  refine rn.mono ?_
  rintro e v1 ⟨ao1, ac1, ko1, kc1, rfl, -, hQ1, hKa⟩
  obtain ⟨N1, hN1⟩ : ∃ N, v1.heap.size = N := ⟨_, rfl⟩
  obtain ⟨V1, hV1⟩ : ∃ V, v1.alloc (.cells (outN (M.nd i) ao1 ac1 (M.pl i).up ko1 (R i).length kc1) 36) = V := ⟨_, rfl⟩
  have hB1 := Box.of hQ1 hKa V1 N1 hN1 hV1
  have HV1 : Hid (v1.alloc (.cells (outN (M.nd i) ao1 ac1 (M.pl i).up ko1 (R i).length kc1) 36) = V1) := hV1
  have HN1 : Hid (v1.heap.size = N1) := hN1
  have HKV1 : Hid (Kept (fun k => k < W.heap.size) W V1) := hB1.kept
  have hd1 := HG.out.two.d.ext hB1.kept
  obtain ⟨K', hK'⟩ : ∃ K' : Nat → Prop, (fun j => TK (fun k => k < w2.heap.size) E j ∨ (W.heap.size ≤ j ∧ j < V1.heap.size)) = K' := ⟨_, rfl⟩
  rw [hK'] at hd1
  have KN : Hid (K' N1) := by rw [← hK']; exact .inr ⟨hB1.lo, hB1.hi⟩
  have KW0 : Hid (∀ j, j < W0.heap.size → K' j) := fun j hj => by rw [← hK']; exact .inl (.inl (Nat.lt_of_lt_of_le hj HK12.out.size))
  have HKV : Hid (Kept (fun k => k < W0.heap.size) W0 V1) := HKW.out.trans (hB1.kept.mono fun k h => Nat.lt_of_lt_of_le h HKW.out.size)
  have c0 := hB1.c0
  have c1 := hB1.c1
  have c6 := hB1.c6
  have hnm : (M.nd i).kind = 1 → (M.nd i).name.length ≤ 60 := HG.out.inv.core.name (by rw [HM.out]; exact him)
  have hlim := HG.out.lim
  have hsh := HG.out.inv.sh (i := i) (by rw [HM.out]; exact him)
  have hin : i < M.n := by rw [HM.out]; exact him
  have hmn : M.n ≤ 100000 := by rw [HM.out]; omega
  have HMN : Hid (i < M.n ∧ M.n ≤ 100000 ∧ M.limit ≤ 100000) := ⟨hin, hmn, by rw [hlim]; decide⟩
  have hgood := HG.out.inv.good
  have HGD : Hid (Good M R rk) := hgood
  have hfb := FB.out _ V1 (fun _ h => h) HKV.out
  have b0 : V1.cell? ⟨N0, 0, none⟩ = some (.bool f.a) := by rw [cell_block hfb.1]; rfl
  have b1 : V1.cell? ⟨N0, 1, none⟩ = some (.bool f.b) := by rw [cell_block hfb.1]; rfl
  have b2 : V1.cell? ⟨N0, 2, none⟩ = some (.bool f.c) := by rw [cell_block hfb.1]; rfl
  have b3 : V1.cell? ⟨N0, 3, none⟩ = some (.bool f.d) := by rw [cell_block hfb.1]; rfl
  have b4 : V1.cell? ⟨N0, 4, none⟩ = some (.bool f.e) := by rw [cell_block hfb.1]; rfl
  obtain ⟨nm, hnme⟩ : ∃ nm : ByteArray, ⟨(M.nd i).name.toArray⟩ = nm := ⟨_, rfl⟩
  have hnl : nm.toList = (M.nd i).name := by rw [← hnme, ByteArray.toList_eq]
  have hns : nm.size = (M.nd i).name.length := by rw [← hnme]; rfl
  have c1' : V1.cell? ⟨N1, 1, none⟩ = some (.string nm) := by rw [← hnme]; exact c1
  have HC : Hid (∀ X, Kept K' V1 X → X.cell? ⟨N1, 0, none⟩ = some (.int .u8 ((M.nd i).kind : Int)) ∧ X.cell? ⟨N1, 1, none⟩ = some (.string nm) ∧ X.cell? ⟨N1, 6, none⟩ = some (.int .i64 (M.nd i).shadow)) := fun X hX => ⟨(hX.cell (p := ⟨N1, 0, none⟩) KN.out).trans c0, (hX.cell (p := ⟨N1, 1, none⟩) KN.out).trans c1', (hX.cell (p := ⟨N1, 6, none⟩) KN.out).trans c6⟩
  have HD1 : Hid (DX K' V1 p M) := hd1
  have HKL : Hid (Kept (fun k => k < w.heap.size) w V1) := HK0.out.trans (HKV.out.mono fun k h => Nat.lt_of_lt_of_le h HK0.out.size)
  have KW : Hid (∀ j, j < w.heap.size → K' j) := fun j hj => KW0.out j (Nat.lt_of_lt_of_le hj HK0.out.size)
  have FG : Hid (∀ X, Kept K' V1 X → X.heap[N0]? = some (.cells #[.bool f.a, .bool f.b, .bool f.c, .bool f.d, .bool f.e] 34 (0, 0)) ∧ X.heap[N0 + 1]? = some (.cells #[.bool g.a, .bool g.b, .bool g.c, .bool g.d, .bool g.e] 34 (0, 0))) := fun X hX => by
    have := FB.out (fun k => k < W0.heap.size) X (fun _ h => h) (HKV.out.trans (hX.mono KW0.out))
    exact this
  clear rn hQ1 hKa hN1 hV1 hB1 hd1 hK' c0 c1 c6 c1' hnme hfb hin hmn hgood
  go_upto_region 8 with fail
  rw [HV1.out, HN1.out]
  clear HV1 HN1
  by_cases q : (M.nd i).kind = 1 ∧ hostP (M.nd i).name = true
  · by_cases q2 : (M.nd i).shadow = -1
    · by_cases q3 : M.n + 1 ≤ M.limit
      · have r1 := attach_made f HD1.out HGD.out HMN.out.1 HMN.out.2.1 HMN.out.2.2 q q2 q3
        obtain ⟨rk', hI'⟩ := HG.out.inv.addR f HMN.out.1 q.1 q2
        have HI' : Hid (Inv (M.addR i f) (updR R M.n []) (updR G M.n []) rk') := hI'
        have hne : i ≠ M.n := Nat.ne_of_lt HMN.out.1
        have HNDh : Hid ((M.addR i f).nd i = { M.nd i with shadow := (M.n : Int) }) := addR_host M i f hne
        have HNDn : Hid ((M.addR i f).nd M.n = { (shN f).new with host := (i : Int) }) := addR_new M i f hne
        rw [HM.out] at r1
        have Q : Hid ((M.nd i).kind = 1 ∧ hostP (M.nd i).name = true) := q
        have Q3 : Hid (M.n + 1 ≤ M.limit) := q3
        clear q q2 hI' hne hnm hsh hnl hns
        go_wp2_with fail
        refine r1.mono ?_
        rintro e v2 ⟨rfl, hd2, hk2⟩
        have hfb := FG.out v2 hk2
        have b0' : v2.cell? ⟨N0 + 1, 0, none⟩ = some (.bool g.a) := by rw [cell_block hfb.2]; rfl
        have b1' : v2.cell? ⟨N0 + 1, 1, none⟩ = some (.bool g.b) := by rw [cell_block hfb.2]; rfl
        have b2' : v2.cell? ⟨N0 + 1, 2, none⟩ = some (.bool g.c) := by rw [cell_block hfb.2]; rfl
        have b3' : v2.cell? ⟨N0 + 1, 3, none⟩ = some (.bool g.d) := by rw [cell_block hfb.2]; rfl
        have b4' : v2.cell? ⟨N0 + 1, 4, none⟩ = some (.bool g.e) := by rw [cell_block hfb.2]; rfl
        have hn2 : (M.addR i f).n = m + 1 := by rw [addR_n, HM.out]
        have r2 := attach_tw (host := i) g hd2 HI'.out.good (by rw [hn2]; omega) (by rw [hn2]; omega) (by show M.limit ≤ 100000; exact HMN.out.2.2) (by rw [HNDh.out]; exact Q.out) (by rw [HNDh.out]; show ((M.n : Nat) : Int) ≠ -1; omega)
        have HK2 : Hid (Kept K' V1 v2) := hk2
        have HN2 : Hid ((M.addR i f).n = m + 1) := hn2
        clear r1 b0 b1 b2 b3 b4 hfb hd2 hk2 hn2 q3
        go_upto_region 9 with fail
        go_wp2_with fail
        refine r2.mono ?_
        rintro e v3 ⟨rfl, hd3, hk3⟩
        have k13 : Kept K' V1 v3 := HK2.out.trans hk3
        have rs := node_any K' p M.n (M.addR i f) (updR R M.n []) v3 hd3 HI'.out.good.wf (by rw [HN2.out, HM.out]; omega) (by rw [HN2.out]; omega) HI'.out.good.few
        obtain ⟨Q0, hQ0⟩ : ∃ Q0, updR R M.n [] M.n = Q0 := ⟨_, rfl⟩
        have HQ0 : Hid (Q0 = []) := by rw [← hQ0, updR_same]; exact rfl
        rw [hQ0] at rs
        have HD3 : Hid (DX K' v3 p (M.addR i f)) := hd3
        have HK3 : Hid (Kept K' V1 v3) := k13
        obtain ⟨x, hx⟩ : ∃ x, (M.addR i f).nd M.n = x := ⟨_, rfl⟩
        have HXF : Hid (x.kind = 5 ∧ x.host = (i : Int) ∧ x.fl = f) := by rw [← hx, HNDn.out]; exact ⟨rfl, rfl, rfl⟩
        have HX : Hid ((M.addR i f).nd M.n = x) := hx
        rw [hx, HM.out] at rs
        clear r2 b0' b1' b2' b3' b4' hd3 hk3 k13 HK2 hx hQ0
        go_upto_region 12 with fail
        go_wp2_with fail
        refine rs.mono ?_
        rintro e v4 ⟨ao4, ac4, ko4, kc4, rfl, -, hQ4, hKa4⟩
        obtain ⟨N4, hN4⟩ : ∃ N, v4.heap.size = N := ⟨_, rfl⟩
        obtain ⟨V4, hV4⟩ : ∃ V, v4.alloc (.cells (outN x ao4 ac4 ((M.addR i f).pl m).up ko4 Q0.length kc4) 36) = V := ⟨_, rfl⟩
        have hbk4 : V4.heap[N4]? = some (.cells (outN x ao4 ac4 ((M.addR i f).pl m).up ko4 Q0.length kc4) 36 (0, 0)) := by rw [← hV4, ← hN4]; exact heap_alloc_new v4 _
        have hkV4 : Kept (fun k => k < v3.heap.size) v3 V4 := by rw [← hV4]; exact hKa4.alloc (fun k h => Nat.lt_of_lt_of_le h hKa4.size) _
        have hd4 : DX K' V4 p (M.addR i f) := HD3.out.kept hkV4
        have HB4 : Hid (∀ X, Kept (fun k => k < V4.heap.size) V4 X → X.heap[N4]? = some (.cells (outN x ao4 ac4 ((M.addR i f).pl m).up ko4 Q0.length kc4) 36 (0, 0))) := fun X hX => (hX.block N4 (lt_block hbk4)).trans hbk4
        have HK4 : Hid (Kept K' V1 V4) := HK3.out.trans (hkV4.mono HD3.out.lt)
        have HD4 : Hid (DX K' V4 p (M.addR i f)) := hd4
        have HV4 : Hid (v4.alloc (.cells (outN x ao4 ac4 ((M.addR i f).pl m).up ko4 Q0.length kc4) 36) = V4) := hV4
        have HN4 : Hid (v4.heap.size = N4) := hN4
        have rm := node_any K' p i (M.addR i f) (updR R M.n []) V4 hd4 HI'.out.good.wf (by rw [HN2.out]; omega) (by rw [HN2.out]; omega) HI'.out.good.few
        obtain ⟨y, hy⟩ : ∃ y, (M.addR i f).nd i = y := ⟨_, rfl⟩
        have HYS : Hid (y.shadow = (m : Int)) := (by rw [← hy, HNDh.out, ← HM.out] : y.shadow = (m : Int))
        have HY : Hid ((M.addR i f).nd i = y) := hy
        rw [hy] at rm
        clear rs hQ4 hKa4 hN4 hV4 hbk4 hkV4 hd4 hy HK3 HD3
        go_upto_region 13 with fail
        rw [HV4.out, HN4.out]
        clear HV4 HN4
        go_wp2_with fail
        refine rm.mono ?_
        rintro e v5 ⟨ao5, ac5, ko5, kc5, rfl, -, hQ5, hKa5⟩
        obtain ⟨N5, hN5⟩ : ∃ N, v5.heap.size = N := ⟨_, rfl⟩
        obtain ⟨V5, hV5⟩ : ∃ V, v5.alloc (.cells (outN y ao5 ac5 ((M.addR i f).pl i).up ko5 (updR R M.n [] i).length kc5) 36) = V := ⟨_, rfl⟩
        have hB5 := Box.of hQ5 hKa5 V5 N5 hN5 hV5
        have HV5 : Hid (v5.alloc (.cells (outN y ao5 ac5 ((M.addR i f).pl i).up ko5 (updR R M.n [] i).length kc5) 36) = V5) := hV5
        have HN5 : Hid (v5.heap.size = N5) := hN5
        have hd5 : DX K' V5 p (M.addR i f) := HD4.out.kept hB5.kept
        have HK45 : Hid (Kept (fun k => k < V4.heap.size) V4 V5) := hB5.kept
        have d6 := hB5.c6
        rw [HYS.out] at d6
        have H5 : Hid (N5 < V5.heap.size) := hB5.hi
        have HK5 : Hid (Kept K' V1 V5) := HK4.out.trans (hB5.kept.mono HD4.out.lt)
        have ro := open_any K' p i (M.addR i f) (updR R M.n []) rk' V5 hd5 HI'.out.good (by rw [HN2.out]; omega) (by rw [HN2.out]; omega) (HI'.out.sh (by rw [HN2.out]; omega))
        have hoi : openI (M.addR i f) i = if f.a = true then -1 else (m : Int) := by
          unfold openI
          rw [HY.out, HYS.out, if_neg (by omega), Int.toNat_natCast, ← HM.out, HX.out, HXF.out.2.2]
        rw [hoi] at ro
        have HKl5 : Hid (∀ k, K' k → k < V5.heap.size) := hd5.lt
        clear rm hQ5 hKa5 hN5 hV5 hB5 hd5 hoi HK4
        go_upto_region 14 with fail
        rw [HV5.out, HN5.out]
        clear HV5 HN5
        go_wp2_with fail
        refine ro.mono ?_
        rintro e v6 ⟨rfl, hk6⟩
        have h4 := HB4.out v6 (HK45.out.trans (hk6.mono fun k h => Nat.lt_of_lt_of_le h HK45.out.size))
        have a0 : v6.cell? ⟨N4, 0, none⟩ = some (.int .u8 (x.kind : Int)) := by rw [cell_block h4]; rfl
        have a7 : v6.cell? ⟨N4, 7, none⟩ = some (.int .i64 x.host) := by rw [cell_block h4]; rfl
        have a5 : v6.cell? ⟨N4, 5, none⟩ = some (.slice ko4 0 kc4) := by rw [cell_block h4, HQ0.out]; rfl
        have a9 : v6.cell? ⟨N4, 9, none⟩ = some (.bool x.fl.a) := by rw [cell_block h4]; rfl
        have a10 : v6.cell? ⟨N4, 10, none⟩ = some (.bool x.fl.b) := by rw [cell_block h4]; rfl
        have a11 : v6.cell? ⟨N4, 11, none⟩ = some (.bool x.fl.c) := by rw [cell_block h4]; rfl
        have a12 : v6.cell? ⟨N4, 12, none⟩ = some (.bool x.fl.d) := by rw [cell_block h4]; rfl
        have a13 : v6.cell? ⟨N4, 13, none⟩ = some (.bool x.fl.e) := by rw [cell_block h4]; rfl
        rw [HXF.out.1] at a0
        rw [HXF.out.2.1] at a7
        rw [HXF.out.2.2] at a9 a10 a11 a12 a13
        have d6' : v6.cell? ⟨N5, 6, none⟩ = some (.int .i64 (m : Int)) := (hk6.cell (p := ⟨N5, 6, none⟩) H5.out).trans d6
        have HK6 : Hid (Kept K' V1 v6) := HK5.out.trans (hk6.mono HKl5.out)
        have hfb := (FG.out v6 HK6.out).1
        have b0 : v6.cell? ⟨N0, 0, none⟩ = some (.bool f.a) := by rw [cell_block hfb]; rfl
        have b1 : v6.cell? ⟨N0, 1, none⟩ = some (.bool f.b) := by rw [cell_block hfb]; rfl
        have b2 : v6.cell? ⟨N0, 2, none⟩ = some (.bool f.c) := by rw [cell_block hfb]; rfl
        have b3 : v6.cell? ⟨N0, 3, none⟩ = some (.bool f.d) := by rw [cell_block hfb]; rfl
        have b4 : v6.cell? ⟨N0, 4, none⟩ = some (.bool f.e) := by rw [cell_block hfb]; rfl
        have heq := fun X => eql34 f X
        have hgr := grd35
        clear ro hk6 h4 d6 hfb HXF HYS
        obtain ⟨fa, fb, fc, fd, fe⟩ := f
        cases fa with
        | true =>
          have s1 : ((-1 : Int) == (m : Int)) = false := by simp
          go_wp2
          go_ret
          exact ⟨by simp, HKL.out.trans (HK6.out.mono KW.out)⟩
        | false =>
          have s1 : ((m : Int) == -1) = false := by simp
          go_wp2
          go_ret
          exact ⟨by simp, HKL.out.trans (HK6.out.mono KW.out)⟩
      · have hm3 : m = 300 := by rw [HM.out, hlim] at q3; omega
        have r1 := attach_full f HD1.out HGD.out HMN.out.1 HMN.out.2.1 HMN.out.2.2 q q2 (by omega)
        have r2 := fun X (h : DX K' X p M) => attach_full g h HGD.out HMN.out.1 HMN.out.2.1 HMN.out.2.2 q q2 (by omega)
        have rl := fun X (h : DX K' X p M) => (show Calls Tryz.prog 23 #[.pointer (some ⟨p, 0, none⟩)] X fun e w' => e = .returned (.int .i64 (m : Int)) ∧ w' = X by
          obtain ⟨ga, cap, hY⟩ := h
          rw [← HM.out]
          exact len_any p M.n cap ga X hY.c1)
        go_wp2_with fail
        refine r1.mono ?_
        rintro e v2 ⟨rfl, hd2, hk2⟩
        have hfb := FG.out v2 hk2
        have b0' : v2.cell? ⟨N0 + 1, 0, none⟩ = some (.bool g.a) := by rw [cell_block hfb.2]; rfl
        have b1' : v2.cell? ⟨N0 + 1, 1, none⟩ = some (.bool g.b) := by rw [cell_block hfb.2]; rfl
        have b2' : v2.cell? ⟨N0 + 1, 2, none⟩ = some (.bool g.c) := by rw [cell_block hfb.2]; rfl
        have b3' : v2.cell? ⟨N0 + 1, 3, none⟩ = some (.bool g.d) := by rw [cell_block hfb.2]; rfl
        have b4' : v2.cell? ⟨N0 + 1, 4, none⟩ = some (.bool g.e) := by rw [cell_block hfb.2]; rfl
        have r2' := r2 v2 hd2
        have HK2 : Hid (Kept K' V1 v2) := hk2
        clear r1 r2 b0 b1 b2 b3 b4 hfb hd2 hk2
        go_upto_region 9 with fail
        go_wp2_with fail
        refine r2'.mono ?_
        rintro e v3 ⟨rfl, hd3, hk3⟩
        obtain ⟨d0, d1, d6⟩ := HC.out v3 (HK2.out.trans hk3)
        have HK3 : Hid (Kept (fun k => k < w.heap.size) w v3) := HKL.out.trans ((HK2.out.trans hk3).mono KW.out)
        have rl' := rl v3 hd3
        subst hm3
        rw [q.1] at d0
        rw [q2] at d6
        have rh := rhost_any nm (fun k => k < v3.heap.size) v3 (by rw [hns]; have := hnm q.1; omega)
        rw [show hostP nm.toList = true by rw [hnl]; exact q.2] at rh
        have RL : Hid (∀ X, Kept (fun k => k < v3.heap.size) v3 X → Calls Tryz.prog 23 #[.pointer (some ⟨p, 0, none⟩)] X fun e w' => e = .returned (.int .i64 ((300 : Nat) : Int)) ∧ w' = X) := fun X hX => rl X (hd3.kept hX)
        clear r2' b0' b1' b2' b3' b4' hd3 hk3 q q2 q3 hnm hsh hnl hns rl rl'
        go_wp2_with fail
        refine rh.mono ?_
        rintro e v4 ⟨rfl, hk4⟩
        have d6' : v4.cell? ⟨N1, 6, none⟩ = some (.int .i64 (-1)) := (hk4.cell (p := ⟨N1, 6, none⟩) (by
          rcases Nat.lt_or_ge N1 v3.heap.size with hh | hh
          · exact hh
          · have : v3.cell? ⟨N1, 6, none⟩ = none := by unfold World.cell?; rw [Array.getElem?_eq_none hh]
            rw [this] at d6; cases d6)).trans d6
        have rl4 := RL.out v4 hk4
        have HK4 : Hid (Kept (fun k => k < w.heap.size) w v4) := HK3.out.trans (hk4.mono fun k h => Nat.lt_of_lt_of_le h HK3.out.size)
        clear rh hk4 d0 d1 d6 RL
        go_wp2_with (go_at_call 23; refine rl4.mono ?_; rintro e1 w3 ⟨rfl, hw3⟩; replace hw3 := hw3.symm; subst hw3)
        go_ret
        exact ⟨by simp, HK4.out⟩
    · have hs0 : ∃ s : Nat, (M.nd i).shadow = (s : Int) := by
        rcases hsh with e | ⟨s, _, e⟩
        · exact absurd e q2
        · exact ⟨s, e⟩
      obtain ⟨s, hs⟩ := hs0
      have r1 := attach_tw f HD1.out HGD.out HMN.out.1 HMN.out.2.1 HMN.out.2.2 q q2
      have r2 := fun X (h : DX K' X p M) => attach_tw g h HGD.out HMN.out.1 HMN.out.2.1 HMN.out.2.2 q q2
      go_wp2_with fail
      refine r1.mono ?_
      rintro e v2 ⟨rfl, hd2, hk2⟩
      have hfb := FG.out v2 hk2
      have b0' : v2.cell? ⟨N0 + 1, 0, none⟩ = some (.bool g.a) := by rw [cell_block hfb.2]; rfl
      have b1' : v2.cell? ⟨N0 + 1, 1, none⟩ = some (.bool g.b) := by rw [cell_block hfb.2]; rfl
      have b2' : v2.cell? ⟨N0 + 1, 2, none⟩ = some (.bool g.c) := by rw [cell_block hfb.2]; rfl
      have b3' : v2.cell? ⟨N0 + 1, 3, none⟩ = some (.bool g.d) := by rw [cell_block hfb.2]; rfl
      have b4' : v2.cell? ⟨N0 + 1, 4, none⟩ = some (.bool g.e) := by rw [cell_block hfb.2]; rfl
      have r2' := r2 v2 hd2
      have HK2 : Hid (Kept K' V1 v2) := hk2
      clear r1 r2 b0 b1 b2 b3 b4 hfb hd2 hk2
      go_upto_region 9 with fail
      go_wp2_with fail
      refine r2'.mono ?_
      rintro e v3 ⟨rfl, hd3, hk3⟩
      obtain ⟨d0, d1, d6⟩ := HC.out v3 (HK2.out.trans hk3)
      have HK3 : Hid (Kept (fun k => k < w.heap.size) w v3) := HKL.out.trans ((HK2.out.trans hk3).mono KW.out)
      rw [q.1] at d0
      rw [hs] at d6
      have rh := rhost_any nm (fun k => k < v3.heap.size) v3 (by rw [hns]; have := hnm q.1; omega)
      rw [show hostP nm.toList = true by rw [hnl]; exact q.2] at rh
      have e6 : decide ((s : Int) ≥ 0) = true := decide_eq_true (by omega)
      clear r2' b0' b1' b2' b3' b4' hd3 hk3 q q2 hnm hsh hnl hns hs
      go_wp2_with fail
      refine rh.mono ?_
      rintro e v4 ⟨rfl, hk4⟩
      have d6' : v4.cell? ⟨N1, 6, none⟩ = some (.int .i64 (s : Int)) := (hk4.cell (p := ⟨N1, 6, none⟩) (by
        rcases Nat.lt_or_ge N1 v3.heap.size with hh | hh
        · exact hh
        · have : v3.cell? ⟨N1, 6, none⟩ = none := by unfold World.cell?; rw [Array.getElem?_eq_none hh]
          rw [this] at d6; cases d6)).trans d6
      have HK4 : Hid (Kept (fun k => k < w.heap.size) w v4) := HK3.out.trans (hk4.mono fun k h => Nat.lt_of_lt_of_le h HK3.out.size)
      clear rh hk4 d0 d1 d6
      go_wp2
      go_ret
      exact ⟨by simp, HK4.out⟩
  · have r1 := attach_no f HD1.out HGD.out HMN.out.1 HMN.out.2.1 HMN.out.2.2 q
    have r2 := fun X (h : DX K' X p M) => attach_no g h HGD.out HMN.out.1 HMN.out.2.1 HMN.out.2.2 q
    go_wp2_with fail
    refine r1.mono ?_
    rintro e v2 ⟨rfl, hd2, hk2⟩
    have hfb := FG.out v2 hk2
    have b0' : v2.cell? ⟨N0 + 1, 0, none⟩ = some (.bool g.a) := by rw [cell_block hfb.2]; rfl
    have b1' : v2.cell? ⟨N0 + 1, 1, none⟩ = some (.bool g.b) := by rw [cell_block hfb.2]; rfl
    have b2' : v2.cell? ⟨N0 + 1, 2, none⟩ = some (.bool g.c) := by rw [cell_block hfb.2]; rfl
    have b3' : v2.cell? ⟨N0 + 1, 3, none⟩ = some (.bool g.d) := by rw [cell_block hfb.2]; rfl
    have b4' : v2.cell? ⟨N0 + 1, 4, none⟩ = some (.bool g.e) := by rw [cell_block hfb.2]; rfl
    have r2' := r2 v2 hd2
    have HK2 : Hid (Kept K' V1 v2) := hk2
    clear r1 r2 b0 b1 b2 b3 b4 hfb hd2 hk2
    go_upto_region 9 with fail
    go_wp2_with fail
    refine r2'.mono ?_
    rintro e v3 ⟨rfl, hd3, hk3⟩
    obtain ⟨d0, d1, d6⟩ := HC.out v3 (HK2.out.trans hk3)
    have HK3 : Hid (Kept (fun k => k < w.heap.size) w v3) := HKL.out.trans ((HK2.out.trans hk3).mono KW.out)
    obtain ⟨kd, hkd⟩ : ∃ kd, (M.nd i).kind = kd := ⟨_, rfl⟩
    rw [hkd] at d0 hnm q
    by_cases q1 : kd = 1
    · subst q1
      have rh := rhost_any nm (fun k => k < v3.heap.size) v3 (by rw [hns]; have := hnm rfl; omega)
      rw [show hostP nm.toList = false by rw [hnl]; cases hh : hostP (M.nd i).name with | true => exact absurd ⟨rfl, hh⟩ q | false => rfl] at rh
      clear r2' b0' b1' b2' b3' b4' hd3 hk3 q hnm hsh hnl hns hkd d6
      go_wp2_with (go_at_call 50; refine rh.mono ?_; rintro e v4 ⟨rfl, hk4⟩)
      go_ret
      exact ⟨by simp, HK3.out.trans (hk4.mono fun k h => Nat.lt_of_lt_of_le h HK3.out.size)⟩
    · have e1 : ((kd : Int) == 1) = false := by simp; omega
      have e2 : ((kd : Int) != 1) = true := by simp; omega
      clear r2' b0' b1' b2' b3' b4' hd3 hk3 q hnm hsh hnl hns hkd d6 d1
      go_wp2
      go_ret
      exact ⟨by simp, HK3.out⟩
set_option maxRecDepth 20000 in
theorem sonce_no (a : Option Addr) (n c : Nat) (w : World) (za : Int) (f g : Fg) (rh : ∀ X, Kept (fun k => k < w.heap.size) w X → Calls Tryz.prog 37 #[.slice a n c] X fun e w' => e = .returned (.bool true) ∧ Kept (fun k => k < X.heap.size) X w') :
    Calls Tryz.prog 11 #[.slice a n c, .int .u16 za, fgV f, fgV g] w fun e w' => e = .returned (.bool true) ∧ Kept (fun k => k < w.heap.size) w w' := by
  have hk0 := kept_two w (flB f) (flB g)
  have rh0 := rh _ hk0
  have HK0 : Hid (Kept (fun k => k < w.heap.size) w ((w.alloc (flB f)).alloc (flB g))) := hk0
  clear rh hk0
  go_enter Tryz.func11, Tryz.ntmps11
  go_wp2_with fail
  refine rh0.mono ?_
  rintro e w1 ⟨rfl, k1⟩
  have rk0 := sknown_any w1
  have HK1 : Hid (Kept (fun k => k < w.heap.size) w w1) := HK0.out.trans (k1.mono fun k h => Nat.lt_of_lt_of_le h HK0.out.size)
  clear rh0 HK0 k1
  go_wp2_with (go_at_call 38; refine rk0.mono ?_; rintro e w2 ⟨rfl, k2⟩)
  go_ret
  exact ⟨rfl, HK1.out.trans (k2.mono fun k h => Nat.lt_of_lt_of_le h HK1.out.size)⟩
end Go.Proofs.YtbhfnbplbkncmaaGreat
