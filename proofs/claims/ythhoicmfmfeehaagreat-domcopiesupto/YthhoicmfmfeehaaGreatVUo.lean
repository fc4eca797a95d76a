/-
  The walk of DomCopies.
-/
import Derived.Test.YthhoicmfmfeehaaGreatVUn
import Derived.Test.YthhoicmfmfeehaaGreatVUg
namespace Go.Proofs.YthhoicmfmfeehaaGreat
open Go.RowKit Go.Sort
set_option linter.unusedVariables false
theorem two_any {w w1 w2 : World} {p r : Nat} {M : Dm} {R G : Nat → List Nat} (h1 : DX (fun k => k < w.heap.size) w1 p M) (k1 : Kept (fun k => k < w.heap.size) w w1) (h2 : RX (fun k => k < w1.heap.size) w2 r M R G) (k2 : Kept (fun k => k < w1.heap.size) w1 w2) :
    Two (fun k => k < w.heap.size) (fun k => w1.heap.size ≤ k ∧ k < w2.heap.size) w2 p r M R G := by
  have s1 := k1.size
  have s2 := k2.size
  refine ⟨h1.move (fun g hg _ => k2.block g hg) (fun k hl hh => ?_) (fun k hh => ?_), h2.more (Kept.refl _ _) (fun k hh => .inl ?_) (fun k hh => ?_), fun k he hk => ?_⟩
  · rcases hh with hh | hh
    · exact hh
    · omega
  · rcases hh with hh | hh
    · exact Nat.lt_of_lt_of_le hh (Nat.le_trans s1 s2)
    · exact hh.2
  · rcases hh with hh | ⟨hh, hn⟩
    · exact Nat.lt_of_lt_of_le hh s1
    · exact Nat.lt_of_not_le fun hl => hn ⟨hl, hh⟩
  · rcases hh with hh | hh
    · exact Nat.lt_of_lt_of_le hh (Nat.le_trans s1 s2)
    · exact hh.1
  · omega
abbrev outP (x : Nd) (ao : Option Addr) (ac : Nat) (up : Int) (ko : Option Addr) (kn kc : Nat) : Array Value := outC x.kind ⟨x.name.toArray⟩ ⟨x.data.toArray⟩ ao x.attrs.length ac up ko kn kc x.shadow x.host x.content x.fl
/-- Cells that may be written. -/
def Rw (B : Nat → Prop) (w : World) (ao : Option Addr) (m : Nat) : Prop := 0 < m → ∃ g cur e, ao = some ⟨g, 0, none⟩ ∧ B g ∧ w.heap[g]? = some (.cells cur e (0, 0)) ∧ m ≤ cur.size
theorem Rw.of {K B : Nat → Prop} {w w' : World} {e : TypeId} {z : Nat} {ao : Option Addr} {n cap : Nat} {xs : List Value} (h : OwnZ K w e z ao n cap xs) (hB : ∀ g, ¬ K g → g < w.heap.size → B g) (hb : ∀ g, g < w.heap.size → w'.heap[g]? = w.heap[g]?) : Rw B w' ao (n * z) := fun h0 => by
  obtain ⟨h1, h2, h3, ⟨e1, e2⟩ | ⟨g, cur, e1, hk, hg, hs, -⟩⟩ := h
  · have : n = 0 := by omega
    rw [this, Nat.zero_mul] at h0
    omega
  · exact ⟨g, cur, e, e1, hB g hk (lt_block hg), by rw [hb g (lt_block hg)]; exact hg, by rw [hs]; exact Nat.mul_le_mul_right _ h2⟩
theorem Rw.set {B : Nat → Prop} {w : World} {ao : Option Addr} {m : Nat} (h : Rw B w ao m) (g j : Nat) (v : Value) : Rw B (w.setCell ⟨g, j, none⟩ v) ao m := fun h0 => by
  obtain ⟨g', cur, e, h1, h2, h3, h4⟩ := h h0
  by_cases c : g' = g
  · subst c
    exact ⟨g', _, e, h1, h2, heap_setCell_at h3 j v, by simpa using h4⟩
  · exact ⟨g', cur, e, h1, h2, by rw [Below.heap_setCell _ _ _ _ (fun e => c e)]; exact h3, h4⟩
theorem Rw.at {B : Nat → Prop} {w : World} {ao : Option Addr} {m j : Nat} (h : Rw B w ao m) (hj : j < m) : ∃ g u, ao = some ⟨g, 0, none⟩ ∧ B g ∧ w.cell? ⟨g, j, none⟩ = some u ∧ w.frozen? ⟨g, j, none⟩ = false := by
  obtain ⟨g, cur, e, h1, h2, h3, h4⟩ := h (by omega)
  exact ⟨g, cur[j]'(by omega), h1, h2, by rw [cell_block h3]; simp, frozen_block h3 _⟩
set_option maxRecDepth 20000 in
set_option maxHeartbeats 8000000 in
theorem copies_go (l : List Opx) (n : Nat) (hln : l.length = n) (hnn : n ≤ 40) (a : Option Addr) (ca : Nat) (hok : ∀ o ∈ l, OpOk o) (hb : opsH l ≤ 4000) (l2 : List Opx) (n2 : Nat) (hln2 : l2.length = n2) (hnn2 : n2 ≤ 30) (a2 : Option Addr) (ca2 : Nat) (hok2 : ∀ o ∈ l2, OpOk o) (hb2 : opsH l2 ≤ 4000) (w : World) (h : OpsAt (fun k => k < w.heap.size) w a l) (h2 : OpsAt (fun k => k < w.heap.size) w a2 l2) :
    Calls Tryz.prog 7 #[.slice a n ca, .slice a2 n2 ca2] w fun e w' => e = .returned (.bool true) ∧ Kept (fun k => k < w.heap.size) w w' := by
  have rh := heavy_any l n hln (by omega) a ca (by omega) w h
  have hg40 : decide ((n : Int) > 40) = false := decide_eq_false (by omega)
  have hg30 : decide ((n2 : Int) > 30) = false := decide_eq_false (by omega)
  obtain ⟨hv, hhv⟩ : ∃ hv, opsH l = hv := ⟨_, rfl⟩
  rw [hhv] at rh
  have hg6 : decide ((hv : Int) > 4000) = false := decide_eq_false (by omega)
  have RH2 : Hid (∀ X, Kept (fun k => k < w.heap.size) w X → Calls Tryz.prog 9 #[.slice a2 n2 ca2] X fun e w' => e = .returned (.int .i64 (opsH l2 : Int)) ∧ Kept (fun k => k < X.heap.size) X w') := fun X hX => heavy_any l2 n2 hln2 (by omega) a2 ca2 (by omega) X (h2.kept hX fun g hg => Nat.lt_of_lt_of_le hg hX.size)
  obtain ⟨hv2, hhv2⟩ : ∃ hv, opsH l2 = hv := ⟨_, rfl⟩
  rw [hhv2] at RH2
  have hg7 : decide ((hv2 : Int) > 4000) = false := decide_eq_false (by omega)
  have RG : Hid (∀ X, Kept (fun k => k < w.heap.size) w X → Calls Tryz.prog 16 #[.slice a n ca] X fun e w' => ∃ p r E M R G rk, e = .returned (.tuple #[.pointer (some ⟨p, 0, none⟩), .pointer (some ⟨r, 0, none⟩)]) ∧ Grown (fun k => k < X.heap.size) E w' p r M R G rk 300 ∧ Kept (fun k => k < X.heap.size) X w') := fun X hX => grown_any l n hln (by omega) a ca hok (by omega) X (h.kept hX fun g hg => Nat.lt_of_lt_of_le hg hX.size)
  have HL : Hid (l2.length = n2) := hln2
  have HB : Hid (opsH l2 ≤ 4000) := hb2
  have HH : Hid (OpsAt (fun k => k < w.heap.size) w a2 l2) := h2
  have HOK : Hid (∀ o ∈ l2, OpOk o) := hok2
  clear hln hok hb h hhv hhv2 hln2 hok2 hb2 h2
  go_enter Tryz.func7, Tryz.ntmps7
  go_wp2_with fail
  refine rh.mono ?_
  rintro e w1 ⟨rfl, k1⟩
  have rh2 := RH2.out w1 k1
  have HK1 : Hid (Kept (fun k => k < w.heap.size) w w1) := k1
  clear rh k1 RH2
  go_wp2_with fail
  refine rh2.mono ?_
  rintro e w1' ⟨rfl, k1'⟩
  have HK1' : Hid (Kept (fun k => k < w.heap.size) w w1') := HK1.out.trans (k1'.mono fun k h => Nat.lt_of_lt_of_le h HK1.out.size)
  have rk0 := known_any w1'
  clear rh2 k1'
  go_wp2_with fail
  refine rk0.mono ?_
  rintro e w2 ⟨rfl, k2⟩
  have k12 : Kept (fun k => k < w.heap.size) w w2 := HK1'.out.trans (k2.mono fun k h => Nat.lt_of_lt_of_le h HK1'.out.size)
  have rg := RG.out w2 k12
  have HK12 : Hid (Kept (fun k => k < w.heap.size) w w2) := k12
  clear rk0 k2 k12 RG
  go_wp2_with fail
  refine rg.mono ?_
  rintro e W ⟨p, r, E, M, R, G, rk, rfl, hG, hK⟩
  have HG : Hid (Grown (fun k => k < w2.heap.size) E W p r M R G rk 300) := hG
  have HKW : Hid (Kept (fun k => k < w.heap.size) w W) := HK12.out.trans (hK.mono fun k h => Nat.lt_of_lt_of_le h HK12.out.size)
  have hm300 : M.n ≤ 300 := by have h1 := hG.le; rw [hG.lim] at h1; exact h1
  have rc := copy_any _ p M W hG.two.d hG.inv.core.pos (by omega) hG.inv.good.few
  clear rg hG hK
  go_wp2_with fail
  refine rc.mono ?_
  rintro e W1 ⟨p2, rfl, -, hX1, kc1⟩
  have HX1 : Hid (DX (fun k => k < W.heap.size) W1 p2 M) := hX1
  have HKC1 : Hid (Kept (fun k => k < W.heap.size) W W1) := kc1
  have rs := rcopy_any _ r M R G W1 (HG.out.two.kept kc1).r (by omega) (fun i hi => Nat.le_trans (HG.out.inv.core.few hi) (by decide)) (fun i hi => Nat.le_trans (HG.out.inv.hn hi) (by omega)) (fun i hi => Nat.le_trans (HG.out.inv.gw.len_le hi) (by omega))
  clear rc hX1 kc1
  go_wp2_with fail
  refine rs.mono ?_
  rintro e W2 ⟨r2, rfl, hX2, kc2⟩
  have HG0 : Hid (Grown (fun k => k < W.heap.size) (fun k => W1.heap.size ≤ k ∧ k < W2.heap.size) W2 p2 r2 M R G rk 300) := ⟨two_any HX1.out HKC1.out hX2 kc2, HG.out.inv, HG.out.lim, HG.out.le⟩
  have HK0 : Hid (Kept (fun k => k < W.heap.size) W W2) := HKC1.out.trans (kc2.mono fun k h => Nat.lt_of_lt_of_le h HKC1.out.size)
  have HH2 : Hid (OpsAt (fun k => k < W.heap.size) W a2 l2) := HH.out.kept HKW.out (fun g hg => Nat.lt_of_lt_of_le hg HKW.out.size)
  clear rs hX2 kc2 HX1 HKC1 HH
  go_upto_region 11 with fail
  go_loopg [9] n2 (fun gh v9 wr => ∃ (k : Nat) (E : Nat → Prop) (M : Dm) (R G : Nat → List Nat) (rk : Nat → Nat), gh = n2 - k ∧ k ≤ n2 ∧ v9 = .int .i64 (k : Int) ∧ Grown (fun k => k < W.heap.size) E wr p2 r2 M R G rk 300 ∧ Kept (fun k => k < W.heap.size) W wr)
  case atStart => exact ⟨0, _, _, _, _, _, rfl, Nat.zero_le _, rfl, HG0.out, HK0.out⟩
  case round =>
    clear HG0 HK0
    obtain ⟨k, E2, M2, R2, G2, rk2, hgk, hk, rfl, hG, hK⟩ := hrel
    have HG2 : Hid (Grown (fun k => k < W.heap.size) E2 wr p2 r2 M2 R2 G2 rk2 300) := hG
    have HK : Hid (Kept (fun k => k < W.heap.size) W wr) := hK
    by_cases hlt : k < n2
    · have hll : k < l2.length := by rw [HL.out]; exact hlt
      obtain ⟨g, o, A, rfl, hg, hA, hc⟩ := HH2.out k hll
      have hmem := List.getElem_mem hll
      obtain ⟨x, hx⟩ : ∃ x, l2[k] = x := ⟨_, rfl⟩
      rw [hx] at hA hc hmem
      have hvx := opsH_mem hmem
      have cell : ∀ f u, (opC x A)[f]? = some u → wr.cell? ⟨g, o + k * 17 + f, none⟩ = some u := fun f u hu => (hK.cell (p := ⟨g, o + k * 17 + f, none⟩) hg).trans (hc f u hu)
      have hdoes := does_any (fun k => k < W.heap.size) E2 p2 r2 M2 R2 G2 rk2 wr x A ⟨hG.two, hG.inv, hG.le, by rw [hG.lim]; decide, HOK.out x hmem, by have := HB.out; omega, hA.kept hK (fun g hg => hg)⟩
      have e0 : wr.cell? ⟨g, o + k * 17, none⟩ = some (.int .u8 (x.k : Int)) := cell 0 _ rfl
      have e1 := cell 1 _ rfl
      have e2 := cell 2 _ rfl
      have e3 := cell 3 _ rfl
      have e4 := cell 4 _ rfl
      have e5 := cell 5 _ rfl
      have e6 := cell 6 _ rfl
      have e7 := cell 7 _ rfl
      have e8 := cell 8 _ rfl
      have e9 := cell 9 _ rfl
      have e10 := cell 10 _ rfl
      have e11 := cell 11 _ rfl
      have e12 := cell 12 _ rfl
      have e13 := cell 13 _ rfl
      have e14 := cell 14 _ rfl
      have e15 := cell 15 _ rfl
      have e16 := cell 16 _ rfl
      obtain ⟨q, hq⟩ : ∃ q, x.k % 16 = q := ⟨_, rfl⟩
      have hkm : (x.k : Int).tmod 16 = (q : Int) := by rw [← hq]; rfl
      have HD : Hid (Calls Tryz.prog 13 #[.pointer (some ⟨p2, 0, none⟩), .pointer (some ⟨r2, 0, none⟩), opV x A] wr (DoesOk (fun k => k < W.heap.size) p2 r2 M2 wr)) := hdoes
      clear hG hK hc hA hmem hx cell hvx hdoes hq
      by_cases q15 : q = 15
      · subst q15
        clear HD e1 e2 e3 e4 e5 e6 e7 e8 e9 e10 e11 e12 e13 e14 e15 e16
        go_wp2
        go_roundg (n2 - (k + 1))
        case rel => exact ⟨k + 1, E2, M2, R2, G2, rk2, rfl, by omega, by go_num, HG2.out, HK.out⟩
        case measure => omega
      · have n15 : ((q : Int) == 15) = false := by simp; omega
        have n15' : ((q : Int) != 15) = true := by simp; omega
        go_wp2_with fail
        refine HD.out.mono ?_
        rintro e w3 ⟨rfl, E', M', R', G', rk', h2, hI, hG', hK3⟩
        have HG3 : Hid (Grown (fun k => k < W.heap.size) E' w3 p2 r2 M' R' G' rk' 300) := ⟨h2, hI, hG'.limit.trans HG2.out.lim, hG'.le HG2.out.le⟩
        have HK3 : Hid (Kept (fun k => k < W.heap.size) W w3) := HK.out.trans hK3
        clear HD h2 hI hG' hK3 HG2 HK e0 e1 e2 e3 e4 e5 e6 e7 e8 e9 e10 e11 e12 e13 e14 e15 e16
        go_wp2
        go_roundg (n2 - (k + 1))
        case rel => exact ⟨k + 1, E', M', R', G', rk', rfl, by omega, by go_num, HG3.out, HK3.out⟩
        case measure => omega
    · have hkn : n2 = k := by omega
      subst hkn
      obtain ⟨B, hB⟩ : ∃ B, wr = B := ⟨_, rfl⟩
      have HGB : Hid (Grown (fun k => k < w2.heap.size) E B p r M R G rk 300) := by rw [← hB]; exact (show Hid _ from HG.out.kept hK)
      rw [hB] at HG2 HK ⊢
      clear hG hK hB HG
      obtain ⟨m, hm⟩ : ∃ m, M.n = m := ⟨_, rfl⟩
      have HM : Hid (M.n = m) := hm
      rw [hm] at hm300
      have LEN : Hid (∀ X, Kept (fun k => k < B.heap.size) B X → Calls Tryz.prog 17 #[.pointer (some ⟨p, 0, none⟩)] X fun e w' => e = .returned (.int .i64 (m : Int)) ∧ w' = X) := fun X hX => by rw [← hm]; exact HGB.out.len hX
      have NODE : Hid (∀ i, i < m → ∀ X, Kept (fun k => k < B.heap.size) B X → Calls Tryz.prog 18 #[.pointer (some ⟨p, 0, none⟩), .int .i64 (i : Int)] X fun e w' => Told X (M.nd i) (M.pl i).up (R i) e w') := fun i hi X hX => HGB.out.node (by decide) (by rw [hm]; exact hi) hX
      clear hm
      go_upto_region 16 with fail
      go_loopg [10] m (fun gh v10 wz => ∃ i : Nat, gh = m - i ∧ i ≤ m ∧ v10 = .int .i64 (i : Int) ∧ Kept (fun k => k < B.heap.size) B wz)
      case atStart => exact ⟨0, rfl, Nat.zero_le _, rfl, Kept.refl _ _⟩
      case round =>
        obtain ⟨i, hgi, hi, rfl, hKi⟩ := hrel
        have rl := LEN.out wr hKi
        have HKI : Hid (Kept (fun k => k < B.heap.size) B wr) := hKi
        by_cases hlt : i < m
        · have rn := NODE.out i hlt wr hKi
          clear hKi
          obtain ⟨W5, rfl⟩ : ∃ W5, W5 = wr := ⟨_, rfl⟩
          go_wp2_with (go_at_call 17; refine rl.mono ?_; rintro e1 w3 ⟨rfl, hw3⟩; replace hw3 := hw3.symm; subst hw3)
          refine rn.mono ?_
          rintro e v1 ⟨ao1, ac1, ko1, kc1, rfl, hA1, hQ1, hKa⟩
          obtain ⟨N1, hN1⟩ : ∃ N, v1.heap.size = N := ⟨_, rfl⟩
          obtain ⟨V1, hV1⟩ : ∃ V, v1.alloc (.cells (outP (M.nd i) ao1 ac1 (M.pl i).up ko1 (R i).length kc1) 45) = V := ⟨_, rfl⟩
          have hb1 : V1.heap[N1]? = some (.cells (outP (M.nd i) ao1 ac1 (M.pl i).up ko1 (R i).length kc1) 45 (0, 0)) := by rw [← hV1, ← hN1]; exact heap_alloc_new v1 _
          have kv1 : Kept (fun k => k < v1.heap.size) v1 V1 := by rw [← hV1]; exact (Kept.refl _ v1).alloc (fun _ h => h) _
          have k5 : Kept (fun k => k < W5.heap.size) W5 V1 := hKa.trans (kv1.mono fun k h => Nat.lt_of_lt_of_le h hKa.size)
          obtain ⟨K1, hK1⟩ : ∃ K1 : Nat → Prop, (fun k => k < W5.heap.size ∨ k = N1) = K1 := ⟨_, rfl⟩
          have hB1 : ∀ g, ¬ g < W5.heap.size → g < v1.heap.size → ¬ K1 g := fun g h1 h2 => by
            rw [← hK1]
            rintro (h3 | h3)
            · exact h1 h3
            · omega
          obtain ⟨ql, hql⟩ : ∃ ql, (R i).length = ql := ⟨_, rfl⟩
          obtain ⟨al, hal⟩ : ∃ al, (M.nd i).attrs.length = al := ⟨_, rfl⟩
          have hql3 : ql ≤ 300 := by have := HGB.out.inv.hn (u := i) (by rw [HM.out]; exact hlt); rw [HM.out, hql] at this; omega
          have hal3 : al ≤ 50 := by have := HGB.out.inv.core.few (i := i) (by rw [HM.out]; exact hlt); rw [hal] at this; exact this
          have hRk : Rw (fun g => ¬ K1 g) V1 ko1 ql := by have := Rw.of hQ1 hB1 (fun g hg => kv1.block g hg); rw [Nat.mul_one, hql] at this; exact this
          have hRa : Rw (fun g => ¬ K1 g) V1 ao1 (al * 2) := by have := Rw.of hA1 hB1 (fun g hg => kv1.block g hg); rw [hal] at this; exact this
          have c5 : ∀ X, Kept K1 V1 X → X.cell? ⟨N1, 5, none⟩ = some (.slice ko1 ql kc1) := fun X hX => (hX.cell (p := ⟨N1, 5, none⟩) (by rw [← hK1]; exact .inr rfl)).trans (by rw [cell_block hb1, ← hql]; rfl)
          have c3 : ∀ X, Kept K1 V1 X → X.cell? ⟨N1, 3, none⟩ = some (.slice ao1 al ac1) := fun X hX => (hX.cell (p := ⟨N1, 3, none⟩) (by rw [← hK1]; exact .inr rfl)).trans (by rw [cell_block hb1, ← hal]; rfl)
          have HC5 : Hid (∀ X, Kept K1 V1 X → X.cell? ⟨N1, 5, none⟩ = some (.slice ko1 ql kc1)) := c5
          have HC3 : Hid (∀ X, Kept K1 V1 X → X.cell? ⟨N1, 3, none⟩ = some (.slice ao1 al ac1)) := c3
          have HKB : Hid (∀ X, Kept K1 V1 X → Kept (fun k => k < B.heap.size) B X) := fun X hX => (HKI.out.trans (k5.mono fun k h => Nat.lt_of_lt_of_le h HKI.out.size)).trans (hX.mono fun k h => by rw [← hK1]; exact .inl (Nat.lt_of_lt_of_le h HKI.out.size))
          have HRK : Hid (Rw (fun g => ¬ K1 g) V1 ko1 ql) := hRk
          have HRA : Hid (Rw (fun g => ¬ K1 g) V1 ao1 (al * 2)) := hRa
          have HV1 : Hid (v1.alloc (.cells (outP (M.nd i) ao1 ac1 (M.pl i).up ko1 (R i).length kc1) 45) = V1) := hV1
          have HN1 : Hid (v1.heap.size = N1) := hN1
          clear rn rl hA1 hQ1 hKa hN1 hV1 hb1 kv1 k5 hK1 hB1 hRk hRa c5 c3 hql hal
          go_upto_region 20 with fail
          rw [HV1.out, HN1.out]
          clear HV1 HN1
          go_loopg [13] ql (fun gh v13 wz => ∃ j : Nat, gh = ql - j ∧ j ≤ ql ∧ v13 = .int .i64 (j : Int) ∧ Kept K1 V1 wz ∧ Rw (fun g => ¬ K1 g) wz ko1 ql ∧ Rw (fun g => ¬ K1 g) wz ao1 (al * 2))
          case atStart => exact ⟨0, rfl, Nat.zero_le _, rfl, Kept.refl _ _, HRK.out, HRA.out⟩
          case round =>
            clear HRK HRA
            obtain ⟨j, hgj, hj, rfl, hKj, hRk, hRa⟩ := hrel
            have b5 := HC5.out wr hKj
            by_cases hjl : j < ql
            · obtain ⟨g, uu, hko, hBg, hcl, hfz⟩ := hRk.at hjl
              rw [hko] at b5
              have HKJ : Hid (Kept K1 V1 (wr.setCell ⟨g, j, none⟩ (.int .i64 99))) := hKj.setCell (p := ⟨g, j, none⟩) hBg _
              have HRK : Hid (Rw (fun g => ¬ K1 g) (wr.setCell ⟨g, j, none⟩ (.int .i64 99)) ko1 ql) := hRk.set g j _
              have HRA : Hid (Rw (fun g => ¬ K1 g) (wr.setCell ⟨g, j, none⟩ (.int .i64 99)) ao1 (al * 2)) := hRa.set g j _
              clear hKj hRk hRa hko hBg
              go_wp2
              go_roundg (ql - (j + 1))
              case rel => exact ⟨j + 1, rfl, by omega, by go_num, HKJ.out, HRK.out, HRA.out⟩
              case measure => omega
            · have hjn : ql = j := by omega
              subst hjn
              have HKJ : Hid (Kept K1 V1 wr) := hKj
              have HRA : Hid (Rw (fun g => ¬ K1 g) wr ao1 (al * 2)) := hRa
              clear hKj hRk hRa
              obtain ⟨Y1, hY1⟩ : ∃ Y1, wr = Y1 := ⟨_, rfl⟩
              rw [hY1] at HKJ HRA b5 ⊢
              clear hY1
              go_upto_region 24 with fail
              go_loopg [14] al (fun gh v14 wz => ∃ j : Nat, gh = al - j ∧ j ≤ al ∧ v14 = .int .i64 (j : Int) ∧ Kept K1 V1 wz ∧ Rw (fun g => ¬ K1 g) wz ao1 (al * 2))
              case atStart => exact ⟨0, rfl, Nat.zero_le _, rfl, HKJ.out, HRA.out⟩
              case round =>
                clear HRA b5 HKJ
                obtain ⟨j, hgj, hj, rfl, hKj, hRa⟩ := hrel
                have b3 := HC3.out wr hKj
                by_cases hjl : j < al
                · obtain ⟨g, uu, hko, hBg, hcl, hfz⟩ := hRa.at (j := j * 2) (by omega)
                  rw [hko] at b3
                  have HKJ : Hid (Kept K1 V1 (wr.setCell ⟨g, j * 2, none⟩ (.string ⟨#[63]⟩))) := hKj.setCell (p := ⟨g, j * 2, none⟩) hBg _
                  have HRA : Hid (Rw (fun g => ¬ K1 g) (wr.setCell ⟨g, j * 2, none⟩ (.string ⟨#[63]⟩)) ao1 (al * 2)) := hRa.set g (j * 2) _
                  clear hKj hRa hko hBg
                  go_wp2
                  go_roundg (al - (j + 1))
                  case rel => exact ⟨j + 1, rfl, by omega, by go_num, HKJ.out, HRA.out⟩
                  case measure => omega
                · have hjn : al = j := by omega
                  subst hjn
                  have HKX : Hid (Kept (fun k => k < B.heap.size) B wr) := HKB.out wr hKj
                  have rgv := given_in _ p i M G wr (HGB.out.two.d.kept HKX.out) HGB.out.inv.gw (by rw [HM.out]; exact hlt) (by rw [HM.out]; omega)
                  clear hKj hRa
                  obtain ⟨Y2, rfl⟩ : ∃ Y2, Y2 = wr := ⟨_, rfl⟩
                  go_wp2_with fail
                  refine rgv.mono ?_
                  rintro e Y3 ⟨ao3, cp3, rfl, hO3, hK3⟩
                  obtain ⟨gl, hgl⟩ : ∃ gl, (G i).length = gl := ⟨_, rfl⟩
                  have hgl3 : gl ≤ 300 := by have := HGB.out.inv.gw.len_le (u := i) (by rw [HM.out]; exact hlt); rw [HM.out, hgl] at this; omega
                  have HR3 : Hid (Rw (fun g => ¬ g < Y2.heap.size) Y3 ao3 gl) := by
                    have := Rw.of (B := fun g => ¬ g < Y2.heap.size) hO3 (fun g h _ => h) (fun g _ => rfl)
                    rw [Nat.mul_one, hgl] at this
                    exact (show Hid _ from this)
                  have HK3 : Hid (Kept (fun k => k < Y2.heap.size) Y2 Y3) := hK3
                  rw [hgl]
                  clear rgv hO3 hK3 hgl b3
                  go_upto_region 29 with fail
                  go_loopg [16] gl (fun gh v16 wz => ∃ j : Nat, gh = gl - j ∧ j ≤ gl ∧ v16 = .int .i64 (j : Int) ∧ Kept (fun k => k < Y2.heap.size) Y2 wz ∧ Rw (fun g => ¬ g < Y2.heap.size) wz ao3 gl)
                  case atStart => exact ⟨0, rfl, Nat.zero_le _, rfl, HK3.out, HR3.out⟩
                  case round =>
                    clear HR3 HK3
                    obtain ⟨j, hgj, hj, rfl, hKj, hR3⟩ := hrel
                    by_cases hjl : j < gl
                    · obtain ⟨g, uu, hko, hBg, hcl, hfz⟩ := hR3.at hjl
                      have HKJ : Hid (Kept (fun k => k < Y2.heap.size) Y2 (wr.setCell ⟨g, j, none⟩ (.int .i64 99))) := hKj.setCell (p := ⟨g, j, none⟩) hBg _
                      have HR3 : Hid (Rw (fun g => ¬ g < Y2.heap.size) (wr.setCell ⟨g, j, none⟩ (.int .i64 99)) ao3 gl) := hR3.set g j _
                      clear hKj hR3 hBg
                      subst hko
                      go_wp2
                      go_roundg (gl - (j + 1))
                      case rel => exact ⟨j + 1, rfl, by omega, by go_num, HKJ.out, HR3.out⟩
                      case measure => omega
                    · have hjn : gl = j := by omega
                      subst hjn
                      have HKF : Hid (Kept (fun k => k < B.heap.size) B wr) := HKX.out.trans (hKj.mono fun k h => Nat.lt_of_lt_of_le h HKX.out.size)
                      clear hKj hR3
                      go_wp2
                      go_roundg (m - (i + 1))
                      case rel => exact ⟨i + 1, rfl, by omega, by go_num, HKF.out⟩
                      case measure => omega
        · have hin : m = i := by omega
          subst hin
          have rs1 := same_any _ E wr p r M R G rk (HGB.out.two.kept hKi) HGB.out.inv (by rw [HM.out]; omega)
          clear hKi
          obtain ⟨W5, rfl⟩ : ∃ W5, W5 = wr := ⟨_, rfl⟩
          go_wp2_with (go_at_call 17; refine rl.mono ?_; rintro e1 w3 ⟨rfl, hw3⟩; replace hw3 := hw3.symm; subst hw3)
          refine rs1.mono ?_
          rintro e Y4 ⟨rfl, hK4⟩
          have HK4 : Hid (Kept (fun k => k < B.heap.size) B Y4) := HKI.out.trans (hK4.mono fun k h => Nat.lt_of_lt_of_le h HKI.out.size)
          have rs2 := same_any _ E2 Y4 p2 r2 M2 R2 G2 rk2 (HG2.out.two.kept HK4.out) HG2.out.inv (by have := HG2.out.le; rw [HG2.out.lim] at this; omega)
          clear rs1 rl hK4
          go_wp2_with fail
          refine rs2.mono ?_
          rintro e Y5 ⟨rfl, hK5⟩
          have hwB : Kept (fun k => k < w.heap.size) w B := HKW.out.trans (HK.out.mono fun k h => Nat.lt_of_lt_of_le h HKW.out.size)
          have hw4 : Kept (fun k => k < w.heap.size) w Y4 := hwB.trans (HK4.out.mono fun k h => Nat.lt_of_lt_of_le h hwB.size)
          have HF : Hid (Kept (fun k => k < w.heap.size) w Y5) := hw4.trans (hK5.mono fun k h => Nat.lt_of_lt_of_le h hw4.size)
          clear rs2 hK5 hwB hw4
          go_wp2
          go_ret
          exact ⟨rfl, HF.out⟩
set_option maxRecDepth 20000 in
theorem copies_long (n : Nat) (hnn : 40 < n) (a : Option Addr) (ca : Nat) (n2 : Nat) (a2 : Option Addr) (ca2 : Nat) (w : World) :
    Calls Tryz.prog 7 #[.slice a n ca, .slice a2 n2 ca2] w fun e w' => e = .returned (.bool true) ∧ Kept (fun k => k < w.heap.size) w w' := by
  have hg40 : decide ((n : Int) > 40) = true := decide_eq_true (by omega)
  have rk0 := known_any w
  go_enter Tryz.func7, Tryz.ntmps7
  go_wp2_with (go_at_call 10; refine rk0.mono ?_; rintro e w2 ⟨rfl, k2⟩)
  go_ret
  exact ⟨rfl, k2⟩
set_option maxRecDepth 20000 in
theorem copies_long2 (n : Nat) (hnn : n ≤ 40) (a : Option Addr) (ca : Nat) (n2 : Nat) (hn2 : 30 < n2) (a2 : Option Addr) (ca2 : Nat) (w : World) :
    Calls Tryz.prog 7 #[.slice a n ca, .slice a2 n2 ca2] w fun e w' => e = .returned (.bool true) ∧ Kept (fun k => k < w.heap.size) w w' := by
  have hg40 : decide ((n : Int) > 40) = false := decide_eq_false (by omega)
  have hg30 : decide ((n2 : Int) > 30) = true := decide_eq_true (by omega)
  have rk0 := known_any w
  go_enter Tryz.func7, Tryz.ntmps7
  go_wp2_with (go_at_call 10; refine rk0.mono ?_; rintro e w2 ⟨rfl, k2⟩)
  go_ret
  exact ⟨rfl, k2⟩
set_option maxRecDepth 20000 in
theorem copies_heavy (l : List Opx) (n : Nat) (hln : l.length = n) (hnn : n ≤ 40) (a : Option Addr) (ca : Nat) (hb : 4000 < opsH l) (hb2 : opsH l ≤ 2000000) (n2 : Nat) (hn2 : n2 ≤ 30) (a2 : Option Addr) (ca2 : Nat) (w : World) (h : OpsAt (fun k => k < w.heap.size) w a l) :
    Calls Tryz.prog 7 #[.slice a n ca, .slice a2 n2 ca2] w fun e w' => e = .returned (.bool true) ∧ Kept (fun k => k < w.heap.size) w w' := by
  have rh := heavy_any l n hln (by omega) a ca hb2 w h
  have hg40 : decide ((n : Int) > 40) = false := decide_eq_false (by omega)
  have hg30 : decide ((n2 : Int) > 30) = false := decide_eq_false (by omega)
  obtain ⟨hv, hhv⟩ : ∃ hv, opsH l = hv := ⟨_, rfl⟩
  rw [hhv] at rh hb
  have hg6 : decide ((hv : Int) > 4000) = true := decide_eq_true (by omega)
  clear hhv h hln hb2
  go_enter Tryz.func7, Tryz.ntmps7
  go_wp2_with fail
  refine rh.mono ?_
  rintro e w1 ⟨rfl, k1⟩
  have rk0 := known_any w1
  clear rh
  go_wp2_with (go_at_call 10; refine rk0.mono ?_; rintro e w2 ⟨rfl, k2⟩)
  go_ret
  exact ⟨rfl, k1.trans (k2.mono fun k h => Nat.lt_of_lt_of_le h k1.size)⟩
set_option maxRecDepth 20000 in
theorem copies_heavy2 (l : List Opx) (n : Nat) (hln : l.length = n) (hnn : n ≤ 40) (a : Option Addr) (ca : Nat) (hb : opsH l ≤ 4000) (l2 : List Opx) (n2 : Nat) (hln2 : l2.length = n2) (hn2 : n2 ≤ 30) (a2 : Option Addr) (ca2 : Nat) (hb2 : 4000 < opsH l2) (hb3 : opsH l2 ≤ 2000000) (w : World) (h : OpsAt (fun k => k < w.heap.size) w a l) (h2 : OpsAt (fun k => k < w.heap.size) w a2 l2) :
    Calls Tryz.prog 7 #[.slice a n ca, .slice a2 n2 ca2] w fun e w' => e = .returned (.bool true) ∧ Kept (fun k => k < w.heap.size) w w' := by
  have rh := heavy_any l n hln (by omega) a ca (by omega) w h
  have hg40 : decide ((n : Int) > 40) = false := decide_eq_false (by omega)
  have hg30 : decide ((n2 : Int) > 30) = false := decide_eq_false (by omega)
  obtain ⟨hv, hhv⟩ : ∃ hv, opsH l = hv := ⟨_, rfl⟩
  rw [hhv] at rh hb
  have hg6 : decide ((hv : Int) > 4000) = false := decide_eq_false (by omega)
  have RH2 : Hid (∀ X, Kept (fun k => k < w.heap.size) w X → Calls Tryz.prog 9 #[.slice a2 n2 ca2] X fun e w' => e = .returned (.int .i64 (opsH l2 : Int)) ∧ Kept (fun k => k < X.heap.size) X w') := fun X hX => heavy_any l2 n2 hln2 (by omega) a2 ca2 hb3 X (h2.kept hX fun g hg => Nat.lt_of_lt_of_le hg hX.size)
  obtain ⟨hv2, hhv2⟩ : ∃ hv, opsH l2 = hv := ⟨_, rfl⟩
  rw [hhv2] at RH2 hb2
  have hg7 : decide ((hv2 : Int) > 4000) = true := decide_eq_true (by omega)
  clear hhv hhv2 h h2 hln hln2 hb hb3
  go_enter Tryz.func7, Tryz.ntmps7
  go_wp2_with fail
  refine rh.mono ?_
  rintro e w1 ⟨rfl, k1⟩
  have rh2 := RH2.out w1 k1
  have HK1 : Hid (Kept (fun k => k < w.heap.size) w w1) := k1
  clear rh k1 RH2
  go_wp2_with fail
  refine rh2.mono ?_
  rintro e w1' ⟨rfl, k1'⟩
  have HK2 : Hid (Kept (fun k => k < w.heap.size) w w1') := HK1.out.trans (k1'.mono fun k h => Nat.lt_of_lt_of_le h HK1.out.size)
  have rk0 := known_any w1'
  clear rh2 k1'
  go_wp2_with (go_at_call 10; refine rk0.mono ?_; rintro e w2 ⟨rfl, k2⟩)
  go_ret
  exact ⟨rfl, HK2.out.trans (k2.mono fun k h => Nat.lt_of_lt_of_le h HK2.out.size)⟩
end Go.Proofs.YthhoicmfmfeehaaGreat
