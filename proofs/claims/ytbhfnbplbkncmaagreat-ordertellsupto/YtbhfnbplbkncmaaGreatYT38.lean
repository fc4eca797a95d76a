/-
  The statements' own Heavy.
  What DomInserts looks at: rows behind a putting in; boxes that stay (pure).
  The walk of DomPlaces.
-/
import Derived.Test.YtbhfnbplbkncmaaGreatYT35
import Derived.Test.YtbhfnbplbkncmaaGreatYT37
namespace Go.Proofs.YtbhfnbplbkncmaaGreat
open Go.RowKit
set_option linter.unusedVariables false
set_option maxRecDepth 20000 in
set_option maxHeartbeats 4000000 in
theorem heavy_any (l : List Opx) (n : Nat) (hln : l.length = n) (hnn : n ≤ 1000000000) (a : Option Addr) (c : Nat) (hb : opsH l ≤ 2000000) (w : World) (h : OpsAt (fun k => k < w.heap.size) w a l) :
    Calls Tryz.prog 64 #[.slice a n c] w fun e w' => e = .returned (.int .i64 (opsH l : Int)) ∧ Kept (fun k => k < w.heap.size) w w' := by
  have HL : Hid (l.length = n) := hln
  have HB : Hid (opsH l ≤ 2000000) := hb
  have HH : Hid (OpsAt (fun k => k < w.heap.size) w a l) := h
  clear hln hb h
  go_enter Tryz.func64, Tryz.ntmps64
  go_upto_region 3 with fail
  go_loopg [3, 4] n (fun gh v3 v4 wr => ∃ k : Nat, gh = n - k ∧ k ≤ n ∧ v4 = .int .i64 (k : Int) ∧ v3 = .int .i64 (opsH (l.take k) : Int) ∧ Kept (fun k => k < w.heap.size) w wr)
  case atStart => exact ⟨0, rfl, Nat.zero_le _, rfl, rfl, Kept.refl _ _⟩
  case round =>
    obtain ⟨k, hgk, hk, rfl, rfl, hK⟩ := hrel
    by_cases hlt : k < n
    · have hll : k < l.length := by rw [HL.out]; exact hlt
      obtain ⟨g, o, A, rfl, hg, hA, hc⟩ := HH.out k hll
      have htk : l.take (k + 1) = l.take k ++ [l[k]] := List.take_succ_eq_append_getElem hll
      have hsum : opsH (l.take (k + 1)) = opsH (l.take k) + opH l[k] := by rw [htk, opsH_append]; simp [opsH]
      have hle : opsH (l.take (k + 1)) ≤ 2000000 := by
        have e : opsH l = opsH (l.take (k + 1)) + opsH (l.drop (k + 1)) := by rw [← opsH_append, List.take_append_drop]
        have := HB.out
        omega
      obtain ⟨x, hx⟩ : ∃ x, l[k] = x := ⟨_, rfl⟩
      rw [hx] at hA hc hsum
      obtain ⟨t0, ht0⟩ : ∃ t0, opsH (l.take k) = t0 := ⟨_, rfl⟩
      rw [ht0] at hsum ⊢
      have cell : ∀ f u, (opC x A)[f]? = some u → wr.cell? ⟨g, o + k * 17 + f, none⟩ = some u := fun f u hu => (hK.cell (p := ⟨g, o + k * 17 + f, none⟩) hg).trans (hc f u hu)
      have c9 := cell 9 (.string x.s) rfl
      have c10 := cell 10 (.string x.t) rfl
      have c11 := cell 11 (.slice A.la x.l.length A.lc) rfl
      have c6 := cell 6 (.string x.nn) rfl
      have c7 := cell 7 (.string x.nd) rfl
      have c8 := cell 8 (.slice A.aa x.ats.length A.ac) rfl
      have c6' : wr.cell? ⟨g, o + k * 17 + 5 + 1, none⟩ = some (.string x.nn) := c6
      have c7' : wr.cell? ⟨g, o + k * 17 + 5 + 2, none⟩ = some (.string x.nd) := c7
      have c8' : wr.cell? ⟨g, o + k * 17 + 5 + 3, none⟩ = some (.slice A.aa x.ats.length A.ac) := c8
      unfold opH at hsum
      have HSUM : Hid (opsH (l.take (k + 1)) = t0 + (5 + x.s.size + x.t.size + x.l.length + x.nn.size + x.nd.size + atsH x.ats)) := hsum
      have hbnd : t0 + (5 + x.s.size + x.t.size + x.l.length + x.nn.size + x.nd.size + atsH x.ats) ≤ 2000000 := by rw [← hsum]; exact hle
      obtain ⟨n1, hn1⟩ : ∃ z, x.s.size = z := ⟨_, rfl⟩
      obtain ⟨n2, hn2⟩ : ∃ z, x.t.size = z := ⟨_, rfl⟩
      obtain ⟨n3, hn3⟩ : ∃ z, x.l.length = z := ⟨_, rfl⟩
      obtain ⟨n4, hn4⟩ : ∃ z, x.nn.size = z := ⟨_, rfl⟩
      obtain ⟨n5, hn5⟩ : ∃ z, x.nd.size = z := ⟨_, rfl⟩
      obtain ⟨n6, hn6⟩ : ∃ z, x.ats.length = z := ⟨_, rfl⟩
      obtain ⟨n7, hn7⟩ : ∃ z, atsH x.ats = z := ⟨_, rfl⟩
      clear hsum hle htk ht0 hc cell
      go_upto_region 5 with fail
      go_quiet (fail)
      obtain ⟨B, hB⟩ : ∃ B, t0 + (5 + n1 + n2 + n3 + n4 + n5) = B := ⟨_, rfl⟩
      have hB' : (t0 : Int) + (5 + (n1 : Int) + (n2 : Int) + (n3 : Int) + (n4 : Int) + (n5 : Int)) = (B : Int) := by rw [← hB]; omega
      have hBb : B + n7 ≤ 2000000 := by omega
      have HBS : Hid (opsH (l.take (k + 1)) = B + atsH x.ats) := by
        have := HSUM.out
        have : opsH (l.take (k + 1)) = B + atsH x.ats := by omega
        exact (show Hid _ from this)
      have HN7 : Hid (atsH x.ats = n7) := hn7
      have HN6 : Hid (x.ats.length = n6) := hn6
      have HAT : Hid (AtsAt (fun k => k < w.heap.size) w A.aa x.ats) := hA.1
      have hK5 : Kept (fun k => k < w.heap.size) w (wr.drewN nq) := hK.drewN nq
      have d8 : ∀ X, Kept (fun k => k < w.heap.size) (wr.drewN nq) X → X.cell? ⟨g, o + k * 17 + 8, none⟩ = some (.slice A.aa n6 A.ac) := fun X hX => (hX.cell (p := ⟨g, o + k * 17 + 8, none⟩) hg).trans (by rw [← hn6]; exact c8)
      rw [hB']
      obtain ⟨W5, hW5⟩ : ∃ W5, wr.drewN nq = W5 := ⟨_, rfl⟩
      rw [hW5] at hK5 d8 ⊢
      have HK5 : Hid (Kept (fun k => k < w.heap.size) w W5) := hK5
      have HD8 : Hid (∀ X, Kept (fun k => k < w.heap.size) W5 X → X.cell? ⟨g, o + k * 17 + 8, none⟩ = some (.slice A.aa n6 A.ac)) := d8
      have hn6b : n6 ≤ 2000000 := by
        have := atsH_len x.ats
        omega
      clear hW5 hK5 d8 c6 c7 c8 c6' c7' c8' c9 c10 c11 hn1 hn2 hn3 hn4 hn5 hn6 hn7 hB hB' hbnd hK hA HSUM hx
      obtain ⟨W6, rfl⟩ : ∃ W6, W6 = wr := ⟨_, rfl⟩
      go_upto_region 7 with fail
      go_loopg [3, 5] n6 (fun gh v3 v5 wy => ∃ j : Nat, gh = n6 - j ∧ j ≤ n6 ∧ v5 = .int .i64 (j : Int) ∧ v3 = .int .i64 ((B + atsH (x.ats.take j) : Nat) : Int) ∧ Kept (fun k => k < w.heap.size) W5 wy)
      case atStart => exact ⟨0, rfl, Nat.zero_le _, rfl, rfl, Kept.refl _ _⟩
      case round =>
        obtain ⟨j, hgj, hj, rfl, rfl, hKj⟩ := hrel
        have e8 := HD8.out wr hKj
        have e8' : wr.cell? ⟨g, o + k * 17 + 5 + 3, none⟩ = some (.slice A.aa n6 A.ac) := e8
        by_cases hjl : j < n6
        · have hja : j < x.ats.length := by rw [HN6.out]; exact hjl
          have htj : x.ats.take (j + 1) = x.ats.take j ++ [x.ats[j]] := List.take_succ_eq_append_getElem hja
          have hsj : atsH (x.ats.take (j + 1)) = atsH (x.ats.take j) + (1 + x.ats[j].name.length + x.ats[j].value.length) := by rw [htj, atsH_append]; simp [atsH]
          have hle : atsH (x.ats.take (j + 1)) ≤ n7 := by
            have e : atsH x.ats = atsH (x.ats.take (j + 1)) + atsH (x.ats.drop (j + 1)) := by rw [← atsH_append, List.take_append_drop]
            have := HN7.out
            omega
          obtain ⟨g2, o2, haa, hg2, a0, a1⟩ := HAT.out j hja
          have b0 : wr.cell? ⟨g2, o2 + j * 2, none⟩ = some (sv x.ats[j].name) := (hKj.cell (p := ⟨g2, o2 + j * 2, none⟩) hg2).trans ((HK5.out.cell (p := ⟨g2, o2 + j * 2, none⟩) hg2).trans a0)
          have b1 : wr.cell? ⟨g2, o2 + j * 2 + 1, none⟩ = some (sv x.ats[j].value) := (hKj.cell (p := ⟨g2, o2 + j * 2 + 1, none⟩) hg2).trans ((HK5.out.cell (p := ⟨g2, o2 + j * 2 + 1, none⟩) hg2).trans a1)
          rw [haa] at e8 e8'
          obtain ⟨y, hy⟩ : ∃ y, x.ats[j] = y := ⟨_, rfl⟩
          rw [hy] at b0 b1 hsj
          obtain ⟨S1, hS1⟩ : ∃ S1 : ByteArray, ⟨y.name.toArray⟩ = S1 := ⟨_, rfl⟩
          obtain ⟨S2, hS2⟩ : ∃ S2 : ByteArray, ⟨y.value.toArray⟩ = S2 := ⟨_, rfl⟩
          have q1 : S1.size = y.name.length := by rw [← hS1]; simp [ByteArray.size]
          have q2 : S2.size = y.value.length := by rw [← hS2]; simp [ByteArray.size]
          have b0' : wr.cell? ⟨g2, o2 + j * 2, none⟩ = some (.string S1) := by rw [← hS1]; exact b0
          have b1' : wr.cell? ⟨g2, o2 + j * 2 + 1, none⟩ = some (.string S2) := by rw [← hS2]; exact b1
          obtain ⟨z1, hz1⟩ : ∃ z, S1.size = z := ⟨_, rfl⟩
          obtain ⟨z2, hz2⟩ : ∃ z, S2.size = z := ⟨_, rfl⟩
          obtain ⟨t1, ht1⟩ : ∃ t1, atsH (x.ats.take j) = t1 := ⟨_, rfl⟩
          rw [ht1] at hsj ⊢
          have HSJ : Hid (atsH (x.ats.take (j + 1)) = t1 + (1 + z1 + z2)) := by
            have : atsH (x.ats.take (j + 1)) = t1 + (1 + z1 + z2) := by omega
            exact (show Hid _ from this)
          have hbb : B + t1 + (1 + z1 + z2) ≤ 2000000 := by have := HSJ.out; omega
          have HKj : Hid (Kept (fun k => k < w.heap.size) W5 wr) := hKj
          clear hS1 hS2 b0 b1 a0 a1 hy haa hKj htj hsj hle ht1 q1 q2
          go_upto_region 9 with fail
          go_quiet (fail)
          go_wp2
          go_roundg (n6 - (j + 1))
          case rel => exact ⟨j + 1, rfl, by omega, by go_num, by rw [HSJ.out]; congr 1; omega, HKj.out.drewN _⟩
          case measure => omega
        · have hjn : n6 = j := by omega
          subst hjn
          have hall : x.ats.take n6 = x.ats := List.take_of_length_le (by rw [HN6.out]; exact Nat.le_refl _)
          rw [hall]
          have hbs := HBS.out
          obtain ⟨t2, ht2⟩ : ∃ t2, B + atsH x.ats = t2 := ⟨_, rfl⟩
          rw [ht2] at hbs ⊢
          have HT2 : Hid (opsH (l.take (k + 1)) = t2) := hbs
          have HKj : Hid (Kept (fun k => k < w.heap.size) w wr) := HK5.out.trans hKj
          clear hKj hall hbs ht2
          go_wp2
          go_roundg (n - (k + 1))
          case rel => exact ⟨k + 1, rfl, by omega, by go_num, by rw [HT2.out], HKj.out⟩
          case measure => omega
    · have hkn : n = k := by omega
      subst hkn
      have hall : l.take n = l := List.take_of_length_le (by rw [HL.out]; exact Nat.le_refl _)
      rw [hall]
      have HK : Hid (Kept (fun k => k < w.heap.size) w wr) := hK
      clear hK hall
      go_wp2
      go_ret
      exact ⟨rfl, HK.out⟩
end Go.Proofs.YtbhfnbplbkncmaaGreat

namespace Go.Proofs.YtbhfnbplbkncmaaGreat
open Go.RowKit Go.Sort
set_option linter.unusedVariables false
/-- A box, and where it lies. -/
structure BoxF (F : Nat → Prop) (V : World) (N : Nat) (kd : Int) (up : Int) (Q : List Nat) (ko : Option Addr) (kc : Nat) : Prop where
  f : F N
  c0 : V.cell? ⟨N, 0, none⟩ = some (.int .u8 kd)
  c4 : V.cell? ⟨N, 4, none⟩ = some (.int .i64 up)
  c5 : V.cell? ⟨N, 5, none⟩ = some (.slice ko Q.length kc)
  kid : ∀ j (h : j < Q.length), ∃ g, ko = some ⟨g, 0, none⟩ ∧ F g ∧ V.cell? ⟨g, j, none⟩ = some (.int .i64 (Q[j] : Int))
theorem BoxF.of {w w' : World} {x : Nd} {up : Int} {Q : List Nat} {ao ko : Option Addr} {ac kc : Nat} (hQ : OwnZ (fun k => k < w.heap.size) w' 3 1 ko Q.length kc (ivs Q)) (hK : Kept (fun k => k < w.heap.size) w w') (V : World) (N : Nat) (hN : w'.heap.size = N)
    (hV : w'.alloc (.cells (outC x.kind ⟨x.name.toArray⟩ ⟨x.data.toArray⟩ ao x.attrs.length ac up ko Q.length kc x.shadow x.host x.content x.fl) 36) = V) : BoxF (fun k => w.heap.size ≤ k ∧ k < V.heap.size) V N x.kind up Q ko kc ∧ Kept (fun k => k < w.heap.size) w V := by
  have hB := Box.of hQ hK V N hN hV
  refine ⟨⟨⟨hB.lo, hB.hi⟩, hB.c0, hB.c4, hB.c5, fun j hj => ?_⟩, hB.kept⟩
  obtain ⟨g, e, hg, hc⟩ := hB.kid j hj
  exact ⟨g, e, ⟨Nat.le_of_not_lt (OwnZ.out hQ (g := g) e).1, hg⟩, hc⟩
theorem BoxF.to {F F' : Nat → Prop} {V V' : World} {N : Nat} {kd up : Int} {Q : List Nat} {ko : Option Addr} {kc : Nat} (h : BoxF F V N kd up Q ko kc) (hF : ∀ k, F k → F' k) (hb : ∀ k, F k → V'.heap[k]? = V.heap[k]?) : BoxF F' V' N kd up Q ko kc := by
  have c : ∀ f, V'.cell? ⟨N, f, none⟩ = V.cell? ⟨N, f, none⟩ := fun f => World.cell?_of_block (w := V) (a := ⟨N, f, none⟩) (hb N h.f)
  refine ⟨hF N h.f, by rw [c]; exact h.c0, by rw [c]; exact h.c4, by rw [c]; exact h.c5, fun j hj => ?_⟩
  obtain ⟨g, e, hg, hc⟩ := h.kid j hj
  exact ⟨g, e, hF g hg, (World.cell?_of_block (w := V) (a := ⟨g, j, none⟩) (hb g hg)).trans hc⟩
theorem BoxF.ints {F : Nat → Prop} {V : World} {N : Nat} {kd up : Int} {Q : List Nat} {ko : Option Addr} {kc : Nat} (h : BoxF F V N kd up Q ko kc) : IntsAt F V ko Q := fun j hj => by
  obtain ⟨g, e, hg, hc⟩ := h.kid j hj
  exact ⟨g, 0, e, hg, by rw [Nat.zero_add]; exact hc⟩
end Go.Proofs.YtbhfnbplbkncmaaGreat

namespace Go.Proofs.YtbhfnbplbkncmaaGreat
open Go.RowKit Go.Sort
set_option linter.unusedVariables false
/-- What is in a node's box, in memory. -/
abbrev outN (x : Nd) (ao : Option Addr) (ac : Nat) (up : Int) (ko : Option Addr) (kn kc : Nat) : Array Value := outC x.kind ⟨x.name.toArray⟩ ⟨x.data.toArray⟩ ao x.attrs.length ac up ko kn kc x.shadow x.host x.content x.fl
end Go.Proofs.YtbhfnbplbkncmaaGreat
