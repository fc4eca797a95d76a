/-
  The statements' own grown: both documents behind calls.
-/
import Derived.Test.YthhoicmfmfeehaaGreatZ42
import Derived.Test.YthhoicmfmfeehaaGreatZ19
import Derived.Test.YthhoicmfmfeehaaGreatZ29
namespace Go.Proofs.YthhoicmfmfeehaaGreat
open Go.RowKit Go.Sort
set_option linter.unusedVariables false
/-- Both documents, as they are behind calls. -/
structure Grown (K E : Nat → Prop) (w : World) (p r : Nat) (M : Dm) (R G : Nat → List Nat) (rk : Nat → Nat) (lim : Nat) : Prop where
  two : Two K E w p r M R G
  inv : Inv M R G rk
  lim : M.limit = lim
  le : M.n ≤ M.limit
theorem Grown.kept {K E : Nat → Prop} {w w' : World} {p r : Nat} {M : Dm} {R G : Nat → List Nat} {rk : Nat → Nat} {lim : Nat} (h : Grown K E w p r M R G rk lim) (hk : Kept (fun k => k < w.heap.size) w w') : Grown K E w' p r M R G rk lim :=
  ⟨h.two.kept hk, h.inv, h.lim, h.le⟩
/-- Two new documents. -/
theorem two_new {w w1 w2 : World} {p r lim : Nat} (h1 : DX (fun k => k < w.heap.size) w1 p (Dm.new lim)) (k1 : Kept (fun k => k < w.heap.size) w w1) (h2 : RX (fun k => k < w1.heap.size) w2 r (Dm.new lim) (fun _ => []) (fun _ => [])) (k2 : Kept (fun k => k < w1.heap.size) w1 w2) :
    Two (fun k => k < w.heap.size) (fun k => w1.heap.size ≤ k ∧ k < w2.heap.size) w2 p r (Dm.new lim) (fun _ => []) (fun _ => []) := by
  have s1 := k1.size
  have s2 := k2.size
  refine ⟨h1.move (fun g hg _ => k2.block g hg) (fun k hl hh => ?_) (fun k hh => ?_), h2.more (Kept.refl _ _) (fun k hh => .inl ?_) (fun k hh => ?_), fun k he hk => ?_⟩
  · rcases hh with hh | hh
    · exact hh
    · omega
  · rcases hh with hh | hh
    · exact Nat.lt_of_lt_of_le hh (Nat.le_trans s1 s2)
    · exact hh.2
  · rcases hh with hh | ⟨hh, hn⟩
    · exact Nat.lt_of_lt_of_le hh s1
    · exact Nat.lt_of_not_le fun hl => hn ⟨hl, hh⟩
  · rcases hh with hh | hh
    · exact Nat.lt_of_lt_of_le hh (Nat.le_trans s1 s2)
    · exact hh.1
  · omega
set_option maxRecDepth 20000 in
set_option maxHeartbeats 4000000 in
theorem grown_any (l : List Opx) (n : Nat) (hln : l.length = n) (hnn : n ≤ 1000000) (a : Option Addr) (c : Nat) (hok : ∀ o ∈ l, OpOk o) (hb : opsH l ≤ 900000) (w : World) (h : OpsAt (fun k => k < w.heap.size) w a l) :
    Calls Tryz.prog 16 #[.slice a n c] w fun e w' => ∃ p r E M R G rk, e = .returned (.tuple #[.pointer (some ⟨p, 0, none⟩), .pointer (some ⟨r, 0, none⟩)]) ∧ Grown (fun k => k < w.heap.size) E w' p r M R G rk 300 ∧ Kept (fun k => k < w.heap.size) w w' := by
  have rn := new_yes 300 w (by decide) (by decide)
  have HRN : Hid (∀ X, Calls Tryz.prog 12 #[.int .i64 300] X fun e w' => ∃ p, e = .returned (.pointer (some ⟨p, 0, none⟩)) ∧ X.heap.size ≤ p ∧ RX (fun k => k < X.heap.size) w' p (Dm.new 300) (fun _ => []) (fun _ => []) ∧ Kept (fun k => k < X.heap.size) X w') := fun X => rnew_yes 300 X (by decide) (by decide)
  have HL : Hid (l.length = n) := hln
  have HB : Hid (opsH l ≤ 900000) := hb
  have HH : Hid (OpsAt (fun k => k < w.heap.size) w a l) := h
  have HOK : Hid (∀ o ∈ l, OpOk o) := hok
  clear hln hb h hok
  go_enter Tryz.func16, Tryz.ntmps16
  go_wp2_with fail
  refine rn.mono ?_
  rintro e w1 ⟨p, rfl, hp, hX1, k1⟩
  clear rn
  have rn2 := HRN.out w1
  have HX1 : Hid (DX (fun k => k < w.heap.size) w1 p (Dm.new 300)) := hX1
  have HK1 : Hid (Kept (fun k => k < w.heap.size) w w1) := k1
  clear hX1 k1 HRN
  go_wp2_with fail
  refine rn2.mono ?_
  rintro e w2 ⟨r, rfl, hr, hX2, k2⟩
  clear rn2
  have HG2 : Hid (Grown (fun k => k < w.heap.size) (fun k => w1.heap.size ≤ k ∧ k < w2.heap.size) w2 p r (Dm.new 300) (fun _ => []) (fun _ => []) (fun _ => 0) 300) := ⟨two_new HX1.out HK1.out hX2 k2, Inv.new 300, rfl, by show 1 ≤ 300; decide⟩
  have HK2 : Hid (Kept (fun k => k < w.heap.size) w w2) := HK1.out.trans (k2.mono fun k h => Nat.lt_of_lt_of_le h HK1.out.size)
  clear HX1 HK1 hX2 k2 hp hr
  go_upto_region 4 with fail
  go_loopg [6] n (fun gh v wr => ∃ (k : Nat) (E : Nat → Prop) (M : Dm) (R G : Nat → List Nat) (rk : Nat → Nat), gh = n - k ∧ k ≤ n ∧ v = .int .i64 (k : Int) ∧ Grown (fun k => k < w.heap.size) E wr p r M R G rk 300 ∧ Kept (fun k => k < w.heap.size) w wr)
  case atStart => exact ⟨0, _, _, _, _, _, rfl, Nat.zero_le _, rfl, HG2.out, HK2.out⟩
  case round =>
    clear HG2 HK2
    obtain ⟨k, E, M, R, G, rk, hgk, hk, rfl, hG, hK⟩ := hrel
    have HG : Hid (Grown (fun k => k < w.heap.size) E wr p r M R G rk 300) := hG
    have HK : Hid (Kept (fun k => k < w.heap.size) w wr) := hK
    by_cases hlt : k < n
    · have hll : k < l.length := by rw [HL.out]; exact hlt
      obtain ⟨g, o, A, rfl, hg, hA, hc⟩ := HH.out k hll
      have hmem := List.getElem_mem hll
      obtain ⟨x, hx⟩ : ∃ x, l[k] = x := ⟨_, rfl⟩
      rw [hx] at hA hc hmem
      have hvx := opsH_mem hmem
      have cell : ∀ f u, (opC x A)[f]? = some u → wr.cell? ⟨g, o + k * 17 + f, none⟩ = some u := fun f u hu => (hK.cell (p := ⟨g, o + k * 17 + f, none⟩) hg).trans (hc f u hu)
      have hdoes := does_any (fun k => k < w.heap.size) E p r M R G rk wr x A ⟨hG.two, hG.inv, hG.le, by rw [hG.lim]; decide, HOK.out x hmem, by have := HB.out; omega, hA.kept hK (fun g hg => hg)⟩
      have e0 : wr.cell? ⟨g, o + k * 17, none⟩ = some (.int .u8 (x.k : Int)) := cell 0 _ rfl
      have e1 := cell 1 _ rfl
      have e2 := cell 2 _ rfl
      have e3 := cell 3 _ rfl
      have e4 := cell 4 _ rfl
      have e5 := cell 5 _ rfl
      have e6 := cell 6 _ rfl
      have e7 := cell 7 _ rfl
      have e8 := cell 8 _ rfl
      have e9 := cell 9 _ rfl
      have e10 := cell 10 _ rfl
      have e11 := cell 11 _ rfl
      have e12 := cell 12 _ rfl
      have e13 := cell 13 _ rfl
      have e14 := cell 14 _ rfl
      have e15 := cell 15 _ rfl
      have e16 := cell 16 _ rfl
      obtain ⟨q, hq⟩ : ∃ q, x.k % 16 = q := ⟨_, rfl⟩
      have hkm : (x.k : Int).tmod 16 = (q : Int) := by rw [← hq]; rfl
      have HD : Hid (Calls Tryz.prog 13 #[.pointer (some ⟨p, 0, none⟩), .pointer (some ⟨r, 0, none⟩), opV x A] wr (DoesOk (fun k => k < w.heap.size) p r M wr)) := hdoes
      clear hG hK hc hA hmem hx cell hvx hdoes hq
      by_cases q15 : q = 15
      · subst q15
        clear HD e1 e2 e3 e4 e5 e6 e7 e8 e9 e10 e11 e12 e13 e14 e15 e16
        go_wp2
        go_roundg (n - (k + 1))
        case rel => exact ⟨k + 1, E, M, R, G, rk, rfl, by omega, by go_num, HG.out, HK.out⟩
        case measure => omega
      · have n15 : ((q : Int) == 15) = false := by simp; omega
        have n15' : ((q : Int) != 15) = true := by simp; omega
        go_wp2_with fail
        refine HD.out.mono ?_
        rintro e w3 ⟨rfl, E', M', R', G', rk', h2, hI, hG', hK3⟩
        have HG3 : Hid (Grown (fun k => k < w.heap.size) E' w3 p r M' R' G' rk' 300) := ⟨h2, hI, hG'.limit.trans HG.out.lim, hG'.le HG.out.le⟩
        have HK3 : Hid (Kept (fun k => k < w.heap.size) w w3) := HK.out.trans hK3
        clear HD h2 hI hG' hK3 HG HK e0 e1 e2 e3 e4 e5 e6 e7 e8 e9 e10 e11 e12 e13 e14 e15 e16
        go_wp2
        go_roundg (n - (k + 1))
        case rel => exact ⟨k + 1, E', M', R', G', rk', rfl, by omega, by go_num, HG3.out, HK3.out⟩
        case measure => omega
    · have hkn : n = k := by omega
      subst hkn
      clear hG hK
      go_wp2
      go_ret2
      exact ⟨p, r, E, M, R, G, rk, rfl, HG.out, HK.out⟩
end Go.Proofs.YthhoicmfmfeehaaGreat
