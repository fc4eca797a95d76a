/-
  The document's own gives.
  Node of no node; order.Root; shadow.Of, Open, isClosed.
  The document's own Node.
-/
import Derived.Test.YtbhfnbplbkncmaaGreatZ27
import Derived.Test.YtbhfnbplbkncmaaGreatZ13
import Derived.Test.YtbhfnbplbkncmaaGreatZ14
import Derived.Test.YtbhfnbplbkncmaaGreatZ10
namespace Go.Proofs.YtbhfnbplbkncmaaGreat
open Go.RowKit Go.Sort
set_option linter.unusedVariables false
/-- Any integers lie at a slice. -/
def IntsZ (F : Nat → Prop) (w : World) (ka : Option Addr) (l : List Int) : Prop :=
  ∀ j (h : j < l.length), ∃ g o, ka = some ⟨g, o, none⟩ ∧ F g ∧ w.cell? ⟨g, o + j, none⟩ = some (.int .i64 l[j])
theorem IntsZ.kept {F F' : Nat → Prop} {w w' : World} {ka : Option Addr} {l : List Int} (h : IntsZ F w ka l) (hk : Kept F w w') (hF : ∀ g, F g → F' g) : IntsZ F' w' ka l := fun j hj => by
  obtain ⟨g, o, e, hf, hc⟩ := h j hj
  exact ⟨g, o, e, hF g hf, (hk.cell (p := ⟨g, o + j, none⟩) hf).trans hc⟩
def inN (n : Nat) (x : Int) : Prop := 0 ≤ x ∧ x < (n : Int)
def shows (M : Dm) (x : Int) : Prop := (M.nd x.toNat).kind = 1 ∨ (M.nd x.toNat).kind = 2
/-- What gives answers. -/
structure Gives (M : Dm) (slot : Int) (l : List Int) (z : Int) : Prop where
  gNone : ¬ inN M.n slot → z = 80
  gOne : inN M.n slot → (∃ x ∈ l, ¬ inN M.n x) → z = 80
  gSlot : inN M.n slot → (∀ x ∈ l, inN M.n x) → ((M.nd slot.toNat).kind ≠ 1 ∨ (M.nd slot.toNat).name ≠ slotN) → z = 110
  gShow : inN M.n slot → (∀ x ∈ l, inN M.n x) → (M.nd slot.toNat).kind = 1 → (M.nd slot.toNat).name = slotN → (∃ x ∈ l, ¬ shows M x) → z = 81
  gMany : inN M.n slot → (∀ x ∈ l, inN M.n x) → (M.nd slot.toNat).kind = 1 → (M.nd slot.toNat).name = slotN → (∀ x ∈ l, shows M x) → 200 < l.length → z = 1
  gOk : inN M.n slot → (∀ x ∈ l, inN M.n x) → (M.nd slot.toNat).kind = 1 → (M.nd slot.toNat).name = slotN → (∀ x ∈ l, shows M x) → l.length ≤ 200 → z = 0
set_option maxRecDepth 20000 in
set_option maxHeartbeats 1000000 in
theorem rgives_none (K : Nat → Prop) (p : Nat) (M : Dm) (R G : Nat → List Nat) (slot : Int) (ao : Option Addr) (n c : Nat) (w : World) (h : RX K w p M R G) (hi : slot < 0 ∨ (M.n : Int) ≤ slot) :
    Calls Tryz.prog 166 #[.pointer (some ⟨p, 0, none⟩), .int .i64 slot, .slice ao n c] w fun e w' => e = .returned (.int .i64 80) ∧ w' = w := by
  have rt := rthere_any K p M R G slot w h
  rw [there_no hi] at rt
  clear h hi
  go_enter Tryz.func166, Tryz.ntmps166
  go_wp2_with (go_at_call 148; refine rt.mono ?_; rintro e1 w3 ⟨rfl, hw3⟩; replace hw3 := hw3.symm; subst hw3)
  go_ret
  exact ⟨rfl, rfl⟩
set_option maxRecDepth 20000 in
set_option maxHeartbeats 2000000 in
theorem rgives_in (K : Nat → Prop) (p slot : Nat) (M : Dm) (R G : Nat → List Nat) (l : List Int) (ao : Option Addr) (n c : Nat) (w : World) (h : RX K w p M R G) (hs : slot < M.n) (hn : M.n ≤ 1000000) (hln : l.length = n) (hnn : n ≤ 1000000) (hl : IntsZ (fun k => k < w.heap.size) w ao l) (z : Int) (hz : Gives M (slot : Int) l z) :
    Calls Tryz.prog 166 #[.pointer (some ⟨p, 0, none⟩), .int .i64 (slot : Int), .slice ao n c] w fun e w' => e = .returned (.int .i64 z) ∧ Kept (fun k => k < w.heap.size) w w' := by
  have hin : inN M.n (slot : Int) := ⟨by omega, by omega⟩
  have rt := rthere_any K p M R G (slot : Int) w h
  rw [there_yes hs] at rt
  have HX : Hid (RX K w p M R G) := h
  have HZ : Hid (Gives M (slot : Int) l z) := hz
  have HI : Hid (inN M.n (slot : Int)) := hin
  have HL : Hid (IntsZ (fun k => k < w.heap.size) w ao l) := hl
  have HLN : Hid (l.length = n) := hln
  obtain ⟨A, hY⟩ := h
  obtain ⟨g, hg, -, -, hgl⟩ := hY.nat (by omega)
  have c1 := hY.c1
  rw [hg] at c1
  have HY : Hid (RY K w p M R G A) := hY
  have HG : Hid (A.na = some ⟨g, 0, none⟩) := hg
  clear hY hg hz hin hl hln
  go_enter Tryz.func166, Tryz.ntmps166
  go_wp2_with fail
  refine rt.mono ?_
  rintro e1 w3 ⟨rfl, hw3⟩
  replace hw3 := hw3.symm
  subst hw3
  clear rt
  go_upto_region 4 with fail
  go_loopg [7] n (fun gh v wr => ∃ k : Nat, gh = n - k ∧ k ≤ n ∧ v = .int .i64 (k : Int) ∧ (∀ x ∈ l.take k, inN M.n x) ∧ wr = w)
  case atStart => exact ⟨0, rfl, Nat.zero_le _, rfl, fun x hx => (by cases hx), rfl⟩
  case round =>
    obtain ⟨k, hgk, hk, rfl, hno, rfl⟩ := hrel
    have HNO : Hid (∀ x ∈ l.take k, inN M.n x) := hno
    clear hno
    by_cases hlt : k < n
    · have hkl : k < l.length := by rw [HLN.out]; exact hlt
      obtain ⟨g1, o1, rfl, -, d0⟩ := HL.out k hkl
      obtain ⟨y, hy⟩ : ∃ y, l[k] = y := ⟨_, rfl⟩
      rw [hy] at d0
      have HYY : Hid (l[k] = y) := hy
      have rt := rthere_any K p M R G y wr HX.out
      clear hy
      by_cases e : inN M.n y
      · rw [decide_eq_true e.1, decide_eq_true e.2] at rt
        have HE : Hid (inN M.n y) := e
        clear e
        go_wp2_with fail
        refine rt.mono ?_
        rintro e1 w3 ⟨rfl, hw3⟩
        replace hw3 := hw3.symm
        subst hw3
        clear rt
        go_wp2
        go_roundg (n - (k + 1))
        case rel =>
          refine ⟨k + 1, rfl, by omega, by go_num, fun x hx => ?_, rfl⟩
          rw [List.take_succ_eq_append_getElem hkl] at hx
          rcases List.mem_append.1 hx with hx | hx
          · exact HNO.out x hx
          · rw [List.mem_singleton.1 hx, HYY.out]; exact HE.out
        case measure => omega
      · have e2 : (decide (0 ≤ y) && decide (y < (M.n : Int))) = false := by
          by_cases h0 : 0 ≤ y
          · rw [decide_eq_true h0, decide_eq_false (fun h1 => e ⟨h0, h1⟩)]; rfl
          · rw [decide_eq_false h0]; rfl
        rw [e2] at rt
        have HE : Hid (¬ inN M.n y) := e
        clear e e2
        go_wp2_with fail
        refine rt.mono ?_
        rintro e1 w3 ⟨rfl, hw3⟩
        replace hw3 := hw3.symm
        subst hw3
        clear rt
        go_wp2
        go_ret
        have := HZ.out.gOne HI.out ⟨y, by rw [← HYY.out]; exact List.getElem_mem _, HE.out⟩
        rw [this]
        exact ⟨rfl, Kept.refl _ _⟩
    · have hkn : n = k := by omega
      subst hkn
      have HALL : Hid (∀ x ∈ l, inN M.n x) := fun x hx => HNO.out x (by rw [List.take_of_length_le (by rw [HLN.out]; exact Nat.le_refl _)]; exact hx)
      have s0 : wr.cell? ⟨g, slot * 14, none⟩ = some (.int .u8 ((M.nd slot).kind : Int)) := HY.out.cell HG.out hs 0 _ rfl
      have s1 : wr.cell? ⟨g, slot * 14 + 1, none⟩ = some (sv (M.nd slot).name) := HY.out.cell HG.out hs 1 _ rfl
      obtain ⟨kd, hkd⟩ : ∃ kd, (M.nd slot).kind = kd := ⟨_, rfl⟩
      obtain ⟨S, hS⟩ : ∃ S : ByteArray, (⟨(M.nd slot).name.toArray⟩ : ByteArray) = S := ⟨_, rfl⟩
      have hSl : S.toList = (M.nd slot).name := by rw [← hS, ByteArray.toList_eq]
      unfold sv at s1
      rw [hkd] at s0
      rw [hS] at s1
      obtain ⟨q, hq⟩ : ∃ q, (S.toList == ([115, 108, 111, 116] : List UInt8)) = q := ⟨_, rfl⟩
      have HKD : Hid ((M.nd slot).kind = kd) := hkd
      have HSL : Hid (S.toList = (M.nd slot).name) := hSl
      have HQ : Hid ((S.toList == ([115, 108, 111, 116] : List UInt8)) = q) := hq
      clear HNO hkd hS hSl
      by_cases k1 : kd = 1
      · subst k1
        have s0k : wr.cell? ⟨g, slot * 14, none⟩ = some (.int .u8 1) := s0
        clear s0
        cases q with
        | false =>
          go_wp2
          go_ret
          have := HZ.out.gSlot HI.out HALL.out (.inr (by
            rw [Int.toNat_natCast, ← HSL.out]
            intro e
            have := HQ.out
            rw [e] at this
            simp [slotN] at this))
          rw [this]
          exact ⟨rfl, Kept.refl _ _⟩
        | true =>
          have HNM : Hid ((M.nd slot).name = slotN) := by
            rw [← HSL.out]
            have := HQ.out
            rw [beq_iff_eq] at this
            rw [this]
            exact (show Hid _ from rfl)
          have hpl : p < wr.heap.size := HY.out.plt
          obtain ⟨W0, hW0⟩ : ∃ W0, W0 = wr := ⟨_, rfl⟩
          subst hW0
          go_upto_region 11 with fail
          go_loopg [8] n (fun gh v wr' => ∃ k : Nat, gh = n - k ∧ k ≤ n ∧ v = .int .i64 (k : Int) ∧ (∀ x ∈ l.take k, shows M x) ∧ Kept (fun k => k < W0.heap.size) W0 wr')
          case atStart => exact ⟨0, rfl, Nat.zero_le _, rfl, fun x hx => (by cases hx), Kept.refl _ _⟩
          case round =>
            obtain ⟨k, hgk2, hk2, rfl, hno, hKk⟩ := hrel
            have HKk : Hid (Kept (fun k => k < W0.heap.size) W0 wr) := hKk
            have c1w : wr.cell? ⟨p, 1, none⟩ = some (.slice (some ⟨g, 0, none⟩) M.n A.nc) := (hKk.cell (p := ⟨p, 1, none⟩) hpl).trans c1
            have HNO : Hid (∀ x ∈ l.take k, shows M x) := hno
            clear hno
            by_cases hlt2 : k < n
            · have hkl : k < l.length := by rw [HLN.out]; exact hlt2
              obtain ⟨g1, o1, rfl, hg1, d0⟩ := HL.out k hkl
              obtain ⟨y, hy, hyn⟩ : ∃ y : Nat, l[k] = (y : Int) ∧ y < M.n := by
                have := HALL.out l[k] (List.getElem_mem _)
                exact ⟨l[k].toNat, by have h1 := this.1; omega, by have h1 := this.1; have h2 := this.2; omega⟩
              rw [hy] at d0
              have d0w : wr.cell? ⟨g1, o1 + k, none⟩ = some (.int .i64 (y : Int)) := (hKk.cell (p := ⟨g1, o1 + k, none⟩) hg1).trans d0
              have HYY : Hid (l[k] = (y : Int)) := hy
              have y0 := HY.out.cell HG.out hyn 0 _ rfl
              have y0' : wr.cell? ⟨g, y * 14, none⟩ = some (.int .u8 ((M.nd y).kind : Int)) := (hKk.cell (p := ⟨g, y * 14, none⟩) hgl).trans y0
              obtain ⟨ky, hky⟩ : ∃ ky, (M.nd y).kind = ky := ⟨_, rfl⟩
              rw [hky] at y0'
              have HKY : Hid ((M.nd y).kind = ky) := hky
              clear hy y0 hky d0 hKk
              by_cases q1 : ky = 1
              · subst q1
                have y0k : wr.cell? ⟨g, y * 14, none⟩ = some (.int .u8 1) := y0'
                clear y0'
                go_upto_region 13 with fail
                go_quiet (fail)
                go_wp2
                go_roundg (n - (k + 1))
                case rel =>
                  refine ⟨k + 1, rfl, by omega, by go_num, fun x hx => ?_, HKk.out.drewN _⟩
                  rw [List.take_succ_eq_append_getElem hkl] at hx
                  rcases List.mem_append.1 hx with hx | hx
                  · exact HNO.out x hx
                  · rw [List.mem_singleton.1 hx, HYY.out]; exact .inl (by rw [Int.toNat_natCast]; exact HKY.out)
                case measure => omega
              by_cases q2 : ky = 2
              · subst q2
                have y0k : wr.cell? ⟨g, y * 14, none⟩ = some (.int .u8 2) := y0'
                clear y0'
                go_upto_region 13 with fail
                go_quiet (fail)
                go_wp2
                go_roundg (n - (k + 1))
                case rel =>
                  refine ⟨k + 1, rfl, by omega, by go_num, fun x hx => ?_, HKk.out.drewN _⟩
                  rw [List.take_succ_eq_append_getElem hkl] at hx
                  rcases List.mem_append.1 hx with hx | hx
                  · exact HNO.out x hx
                  · rw [List.mem_singleton.1 hx, HYY.out]; exact .inr (by rw [Int.toNat_natCast]; exact HKY.out)
                case measure => omega
              have m1 : ((ky : Int) != 1) = true := by simp; omega
              have m2 : ((ky : Int) != 2) = true := by simp; omega
              have HNS : Hid (¬ shows M (y : Int)) := fun c => by
                rcases c with c | c
                · rw [Int.toNat_natCast, HKY.out] at c; exact q1 c
                · rw [Int.toNat_natCast, HKY.out] at c; exact q2 c
              clear q1 q2
              go_upto_region 13 with fail
              go_quiet (fail)
              go_wp2
              go_ret
              have := HZ.out.gShow HI.out HALL.out (by rw [Int.toNat_natCast]; exact HKD.out) (by rw [Int.toNat_natCast]; exact HNM.out) ⟨(y : Int), by rw [← HYY.out]; exact List.getElem_mem _, HNS.out⟩
              rw [this]
              exact ⟨rfl, HKk.out.drewN _⟩
            · have hkn : n = k := by omega
              subst hkn
              have HSH : Hid (∀ x ∈ l, shows M x) := fun x hx => HNO.out x (by rw [List.take_of_length_le (by rw [HLN.out]; exact Nat.le_refl _)]; exact hx)
              by_cases q3 : 200 < n
              · have m3 : decide ((n : Int) > 200) = true := decide_eq_true (by omega)
                go_wp2
                go_ret
                have := HZ.out.gMany HI.out HALL.out (by rw [Int.toNat_natCast]; exact HKD.out) (by rw [Int.toNat_natCast]; exact HNM.out) HSH.out (by rw [HLN.out]; exact q3)
                rw [this]
                exact ⟨rfl, HKk.out⟩
              · have m3 : decide ((n : Int) > 200) = false := decide_eq_false (by omega)
                go_wp2
                go_ret
                have := HZ.out.gOk HI.out HALL.out (by rw [Int.toNat_natCast]; exact HKD.out) (by rw [Int.toNat_natCast]; exact HNM.out) HSH.out (by rw [HLN.out]; omega)
                rw [this]
                exact ⟨rfl, HKk.out⟩
      · have n1 : ((kd : Int) != 1) = true := by simp; omega
        have HK1 : Hid (kd ≠ 1) := k1
        clear k1
        go_wp2
        go_ret
        have := HZ.out.gSlot HI.out HALL.out (.inl (by rw [Int.toNat_natCast, HKD.out]; exact HK1.out))
        rw [this]
        exact ⟨rfl, Kept.refl _ _⟩
end Go.Proofs.YtbhfnbplbkncmaaGreat

namespace Go.Proofs.YtbhfnbplbkncmaaGreat
open Go.RowKit
set_option linter.unusedVariables false

abbrev zero14 : Array Value := #[.int .u8 0, .string ⟨#[]⟩, .string ⟨#[]⟩, .slice none 0 0, .int .i64 0, .slice none 0 0, .int .i64 0, .int .i64 0, .int .i64 0, .bool false, .bool false, .bool false, .bool false, .bool false]
set_option maxRecDepth 20000 in
theorem node_none (K : Nat → Prop) (p : Nat) (M : Dm) (i : Int) (w : World) (h : DX K w p M) (hi : i < 0 ∨ (M.n : Int) ≤ i) (hn : M.n ≤ 1000000) :
    Calls Tryz.prog 24 #[.pointer (some ⟨p, 0, none⟩), .int .i64 i] w fun e w' => e = .returned (.tuple #[.agg zero14, .int .u16 80]) ∧ Kept (fun k => k < w.heap.size) w w' := by
  obtain ⟨ga, cap, hY⟩ := h
  obtain ⟨W, hW⟩ : ∃ W, w.alloc (.cells zero14 36) = W := ⟨_, rfl⟩
  have kW : Kept (fun k => k < w.heap.size) w W := by rw [← hW]; exact (Kept.refl _ w).alloc (fun _ h => h) _
  have hYW := hY.kept kW
  have r := at_no p M.n cap ga i W hYW.c1 hi (by omega)
  have HW : Hid (w.alloc (.cells zero14 36) = W) := hW
  obtain ⟨N, hN⟩ : ∃ N, w.heap.size = N := ⟨_, rfl⟩
  have HN : Hid (w.heap.size = N) := hN
  have hb : W.heap[N]? = some (.cells zero14 36 (0, 0)) := by rw [← hW, ← hN]; exact heap_alloc_new w _
  have HK : Hid (Kept (fun k => k < w.heap.size) w W) := kW
  clear hN hY hYW hW kW hi
  go_enter Tryz.func24, Tryz.ntmps24
  go_upto_region 1 with fail
  rw [HW.out, HN.out]
  go_wp2_with (first | (go_at_call 76; refine r.mono ?_; rintro e w2 ⟨rfl, hw2⟩; replace hw2 := hw2.symm; subst hw2) | (refine wpList_store_row rfl 36 _ _ rfl N zero14 rfl rfl 36 zero14 hb info36 rfl (by kernel_rfl) ?_))
  exact bodyPost_ret (res24 _ _ N zero14 rfl rfl (setRow_heap _ _ _ _ _ _ hb) rfl) rfl ⟨rfl, kept_setRow HK.out (by rw [HN.out]; exact Nat.lt_irrefl _) zero14⟩
/-- The topmost node above one. -/
inductive TopOf (M : Dm) : Nat → Nat → Prop
  | here {k : Nat} : (M.pl k).up = -1 → TopOf M k k
  | up {k m t : Nat} : (M.pl k).up = (m : Int) → TopOf M m t → TopOf M k t
theorem TopOf.one {M : Dm} {k t u : Nat} (h : TopOf M k t) : TopOf M k u → t = u := by
  induction h with
  | here h0 =>
    intro h
    cases h with
    | here _ => rfl
    | up e _ => omega
  | up e _ ih =>
    intro h
    cases h with
    | here h0 => omega
    | up e' h' =>
      have := e.symm.trans e'
      injection this with this
      subst this
      exact ih h'
set_option maxRecDepth 20000 in
set_option maxHeartbeats 1000000 in
theorem oroot_any (K : Nat → Prop) (p i : Nat) (M : Dm) (R : Nat → List Nat) (rk : Nat → Nat) (w : World) (h : DX K w p M) (hG : Good M R rk) (hi : i < M.n) (hn : M.n ≤ 1000000) :
    Calls Tryz.prog 26 #[.pointer (some ⟨p, 0, none⟩), .int .i64 (i : Int)] w fun e w' => ∃ t, t < M.n ∧ TopOf M i t ∧ e = .returned (.int .i64 (t : Int)) ∧ Kept (fun k => k < w.heap.size) w w' := by
  have rn := fun (j : Nat) (hj : j < M.n) (X : World) (hk : Kept (fun k => k < w.heap.size) w X) => node_any K p j M R X (h.kept hk) hG.wf hj hn hG.few
  have r1 := rn i hi w (Kept.refl _ _)
  have HG : Hid (Good M R rk) := hG
  have HRN : Hid (∀ (j : Nat) (hj : j < M.n) (X : World) (hk : Kept (fun k => k < w.heap.size) w X), Calls Tryz.prog 24 #[.pointer (some ⟨p, 0, none⟩), .int .i64 (j : Int)] X fun e w' => Told X (M.nd j) (M.pl j).up (R j) e w') := rn
  clear rn h hG
  go_enter Tryz.func26, Tryz.ntmps26
  go_wp2_with fail
  refine r1.mono ?_
  rintro e v1 ⟨ao1, ac1, ko1, kc1, rfl, -, -, hK1⟩
  obtain ⟨cs, hcs⟩ : ∃ cs : Array Value, outC (M.nd i).kind ⟨(M.nd i).name.toArray⟩ ⟨(M.nd i).data.toArray⟩ ao1 (M.nd i).attrs.length ac1 (M.pl i).up ko1 (R i).length kc1 (M.nd i).shadow (M.nd i).host (M.nd i).content (M.nd i).fl = cs := ⟨_, rfl⟩
  obtain ⟨N, hN⟩ : ∃ N, v1.heap.size = N := ⟨_, rfl⟩
  obtain ⟨V, hV⟩ : ∃ V, v1.alloc (.cells (outC (M.nd i).kind ⟨(M.nd i).name.toArray⟩ ⟨(M.nd i).data.toArray⟩ ao1 (M.nd i).attrs.length ac1 (M.pl i).up ko1 (R i).length kc1 (M.nd i).shadow (M.nd i).host (M.nd i).content (M.nd i).fl) 36) = V := ⟨_, rfl⟩
  have kV : Kept (fun k => k < v1.heap.size) v1 V := by rw [← hV]; exact (Kept.refl _ v1).alloc (fun _ h => h) _
  have HKV : Hid (Kept (fun k => k < w.heap.size) w V) := hK1.trans (kV.mono fun k h => Nat.lt_of_lt_of_le h hK1.size)
  have HNw : Hid (w.heap.size ≤ N) := by rw [← hN]; exact hK1.size
  have hb : V.heap[N]? = some (.cells cs 36 (0, 0)) := by rw [← hV, ← hN, ← hcs]; exact heap_alloc_new v1 _
  have HB : Hid (V.heap[N]? = some (.cells cs 36 (0, 0)) ∧ cs.size = 14 ∧ cs[4]? = some (.int .i64 (M.pl i).up)) := ⟨hb, by rw [← hcs]; rfl, by rw [← hcs]; rfl⟩
  have HV : Hid (v1.alloc (.cells (outC (M.nd i).kind ⟨(M.nd i).name.toArray⟩ ⟨(M.nd i).data.toArray⟩ ao1 (M.nd i).attrs.length ac1 (M.pl i).up ko1 (R i).length kc1 (M.nd i).shadow (M.nd i).host (M.nd i).content (M.nd i).fl) 36) = V) := hV
  have HN : Hid (v1.heap.size = N) := hN
  clear hcs hN hV kV hK1 hb r1
  go_upto_region 4 with fail
  rw [HV.out, HN.out]
  clear HV HN
  go_loopg [1] (rk i) (fun gh v wr => ∃ (j : Nat) (cs : Array Value), gh = rk j ∧ v = .int .i64 (j : Int) ∧ j < M.n ∧ (∀ t, TopOf M j t → TopOf M i t) ∧ wr.heap[N]? = some (.cells cs 36 (0, 0)) ∧ cs.size = 14 ∧ cs[4]? = some (.int .i64 (M.pl j).up) ∧ Kept (fun k => k < w.heap.size) w wr)
  case atStart => exact ⟨i, cs, rfl, rfl, hi, fun _ h => h, HB.out.1, HB.out.2.1, HB.out.2.2, HKV.out⟩
  case round =>
    clear HB HKV
    obtain ⟨j, cs, hgj, rfl, hj, hT, hb, hs, h4, hK⟩ := hrel
    have c4 : wr.cell? ⟨N, 4, none⟩ = some (.int .i64 (M.pl j).up) := by rw [cell_block hb]; exact h4
    have HT : Hid (∀ t, TopOf M j t → TopOf M i t) := hT
    have HB : Hid (wr.heap[N]? = some (.cells cs 36 (0, 0)) ∧ cs.size = 14) := ⟨hb, hs⟩
    have HK : Hid (Kept (fun k => k < w.heap.size) w wr) := hK
    rcases HG.out.wf.inn j hj with h0 | ⟨u, hu, hup, -⟩
    · rw [h0] at c4
      have H0 : Hid ((M.pl j).up = -1) := h0
      clear hT hb hs h4 hK h0
      go_wp2
      go_ret
      exact ⟨j, hj, HT.out j (.here H0.out), rfl, HK.out⟩
    · have HUP : Hid ((M.pl j).up = (u : Int)) := hup
      have e1 : ((u : Int) == -1) = false := by simp
      have r2 := HRN.out u hu wr hK
      have hrk : rk u < rk j := by
        rcases HG.out.acy j hj with h1 | ⟨m, _, h2, h3⟩
        · unfold parI at h1; rw [if_neg (by omega)] at h1; omega
        · unfold parI at h2
          rw [if_neg (by omega), hup] at h2
          injection h2 with h2
          subst h2
          exact h3
      rw [hup] at c4
      clear hT hb hs h4 hK hup
      go_upto_region 6 with fail
      go_wp2_with fail
      refine r2.mono ?_
      rintro e v2 ⟨ao2, ac2, ko2, kc2, rfl, -, -, hK2⟩
      obtain ⟨cs2, hcs2⟩ : ∃ cs2 : Array Value, outC (M.nd u).kind ⟨(M.nd u).name.toArray⟩ ⟨(M.nd u).data.toArray⟩ ao2 (M.nd u).attrs.length ac2 (M.pl u).up ko2 (R u).length kc2 (M.nd u).shadow (M.nd u).host (M.nd u).content (M.nd u).fl = cs2 := ⟨_, rfl⟩
      have hone : cs2.all (·.oneCell') = true := by rw [← hcs2]; exact outC_one _ _ _ _ _ _ _ _ _ _ _ _ _ _
      have hs2 : cs2.size = 14 := by rw [← hcs2]; rfl
      have h42 : cs2[4]? = some (.int .i64 (M.pl u).up) := by rw [← hcs2]; rfl
      have hb2 : v2.heap[N]? = some (.cells cs 36 (0, 0)) := by rw [hK2.block N (lt_block HB.out.1)]; exact HB.out.1
      have hI : (Tryz.prog.info? 36).map (·.size) = some cs2.size := by rw [hs2]; exact info36
      have hold : cs.size = cs2.size := by rw [hs2]; exact HB.out.2
      have HB2 : Hid ((v2.setRow N cs2).heap[N]? = some (.cells cs2 36 (0, 0)) ∧ cs2.size = 14 ∧ cs2[4]? = some (.int .i64 (M.pl u).up)) := ⟨setRow_heap _ _ _ _ _ _ hb2, hs2, h42⟩
      have HK2 : Hid (Kept (fun k => k < w.heap.size) w (v2.setRow N cs2)) := kept_setRow (HK.out.trans (hK2.mono fun k h => Nat.lt_of_lt_of_le h HK.out.size)) (by have := HNw.out; omega) cs2
      rw [hcs2]
      clear hcs2 hs2 h42 hK2 r2 c4
      go_wp2_with (refine wpList_store_row rfl 36 _ _ rfl N cs2 rfl rfl 36 cs hb2 hI hold hone ?_)
      go_roundg (rk u)
      case rel => exact ⟨u, cs2, rfl, rfl, hu, fun t ht => HT.out t (.up HUP.out ht), HB2.out.1, HB2.out.2.1, HB2.out.2.2, HK2.out⟩
      case measure => omega
set_option maxRecDepth 20000 in
theorem oroot_none (K : Nat → Prop) (p : Nat) (i : Int) (M : Dm) (w : World) (h : DX K w p M) (hi : i < 0 ∨ (M.n : Int) ≤ i) (hn : M.n ≤ 1000000) :
    Calls Tryz.prog 26 #[.pointer (some ⟨p, 0, none⟩), .int .i64 i] w fun e w' => e = .returned (.int .i64 (-1)) ∧ Kept (fun k => k < w.heap.size) w w' := by
  have r1 := node_none K p M i w h hi hn
  clear h hi
  go_enter Tryz.func26, Tryz.ntmps26
  go_wp2_with fail
  refine r1.mono ?_
  rintro e v1 ⟨rfl, hK1⟩
  have HK : Hid (∀ o, Kept (fun k => k < w.heap.size) w (v1.alloc o)) := fun o => hK1.alloc (fun k h => Nat.lt_of_lt_of_le h hK1.size) o
  clear r1 hK1
  go_wp2
  go_ret
  exact ⟨rfl, HK.out _⟩
/-- What Of tells of a node. -/
inductive OfOf (M : Dm) (i : Nat) : Int → Prop
  | yes {t : Nat} : TopOf M i t → (M.nd t).kind = 5 → OfOf M i (t : Int)
  | no {t : Nat} : TopOf M i t → (M.nd t).kind ≠ 5 → OfOf M i (-1)
theorem OfOf.one {M : Dm} {i : Nat} {a b : Int} (h : OfOf M i a) (h' : OfOf M i b) : a = b := by
  cases h with
  | yes t1 k1 => cases h' with
    | yes t2 k2 => rw [t1.one t2]
    | no t2 k2 => rw [t1.one t2] at k1; exact absurd k1 k2
  | no t1 k1 => cases h' with
    | yes t2 k2 => rw [t1.one t2] at k1; exact absurd k2 k1
    | no t2 k2 => rfl


/-- What Open tells of a node. -/
def openI (M : Dm) (i : Nat) : Int := if (M.nd i).shadow = -1 then -1 else if (M.nd (M.nd i).shadow.toNat).fl.a = true then -1 else (M.nd i).shadow

end Go.Proofs.YtbhfnbplbkncmaaGreat

namespace Go.Proofs.YtbhfnbplbkncmaaGreat
open Go.RowKit Go.Sort
set_option linter.unusedVariables false
theorem res106 (tmps : Array Value) (w : World) (g : Nat) (cs : Array Value) (h4 : tmps.getD 4 undef = .pointer (some ⟨g, 0, none⟩)) {u : Value} (h5 : tmps.getD 5 undef = u) (hg : w.heap[g]? = some (.cells cs 36)) (hc : cs.size = 14) :
    (results Tryz.f106 tmps).run Tryz.prog w = .ok (.tuple #[.agg cs, u]) w := by
  rw [results_cell_tmp (p := 4) (u := 5) (ty := 36) Tryz.results106, h4, h5]
  simp only [asAddr, Sem.run_pure, Result.andThen_ok, run_loadVar_row w g 36 36 cs _ _ hg Tryz.underlying36 rfl (by rw [hc]; exact info36)]
set_option maxRecDepth 20000 in
set_option maxHeartbeats 1000000 in
theorem rnode_none (K : Nat → Prop) (p : Nat) (M : Dm) (R G : Nat → List Nat) (i : Int) (w : World) (h : RX K w p M R G) (hi : i < 0 ∨ (M.n : Int) ≤ i) :
    Calls Tryz.prog 106 #[.pointer (some ⟨p, 0, none⟩), .int .i64 i] w fun e w' => e = .returned (.tuple #[.agg zero14, .int .i64 80]) ∧ Kept (fun k => k < w.heap.size) w w' := by
  obtain ⟨W, hW⟩ : ∃ W, w.alloc (.cells zero14 36) = W := ⟨_, rfl⟩
  have kW : Kept (fun k => k < w.heap.size) w W := by rw [← hW]; exact (Kept.refl _ w).alloc (fun _ h => h) _
  have rt := rthere_any K p M R G i W (h.kept kW)
  rw [there_no hi] at rt
  have HW : Hid (w.alloc (.cells zero14 36) = W) := hW
  obtain ⟨N, hN⟩ : ∃ N, w.heap.size = N := ⟨_, rfl⟩
  have HN : Hid (w.heap.size = N) := hN
  have hb : W.heap[N]? = some (.cells zero14 36 (0, 0)) := by rw [← hW, ← hN]; exact heap_alloc_new w _
  have HK : Hid (Kept (fun k => k < w.heap.size) w W) := kW
  clear hN hW kW hi h
  go_enter Tryz.func106, Tryz.ntmps106
  go_upto_region 1 with fail
  rw [HW.out, HN.out]
  go_wp2_with (first | (go_at_call 148; refine rt.mono ?_; rintro e w1 ⟨rfl, hw1⟩; replace hw1 := hw1.symm; subst hw1) | (refine wpList_store_row rfl 36 _ _ rfl N zero14 rfl rfl 36 zero14 hb info36 rfl (by kernel_rfl) ?_))
  exact bodyPost_ret (res106 _ _ N zero14 rfl rfl (setRow_heap _ _ _ _ _ _ hb) rfl) rfl ⟨rfl, kept_setRow HK.out (by rw [HN.out]; exact Nat.lt_irrefl _) zero14⟩
end Go.Proofs.YtbhfnbplbkncmaaGreat
