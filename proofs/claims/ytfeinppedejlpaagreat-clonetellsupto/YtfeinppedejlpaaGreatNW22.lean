/-
 The document's own gives.; The document's own SameInts, SameAttrs.; The program's Slot and Given.; A node is put at the end of its own row of gifts.; What is given, in rows and in links (pure).; The document's own Give: a row of what is given grows.
-/
import Derived.Test.YtfeinppedejlpaaGreatNW21
import Derived.Test.YtfeinppedejlpaaGreatNB19
import Derived.Test.YtfeinppedejlpaaGreatNB16
import Derived.Test.YtfeinppedejlpaaGreatNB12
import Derived.Laws.StructEq
namespace Go.Proofs.YtfeinppedejlpaaGreat
variable {J : Nat -> Prop}
set_option linter.unusedVariables false
set_option maxRecDepth 100000
set_option maxHeartbeats 8000000
section
open Go.RowKit Go.Sort
def Zbo (F : Nat -> Prop) (w : World) (ka : Option Addr) (l : List Int) : Prop :=
 ∀ j (h : j < l.length), ∃ g o, ka = some ⟨g, o, none⟩ /\ F g /\ w.cell? ⟨g, o + j, none⟩ = some (.int .i64 l[j])
theorem Zbo.kept {F F' : Nat -> Prop} {w w' : World} {ka : Option Addr} {l : List Int} (h : Zbo F w ka l) (hk : Kept F w w') (hF : ∀ g, F g -> F' g) : Zbo F' w' ka l := fun j hj => by
 obtain ⟨g, o, e, hf, hc⟩ := h j hj
 exact ⟨g, o, e, hF g hf, (hk.cell (p := ⟨g, o + j, none⟩) hf).trans hc⟩
def inN (n : Nat) (x : Int) : Prop := 0 <= x /\ x < (n : Int)
def shows (M : Dm) (x : Int) : Prop := (M.nd x.toNat).kind = 1 \/ (M.nd x.toNat).kind = 2
structure Gives (M : Dm) (slot : Int) (l : List Int) (z : Int) : Prop where
 gNone : ¬ inN M.n slot -> z = 80
 gOne : inN M.n slot -> (∃ x ∈ l, ¬ inN M.n x) -> z = 80
 gSlot : inN M.n slot -> (∀ x ∈ l, inN M.n x) -> ((M.nd slot.toNat).kind ≠ 1 \/ (M.nd slot.toNat).name ≠ zeg) -> z = 110
 gShow : inN M.n slot -> (∀ x ∈ l, inN M.n x) -> (M.nd slot.toNat).kind = 1 -> (M.nd slot.toNat).name = zeg -> (∃ x ∈ l, ¬ shows M x) -> z = 81
 gMany : inN M.n slot -> (∀ x ∈ l, inN M.n x) -> (M.nd slot.toNat).kind = 1 -> (M.nd slot.toNat).name = zeg -> (∀ x ∈ l, shows M x) -> 200 < l.length -> z = 1
 gOk : inN M.n slot -> (∀ x ∈ l, inN M.n x) -> (M.nd slot.toNat).kind = 1 -> (M.nd slot.toNat).name = zeg -> (∀ x ∈ l, shows M x) -> l.length <= 200 -> z = 0
theorem ziu (K : Nat -> Prop) (p : Nat) (M : Dm) (R G : Nat -> List Nat) (slot : Int) (ao : Option Addr) (n c : Nat) (w : World) (h : RX K J w p M R G) (hi : slot < 0 \/ (M.n : Int) <= slot) :
  Calls Tryz.prog 182 #[.pointer (some ⟨p, 0, none⟩), .int .i64 slot, .slice ao n c] w fun e w' => e = .returned (.int .i64 80) /\ w' = w := by
 have rt := zae K p M R G slot w h
 rw [zbv hi] at rt
 clear h hi
 go_enter Tryz.func182, Tryz.ntmps182
 go_wp2_with (go_at_call 160; refine rt.mono ?_; rintro e1 w3 ⟨rfl, hw3⟩; replace hw3 := hw3.symm; subst hw3)
 go_ret
 exact ⟨rfl, rfl⟩
theorem zhq (K : Nat -> Prop) (p slot : Nat) (M : Dm) (R G : Nat -> List Nat) (l : List Int) (ao : Option Addr) (n c : Nat) (w : World) (h : RX K J w p M R G) (hs : slot < M.n) (hn : M.n <= 1000000) (hln : l.length = n) (hnn : n <= 1000000) (hl : Zbo (fun k => k < w.heap.size) w ao l) (z : Int) (hz : Gives M (slot : Int) l z) :
  Calls Tryz.prog 182 #[.pointer (some ⟨p, 0, none⟩), .int .i64 (slot : Int), .slice ao n c] w fun e w' => e = .returned (.int .i64 z) /\ Kept (fun k => k < w.heap.size) w w' := by
 have hin : inN M.n (slot : Int) := ⟨by omega, by omega⟩
 have rt := zae K p M R G (slot : Int) w h
 rw [zal hs] at rt
 have HX : Hid (RX K J w p M R G) := h
 have HZ : Hid (Gives M (slot : Int) l z) := hz
 have HI : Hid (inN M.n (slot : Int)) := hin
 have HL : Hid (Zbo (fun k => k < w.heap.size) w ao l) := hl
 have HLN : Hid (l.length = n) := hln
 obtain ⟨A, hY⟩ := h
 obtain ⟨g, hg, -, -, hgl⟩ := hY.nat (by omega)
 have c1 := hY.c1
 rw [hg] at c1
 have HY : Hid (RY K J w p M R G A) := hY
 have HG : Hid (A.na = some ⟨g, 0, none⟩) := hg
 clear hY hg hz hin hl hln
 go_enter Tryz.func182, Tryz.ntmps182
 go_wp2_with fail
 refine rt.mono ?_
 rintro e1 w3 ⟨rfl, hw3⟩
 replace hw3 := hw3.symm
 subst hw3
 clear rt
 go_upto_region 4 with fail
 go_loopg [7] n (fun gh v wr => ∃ k : Nat, gh = n - k /\ k <= n /\ v = .int .i64 (k : Int) /\ (∀ x ∈ l.take k, inN M.n x) /\ wr = w)
 case atStart => exact ⟨0, rfl, Nat.zero_le _, rfl, fun x hx => (by cases hx), rfl⟩
 case round =>
  obtain ⟨k, hgk, hk, rfl, hno, rfl⟩ := hrel
  have HNO : Hid (∀ x ∈ l.take k, inN M.n x) := hno
  clear hno
  by_cases hlt : k < n
  ·have hkl : k < l.length := by rw [HLN.out]; exact hlt
   obtain ⟨g1, o1, rfl, -, d0⟩ := HL.out k hkl
   obtain ⟨y, hy⟩ : ∃ y, l[k] = y := ⟨_, rfl⟩
   rw [hy] at d0
   have HYY : Hid (l[k] = y) := hy
   have rt := zae K p M R G y wr HX.out
   clear hy
   by_cases e : inN M.n y
   ·rw [decide_eq_true e.1, decide_eq_true e.2] at rt
    have HE : Hid (inN M.n y) := e
    clear e
    go_wp2_with fail
    refine rt.mono ?_
    rintro e1 w3 ⟨rfl, hw3⟩
    replace hw3 := hw3.symm
    subst hw3
    clear rt
    go_wp2
    go_roundg (n - (k + 1))
    case rel =>
     refine ⟨k + 1, rfl, by omega, by go_num, fun x hx => ?_, rfl⟩
     rw [List.take_succ_eq_append_getElem hkl] at hx
     rcases List.mem_append.1 hx with hx | hx
     ·exact HNO.out x hx
     ·rw [List.mem_singleton.1 hx, HYY.out]; exact HE.out
    case measure => omega
   ·have e2 : (decide (0 <= y) && decide (y < (M.n : Int))) = false := by
     by_cases h0 : 0 <= y
     ·rw [decide_eq_true h0, decide_eq_false (fun h1 => e ⟨h0, h1⟩)]; rfl
     ·rw [decide_eq_false h0]; rfl
    rw [e2] at rt
    have HE : Hid (¬ inN M.n y) := e
    clear e e2
    go_wp2_with fail
    refine rt.mono ?_
    rintro e1 w3 ⟨rfl, hw3⟩
    replace hw3 := hw3.symm
    subst hw3
    clear rt
    go_wp2
    go_ret
    have := HZ.out.gOne HI.out ⟨y, by rw [<- HYY.out]; exact List.getElem_mem _, HE.out⟩
    rw [this]
    exact ⟨rfl, Kept.refl _ _⟩
  ·have hkn : n = k := by omega
   subst hkn
   have HALL : Hid (∀ x ∈ l, inN M.n x) := fun x hx => HNO.out x (by rw [List.take_of_length_le (by rw [HLN.out]; exact Nat.le_refl _)]; exact hx)
   have s0 : wr.cell? ⟨g, slot * 14, none⟩ = some (.int .u8 ((M.nd slot).kind : Int)) := HY.out.cell HG.out hs 0 _ rfl
   have s1 : wr.cell? ⟨g, slot * 14 + 1, none⟩ = some (sv (M.nd slot).name) := HY.out.cell HG.out hs 1 _ rfl
   obtain ⟨kd, hkd⟩ : ∃ kd, (M.nd slot).kind = kd := ⟨_, rfl⟩
   obtain ⟨S, hS⟩ : ∃ S : ByteArray, (⟨(M.nd slot).name.toArray⟩ : ByteArray) = S := ⟨_, rfl⟩
   have hSl : S.toList = (M.nd slot).name := by rw [<- hS, ByteArray.toList_eq]
   unfold sv at s1
   rw [hkd] at s0
   rw [hS] at s1
   obtain ⟨q, hq⟩ : ∃ q, (S.toList == ([115, 108, 111, 116] : List UInt8)) = q := ⟨_, rfl⟩
   have HKD : Hid ((M.nd slot).kind = kd) := hkd
   have HSL : Hid (S.toList = (M.nd slot).name) := hSl
   have HQ : Hid ((S.toList == ([115, 108, 111, 116] : List UInt8)) = q) := hq
   clear HNO hkd hS hSl
   by_cases k1 : kd = 1
   ·subst k1
    have s0k : wr.cell? ⟨g, slot * 14, none⟩ = some (.int .u8 1) := s0
    clear s0
    cases q with
    | false =>
     go_wp2
     go_ret
     have := HZ.out.gSlot HI.out HALL.out (.inr (by
      rw [Int.toNat_natCast, <- HSL.out]
      intro e
      have := HQ.out
      rw [e] at this
      simp [zeg] at this))
     rw [this]
     exact ⟨rfl, Kept.refl _ _⟩
    | true =>
     have HNM : Hid ((M.nd slot).name = zeg) := by
      rw [<- HSL.out]
      have := HQ.out
      rw [beq_iff_eq] at this
      rw [this]
      exact (show Hid _ from rfl)
     have hpl : p < wr.heap.size := HY.out.plt
     obtain ⟨W0, hW0⟩ : ∃ W0, W0 = wr := ⟨_, rfl⟩
     subst hW0
     go_upto_region 11 with fail
     go_loopg [8] n (fun gh v wr' => ∃ k : Nat, gh = n - k /\ k <= n /\ v = .int .i64 (k : Int) /\ (∀ x ∈ l.take k, shows M x) /\ Kept (fun k => k < W0.heap.size) W0 wr')
     case atStart => exact ⟨0, rfl, Nat.zero_le _, rfl, fun x hx => (by cases hx), Kept.refl _ _⟩
     case round =>
      obtain ⟨k, hgk2, hk2, rfl, hno, hKk⟩ := hrel
      have HKk : Hid (Kept (fun k => k < W0.heap.size) W0 wr) := hKk
      have c1w : wr.cell? ⟨p, 1, none⟩ = some (.slice (some ⟨g, 0, none⟩) M.n A.nc) := (hKk.cell (p := ⟨p, 1, none⟩) hpl).trans c1
      have HNO : Hid (∀ x ∈ l.take k, shows M x) := hno
      clear hno
      by_cases hlt2 : k < n
      ·have hkl : k < l.length := by rw [HLN.out]; exact hlt2
       obtain ⟨g1, o1, rfl, hg1, d0⟩ := HL.out k hkl
       obtain ⟨y, hy, hyn⟩ : ∃ y : Nat, l[k] = (y : Int) /\ y < M.n := by
        have := HALL.out l[k] (List.getElem_mem _)
        exact ⟨l[k].toNat, by have h1 := this.1; omega, by have h1 := this.1; have h2 := this.2; omega⟩
       rw [hy] at d0
       have d0w : wr.cell? ⟨g1, o1 + k, none⟩ = some (.int .i64 (y : Int)) := (hKk.cell (p := ⟨g1, o1 + k, none⟩) hg1).trans d0
       have HYY : Hid (l[k] = (y : Int)) := hy
       have y0 := HY.out.cell HG.out hyn 0 _ rfl
       have y0' : wr.cell? ⟨g, y * 14, none⟩ = some (.int .u8 ((M.nd y).kind : Int)) := (hKk.cell (p := ⟨g, y * 14, none⟩) hgl).trans y0
       obtain ⟨ky, hky⟩ : ∃ ky, (M.nd y).kind = ky := ⟨_, rfl⟩
       rw [hky] at y0'
       have HKY : Hid ((M.nd y).kind = ky) := hky
       clear hy y0 hky d0 hKk
       by_cases q1 : ky = 1
       ·subst q1
        have y0k : wr.cell? ⟨g, y * 14, none⟩ = some (.int .u8 1) := y0'
        clear y0'
        go_upto_region 13 with fail
        go_quiet (fail)
        go_wp2
        go_roundg (n - (k + 1))
        case rel =>
         refine ⟨k + 1, rfl, by omega, by go_num, fun x hx => ?_, HKk.out.drewN _⟩
         rw [List.take_succ_eq_append_getElem hkl] at hx
         rcases List.mem_append.1 hx with hx | hx
         ·exact HNO.out x hx
         ·rw [List.mem_singleton.1 hx, HYY.out]; exact .inl (by rw [Int.toNat_natCast]; exact HKY.out)
        case measure => omega
       by_cases q2 : ky = 2
       ·subst q2
        have y0k : wr.cell? ⟨g, y * 14, none⟩ = some (.int .u8 2) := y0'
        clear y0'
        go_upto_region 13 with fail
        go_quiet (fail)
        go_wp2
        go_roundg (n - (k + 1))
        case rel =>
         refine ⟨k + 1, rfl, by omega, by go_num, fun x hx => ?_, HKk.out.drewN _⟩
         rw [List.take_succ_eq_append_getElem hkl] at hx
         rcases List.mem_append.1 hx with hx | hx
         ·exact HNO.out x hx
         ·rw [List.mem_singleton.1 hx, HYY.out]; exact .inr (by rw [Int.toNat_natCast]; exact HKY.out)
        case measure => omega
       have m1 : ((ky : Int) != 1) = true := by simp; omega
       have m2 : ((ky : Int) != 2) = true := by simp; omega
       have HNS : Hid (¬ shows M (y : Int)) := fun c => by
        rcases c with c | c
        ·rw [Int.toNat_natCast, HKY.out] at c; exact q1 c
        ·rw [Int.toNat_natCast, HKY.out] at c; exact q2 c
       clear q1 q2
       go_upto_region 13 with fail
       go_quiet (fail)
       go_wp2
       go_ret
       have := HZ.out.gShow HI.out HALL.out (by rw [Int.toNat_natCast]; exact HKD.out) (by rw [Int.toNat_natCast]; exact HNM.out) ⟨(y : Int), by rw [<- HYY.out]; exact List.getElem_mem _, HNS.out⟩
       rw [this]
       exact ⟨rfl, HKk.out.drewN _⟩
      ·have hkn : n = k := by omega
       subst hkn
       have HSH : Hid (∀ x ∈ l, shows M x) := fun x hx => HNO.out x (by rw [List.take_of_length_le (by rw [HLN.out]; exact Nat.le_refl _)]; exact hx)
       by_cases q3 : 200 < n
       ·have m3 : decide ((n : Int) > 200) = true := decide_eq_true (by omega)
        go_wp2
        go_ret
        have := HZ.out.gMany HI.out HALL.out (by rw [Int.toNat_natCast]; exact HKD.out) (by rw [Int.toNat_natCast]; exact HNM.out) HSH.out (by rw [HLN.out]; exact q3)
        rw [this]
        exact ⟨rfl, HKk.out⟩
       ·have m3 : decide ((n : Int) > 200) = false := decide_eq_false (by omega)
        go_wp2
        go_ret
        have := HZ.out.gOk HI.out HALL.out (by rw [Int.toNat_natCast]; exact HKD.out) (by rw [Int.toNat_natCast]; exact HNM.out) HSH.out (by rw [HLN.out]; omega)
        rw [this]
        exact ⟨rfl, HKk.out⟩
   ·have n1 : ((kd : Int) != 1) = true := by simp; omega
    have HK1 : Hid (kd ≠ 1) := k1
    clear k1
    go_wp2
    go_ret
    have := HZ.out.gSlot HI.out HALL.out (.inl (by rw [Int.toNat_natCast, HKD.out]; exact HK1.out))
    rw [this]
    exact ⟨rfl, Kept.refl _ _⟩
end
section
open Go.RowKit Go.Sort
theorem zb3 (a b : List Nat) (aa ba : Option Addr) (an bn ac bc : Nat) (han : a.length = an) (hbn : b.length = bn) (ha1 : an <= 1000000) (hb1 : bn <= 1000000) (w : World) (ha : Zan (fun k => k < w.heap.size) w aa a) (hb : Zan (fun k => k < w.heap.size) w ba b) :
  Calls Tryz.prog 18 #[.slice aa an ac, .slice ba bn bc] w fun e w' => e = .returned (.bool (decide (a = b))) /\ Kept (fun k => k < w.heap.size) w w' := by
 have HA : Hid (Zan (fun k => k < w.heap.size) w aa a) := ha
 have HB : Hid (Zan (fun k => k < w.heap.size) w ba b) := hb
 have HAN : Hid (a.length = an) := han
 have HBN : Hid (b.length = bn) := hbn
 obtain ⟨q, hq⟩ : ∃ q, decide (a = b) = q := ⟨_, rfl⟩
 have HQ : Hid (decide (a = b) = q) := hq
 rw [hq]
 clear ha hb han hbn hq
 by_cases hl : an = bn
 ·subst hl
  go_enter Tryz.func18, Tryz.ntmps18
  go_upto_region 4 with fail
  go_loopg [5] an (fun gh v wr => ∃ k : Nat, gh = an - k /\ k <= an /\ v = .int .i64 (k : Int) /\ a.take k = b.take k /\ Kept (fun k => k < w.heap.size) w wr)
  case atStart => exact ⟨0, rfl, Nat.zero_le _, rfl, rfl, Kept.refl _ _⟩
  case round =>
   obtain ⟨k, hgk, hk, rfl, heq, hKk⟩ := hrel
   have HKk : Hid (Kept (fun k => k < w.heap.size) w wr) := hKk
   have HEQ : Hid (a.take k = b.take k) := heq
   clear heq
   by_cases hlt : k < an
   ·have hka : k < a.length := by rw [HAN.out]; exact hlt
    have hkb : k < b.length := by rw [HBN.out]; exact hlt
    obtain ⟨g1, o1, rfl, hg1, d1⟩ := HA.out k hka
    obtain ⟨g2, o2, rfl, hg2, d2⟩ := HB.out k hkb
    obtain ⟨x, hx⟩ : ∃ x, a[k] = x := ⟨_, rfl⟩
    obtain ⟨y, hy⟩ : ∃ y, b[k] = y := ⟨_, rfl⟩
    rw [hx] at d1
    rw [hy] at d2
    have d1' : wr.cell? ⟨g1, o1 + k, none⟩ = some (.int .i64 (x : Int)) := (hKk.cell (p := ⟨g1, o1 + k, none⟩) hg1).trans d1
    have d2' : wr.cell? ⟨g2, o2 + k, none⟩ = some (.int .i64 (y : Int)) := (hKk.cell (p := ⟨g2, o2 + k, none⟩) hg2).trans d2
    have HXE : Hid (a[k] = x) := hx
    have HYE : Hid (b[k] = y) := hy
    clear hx hy d1 d2 hKk
    by_cases e : x = y
    ·subst e
     have HXE2 : Hid (b[k] = x) := HYE
     go_upto_region 6 with fail
     go_quiet (fail)
     go_wp2
     go_roundg (an - (k + 1))
     case rel =>
      refine ⟨k + 1, rfl, by omega, by go_num, ?_, HKk.out.drewN _⟩
      rw [List.take_succ_eq_append_getElem hka, List.take_succ_eq_append_getElem hkb, HEQ.out, HXE.out, HXE2.out]
     case measure => omega
    ·have e1 : ((x : Int) != (y : Int)) = true := by simp; omega
     have HNE : Hid (x ≠ y) := e
     clear e
     have hq : q = false := by
      rw [<- HQ.out]
      refine decide_eq_false fun c => ?_
      subst c
      exact HNE.out (HXE.out.symm.trans HYE.out)
     subst hq
     go_upto_region 6 with fail
     go_quiet (fail)
     go_wp2
     go_ret
     exact ⟨rfl, HKk.out.drewN _⟩
   ·have hkn : an = k := by omega
    subst hkn
    have hq : q = true := by
     rw [<- HQ.out]
     refine decide_eq_true ?_
     have := HEQ.out
     rw [List.take_of_length_le (by rw [HAN.out]; exact Nat.le_refl _), List.take_of_length_le (by rw [HBN.out]; exact Nat.le_refl _)] at this
     exact this
    subst hq
    clear hKk
    go_wp2
    go_ret
    exact ⟨rfl, HKk.out⟩
 ·have e1 : ((an : Int) != (bn : Int)) = true := by simp; omega
  have HNE : Hid (an ≠ bn) := hl
  clear hl
  have hq : q = false := by
   rw [<- HQ.out]
   refine decide_eq_false fun c => ?_
   subst c
   exact HNE.out (HAN.out.symm.trans HBN.out)
  subst hq
  go_enter Tryz.func18, Tryz.ntmps18
  go_wp2
  go_ret
  exact ⟨rfl, Kept.refl _ _⟩
end
section
open Go.RowKit Go.Sort
theorem zlx (K : Nat -> Prop) (p : Nat) (M : Dm) (i : Int) (w : World) (h : DX K w p M) (hi : i < 0 \/ (M.n : Int) <= i) (hn : M.n <= 1000000) :
  Calls Tryz.prog 124 #[.pointer (some ⟨p, 0, none⟩), .int .i64 i] w fun e w' => e = .returned (.int .i64 (-1)) /\ w' = w := by
 obtain ⟨ga, cap, hY⟩ := h
 have r := zfk p M.n cap ga i w hY.c1 hi (by omega)
 clear hY hi
 go_enter Tryz.func124, Tryz.ntmps124
 go_wp2_with (go_at_call 110; refine r.mono ?_; rintro e1 w3 ⟨rfl, hw3⟩; replace hw3 := hw3.symm; subst hw3)
 go_ret
 exact ⟨rfl, rfl⟩
theorem zk2 (K : Nat -> Prop) (p : Nat) (M : Dm) (i : Int) (w : World) (h : DX K w p M) (hi : i < 0 \/ (M.n : Int) <= i) (hn : M.n <= 1000000) :
  Calls Tryz.prog 123 #[.pointer (some ⟨p, 0, none⟩), .int .i64 i] w fun e w' => e = .returned (.slice none 0 0) /\ w' = w := by
 obtain ⟨ga, cap, hY⟩ := h
 have r := zfk p M.n cap ga i w hY.c1 hi (by omega)
 clear hY hi
 go_enter Tryz.func123, Tryz.ntmps123
 go_wp2_with (go_at_call 110; refine r.mono ?_; rintro e1 w3 ⟨rfl, hw3⟩; replace hw3 := hw3.symm; subst hw3)
 go_ret
 exact ⟨rfl, rfl⟩
theorem zov (K : Nat -> Prop) (p i : Nat) (M : Dm) (G : Nat -> List Nat) (w : World) (h : DX K w p M) (hW : WF M.n M.gf G) (hi : i < M.n) (hn : M.n <= 1000000) :
  Calls Tryz.prog 123 #[.pointer (some ⟨p, 0, none⟩), .int .i64 (i : Int)] w fun e w' => ∃ ao c, e = .returned (.slice ao (G i).length c) /\ Zac (fun k => k < w.heap.size) w' 3 1 ao (G i).length c (ivs (G i)) /\ Kept (fun k => k < w.heap.size) w w' := by
 obtain ⟨ga, cap, hY⟩ := h
 obtain ⟨g, rfl, -, -, -⟩ := hY.at (by omega)
 have r := zcs p g M.n cap i w hY.c1 hi (by omega)
 have rg := zsn K p g cap i M G w hY hW hi hn
 clear hY hW
 go_enter Tryz.func123, Tryz.ntmps123
 go_wp2_with (first | (go_at_call 110; refine r.mono ?_; rintro e1 w3 ⟨rfl, hw3⟩; replace hw3 := hw3.symm; subst hw3) | (go_at_call 180; refine (zhh _ _).mono ?_; rintro e w2 ⟨rfl, hw2⟩; replace hw2 := hw2.symm; subst hw2) | (go_at_call 113; refine rg.mono ?_; rintro e1 w4 ⟨ao, c, rfl, hO, hK⟩))
 go_ret
 exact ⟨ao, c, rfl, hO, hK⟩
end
section
open Go.RowKit
theorem zon {L : Nat -> Lk} {i : Nat} {P : Int} : (in3 L i i (-1) P i).prev = P := by
 unfold in3
 rw [zjl, if_pos rfl, zau, zau]
theorem zo2 {L : Nat -> Lk} {i : Nat} {P : Int} (hP : P = -1 \/ ∃ q : Nat, q ≠ i /\ P = (q : Int)) : in4 L i i (-1) P = inL L i i (-1) P := by
 funext k
 unfold in4 in3 inL
 rw [zjl]
 have e1 : ¬ ((k : Int) = -1) := by omega
 rcases hP with rfl | ⟨q, hq, rfl⟩ <;> unfold zaw
 ·by_cases c : k = i
  ·subst c
   simp [*]
  ·simp [*]
 ·have e2 : ¬ ((q : Int) = -1) := by omega
  by_cases c : k = i
  ·subst c
   have : ¬ k = q := fun e => hq e.symm
   simp [*]
  ·by_cases c2 : k = q
   ·subst c2; simp [*]
   ·have : ¬ (k : Int) = (q : Int) := by omega
    simp [*]
theorem zn3 (K : Nat -> Prop) (p g cap i : Nat) (S : Dm) (R : Nat -> List Nat) (w : World) (h : DY K w p S (some ⟨g, 0, none⟩) cap) (hW : WF S.n S.gf R) (hi : i < S.n) (hn : S.n <= 1000000000) :
  Calls Tryz.prog 181 #[chG p, .int .i64 (i : Int), .int .i64 (i : Int), .int .i64 (-1)] w fun e w' => e = .returned (.tuple #[]) /\ DY K w' p (S.setG (zdn S.gf i i (-1))) (some ⟨g, 0, none⟩) cap /\ Kept K w w' := by
 obtain ⟨n, hne⟩ : ∃ n, S.n = n := ⟨_, rfl⟩
 have rt := zgx K p g cap i S R w h hW hi hn
 have hPo := zi7 hW hi hi (bef := -1) (.inl rfl)
 obtain ⟨L, hL⟩ : ∃ L, zct S.gf i = L := ⟨_, rfl⟩
 have hput : zdn S.gf i i (-1) = inL L i i (-1) (zh9 L i (-1)) := by rw [<- hL]; rfl
 rw [hput]
 rw [hL] at rt hPo
 obtain ⟨P, hP⟩ : ∃ P, zh9 L i (-1) = P := ⟨_, rfl⟩
 rw [hP] at hPo ⊢
 have hP2 : P = -1 \/ ∃ q : Nat, q ≠ i /\ P = (q : Int) := by
  rcases hPo with hb | ⟨m, _, h2, h3⟩
  ·exact .inl hb
  ·exact .inr ⟨m, h2, h3⟩
 have hin4 := zo2 (L := L) hP2
 have hin3 := zon (L := L) (i := i) (P := P)
 rw [<- hin4]
 rw [hne] at hPo hi
 have r1 := fun (j : Nat) (hj : j < n) (X : World) (hX : X.cell? ⟨p, 1, none⟩ = some (.slice (some ⟨g, 0, none⟩) n cap)) => zdh p g n cap j X hX hj (by omega)
 have ri := r1 i hi
 have hgp := h.gk.2.1
 have HNE : Hid (S.n = n) := hne
 have HP : Hid (zh9 L i (-1) = P) := hP
 have HPO : Hid (P = -1 \/ ∃ q : Nat, q < n /\ q ≠ i /\ P = (q : Int)) := hPo
 have H3 : Hid ((in3 L i i (-1) P i).prev = P) := hin3
 clear h hW hL hput hP hne hPo hP2 hin4 hin3
 go_enter Tryz.func181, Tryz.ntmps181
 go_wp2_with fail
 refine rt.mono ?_
 rintro e w1 ⟨rfl, hY1, hK1⟩
 clear rt
 have hiS : i < (S.setG L).n := by show i < S.n; rw [HNE.out]; exact hi
 have c1 : w1.cell? ⟨p, 1, none⟩ = some (.slice (some ⟨g, 0, none⟩) n cap) := by have := hY1.c1; rw [show (S.setG L).n = n from HNE.out] at this; exact this
 obtain ⟨a0, a1, a2, -, -⟩ := hY1.gcell hiS
 have f0 := hY1.fg (i * 22 + 17)
 have f2 := hY1.fg (i * 22 + 19)
 have D1 := hY1.setGup hiS (i : Int)
 have D2 := D1.1.setGnext hiS (-1)
 have e1 : zaw (zaw L i { L i with up := (i : Int) }) i { zaw L i { L i with up := (i : Int) } i with next := -1 } = in1 L i i (-1) := by
  rw [zbz, zau]; rfl
 have D2' : DY K ((w1.setCell ⟨g, i * 22 + 17, none⟩ (.int .i64 (i : Int))).setCell ⟨g, i * 22 + 19, none⟩ (.int .i64 (-1))) p (S.setG (in1 L i i (-1))) (some ⟨g, 0, none⟩) cap := by rw [<- e1]; exact D2.1
 have kk := hK1.trans (D1.2.trans D2.2)
 obtain ⟨W1, hW1⟩ : ∃ W1, ((w1.setCell ⟨g, i * 22 + 17, none⟩ (.int .i64 (i : Int))).setCell ⟨g, i * 22 + 19, none⟩ (.int .i64 (-1))) = W1 := ⟨_, rfl⟩
 rw [hW1] at D2' kk
 have HW1 : Hid (((w1.setCell ⟨g, i * 22 + 17, none⟩ (.int .i64 (i : Int))).setCell ⟨g, i * 22 + 19, none⟩ (.int .i64 (-1))) = W1) := hW1
 have HY2 : Hid (DY K W1 p (S.setG (in1 L i i (-1))) (some ⟨g, 0, none⟩) cap) := D2'
 have HK2 : Hid (Kept K w W1) := kk
 clear hY1 hK1 D1 D2 D2' e1 hW1 kk
 go_upto_if 24 with (go_at_call 238; refine (ri _ ?_).mono ?_; exact c1; rintro e w2 ⟨rfl, rfl⟩)
 rw [HW1.out]
 clear HW1 a0 a1 a2 f0 f2 c1
 have c1 : W1.cell? ⟨p, 1, none⟩ = some (.slice (some ⟨g, 0, none⟩) n cap) := by have := HY2.out.c1; rw [show (S.setG (in1 L i i (-1))).n = n from HNE.out] at this; exact this
 go_cut [] (fun wx => DY K wx p (S.setG (in3 L i i (-1) P)) (some ⟨g, 0, none⟩) cap /\ Kept K w wx)
 case first =>
  have eP : (in1 L i i (-1) i).last = P := by
   unfold in1
   rw [zau, <- HP.out]; rfl
  obtain ⟨-, -, -, -, t4⟩ := HY2.out.gcell (i := i) hiS
  replace t4 : W1.cell? ⟨g, i * 22 + 21, none⟩ = some (.int .i64 P) := by rw [<- eP]; exact t4
  obtain ⟨-, t1, -, -, -⟩ := HY2.out.gcell (i := i) hiS
  have D1 := HY2.out.setGprev (i := i) hiS P
  have f1 := HY2.out.fg (i * 22 + 18)
  have f2 := D1.1.fg (i * 22 + 21)
  have D2 := D1.1.setGlast (i := i) hiS (i : Int)
  obtain ⟨-, -, -, -, t5⟩ := D1.1.gcell (i := i) hiS
  have c2 : (W1.setCell ⟨g, i * 22 + 18, none⟩ (.int .i64 P)).cell? ⟨p, 1, none⟩ = some (.slice (some ⟨g, 0, none⟩) n cap) := by
   rw [World.cell?_setCell_other _ _ _ _ (fun e => by injection e with e1; exact hgp e1)]; exact c1
  have HD : Hid (DY K ((W1.setCell ⟨g, i * 22 + 18, none⟩ (.int .i64 P)).setCell ⟨g, i * 22 + 21, none⟩ (.int .i64 (i : Int))) p (S.setG (in3 L i i (-1) P)) (some ⟨g, 0, none⟩) cap) := D2.1
  have HK : Hid (Kept K w ((W1.setCell ⟨g, i * 22 + 18, none⟩ (.int .i64 P)).setCell ⟨g, i * 22 + 21, none⟩ (.int .i64 (i : Int)))) := HK2.out.trans (D1.2.trans D2.2)
  clear D1 D2 eP HP HPO H3 HNE
  go_wp2_with (first | (go_at_call 238; refine (ri _ ?_).mono ?_; exact c1; rintro e w2 ⟨rfl, hw2⟩; subst hw2) | (go_at_call 238; refine (ri _ ?_).mono ?_; exact c2; rintro e w2 ⟨rfl, hw2⟩; subst hw2))
  go_meet
  case rel => exact ⟨HD.out, HK.out⟩
 case rest =>
  obtain ⟨hY3, hK3⟩ := hcut
  clear c1 HY2 HK2
  have c1 : wc.cell? ⟨p, 1, none⟩ = some (.slice (some ⟨g, 0, none⟩) n cap) := by have := hY3.c1; rw [show (S.setG (in3 L i i (-1) P)).n = n from HNE.out] at this; exact this
  obtain ⟨-, t1, -, -, -⟩ := hY3.gcell (i := i) hiS
  replace t1 : wc.cell? ⟨g, i * 22 + 18, none⟩ = some (.int .i64 P) := by
   rw [show (S.setG (in3 L i i (-1) P)).gf i = in3 L i i (-1) P i from rfl, H3.out] at t1
   exact t1
  by_cases hP1 : P = -1
  ·subst hP1
   obtain ⟨-, -, -, t3, -⟩ := hY3.gcell (i := i) hiS
   have f3 := hY3.fg (i * 22 + 20)
   have D := hY3.setGfirst (i := i) hiS (i : Int)
   have HD : Hid (DY K (wc.setCell ⟨g, i * 22 + 20, none⟩ (.int .i64 (i : Int))) p (S.setG (in4 L i i (-1) (-1))) (some ⟨g, 0, none⟩) cap) := D.1
   have HK : Hid (Kept K w (wc.setCell ⟨g, i * 22 + 20, none⟩ (.int .i64 (i : Int)))) := hK3.trans D.2
   clear D hY3 hK3 HP HPO H3 HNE
   go_wp2_with (go_at_call 238; refine (ri _ ?_).mono ?_; exact c1; rintro e w2 ⟨rfl, hw2⟩; subst hw2)
   go_end0
   exact ⟨rfl, HD.out, HK.out⟩
  ·rcases HPO.out with e0 | ⟨q, hq, hqi, e0⟩
   ·exact absurd e0 hP1
   subst e0
   have eb : ¬ ((q : Int) = -1) := hP1
   have hqS : q < (S.setG L).n := by show q < S.n; rw [HNE.out]; exact hq
   obtain ⟨-, -, t3, -, -⟩ := hY3.gcell (i := q) hqS
   have f3 := hY3.fg (q * 22 + 19)
   have D := hY3.setGnext (i := q) hqS (i : Int)
   have e4 : in4 L i i (-1) (q : Int) = zaw (in3 L i i (-1) (q : Int)) q { in3 L i i (-1) (q : Int) q with next := (i : Int) } := by
    unfold in4
    rw [if_neg eb, Int.toNat_natCast]
   have HD : Hid (DY K (wc.setCell ⟨g, q * 22 + 19, none⟩ (.int .i64 (i : Int))) p (S.setG (in4 L i i (-1) (q : Int))) (some ⟨g, 0, none⟩) cap) := by rw [e4]; exact D.1
   have HK : Hid (Kept K w (wc.setCell ⟨g, q * 22 + 19, none⟩ (.int .i64 (i : Int)))) := hK3.trans D.2
   have hq0 : ((q : Int) == -1) = false := by simp
   have rq := r1 q hq
   clear D hY3 hK3 HP HPO H3 HNE e4 hP1
   go_wp2_with (go_at_call 238; refine (rq _ ?_).mono ?_; exact c1; rintro e w2 ⟨rfl, hw2⟩; subst hw2)
   go_end0
   exact ⟨rfl, HD.out, HK.out⟩
end
section
open Go.RowKit
theorem zm1 (R : Nat -> List Nat) (u : Nat) (a b : List Nat) : zax (zax R u a) u b = zax R u b := by
 funext k
 unfold zax
 by_cases c : k = u
 ·rw [if_pos c, if_pos c]
 ·rw [if_neg c, if_neg c, if_neg c]
theorem zlf (R : Nat -> List Nat) (u : Nat) (a : List Nat) (h : R u = a) : zax R u a = R := by
 funext k
 unfold zax
 by_cases c : k = u
 ·rw [if_pos c, c, h]
 ·rw [if_neg c]
theorem WF.outs {n : Nat} {slot : Nat} (hs : slot < n) : ∀ (Q : List Nat) {L : Nat -> Lk} {G : Nat -> List Nat}, WF n L G -> G slot = Q -> WF n (zcj L Q) (zax G slot [])
 | [], L, G, h, e => by rw [zlf G slot [] e]; exact h
 | q :: r, L, G, h, e => by
  have hq : q ∈ G slot := by rw [e]; exact List.mem_cons_self ..
  have hu := h.up hs hq
  have h1 := h.out (h.lt slot hs q hq)
  have e1 : zcy L G q = zax G slot r := by
   unfold zcy
   rw [if_neg (by omega), hu, Int.toNat_natCast, e, List.erase_cons_head]
  rw [e1] at h1
  have := WF.outs hs r h1 (zaf _ _ _)
  rw [zm1] at this
  exact this
def gsR (slot : Nat) : (Nat -> Lk) -> (Nat -> List Nat) -> List Nat -> Nat -> List Nat
 | _, G, [] => G
 | L, G, x :: r => gsR slot (if (L x).up = (slot : Int) then L else zdn L slot x (-1)) (if (L x).up = (slot : Int) then G else zax (zcy L G x) slot (zcy L G x slot ++ [x])) r
theorem zjf (slot x : Nat) : ∀ (a : List Nat) (L : Nat -> Lk) (G : Nat -> List Nat), gsR slot L G (a ++ [x]) = if (zbi L slot a x).up = (slot : Int) then gsR slot L G a else zax (zcy (zbi L slot a) (gsR slot L G a) x) slot (zcy (zbi L slot a) (gsR slot L G a) x slot ++ [x])
 | [], L, G => rfl
 | y :: r, L, G => zjf slot x r _ _
theorem WF.gs {n : Nat} {slot : Nat} (hs : slot < n) : ∀ (l : List Nat) {L : Nat -> Lk} {G : Nat -> List Nat}, WF n L G -> (∀ i ∈ l, i < n) -> WF n (zbi L slot l) (gsR slot L G l)
 | [], L, G, h, _ => h
 | x :: r, L, G, h, hl => by
  refine WF.gs hs r (L := if (L x).up = (slot : Int) then L else zdn L slot x (-1)) (G := if (L x).up = (slot : Int) then G else zax (zcy L G x) slot (zcy L G x slot ++ [x])) ?_ (fun i hi => hl i (List.mem_cons_of_mem _ hi))
  by_cases c : (L x).up = (slot : Int)
  ·rw [if_pos c, if_pos c]; exact h
  ·rw [if_neg c, if_neg c]
   exact h.putOk hs (hl x (List.mem_cons_self ..)) (.last rfl)
theorem WF.slotA {n : Nat} {L : Nat -> Lk} {G : Nat -> List Nat} (h : WF n L G) {x : Nat} (hx : x < n) : Zhs n G (x : Int) (L x).up := by
 have mem : ∀ t, (x : Int) ∈ (G t).map (fun k : Nat => (k : Int)) ↔ x ∈ G t := fun t => by
  constructor
  ·intro hm
   obtain ⟨y, hy, e⟩ := List.mem_map.1 hm
   have : y = x := by omega
   exact this ▸ hy
  ·exact fun hm => List.mem_map.2 ⟨x, hm, rfl⟩
 rcases h.inn x hx with e | ⟨u, hu, e, hm⟩
 ·rw [e]
  refine .no fun t ht hm => ?_
  have := h.up ht ((mem t).1 hm)
  omega
 ·rw [e]
  refine .yes hu ((mem u).2 hm) fun t ht hm' => ?_
  have := h.one hu (by omega) hm ((mem t).1 hm')
  omega
theorem Zhs.one {n : Nat} {G : Nat -> List Nat} {x z z' : Int} (h : Zhs n G x z) (h' : Zhs n G x z') : z = z' := by
 cases h with
 | no hn =>
  cases h' with
  | no _ => rfl
  | yes hs hm _ => exact absurd hm (hn _ hs)
 | @yes s hs hm ha =>
  cases h' with
  | no hn => exact absurd hm (hn _ hs)
  | @yes s' hs' hm' ha' =>
   rcases Nat.lt_trichotomy s s' with c | c | c
   ·exact absurd hm (ha' _ c)
   ·rw [c]
   ·exact absurd hm' (ha _ c)
end
section
open Go.RowKit Go.Sort
theorem RY.appG {K : Nat -> Prop} {w0 w : World} {p : Nat} {M : Dm} {R G : Nat -> List Nat} {A : RA} (h : RY K J w0 p M R G A) (hk : Kept (fun k => k < w0.heap.size) w0 w) {i q : Nat} (hqa : A.qa = some ⟨q, 0, none⟩) (hi : i < M.n) (hl : (G i).length <= 1000000) (x : Nat) :
  ∃ ga' gc' w', (Builtin.append_ #[33, 33] 33 #[.slice (A.ga i) (G i).length (A.gc i), .slice (some ⟨w.heap.size, 0, none⟩) 1 1]).run Tryz.prog (w.alloc (.cells #[.int .i64 (x : Int)] 3)) = .ok (.slice ga' ((G i).length + 1) gc') w' /\ w'.cell? ⟨p, 2, none⟩ = some (.slice A.qa M.n A.qc) /\ w'.cell? ⟨q, i, none⟩ = some (.slice (A.ga i) (G i).length (A.gc i)) /\ w'.frozen? ⟨q, i, none⟩ = false /\
   RX K J (w'.setCell ⟨q, i, none⟩ (.slice ga' ((G i).length + 1) gc')) p M R (zax G i (G i ++ [x])) /\ Kept K w0 (w'.setCell ⟨q, i, none⟩ (.slice ga' ((G i).length + 1) gc')) := by
 have hY := h.kept hk
 have hg := hY.gown i hi
 have hO : Zac (fun k => k < w.heap.size /\ ¬ zap (A.ga i) k) w 3 1 (A.ga i) (G i).length (A.gc i) (ivs (G i)) := Zac.to hg (fun g hg hh => hh.2 hg) (fun _ _ => rfl)
 obtain ⟨ga', gc', w', hr, hO', hK'⟩ := zow hO (fun k hk => hk.1) (by omega) (x : Int)
 have hp : p < w.heap.size /\ ¬ zap (A.ga i) p := ⟨hY.plt, fun hb => (hg.out hb).1 (.inr (.inl rfl))⟩
 have hqb : zap A.qa q := by rw [hqa]; rfl
 obtain ⟨ys, hq, hy⟩ := hY.qown
 have hqq : q < w.heap.size /\ ¬ zap (A.ga i) q := ⟨(hq.out hqb).2, fun hb => (hg.out hb).1 (.inr (.inr (.inr hqb)))⟩
 have e : (G i).length + 1 = (G i ++ [x]).length := by simp
 have hk2 : Kept (fun k => k < w0.heap.size /\ ¬ zap (A.ga i) k) w0 w' := (hk.mono fun k h => h.1).trans (hK'.mono fun k h => ⟨ltl h.1 hk.size, h.2⟩)
 have hO2 : Zac (fun k => k < w.heap.size /\ ¬ zap (A.ga i) k) w' 3 1 ga' (G i ++ [x]).length gc' (ivs (G i ++ [x])) := by
  rw [<- e, ivs, List.map_append]; exact hO'
 have hnew : ∀ g, zap ga' g -> zap (A.ga i) g \/ w0.heap.size <= g := fun g hg' => by
  by_cases c : zap (A.ga i) g
  ·exact .inl c
  ·exact .inr (Nat.le_trans hk.size (Nat.le_of_not_lt fun hl => (Zac.out hO' hg').1 ⟨hl, c⟩))
 obtain ⟨hY2, hK2⟩ := h.setG hk2 hqa hi (G i ++ [x]) ga' gc' hO2 hnew
 rw [<- e] at hY2 hK2
 exact ⟨ga', gc', w', hr, (hK'.cell (p := ⟨p, 2, none⟩) hp).trans hY.c2, (hK'.cell (p := ⟨q, i, none⟩) hqq).trans (hY.qcell hqa hi), (hK'.frozen (p := ⟨q, i, none⟩) hqq).trans (hY.qfg hqa i), ⟨_, hY2⟩, hK2⟩
end
end Go.Proofs.YtfeinppedejlpaaGreat
