/-
  Attributes by name: named, slices.IndexFunc over attributes, Doc.element.
-/
import Derived.Test.YtbbknbipppaemaaCO
namespace Go.Proofs.Ytbbknbipppaemaa
open Go.RowKit
set_option linter.unusedVariables false

theorem enter45 (args : Array Value) (X : World) : (callFunc 45 args).run Try.prog X = .ok (.enter 45 args) X := entersE Try.func45 (by kernel_rfl) (c := _) rfl args X

set_option maxRecDepth 20000 in
theorem named_any (s : ByteArray) (w : World) :
    Calls Try.prog 29 #[.string s] w fun e w' => e = .returned (.func (.func 45) #[] #[.pointer (some ⟨w.heap.size, 0, none⟩)]) ∧ w' = w.alloc (.cells #[.string s] 9) := by
  go_enter Try.func29, Try.ntmps29
  go_wp2
  go_ret
  exact ⟨rfl, rfl⟩
set_option maxRecDepth 20000 in
theorem named1_any (a v s : ByteArray) (b : Nat) (w : World) (hb : w.cell? ⟨b, 0, none⟩ = some (.string s)) :
    Calls Try.prog 45 #[.agg #[.string a, .string v], .pointer (some ⟨b, 0, none⟩)] w fun e w' => e = .returned (.bool (a.toList == s.toList)) ∧ Kept (fun k => k < w.heap.size) w w' := by
  obtain ⟨W, hW⟩ : ∃ W, w.alloc (.cells #[.string a, .string v] 24) = W := ⟨_, rfl⟩
  have kW : Kept (fun k => k < w.heap.size) w W := by rw [← hW]; exact (Kept.refl _ w).alloc (fun _ h => h) _
  have hbl : b < w.heap.size := World.block_lt_of_cell? w _ hb
  have hbW : W.cell? ⟨b, 0, none⟩ = some (.string s) := (kW.cell (p := ⟨b, 0, none⟩) hbl).trans hb
  have h0 : W.cell? ⟨w.heap.size, 0, none⟩ = some (.string a) := by rw [← hW, cell_block (heap_alloc_new w _)]; rfl
  obtain ⟨q, hq⟩ : ∃ q, (a.toList == s.toList) = q := ⟨_, rfl⟩
  rw [hq]
  have HW : Hid (w.alloc (.cells #[.string a, .string v] 24) = W) := hW
  have HK : Hid (Kept (fun k => k < w.heap.size) w W) := kW
  obtain ⟨N, hN⟩ : ∃ N, w.heap.size = N := ⟨_, rfl⟩
  rw [hN] at h0
  have HN : Hid (w.heap.size = N) := hN
  clear hW kW hb hbl hN
  cases q
  all_goals
    go_enter Try.func45, Try.ntmps45
    go_upto_region 1 with fail
    rw [HW.out, HN.out]
    go_wp2
    go_ret
    exact ⟨rfl, HK.out⟩

set_option maxRecDepth 20000 in
set_option maxHeartbeats 1000000 in
theorem indexA_any (l : List Atr) (n : Nat) (hln : l.length = n) (hn : n ≤ 1000000) (a : Option Addr) (cap b : Nat) (s : ByteArray) (w : World) (hr : AtsAt (fun k => k < w.heap.size) w a l) (hb : w.cell? ⟨b, 0, none⟩ = some (.string s)) :
    Calls Try.prog 28 #[.slice a n cap, .func (.func 45) #[] #[.pointer (some ⟨b, 0, none⟩)]] w fun e w' => ((∃ k, ∃ h : k < l.length, e = .returned (.int .i64 (k : Int)) ∧ l[k].name = s.toList ∧ ∀ x ∈ l.take k, x.name ≠ s.toList) ∨ (e = .returned (.int .i64 (-1)) ∧ ∀ x ∈ l, x.name ≠ s.toList)) ∧ Kept (fun k => k < w.heap.size) w w' := by
  have he := enter45
  have hbl : b < w.heap.size := World.block_lt_of_cell? w _ hb
  have HR : Hid (AtsAt (fun k => k < w.heap.size) w a l) := hr
  have HL : Hid (l.length = n) := hln
  have HB : Hid (w.cell? ⟨b, 0, none⟩ = some (.string s)) := hb
  have HBL : Hid (b < w.heap.size) := hbl
  clear hr hln hb hbl
  go_enter Try.func28, Try.ntmps28
  go_upto_region 2 with fail
  go_loopg [8] n (fun gh v wr => ∃ j : Nat, gh = n - j ∧ j ≤ n ∧ v = .int .i64 (j : Int) ∧ (∀ x ∈ l.take j, x.name ≠ s.toList) ∧ Kept (fun k => k < w.heap.size) w wr)
  case atStart => exact ⟨0, rfl, Nat.zero_le _, rfl, fun x hx => by simp at hx, Kept.refl _ _⟩
  case round =>
    obtain ⟨j, hgj, hj, rfl, hno, hK⟩ := hrel
    by_cases hlt : j < n
    · have hl : j < l.length := by rw [HL.out]; exact hlt
      obtain ⟨g, o, rfl, hg, c0, c1⟩ := HR.out j hl
      have d0 : wr.cell? ⟨g, o + j * 2, none⟩ = some (sv l[j].name) := (hK.cell (p := ⟨g, o + j * 2, none⟩) hg).trans c0
      have d1 : wr.cell? ⟨g, o + j * 2 + 1, none⟩ = some (sv l[j].value) := (hK.cell (p := ⟨g, o + j * 2 + 1, none⟩) hg).trans c1
      have r := named1_any ⟨l[j].name.toArray⟩ ⟨l[j].value.toArray⟩ s b wr ((hK.cell (p := ⟨b, 0, none⟩) HBL.out).trans HB.out)
      have HJ : Hid (l.take (j + 1) = l.take j ++ [l[j]]) := by rw [List.take_add_one, List.getElem?_eq_getElem hl]; rfl
      have HNO : Hid (∀ x ∈ l.take j, x.name ≠ s.toList) := hno
      have HK : Hid (Kept (fun k => k < w.heap.size) w wr) := hK
      rw [ByteArray.toList_eq] at r
      obtain ⟨q, hq⟩ : ∃ q, (l[j].name.toArray.toList == s.toList) = q := ⟨_, rfl⟩
      have hq' : (l[j].name == s.toList) = q := hq
      have HRR : Hid (Calls Try.prog 45 #[.agg #[.string ⟨l[j].name.toArray⟩, .string ⟨l[j].value.toArray⟩], .pointer (some ⟨b, 0, none⟩)] wr fun e w' => e = .returned (.bool q) ∧ Kept (fun k => k < wr.heap.size) wr w') := by rw [← hq]; exact r
      have HQ : Hid ((l[j].name == s.toList) = q) := hq'
      clear c0 c1 r hno hK hq hq'
      unfold sv at d0 d1
      go_wp2_with fail
      refine HRR.out.mono ?_
      rintro e w2 ⟨rfl, hk2⟩
      have HK2 : Hid (Kept (fun k => k < w.heap.size) w w2) := HK.out.trans (hk2.mono fun k h => Nat.lt_of_lt_of_le h HK.out.size)
      clear HRR d0 d1 hk2 he
      cases q with
      | true =>
        go_wp2
        go_ret
        exact ⟨.inl ⟨j, hl, rfl, by simpa using HQ.out, HNO.out⟩, HK2.out⟩
      | false =>
        go_wp2
        go_roundg (n - (j + 1))
        case rel =>
          refine ⟨j + 1, rfl, by omega, by go_num, fun x hx => ?_, HK2.out⟩
          rw [HJ.out] at hx
          rcases List.mem_append.1 hx with h | h
          · exact HNO.out x h
          · rw [List.mem_singleton.1 h]; simpa using HQ.out
        case measure => omega
    · have hjn : n = j := by omega
      subst hjn
      have HNO : Hid (∀ x ∈ l, x.name ≠ s.toList) := fun x hx => hno x (by rw [List.take_of_length_le (by rw [HL.out]; exact Nat.le_refl _)]; exact hx)
      have HK : Hid (Kept (fun k => k < w.heap.size) w wr) := hK
      clear hno hK he
      go_wp2
      go_ret
      exact ⟨.inr ⟨rfl, HNO.out⟩, HK.out⟩

set_option maxRecDepth 20000 in
/-- Doc.element of an element that is there. -/
theorem element_yes (p g n cap i : Nat) (z : Int) (w : World) (hc : w.cell? ⟨p, 1, none⟩ = some (.slice (some ⟨g, 0, none⟩) n cap)) (hi : i < n) (hn : n ≤ 1000000000) (h0 : w.cell? ⟨g, i * 22, none⟩ = some (.int .u8 1)) :
    Calls Try.prog 21 #[.pointer (some ⟨p, 0, none⟩), .int .i64 (i : Int), .int .u16 z] w fun e w' => e = .returned (.tuple #[.pointer (some ⟨g, i * 22, none⟩), .int .u16 0]) ∧ w' = w := by
  have r := at_yes p g n cap i w hc hi hn
  clear hc
  go_enter Try.func21, Try.ntmps21
  go_wp2_with (go_at_call 24; refine r.mono ?_; rintro e w2 ⟨rfl, hw2⟩; replace hw2 := hw2.symm; subst hw2)
  go_ret2
  exact ⟨rfl, rfl⟩
end Go.Proofs.Ytbbknbipppaemaa
