/-
  Attributes by name: named, slices.IndexFunc over attributes, Doc.element.
  Doc.element, refused; Doc.Root: WHAT A SHADOW ROOT IS TO THE DOCUMENT.
-/
import Derived.Test.YtbhfnbplbkncmaaGreatZ11
namespace Go.Proofs.YtbhfnbplbkncmaaGreat
open Go.RowKit
set_option linter.unusedVariables false

theorem enter185 (args : Array Value) (X : World) : (callFunc 185 args).run Tryz.prog X = .ok (.enter 185 args) X := entersE Tryz.func185 (by kernel_rfl) (c := _) rfl args X

set_option maxRecDepth 20000 in
theorem named_any (s : ByteArray) (w : World) :
    Calls Tryz.prog 162 #[.string s] w fun e w' => e = .returned (.func (.func 185) #[] #[.pointer (some ⟨w.heap.size, 0, none⟩)]) ∧ w' = w.alloc (.cells #[.string s] 9) := by
  go_enter Tryz.func162, Tryz.ntmps162
  go_wp2
  go_ret
  exact ⟨rfl, rfl⟩
set_option maxRecDepth 20000 in
theorem named1_any (a v s : ByteArray) (b : Nat) (w : World) (hb : w.cell? ⟨b, 0, none⟩ = some (.string s)) :
    Calls Tryz.prog 185 #[.agg #[.string a, .string v], .pointer (some ⟨b, 0, none⟩)] w fun e w' => e = .returned (.bool (a.toList == s.toList)) ∧ Kept (fun k => k < w.heap.size) w w' := by
  obtain ⟨W, hW⟩ : ∃ W, w.alloc (.cells #[.string a, .string v] 140) = W := ⟨_, rfl⟩
  have kW : Kept (fun k => k < w.heap.size) w W := by rw [← hW]; exact (Kept.refl _ w).alloc (fun _ h => h) _
  have hbl : b < w.heap.size := World.block_lt_of_cell? w _ hb
  have hbW : W.cell? ⟨b, 0, none⟩ = some (.string s) := (kW.cell (p := ⟨b, 0, none⟩) hbl).trans hb
  have h0 : W.cell? ⟨w.heap.size, 0, none⟩ = some (.string a) := by rw [← hW, cell_block (heap_alloc_new w _)]; rfl
  obtain ⟨q, hq⟩ : ∃ q, (a.toList == s.toList) = q := ⟨_, rfl⟩
  rw [hq]
  have HW : Hid (w.alloc (.cells #[.string a, .string v] 140) = W) := hW
  have HK : Hid (Kept (fun k => k < w.heap.size) w W) := kW
  obtain ⟨N, hN⟩ : ∃ N, w.heap.size = N := ⟨_, rfl⟩
  rw [hN] at h0
  have HN : Hid (w.heap.size = N) := hN
  clear hW kW hb hbl hN
  cases q
  all_goals
    go_enter Tryz.func185, Tryz.ntmps185
    go_upto_region 1 with fail
    rw [HW.out, HN.out]
    go_wp2
    go_ret
    exact ⟨rfl, HK.out⟩

set_option maxRecDepth 20000 in
set_option maxHeartbeats 1000000 in
theorem indexA_any (l : List Atr) (n : Nat) (hln : l.length = n) (hn : n ≤ 1000000) (a : Option Addr) (cap b : Nat) (s : ByteArray) (w : World) (hr : AtsAt (fun k => k < w.heap.size) w a l) (hb : w.cell? ⟨b, 0, none⟩ = some (.string s)) :
    Calls Tryz.prog 161 #[.slice a n cap, .func (.func 185) #[] #[.pointer (some ⟨b, 0, none⟩)]] w fun e w' => ((∃ k, ∃ h : k < l.length, e = .returned (.int .i64 (k : Int)) ∧ l[k].name = s.toList ∧ ∀ x ∈ l.take k, x.name ≠ s.toList) ∨ (e = .returned (.int .i64 (-1)) ∧ ∀ x ∈ l, x.name ≠ s.toList)) ∧ Kept (fun k => k < w.heap.size) w w' := by
  have he := enter185
  have hbl : b < w.heap.size := World.block_lt_of_cell? w _ hb
  have HR : Hid (AtsAt (fun k => k < w.heap.size) w a l) := hr
  have HL : Hid (l.length = n) := hln
  have HB : Hid (w.cell? ⟨b, 0, none⟩ = some (.string s)) := hb
  have HBL : Hid (b < w.heap.size) := hbl
  clear hr hln hb hbl
  go_enter Tryz.func161, Tryz.ntmps161
  go_upto_region 2 with fail
  go_loopg [8] n (fun gh v wr => ∃ j : Nat, gh = n - j ∧ j ≤ n ∧ v = .int .i64 (j : Int) ∧ (∀ x ∈ l.take j, x.name ≠ s.toList) ∧ Kept (fun k => k < w.heap.size) w wr)
  case atStart => exact ⟨0, rfl, Nat.zero_le _, rfl, fun x hx => by simp at hx, Kept.refl _ _⟩
  case round =>
    obtain ⟨j, hgj, hj, rfl, hno, hK⟩ := hrel
    by_cases hlt : j < n
    · have hl : j < l.length := by rw [HL.out]; exact hlt
      obtain ⟨g, o, rfl, hg, c0, c1⟩ := HR.out j hl
      have d0 : wr.cell? ⟨g, o + j * 2, none⟩ = some (sv l[j].name) := (hK.cell (p := ⟨g, o + j * 2, none⟩) hg).trans c0
      have d1 : wr.cell? ⟨g, o + j * 2 + 1, none⟩ = some (sv l[j].value) := (hK.cell (p := ⟨g, o + j * 2 + 1, none⟩) hg).trans c1
      have r := named1_any ⟨l[j].name.toArray⟩ ⟨l[j].value.toArray⟩ s b wr ((hK.cell (p := ⟨b, 0, none⟩) HBL.out).trans HB.out)
      have HJ : Hid (l.take (j + 1) = l.take j ++ [l[j]]) := by rw [List.take_add_one, List.getElem?_eq_getElem hl]; rfl
      have HNO : Hid (∀ x ∈ l.take j, x.name ≠ s.toList) := hno
      have HK : Hid (Kept (fun k => k < w.heap.size) w wr) := hK
      rw [ByteArray.toList_eq] at r
      obtain ⟨q, hq⟩ : ∃ q, (l[j].name.toArray.toList == s.toList) = q := ⟨_, rfl⟩
      have hq' : (l[j].name == s.toList) = q := hq
      have HRR : Hid (Calls Tryz.prog 185 #[.agg #[.string ⟨l[j].name.toArray⟩, .string ⟨l[j].value.toArray⟩], .pointer (some ⟨b, 0, none⟩)] wr fun e w' => e = .returned (.bool q) ∧ Kept (fun k => k < wr.heap.size) wr w') := by rw [← hq]; exact r
      have HQ : Hid ((l[j].name == s.toList) = q) := hq'
      clear c0 c1 r hno hK hq hq'
      unfold sv at d0 d1
      go_wp2_with fail
      refine HRR.out.mono ?_
      rintro e w2 ⟨rfl, hk2⟩
      have HK2 : Hid (Kept (fun k => k < w.heap.size) w w2) := HK.out.trans (hk2.mono fun k h => Nat.lt_of_lt_of_le h HK.out.size)
      clear HRR d0 d1 hk2 he
      cases q with
      | true =>
        go_wp2
        go_ret
        exact ⟨.inl ⟨j, hl, rfl, by simpa using HQ.out, HNO.out⟩, HK2.out⟩
      | false =>
        go_wp2
        go_roundg (n - (j + 1))
        case rel =>
          refine ⟨j + 1, rfl, by omega, by go_num, fun x hx => ?_, HK2.out⟩
          rw [HJ.out] at hx
          rcases List.mem_append.1 hx with h | h
          · exact HNO.out x h
          · rw [List.mem_singleton.1 h]; simpa using HQ.out
        case measure => omega
    · have hjn : n = j := by omega
      subst hjn
      have HNO : Hid (∀ x ∈ l, x.name ≠ s.toList) := fun x hx => hno x (by rw [List.take_of_length_le (by rw [HL.out]; exact Nat.le_refl _)]; exact hx)
      have HK : Hid (Kept (fun k => k < w.heap.size) w wr) := hK
      clear hno hK he
      go_wp2
      go_ret
      exact ⟨.inr ⟨rfl, HNO.out⟩, HK.out⟩

set_option maxRecDepth 20000 in
/-- Doc.element of an element that is there. -/
theorem element_yes (p g n cap i : Nat) (z : Int) (w : World) (hc : w.cell? ⟨p, 1, none⟩ = some (.slice (some ⟨g, 0, none⟩) n cap)) (hi : i < n) (hn : n ≤ 1000000000) (h0 : w.cell? ⟨g, i * 22, none⟩ = some (.int .u8 1)) :
    Calls Tryz.prog 154 #[.pointer (some ⟨p, 0, none⟩), .int .i64 (i : Int), .int .u16 z] w fun e w' => e = .returned (.tuple #[.pointer (some ⟨g, i * 22, none⟩), .int .u16 0]) ∧ w' = w := by
  have r := at_yes p g n cap i w hc hi hn
  clear hc
  go_enter Tryz.func154, Tryz.ntmps154
  go_wp2_with (go_at_call 76; refine r.mono ?_; rintro e w2 ⟨rfl, hw2⟩; replace hw2 := hw2.symm; subst hw2)
  go_ret2
  exact ⟨rfl, rfl⟩
end Go.Proofs.YtbhfnbplbkncmaaGreat

namespace Go.Proofs.YtbhfnbplbkncmaaGreat
open Go.RowKit
set_option linter.unusedVariables false

set_option maxRecDepth 20000 in
theorem element_none (p n cap : Nat) (ga : Option Addr) (i z : Int) (w : World) (hc : w.cell? ⟨p, 1, none⟩ = some (.slice ga n cap)) (hi : i < 0 ∨ (n : Int) ≤ i) (hn : n ≤ 1000000000) :
    Calls Tryz.prog 154 #[.pointer (some ⟨p, 0, none⟩), .int .i64 i, .int .u16 z] w fun e w' => e = .returned (.tuple #[.pointer none, .int .u16 80]) ∧ w' = w := by
  have r := at_no p n cap ga i w hc hi hn
  clear hc hi
  go_enter Tryz.func154, Tryz.ntmps154
  go_wp2_with (go_at_call 76; refine r.mono ?_; rintro e w2 ⟨rfl, hw2⟩; replace hw2 := hw2.symm; subst hw2)
  go_ret2
  exact ⟨rfl, rfl⟩
set_option maxRecDepth 20000 in
theorem element_other (p g n cap i kd : Nat) (z : Int) (w : World) (hc : w.cell? ⟨p, 1, none⟩ = some (.slice (some ⟨g, 0, none⟩) n cap)) (hi : i < n) (hn : n ≤ 1000000000) (hkd : kd ≠ 1) (h0 : w.cell? ⟨g, i * 22, none⟩ = some (.int .u8 (kd : Int))) :
    Calls Tryz.prog 154 #[.pointer (some ⟨p, 0, none⟩), .int .i64 (i : Int), .int .u16 z] w fun e w' => e = .returned (.tuple #[.pointer none, .int .u16 z]) ∧ w' = w := by
  have r := at_yes p g n cap i w hc hi hn
  have e1 : ((kd : Int) == 1) = false := by simp; omega
  have e2 : ¬ (kd : Int) = 1 := by omega
  clear hc
  go_enter Tryz.func154, Tryz.ntmps154
  go_wp2_with (go_at_call 76; refine r.mono ?_; rintro e w2 ⟨rfl, hw2⟩; replace hw2 := hw2.symm; subst hw2)
  go_ret2
  exact ⟨rfl, rfl⟩
/-- A shadow root, before it is put in. -/
def shN (f : Fg) : Nd := ⟨5, [], [], [], f, 0, 0, 0⟩
abbrev shC (f : Fg) : Array Value := #[.int .u8 5, .string ⟨#[]⟩, .string ⟨#[]⟩, .slice none 0 0, .bool f.a, .bool f.b, .bool f.c, .bool f.d, .bool f.e, .int .i64 0, .int .i64 0, .int .i64 0, .int .i64 0, .int .i64 0, .int .i64 0, .int .i64 0, .int .i64 0, .int .i64 0, .int .i64 0, .int .i64 0, .int .i64 0, .int .i64 0]
theorem builtSh (f : Fg) : Tryz.prog.built 94 [(0, .int .u8 5), (4, .agg #[.bool f.a, .bool f.b, .bool f.c, .bool f.d, .bool f.e])] = some (shC f) := by kernel_rfl
theorem shC_nd (f : Fg) : ndV (shN f) lk0 lk0 none 0 = .agg (shC f) := rfl
abbrev fgV (f : Fg) : Value := .agg #[.bool f.a, .bool f.b, .bool f.c, .bool f.d, .bool f.e]
/-- The document with a shadow root more. -/
def Dm.addR (M : Dm) (host : Nat) (f : Fg) : Dm := ((M.add (shN f)).setN M.n { (M.add (shN f)).nd M.n with host := (host : Int) }).setN host { ((M.add (shN f)).setN M.n { (M.add (shN f)).nd M.n with host := (host : Int) }).nd host with shadow := (M.n : Int) }

set_option maxRecDepth 20000 in
set_option maxHeartbeats 1000000 in
theorem root_none (K : Nat → Prop) (p : Nat) (M : Dm) (i : Int) (f : Fg) (w : World) (h : DX K w p M) (hi : i < 0 ∨ (M.n : Int) ≤ i) (hn : M.n ≤ 1000000) :
    Calls Tryz.prog 91 #[.pointer (some ⟨p, 0, none⟩), .int .i64 i, fgV f] w fun e w' => e = .returned (.tuple #[.int .i64 0, .int .u16 80]) ∧ Kept (fun k => k < w.heap.size) w w' := by
  obtain ⟨ga, cap, hY⟩ := h
  obtain ⟨W, hW⟩ : ∃ W, w.alloc (.cells #[.bool f.a, .bool f.b, .bool f.c, .bool f.d, .bool f.e] 34) = W := ⟨_, rfl⟩
  have kW : Kept (fun k => k < w.heap.size) w W := by rw [← hW]; exact (Kept.refl _ w).alloc (fun _ h => h) _
  have hYW := hY.kept kW
  have r := element_none p M.n cap ga i 100 W hYW.c1 hi (by omega)
  have HW : Hid (w.alloc (.cells #[.bool f.a, .bool f.b, .bool f.c, .bool f.d, .bool f.e] 34) = W) := hW
  have HK : Hid (Kept (fun k => k < w.heap.size) w W) := kW
  clear hY hYW hW kW hi
  go_enter Tryz.func91, Tryz.ntmps91
  go_upto_region 1 with fail
  rw [HW.out]
  go_wp2_with (go_at_call 154; refine r.mono ?_; rintro e w2 ⟨rfl, rfl⟩)
  go_ret2
  exact ⟨rfl, HK.out⟩
/-- What Root answers of a node that is there. -/
inductive Roots (K : Nat → Prop) (p : Nat) (M : Dm) (host : Nat) (f : Fg) (e : Ending) (w' : World) : Prop
  | host : (M.nd host).kind ≠ 1 → e = .returned (.tuple #[.int .i64 0, .int .u16 100]) → DX K w' p M → Roots K p M host f e w'
  | twice : (M.nd host).kind = 1 → (M.nd host).shadow ≠ -1 → e = .returned (.tuple #[.int .i64 0, .int .u16 101]) → DX K w' p M → Roots K p M host f e w'
  | full : (M.nd host).kind = 1 → (M.nd host).shadow = -1 → M.limit < M.n + 1 → e = .returned (.tuple #[.int .i64 0, .int .u16 3]) → DX K w' p M → Roots K p M host f e w'
  | made : (M.nd host).kind = 1 → (M.nd host).shadow = -1 → M.n + 1 ≤ M.limit → e = .returned (.tuple #[.int .i64 (M.n : Int), .int .u16 0]) → DX K w' p (M.addR host f) → Roots K p M host f e w'

set_option maxRecDepth 20000 in
set_option maxHeartbeats 2000000 in
theorem root_in (K : Nat → Prop) (p host : Nat) (M : Dm) (f : Fg) (w : World) (h : DX K w p M) (hi : host < M.n) (hn : M.n ≤ 100000) (hL : M.limit ≤ 100000) :
    Calls Tryz.prog 91 #[.pointer (some ⟨p, 0, none⟩), .int .i64 (host : Int), fgV f] w fun e w' => Kept K w w' ∧ Roots K p M host f e w' := by
  obtain ⟨ga, cap, hY⟩ := h
  obtain ⟨g, rfl, gk, gp, gl⟩ := hY.at (by omega)
  obtain ⟨W, hW⟩ : ∃ W, w.alloc (.cells #[.bool f.a, .bool f.b, .bool f.c, .bool f.d, .bool f.e] 34) = W := ⟨_, rfl⟩
  obtain ⟨N, hN⟩ : ∃ N, w.heap.size = N := ⟨_, rfl⟩
  have kW : Kept (fun k => k < w.heap.size) w W := by rw [← hW]; exact (Kept.refl _ w).alloc (fun _ h => h) _
  have hYW := hY.kept kW
  have hfb : W.heap[N]? = some (.cells #[.bool f.a, .bool f.b, .bool f.c, .bool f.d, .bool f.e] 34 (0, 0)) := by rw [← hW, ← hN]; exact heap_alloc_new w _
  have b0 : W.cell? ⟨N, 0, none⟩ = some (.bool f.a) := by rw [cell_block hfb]; rfl
  have b1 : W.cell? ⟨N, 1, none⟩ = some (.bool f.b) := by rw [cell_block hfb]; rfl
  have b2 : W.cell? ⟨N, 2, none⟩ = some (.bool f.c) := by rw [cell_block hfb]; rfl
  have b3 : W.cell? ⟨N, 3, none⟩ = some (.bool f.d) := by rw [cell_block hfb]; rfl
  have b4 : W.cell? ⟨N, 4, none⟩ = some (.bool f.e) := by rw [cell_block hfb]; rfl
  clear hfb
  obtain ⟨aa, ac, hcell, -⟩ := hYW.cell hi
  have c0 : W.cell? ⟨g, host * 22, none⟩ = some (.int .u8 ((M.nd host).kind : Int)) := hcell 0 _ rfl
  have c9 : W.cell? ⟨g, host * 22 + 9, none⟩ = some (.int .i64 (M.nd host).shadow) := hcell 9 _ rfl
  have HW : Hid (w.alloc (.cells #[.bool f.a, .bool f.b, .bool f.c, .bool f.d, .bool f.e] 34) = W) := hW
  have HN : Hid (w.heap.size = N) := hN
  have HKW : Hid (Kept (fun k => k < w.heap.size) w W) := kW
  have HY : Hid (DY K W p M (some ⟨g, 0, none⟩) cap) := hYW
  have HKl : Hid (∀ k, K k → k < w.heap.size) := hY.1
  have c1 := hYW.c1
  obtain ⟨kd, hkd⟩ : ∃ kd, (M.nd host).kind = kd := ⟨_, rfl⟩
  by_cases hk1 : kd = 1
  · subst hk1
    rw [hkd] at c0
    have r := element_yes p g M.n cap host 100 W c1 hi (by omega) c0
    have HKD : Hid ((M.nd host).kind = 1) := hkd
    obtain ⟨s, hs⟩ : ∃ s, (M.nd host).shadow = s := ⟨_, rfl⟩
    have HSH : Hid ((M.nd host).shadow = s) := hs
    rw [hs] at c9
    by_cases hsn : s = -1
    · subst hsn
      have rm := makeOne_any K p M (some ⟨g, 0, none⟩) cap W W hYW (Kept.refl _ _) (by omega) (by omega) (shN f) lk0 lk0 none 0 (OwnZ.nil _ _ _ _)
      rw [shC_nd] at rm
      have hbu := builtSh f
      clear hY hYW hW hN kW hcell c0 hkd hs c1
      go_enter Tryz.func91, Tryz.ntmps91
      go_upto_region 1 with fail
      rw [HW.out, HN.out]
      go_upto_region 6 with (go_at_call 154; refine r.mono ?_; rintro e w2 ⟨rfl, hw2⟩; replace hw2 := hw2.symm; subst hw2)
      go_wp2_with fail
      refine rm.mono ?_
      rintro e w3 ⟨hK3, hM3⟩
      rcases hM3 with ⟨hroom, rfl, hX3⟩ | ⟨hroom, rfl, hX3⟩
      · obtain ⟨ga3, cap3, hY3⟩ := hX3
        obtain ⟨g3, rfl, -, -, -⟩ := hY3.at (Nat.succ_pos _)
        have hiA : M.n < (M.add (shN f)).n := Nat.lt_succ_self _
        obtain ⟨aa3, ac3, hc3, -⟩ := hY3.cell hiA
        obtain ⟨hY4, hK4⟩ := hY3.setNhost hiA (host : Int)
        have hiB : host < ((M.add (shN f)).setN M.n { (M.add (shN f)).nd M.n with host := (host : Int) }).n := Nat.lt_succ_of_lt hi
        obtain ⟨aa4, ac4, hc4, -⟩ := hY4.cell hiB
        obtain ⟨hY5, hK5⟩ := hY4.setNshadow hiB (M.n : Int)
        have d1 := hY3.c1
        have d2 : w3.cell? ⟨g3, M.n * 22 + 10, none⟩ = some (.int .i64 ((M.add (shN f)).nd M.n).host) := hc3 10 _ rfl
        have d3 : w3.frozen? ⟨g3, M.n * 22 + 10, none⟩ = false := hY3.fg _
        have d4 := hY4.c1
        have d5 : (w3.setCell ⟨g3, M.n * 22 + 10, none⟩ (.int .i64 (host : Int))).cell? ⟨g3, host * 22 + 9, none⟩ = some (.int .i64 (((M.add (shN f)).setN M.n { (M.add (shN f)).nd M.n with host := (host : Int) }).nd host).shadow) := hc4 9 _ rfl
        have d6 : (w3.setCell ⟨g3, M.n * 22 + 10, none⟩ (.int .i64 (host : Int))).frozen? ⟨g3, host * 22 + 9, none⟩ = false := hY4.fg _
        have HX5 : Hid (DX K ((w3.setCell ⟨g3, M.n * 22 + 10, none⟩ (.int .i64 (host : Int))).setCell ⟨g3, host * 22 + 9, none⟩ (.int .i64 (M.n : Int))) p (M.addR host f)) := ⟨_, _, hY5⟩
        have HK5 : Hid (Kept K w ((w3.setCell ⟨g3, M.n * 22 + 10, none⟩ (.int .i64 (host : Int))).setCell ⟨g3, host * 22 + 9, none⟩ (.int .i64 (M.n : Int)))) := (((HKW.out.mono HKl.out).trans hK3).trans hK4).trans hK5
        have HN5 : Hid ((M.add (shN f)).n = M.n + 1) := rfl
        rw [HN5.out] at d1
        have d4' : (w3.setCell ⟨g3, M.n * 22 + 10, none⟩ (.int .i64 (host : Int))).cell? ⟨p, 1, none⟩ = some (.slice (some ⟨g3, 0, none⟩) (M.n + 1) cap3) := d4
        obtain ⟨n, hnE⟩ : ∃ n, M.n = n := ⟨_, rfl⟩
        obtain ⟨V, hV⟩ : ∃ V, w3.setCell ⟨g3, M.n * 22 + 10, none⟩ (.int .i64 (host : Int)) = V := ⟨_, rfl⟩
        rw [hV] at HX5 HK5 d4' d5 d6
        have HV : Hid (w3.setCell ⟨g3, n * 22 + 10, none⟩ (.int .i64 (host : Int)) = V) := by rw [← hnE]; exact hV
        have HROOM : Hid (n + 1 ≤ M.limit) := by rw [← hnE]; exact hroom
        rw [hnE] at HX5 HK5 d1 d2 d3 d4' hi ⊢
        have HNE : Hid (M.n = n) := hnE
        have hn2 : n ≤ 100000 := by omega
        clear hY3 hc3 hY4 hK4 hc4 hY5 hK5 d4 hK3 rm hbu hV hroom hiA hiB hnE hn HN5 r b0 b1 b2 b3 b4 c9
        go_upto_region 10 with fail
        rw [HV.out]
        go_wp2
        go_ret2
        exact ⟨HK5.out, .made HKD.out HSH.out (by rw [HNE.out]; exact HROOM.out) (by rw [HNE.out]; rfl) HX5.out⟩
      · have HX3 : Hid (DX K w3 p M) := hX3
        have HK3 : Hid (Kept K w w3) := (HKW.out.mono HKl.out).trans hK3
        have HROOM : Hid (¬ M.n + 1 ≤ M.limit) := hroom
        clear hX3 hK3 rm hbu hroom r
        go_wp2
        go_ret2
        exact ⟨HK3.out, .full HKD.out HSH.out (by have := HROOM.out; omega) rfl HX3.out⟩
    · have e1 : (s == -1) = false := by simpa using hsn
      clear hY hYW hW hN kW hcell c0 hkd hs c1
      go_enter Tryz.func91, Tryz.ntmps91
      go_upto_region 1 with fail
      rw [HW.out, HN.out]
      go_wp2_with (go_at_call 154; refine r.mono ?_; rintro e w2 ⟨rfl, hw2⟩; replace hw2 := hw2.symm; subst hw2)
      go_ret2
      exact ⟨HKW.out.mono HKl.out, .twice HKD.out (by rw [HSH.out]; exact hsn) rfl ⟨_, _, HY.out⟩⟩
  · rw [hkd] at c0
    have r := element_other p g M.n cap host kd 100 W c1 hi (by omega) hk1 c0
    have HKD : Hid ((M.nd host).kind = kd) := hkd
    clear hY hYW hW hN kW hcell c0 hkd c1 c9
    go_enter Tryz.func91, Tryz.ntmps91
    go_upto_region 1 with fail
    rw [HW.out, HN.out]
    go_wp2_with (go_at_call 154; refine r.mono ?_; rintro e w2 ⟨rfl, rfl⟩)
    go_ret2
    exact ⟨HKW.out.mono HKl.out, .host (by rw [HKD.out]; exact hk1) rfl ⟨_, _, HY.out⟩⟩
theorem addR_n (M : Dm) (host : Nat) (f : Fg) : (M.addR host f).n = M.n + 1 := rfl
theorem addR_pl (M : Dm) (host : Nat) (f : Fg) : (M.addR host f).pl = updL M.pl M.n Lk.nil := rfl
theorem addR_gf (M : Dm) (host : Nat) (f : Fg) : (M.addR host f).gf = updL M.gf M.n Lk.nil := rfl
theorem addR_old (M : Dm) (host : Nat) (f : Fg) {k : Nat} (hk : k ≠ M.n) (hh : k ≠ host) : (M.addR host f).nd k = M.nd k := by
  show (if k = host then _ else if k = M.n then _ else if k = M.n then _ else M.nd k) = M.nd k
  rw [if_neg hh, if_neg hk, if_neg hk]
theorem addR_host (M : Dm) (host : Nat) (f : Fg) (hh : host ≠ M.n) : (M.addR host f).nd host = { M.nd host with shadow := (M.n : Int) } := by
  show (if host = host then { (if host = M.n then _ else if host = M.n then _ else M.nd host : Nd) with shadow := (M.n : Int) } else _) = _
  rw [if_pos rfl, if_neg hh, if_neg hh]
theorem addR_new (M : Dm) (host : Nat) (f : Fg) (hh : host ≠ M.n) : (M.addR host f).nd M.n = { (shN f).new with host := (host : Int) } := by
  show (if M.n = host then _ else if M.n = M.n then { (if M.n = M.n then (shN f).new else M.nd M.n : Nd) with host := (host : Int) } else _) = _
  rw [if_neg (fun e => hh e.symm), if_pos rfl, if_pos rfl]
theorem Good.addR {M : Dm} {R : Nat → List Nat} {rk : Nat → Nat} (h : Good M R rk) (host : Nat) (f : Fg) (hh : host < M.n) : Good (M.addR host f) (updR R M.n []) (fun k => if k = M.n then rk host + 1 else rk k) := by
  refine ⟨h.wf.more _ (fun k hk => updL_ne _ _ (by omega)) (updL_same _ _ _), fun k hk => ?_, fun i hi => ?_⟩
  · have hk' : k < M.n + 1 := hk
    by_cases c : k = M.n
    · subst c
      refine .inr ⟨host, by show host < M.n + 1; omega, ?_, by rw [if_pos rfl, if_neg (by omega)]; omega⟩
      unfold parI
      rw [addR_pl, updL_same, addR_new _ _ _ (by omega)]
      rfl
    · have hk2 : k < M.n := by omega
      have hp : parI (M.addR host f) k = parI M k := by
        unfold parI
        rw [addR_pl, updL_ne _ _ c]
        by_cases c2 : k = host
        · subst c2; rw [addR_host _ _ _ c]
        · rw [addR_old _ _ _ c c2]
      rcases h.acy k hk2 with h0 | ⟨m, h1, h2, h3⟩
      · exact .inl (hp.trans h0)
      · exact .inr ⟨m, by show m < M.n + 1; omega, hp.trans h2, by rw [if_neg c, if_neg (by omega)]; exact h3⟩
  · have hi' : i < M.n + 1 := hi
    by_cases c : i = M.n
    · subst c; rw [addR_new _ _ _ (by omega)]; exact Nat.zero_le _
    · by_cases c2 : i = host
      · subst c2; rw [addR_host _ _ _ c]; exact h.few i (by omega)
      · rw [addR_old _ _ _ c c2]; exact h.few i (by omega)
end Go.Proofs.YtbhfnbplbkncmaaGreat
