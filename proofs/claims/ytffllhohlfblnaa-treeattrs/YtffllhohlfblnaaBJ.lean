/-
  The tree's builder: fault, add, overfull, faultClosed.
-/
import Derived.Test.YtffllhohlfblnaaBE
import Derived.Test.YtffllhohlfblnaaBG
import Derived.Test.YtffllhohlfblnaaDE
namespace Go.Proofs.Ytffllhohlfblnaa
open Go.RowKit

/-- A token as a value. -/
abbrev tokV (kd : Nat) (nm : List UInt8) (aa : Option Addr) (an ac : Nat) (sf : Bool) (dt : List UInt8) (a : Nat) : Value := .agg #[.int .u8 (kd : Int), sv nm, .slice aa an ac, .bool sf, sv dt, .int .i64 (a : Int)]

set_option maxRecDepth 20000 in
set_option maxHeartbeats 1000000 in
theorem bfault_any (K : Nat → Prop) (p : Nat) (st : BS) (w : World) (h : BX K w p st) (hn : st.flts.length ≤ 1000000) (k : Nat) (kd : Nat) (nm : List UInt8) (aa : Option Addr) (an ac : Nat) (sf : Bool) (dt : List UInt8) (a : Nat) :
    Calls Try.prog 42 #[.pointer (some ⟨p, 0, none⟩), .int .u8 k, tokV kd nm aa an ac sf dt a] w fun e w' => e = .returned (.tuple #[]) ∧ BX K w' p (st.flt k a) ∧ Kept K w w' := by
  obtain ⟨W, hW⟩ : ∃ W, w.alloc (.cells #[.int .u8 (kd : Int), sv nm, .slice aa an ac, .bool sf, sv dt, .int .i64 (a : Int)] 43) = W := ⟨_, rfl⟩
  obtain ⟨N, hN⟩ : ∃ N, w.heap.size = N := ⟨_, rfl⟩
  have n5 : W.drew.cell? ⟨N, 5, none⟩ = some (.int .i64 (a : Int)) := by
    show W.cell? _ = _
    rw [← hW, ← hN, cell_block (heap_alloc_new w _)]
    rfl
  have kW : Kept K w W := by rw [← hW]; exact (Kept.refl _ w).alloc h.lt _
  have hX : BX K W.drew p st := by rw [← hW]; exact (h.alloc _).drew
  obtain ⟨fa, fc, c3, c3a, fa', fc', w', hr, d3, f3, ht, hk⟩ := hX.appF (by omega) k a
  have HT : Hid (BX K (w'.setCell ⟨p, 2, none⟩ (.slice fa' (st.flts.length + 1) fc')) p (st.flt k a)) := ht
  have HK : Hid (Kept K w (w'.setCell ⟨p, 2, none⟩ (.slice fa' (st.flts.length + 1) fc'))) := kW.drew.trans hk
  obtain ⟨n, hne⟩ : ∃ n, st.flts.length = n := ⟨_, rfl⟩
  rw [hne] at c3 c3a d3 hr HT HK
  have c3b : (W.alloc (.cells #[.int .u8 (k : Int), .int .i64 (a : Int)] 48)).drew.cell? ⟨p, 2, none⟩ = some (.slice fa n fc) := c3a
  have c3c : (W.alloc (.cells #[.int .u8 (k : Int), .int .i64 (a : Int)] 48)).cell? ⟨p, 2, none⟩ = some (.slice fa n fc) := c3a
  have HW : Hid (w.alloc (.cells #[.int .u8 (kd : Int), sv nm, .slice aa an ac, .bool sf, sv dt, .int .i64 (a : Int)] 43) = W) := hW
  have HN : Hid (w.heap.size = N) := hN
  clear h hn ht hk kW hX hne c3a hW hN
  go_enter Try.func42, Try.ntmps42
  go_wp2_with fail
  rw [HW.out, HN.out]
  clear HW HN
  go_region_law (refine step_appR (w' := w') rfl (.tmp 10) (.tmp 15) 25 25 rfl _ _ (.slice fa' (n + 1) fc') rfl rfl hr ?_)
  all_goals
    go_wp2
    go_end0
    exact ⟨rfl, HT.out, HK.out⟩

/-- An item as a value. -/
abbrev itV (d kd : Nat) (nm dt : List UInt8) (aa : Option Addr) (an ac : Nat) : Value := .agg #[.int .i64 (d : Int), .int .u8 (kd : Int), sv nm, sv dt, .slice aa an ac]

set_option maxRecDepth 20000 in
set_option maxHeartbeats 1000000 in
theorem badd_any (K B : Nat → Prop) (p : Nat) (st : BS) (w : World) (h : BX (fun k => K k ∨ B k) w p st) (hBK : ∀ k, B k → ¬ K k) (hn : st.items.length ≤ 1000000) (kd : Nat) (nm dt : List UInt8) (l : List Atr) (aa : Option Addr) (ac : Nat) (ha : AtsIn B w aa l) (hac : l.length ≤ ac) :
    Calls Try.prog 41 #[.pointer (some ⟨p, 0, none⟩), itV 0 kd nm dt aa l.length ac] w fun e w' => e = .returned (.tuple #[]) ∧ BX K w' p (st.item kd nm l dt) ∧ Kept K w w' := by
  obtain ⟨m, hm⟩ : ∃ m, l.length = m := ⟨_, rfl⟩
  have hX0 : BX (fun k => K k ∨ B k) (w.alloc (.cells #[.int .i64 0, .int .u8 (kd : Int), sv nm, sv dt, .slice aa l.length ac] 38)) p st := h.alloc _
  have r := deep_any (fun k => K k ∨ B k) p st _ hX0
  obtain ⟨n, hne⟩ : ∃ n, st.opn.length = n := ⟨_, rfl⟩
  rw [hm] at r ⊢
  rw [hne] at r
  clear hX0
  obtain ⟨W, hW⟩ : ∃ W, w.alloc (.cells #[.int .i64 (n : Int), .int .u8 (kd : Int), sv nm, sv dt, .slice aa m ac] 38) = W := ⟨_, rfl⟩
  obtain ⟨N, hN⟩ : ∃ N, w.heap.size = N := ⟨_, rfl⟩
  have kW0 : Kept (fun k => k < w.heap.size) w W := by rw [← hW]; exact (Kept.refl _ w).alloc (fun _ h => h) _
  have kW : Kept K w W := kW0.mono fun k hk => h.lt k (.inl hk)
  have hX : BX (fun k => K k ∨ B k) W.drew p st := (h.kept kW0).drew
  have haW : AtsIn B W.drew aa l := ha.kept ((kW0.mono fun k hk => h.lt k (.inr hk)).drew) fun _ h => h
  have hcW : ∀ i u, [Value.int .i64 (n : Int), .int .u8 (kd : Int), sv nm, sv dt, .slice aa m ac][i]? = some u → W.drew.cell? ⟨N, i, none⟩ = some u := by
    intro i u hi
    show W.cell? _ = _
    rw [← hW, ← hN, cell_block (heap_alloc_new w _), ← Array.getElem?_toList]
    exact hi
  have n0 := hcW 0 _ rfl
  have n1 := hcW 1 _ rfl
  have n2 := hcW 2 _ rfl
  have n3 := hcW 3 _ rfl
  have n4 := hcW 4 _ rfl
  obtain ⟨ia, ic, c3, c3a, ia', ic', w', hr, d3, f3, ht, hk⟩ := hX.appI hBK (by omega) ⟨st.opn.length, kd, nm, l, dt⟩ aa ac haW hac
  have ecells : (itCells ⟨st.opn.length, kd, nm, l, dt⟩ aa ac).toArray = #[.int .i64 (n : Int), .int .u8 (kd : Int), sv nm, sv dt, .slice aa m ac] := by
    show #[_, _, _, _, _] = _
    rw [hm, hne]
  rw [ecells] at c3a hr
  obtain ⟨q, hq⟩ : ∃ q, st.items.length = q := ⟨_, rfl⟩
  rw [hq] at c3 c3a d3 hr ht hk
  have HT : Hid (BX K (w'.setCell ⟨p, 1, none⟩ (.slice ia' (q + 1) ic')) p (st.item kd nm l dt)) := ht
  have HK : Hid (Kept K w (w'.setCell ⟨p, 1, none⟩ (.slice ia' (q + 1) ic'))) := kW.drew.trans hk
  have c3b : (W.alloc (.cells #[.int .i64 (n : Int), .int .u8 (kd : Int), sv nm, sv dt, .slice aa m ac] 38)).drew.cell? ⟨p, 1, none⟩ = some (.slice ia q ic) := c3a
  have c3c : (W.alloc (.cells #[.int .i64 (n : Int), .int .u8 (kd : Int), sv nm, sv dt, .slice aa m ac] 38)).cell? ⟨p, 1, none⟩ = some (.slice ia q ic) := c3a
  have HW : Hid (w.alloc (.cells #[.int .i64 (n : Int), .int .u8 (kd : Int), sv nm, sv dt, .slice aa m ac] 38) = W) := hW
  have HN : Hid (w.heap.size = N) := hN
  clear hm hne hW hN h kW0 kW hX haW hcW ht hk ecells hq c3a ha hac hn hBK
  go_enter Try.func41, Try.ntmps41
  go_wp2_with fail
  refine r.mono ?_
  rintro e w1 ⟨rfl, rfl⟩
  clear r
  go_upto_region 2 with fail
  rw [HW.out, HN.out]
  clear HW HN
  go_region_law (refine step_appR (w' := w') rfl (.tmp 13) (.tmp 15) 28 28 rfl _ _ (.slice ia' (q + 1) ic') rfl rfl hr ?_)
  all_goals
    go_wp2
    go_end0
    exact ⟨rfl, HT.out, HK.out⟩

/-- The items in memory: the last one's attributes. -/
theorem BX.last {K : Nat → Prop} {w : World} {p : Nat} {st : BS} (h : BX K w p st) {m : Nat} (hm : st.items.length = m + 1) :
    ∃ g ic aa ac, w.cell? ⟨p, 1, none⟩ = some (.slice (some ⟨g, 0, none⟩) (m + 1) ic) ∧ w.cell? ⟨g, m * 5 + 4, none⟩ = some (.slice aa (lastA st.items) ac) := by
  obtain ⟨h1, h2, A, oa, oc, ia, ic, ics, fa, fc, hA, hb, hS, hr⟩ := h
  have ho : OwnZ _ w 38 5 ia st.items.length ic ics := hS.1 1 _ rfl
  have hml : m < st.items.length := by omega
  obtain ⟨aa, ac, q1, q2, q3⟩ := hr.get m hml
  have h4 := q3 4 (.slice aa st.items[m].attrs.length ac) rfl
  obtain ⟨g, rfl, hc⟩ := OwnZ.cell ho h4
  have hl : lastA st.items = st.items[m].attrs.length := by
    unfold lastA
    rw [List.getLast?_eq_getElem?, hm, Nat.add_sub_cancel, List.getElem?_eq_getElem hml]
  refine ⟨g, ic, aa, ac, ?_, by rw [hl]; exact hc⟩
  rw [cell_block hb, ← hm]
  rfl

set_option maxRecDepth 20000 in
set_option maxHeartbeats 1000000 in
theorem overfull_any (K : Nat → Prop) (p : Nat) (st : BS) (w : World) (h : BX K w p st) (hn : st.items.length ≤ 1000000) :
    Calls Try.prog 24 #[.pointer (some ⟨p, 0, none⟩)] w fun e w' => e = .returned (.bool st.full) ∧ w' = w := by
  rcases Nat.eq_zero_or_pos st.items.length with h0 | hpos
  · obtain ⟨oa, oc, ia, ic, fa, fc, -, k1, -⟩ := h.cells
    have e : st.full = false := by
      have : st.items = [] := List.eq_nil_of_length_eq_zero h0
      unfold BS.full
      rw [this]
      rfl
    rw [e]
    rw [h0] at k1
    clear h hn h0 e
    go_enter Try.func24, Try.ntmps24
    go_wp2
    go_ret
    exact ⟨rfl, rfl⟩
  · obtain ⟨m, hm⟩ : ∃ m, st.items.length = m + 1 := ⟨st.items.length - 1, by omega⟩
    obtain ⟨g, ic, aa, ac, k1, k2⟩ := h.last hm
    have e : st.full = (decide (m + 1 > 5000) || decide (lastA st.items > 50)) := by
      unfold BS.full
      rw [hm]
    rw [e]
    obtain ⟨a, ha⟩ : ∃ a, lastA st.items = a := ⟨_, rfl⟩
    rw [ha] at k2 ⊢
    rw [hm] at hn
    clear h e hm ha hpos
    have hp : decide ((m : Int) + 1 > 0) = true := decide_eq_true (by omega)
    have hi : ((m : Int) + 1 - 1) = (m : Int) := by omega
    by_cases h5 : m + 1 > 5000
    · rw [decide_eq_true h5]
      have h5' : decide ((m : Int) + 1 > 5000) = true := decide_eq_true (by omega)
      go_enter Try.func24, Try.ntmps24
      go_wp2
      go_ret
      exact ⟨rfl, rfl⟩
    · rw [decide_eq_false h5]
      have h5' : decide ((m : Int) + 1 > 5000) = false := decide_eq_false (by omega)
      by_cases ha : a > 50
      · rw [decide_eq_true ha]
        have ha' : decide ((a : Int) > 50) = true := decide_eq_true (by omega)
        go_enter Try.func24, Try.ntmps24
        go_wp2
        go_ret
        exact ⟨rfl, rfl⟩
      · rw [decide_eq_false ha]
        have ha' : decide ((a : Int) > 50) = false := decide_eq_false (by omega)
        go_enter Try.func24, Try.ntmps24
        go_wp2
        go_ret
        exact ⟨rfl, rfl⟩

set_option maxRecDepth 20000 in
set_option maxHeartbeats 1000000 in
theorem faultClosed_any (K : Nat → Prop) (p : Nat) (st : BS) (w : World) (h : BX K w p st) (hn : st.flts.length ≤ 1000000) (kd : Nat) (nm : List UInt8) (aa : Option Addr) (an ac : Nat) (sf : Bool) (dt : List UInt8) (a : Nat) (la : Option Addr) (n cap : Nat) (hl : n ≤ 1000000) :
    Calls Try.prog 81 #[.pointer (some ⟨p, 0, none⟩), tokV kd nm aa an ac sf dt a, .slice la n cap] w fun e w' => e = .returned (.tuple #[]) ∧ BX K w' p (if n = 0 then st else st.flt 9 a) ∧ Kept K w w' := by
  by_cases h0 : n = 0
  · subst h0
    rw [if_pos rfl]
    have HX : Hid (BX K w p st) := h
    clear h hn
    go_enter Try.func81, Try.ntmps81
    go_wp2
    go_end0
    exact ⟨rfl, HX.out.alloc _, (Kept.refl K w).alloc HX.out.lt _⟩
  · rw [if_neg h0]
    have r := bfault_any K p st _ (h.alloc (.cells #[.int .u8 (kd : Int), sv nm, .slice aa an ac, .bool sf, sv dt, .int .i64 (a : Int)] 43)) hn 9 kd nm aa an ac sf dt a
    have hp : decide ((n : Int) > 0) = true := decide_eq_true (by omega)
    have HK : Hid (Kept K w (w.alloc (.cells #[.int .u8 (kd : Int), sv nm, .slice aa an ac, .bool sf, sv dt, .int .i64 (a : Int)] 43))) := (Kept.refl K w).alloc h.lt _
    clear h hn
    go_enter Try.func81, Try.ntmps81
    go_wp2_with fail
    refine r.mono ?_
    rintro e w1 ⟨rfl, hX, hK⟩
    have HX : Hid (BX K w1 p (st.flt 9 a)) := hX
    clear r hX
    go_wp2
    go_end0
    exact ⟨rfl, HX.out, HK.out.trans hK⟩
end Go.Proofs.Ytffllhohlfblnaa
