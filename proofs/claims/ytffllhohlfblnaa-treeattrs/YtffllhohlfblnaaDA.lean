/-
  What the document's reader does: fault, text, done.
-/
import Derived.Test.YtffllhohlfblnaaDL
import Derived.Deep.RegionLaw
namespace Go.Proofs.Ytffllhohlfblnaa
open Go.RowKit

theorem DX.app3 {s : List UInt8} {K : Nat → Prop} {w : World} {p : Nat} {st : TS} (h : DX s K w p st) (hn : st.toks.length ≤ 1000000000) (data : List UInt8) (a : Nat) :
    ∃ ta tc, w.cell? ⟨p, 2, none⟩ = some (.slice ta st.toks.length tc) ∧ (w.alloc (.cells #[.int .u8 3, .string ⟨#[]⟩, .slice none 0 0, .bool false, sv data, .int .i64 (a : Int)] 43)).cell? ⟨p, 2, none⟩ = some (.slice ta st.toks.length tc) ∧ ∃ ta' tc' w', (Builtin.append_ #[24, 24] 24 #[.slice ta st.toks.length tc, .slice (some ⟨w.heap.size, 0, none⟩) 1 1]).run Try.prog (w.alloc (.cells #[.int .u8 3, .string ⟨#[]⟩, .slice none 0 0, .bool false, sv data, .int .i64 (a : Int)] 43)) = .ok (.slice ta' (st.toks.length + 1) tc') w' ∧
      w'.cell? ⟨p, 2, none⟩ = some (.slice ta st.toks.length tc) ∧ w'.frozen? ⟨p, 2, none⟩ = false ∧ DX s K (w'.setCell ⟨p, 2, none⟩ (.slice ta' (st.toks.length + 1) tc')) p { st with toks := st.toks ++ [⟨3, [], [], false, data, a⟩] } ∧ Kept K w (w'.setCell ⟨p, 2, none⟩ (.slice ta' (st.toks.length + 1) tc')) := h.app0 hn 3 [] data false a
theorem DX.app4 {s : List UInt8} {K : Nat → Prop} {w : World} {p : Nat} {st : TS} (h : DX s K w p st) (hn : st.toks.length ≤ 1000000000) (data : List UInt8) (a : Nat) :
    ∃ ta tc, w.cell? ⟨p, 2, none⟩ = some (.slice ta st.toks.length tc) ∧ (w.alloc (.cells #[.int .u8 4, .string ⟨#[]⟩, .slice none 0 0, .bool false, sv data, .int .i64 (a : Int)] 43)).cell? ⟨p, 2, none⟩ = some (.slice ta st.toks.length tc) ∧ ∃ ta' tc' w', (Builtin.append_ #[24, 24] 24 #[.slice ta st.toks.length tc, .slice (some ⟨w.heap.size, 0, none⟩) 1 1]).run Try.prog (w.alloc (.cells #[.int .u8 4, .string ⟨#[]⟩, .slice none 0 0, .bool false, sv data, .int .i64 (a : Int)] 43)) = .ok (.slice ta' (st.toks.length + 1) tc') w' ∧
      w'.cell? ⟨p, 2, none⟩ = some (.slice ta st.toks.length tc) ∧ w'.frozen? ⟨p, 2, none⟩ = false ∧ DX s K (w'.setCell ⟨p, 2, none⟩ (.slice ta' (st.toks.length + 1) tc')) p { st with toks := st.toks ++ [⟨4, [], [], false, data, a⟩] } ∧ Kept K w (w'.setCell ⟨p, 2, none⟩ (.slice ta' (st.toks.length + 1) tc')) := h.app0 hn 4 [] data false a
theorem DX.app4e {s : List UInt8} {K : Nat → Prop} {w : World} {p : Nat} {st : TS} (h : DX s K w p st) (hn : st.toks.length ≤ 1000000000) (a : Nat) :
    ∃ ta tc, w.cell? ⟨p, 2, none⟩ = some (.slice ta st.toks.length tc) ∧ (w.alloc (.cells #[.int .u8 4, .string ⟨#[]⟩, .slice none 0 0, .bool false, .string ⟨#[]⟩, .int .i64 (a : Int)] 43)).cell? ⟨p, 2, none⟩ = some (.slice ta st.toks.length tc) ∧ ∃ ta' tc' w', (Builtin.append_ #[24, 24] 24 #[.slice ta st.toks.length tc, .slice (some ⟨w.heap.size, 0, none⟩) 1 1]).run Try.prog (w.alloc (.cells #[.int .u8 4, .string ⟨#[]⟩, .slice none 0 0, .bool false, .string ⟨#[]⟩, .int .i64 (a : Int)] 43)) = .ok (.slice ta' (st.toks.length + 1) tc') w' ∧
      w'.cell? ⟨p, 2, none⟩ = some (.slice ta st.toks.length tc) ∧ w'.frozen? ⟨p, 2, none⟩ = false ∧ DX s K (w'.setCell ⟨p, 2, none⟩ (.slice ta' (st.toks.length + 1) tc')) p { st with toks := st.toks ++ [⟨4, [], [], false, [], a⟩] } ∧ Kept K w (w'.setCell ⟨p, 2, none⟩ (.slice ta' (st.toks.length + 1) tc')) := h.app0 hn 4 [] [] false a
theorem DX.app5 {s : List UInt8} {K : Nat → Prop} {w : World} {p : Nat} {st : TS} (h : DX s K w p st) (hn : st.toks.length ≤ 1000000000) (name : List UInt8) (a : Nat) :
    ∃ ta tc, w.cell? ⟨p, 2, none⟩ = some (.slice ta st.toks.length tc) ∧ (w.alloc (.cells #[.int .u8 5, sv name, .slice none 0 0, .bool false, .string ⟨#[]⟩, .int .i64 (a : Int)] 43)).cell? ⟨p, 2, none⟩ = some (.slice ta st.toks.length tc) ∧ ∃ ta' tc' w', (Builtin.append_ #[24, 24] 24 #[.slice ta st.toks.length tc, .slice (some ⟨w.heap.size, 0, none⟩) 1 1]).run Try.prog (w.alloc (.cells #[.int .u8 5, sv name, .slice none 0 0, .bool false, .string ⟨#[]⟩, .int .i64 (a : Int)] 43)) = .ok (.slice ta' (st.toks.length + 1) tc') w' ∧
      w'.cell? ⟨p, 2, none⟩ = some (.slice ta st.toks.length tc) ∧ w'.frozen? ⟨p, 2, none⟩ = false ∧ DX s K (w'.setCell ⟨p, 2, none⟩ (.slice ta' (st.toks.length + 1) tc')) p { st with toks := st.toks ++ [⟨5, name, [], false, [], a⟩] } ∧ Kept K w (w'.setCell ⟨p, 2, none⟩ (.slice ta' (st.toks.length + 1) tc')) := h.app0 hn 5 name [] false a

set_option maxRecDepth 20000 in
set_option maxHeartbeats 1000000 in
theorem dfault (s : List UInt8) (K : Nat → Prop) (p : Nat) (st : TS) (w : World) (h : DX s K w p st) (hn : pot st ≤ 1000000000) (k a : Nat) :
    Calls Try.prog 19 #[.pointer (some ⟨p, 0, none⟩), .int .u8 k, .int .i64 a] w fun e w' => e = .returned (.tuple #[]) ∧ DX s K w' p (st.flt k a) ∧ Kept K w w' := by
  obtain ⟨W, hW⟩ : ∃ W, w.alloc (.cells #[.int .u8 (k : Int), .int .i64 (a : Int)] 48) = W := ⟨_, rfl⟩
  obtain ⟨N, hN⟩ : ∃ N, w.heap.size = N := ⟨_, rfl⟩
  have hcW : ∀ i u, [Value.int .u8 (k : Int), .int .i64 (a : Int)][i]? = some u → W.cell? ⟨N, i, none⟩ = some u := by
    intro i u hi
    rw [← hW, ← hN, cell_block (heap_alloc_new w _), ← Array.getElem?_toList]
    exact hi
  have n0 : W.drew.cell? ⟨N, 0, none⟩ = _ := hcW 0 _ rfl
  have n1 : W.drew.cell? ⟨N, 1, none⟩ = _ := hcW 1 _ rfl
  have kW : Kept K w W := by rw [← hW]; exact (Kept.refl _ w).alloc h.lt _
  have hX : DX s K W.drew p st := by rw [← hW]; exact (h.alloc _).drew
  obtain ⟨fa, fc, c3, c3a, fa', fc', w', hr, d3, f3, ht, hk⟩ := hX.appF (by unfold pot at hn; omega) k a
  have HT : Hid (DX s K (w'.setCell ⟨p, 3, none⟩ (.slice fa' (st.flts.length + 1) fc')) p (st.flt k a)) := ht
  have HK : Hid (Kept K w (w'.setCell ⟨p, 3, none⟩ (.slice fa' (st.flts.length + 1) fc'))) := kW.drew.trans hk
  obtain ⟨n, hne⟩ : ∃ n, st.flts.length = n := ⟨_, rfl⟩
  rw [hne] at c3 c3a d3 hr HT HK
  have c3b : (W.alloc (.cells #[.int .u8 (k : Int), .int .i64 (a : Int)] 48)).drew.cell? ⟨p, 3, none⟩ = some (.slice fa n fc) := c3a
  have c3c : (W.alloc (.cells #[.int .u8 (k : Int), .int .i64 (a : Int)] 48)).cell? ⟨p, 3, none⟩ = some (.slice fa n fc) := c3a
  have HW : Hid (w.alloc (.cells #[.int .u8 (k : Int), .int .i64 (a : Int)] 48) = W) := hW
  clear h hn ht hk kW hX hcW hne c3a hW
  go_enter Try.func19, Try.ntmps19
  go_wp2_with fail
  rw [HW.out]
  clear HW hN
  go_region_law (refine step_appR (w' := w') rfl (.tmp 14) (.tmp 16) 25 25 rfl _ _ (.slice fa' (n + 1) fc') rfl rfl hr ?_)
  all_goals
    go_wp2
    go_end0
    exact ⟨rfl, HT.out, HK.out⟩

theorem DX.tat {s : List UInt8} {K : Nat → Prop} {w : World} {p : Nat} {st : TS} (h : DX s K w p st) (ht : st.text = []) (a : Nat) : DX s K w p { st with tat := a } := by
  obtain ⟨h1, h2, h3, A, ta, tc, tcs, fa, fc, ba, bc, z, hA, hb, _, hS, hr⟩ := h
  exact ⟨h1, h2, h3, A, ta, tc, tcs, fa, fc, ba, bc, z, hA, hb, fun h => absurd ht h, hS, hr⟩
theorem DX.c5 {s : List UInt8} {K : Nat → Prop} {w : World} {p : Nat} {st : TS} (h : DX s K w p st) : ∃ z : Nat, w.cell? ⟨p, 5, none⟩ = some (.int .i64 (z : Int)) := by
  obtain ⟨_, _, _, A, ta, tc, tcs, fa, fc, ba, bc, z, _, hb, _⟩ := h
  exact ⟨z, by rw [cell_block hb]; rfl⟩

set_option maxRecDepth 20000 in
set_option maxHeartbeats 1000000 in
theorem dtext (s : List UInt8) (K : Nat → Prop) (p : Nat) (st : TS) (w : World) (h : DX s K w p st) (t : List UInt8) (n : Nat) (hn : n ≤ st.rest.length) (hs : s.length ≤ 1000000) (ht : pot st + t.length ≤ 1000000000) :
    Calls Try.prog 21 #[.pointer (some ⟨p, 0, none⟩), sv t, .int .i64 n] w fun e w' => e = .returned (.tuple #[]) ∧ DX s K w' p ((st.cut n).addT t st.pl) ∧ Kept K w w' := by
  have hlen := h.len
  have hpl : st.pl ≤ 1000000 := by omega
  have hnn : n ≤ 1000000 := by omega
  have hKp := h.2.1
  obtain ⟨z, c5⟩ := h.c5
  by_cases h0 : st.text = []
  · have hX := h.from_ st.pl
    have kX : Kept K w (w.setCell ⟨p, 5, none⟩ (.int .i64 (st.pl : Int))) := (Kept.refl K w).setCell (p := ⟨p, 5, none⟩) hKp _
    have hW5 : (w.setCell ⟨p, 5, none⟩ (.int .i64 (st.pl : Int))).cell? ⟨p, 5, none⟩ = some (.int .i64 (st.pl : Int)) := by
      obtain ⟨_, _, _, A, ta, tc, tcs, fa, fc, ba, bc, z, _, hb, _⟩ := hX
      obtain ⟨_, _, _, A, ta, tc, tcs, fa, fc, ba, bc, z, _, hb0, _⟩ := h
      rw [cell_block (heap_setCell_at hb0 5 _)]
      rfl
    obtain ⟨W, hW⟩ : ∃ W, w.setCell ⟨p, 5, none⟩ (.int .i64 (st.pl : Int)) = W := ⟨_, rfl⟩
    rw [hW] at hX kX hW5
    obtain ⟨ba, bc, d4, ba', bc', w', hr, e4, g4, hY, kY⟩ := hX.appX t (by unfold pot at ht; dsimp only; omega) (fun _ _ => hW5)
    obtain ⟨hZ, kZ⟩ := hY.cutAt (m := n) hn (n := ((st.pl + n : Nat) : Int)) rfl
    have HZ : Hid (DX s K ((w'.setCell ⟨p, 4, none⟩ (.slice ba' (st.text.length + t.length) bc')).setCell ⟨p, 1, none⟩ (.int .i64 ((st.pl + n : Nat) : Int))) p ((st.cut n).addT t st.pl)) := by
      show DX _ _ _ _ _
      unfold TS.addT
      split
      · rename_i htn
        have := hZ.tat (by show st.text ++ t = []; rw [h0, htn]; rfl) st.tat
        have e : ({ ({ ({ st with tat := st.pl } : TS) with text := st.text ++ t } : TS).cut n with tat := st.tat } : TS) = st.cut n := by
          subst htn
          unfold TS.cut
          simp
        rw [← e]
        exact this
      · have e : (({ ({ st with tat := st.pl } : TS) with text := st.text ++ t } : TS).cut n) = { (st.cut n) with text := (st.cut n).text ++ t, tat := if (st.cut n).text = [] then st.pl else (st.cut n).tat } := by
          unfold TS.cut
          dsimp only
          rw [if_pos h0]
        rw [← e]
        exact hZ
    have HK : Hid (Kept K w ((w'.setCell ⟨p, 4, none⟩ (.slice ba' (st.text.length + t.length) bc')).setCell ⟨p, 1, none⟩ (.int .i64 ((st.pl + n : Nat) : Int)))) := (kX.trans kY).trans kZ
    obtain ⟨x0, x1, x2⟩ := h.cells
    have y1 := hX.cells.2.1
    have y2 := hY.cells.2.1
    have fr := h.cells.2.2
    have fr2 := hY.cells.2.2
    have f5 := fr 5
    have g1 := fr2 1
    have HW : Hid (w.setCell ⟨p, 5, none⟩ (.int .i64 (st.pl : Int)) = W) := hW
    have c4 : w.cell? ⟨p, 4, none⟩ = some (.slice ba st.text.length bc) := by
      obtain ⟨_, _, _, A, ta1, tc1, tcs1, fa1, fc1, ba1, bc1, z1, _, hb0, _⟩ := h
      have e : W.cell? ⟨p, 4, none⟩ = w.cell? ⟨p, 4, none⟩ := by
        rw [← hW, cell_block (heap_setCell_at hb0 5 _), cell_block hb0]
        rfl
      rw [← e]
      exact d4
    rw [h0] at c4
    dsimp only at d4 e4 hr y1 y2
    rw [h0] at d4 e4 hr y2 HZ HK g1
    simp only [List.length_nil, Nat.zero_add] at d4 e4 hr y2 HZ HK g1 c4
    clear h hX hY hZ kX kY kZ hW fr fr2 h0 hW5 ht x0 x2
    go_enter Try.func21, Try.ntmps21
    go_upto_region 2 with fail
    rw [HW.out]
    clear HW c4 c5 f5 x1
    go_wp2_with (at_builtin; refine wpList_appR (w' := w') rfl (.tmp 23) (.tmp 24) 53 9 rfl _ _ (.slice ba' t.length bc') rfl rfl hr ?_)
    go_wp2
    go_end0
    exact ⟨rfl, HZ.out, HK.out⟩
  · obtain ⟨ba, bc, c4, ba', bc', w', hr, e4, g4, hY, kY⟩ := h.appX t (by unfold pot at ht; omega) (fun h => absurd h h0)
    obtain ⟨hZ, kZ⟩ := hY.cutAt (m := n) hn (n := ((st.pl + n : Nat) : Int)) rfl
    have HZ : Hid (DX s K ((w'.setCell ⟨p, 4, none⟩ (.slice ba' (st.text.length + t.length) bc')).setCell ⟨p, 1, none⟩ (.int .i64 ((st.pl + n : Nat) : Int))) p ((st.cut n).addT t st.pl)) := by
      show DX _ _ _ _ _
      unfold TS.addT
      split
      · rename_i htn
        subst htn
        rw [List.append_nil] at hZ
        exact hZ
      · have e : (({ st with text := st.text ++ t } : TS).cut n) = { (st.cut n) with text := (st.cut n).text ++ t, tat := if (st.cut n).text = [] then st.pl else (st.cut n).tat } := by
          unfold TS.cut
          dsimp only
          rw [if_neg h0]
        rw [← e]
        exact hZ
    have HK : Hid (Kept K w ((w'.setCell ⟨p, 4, none⟩ (.slice ba' (st.text.length + t.length) bc')).setCell ⟨p, 1, none⟩ (.int .i64 ((st.pl + n : Nat) : Int)))) := kY.trans kZ
    have y2 := hY.cells.2.1
    have g1 := hY.cells.2.2 1
    have hl0 : (((st.text.length : Nat) : Int) == 0) = false := by
      have : 0 < st.text.length := List.length_pos_iff.2 h0
      simp
      intro e
      exact h0 e
    dsimp only at y2
    obtain ⟨m, hm⟩ : ∃ m, st.text.length = m := ⟨_, rfl⟩
    rw [hm] at c4 hr e4 HZ HK y2 g1 hl0
    clear h hY hZ kY kZ h0 ht hm c5
    go_enter Try.func21, Try.ntmps21
    go_upto_region 2 with fail
    go_wp2_with (at_builtin; refine wpList_appR (w' := w') rfl (.tmp 23) (.tmp 24) 53 9 rfl _ _ (.slice ba' (m + t.length) bc') rfl rfl hr ?_)
    go_wp2
    go_end0
    exact ⟨rfl, HZ.out, HK.out⟩

set_option maxRecDepth 20000 in
set_option maxHeartbeats 1000000 in
theorem ddone (s : List UInt8) (K : Nat → Prop) (p : Nat) (st : TS) (w : World) (h : DX s K w p st) (hn : pot st ≤ 1000000000) :
    Calls Try.prog 22 #[.pointer (some ⟨p, 0, none⟩)] w fun e w' => e = .returned (.tuple #[]) ∧ DX s K w' p st.endT ∧ Kept K w w' := by
  have hKp := h.2.1
  obtain ⟨ba, bc, c4, hcv, c5⟩ := h.text
  have f4 := h.cells.2.2 4
  by_cases h0 : st.text = []
  · have HZ : Hid (DX s K (w.setCell ⟨p, 4, none⟩ (.slice none 0 0)) p st.endT) := by
      have e : st.endT = { st with text := [] } := by
        unfold TS.endT
        rw [if_pos h0]
        rw [← h0]
      show DX _ _ _ _ _
      rw [e]
      exact h.noX
    have HK : Hid (Kept K w (w.setCell ⟨p, 4, none⟩ (.slice none 0 0))) := (Kept.refl K w).setCell (p := ⟨p, 4, none⟩) hKp _
    rw [h0] at c4
    clear h hn hcv c5 h0
    go_enter Try.func22, Try.ntmps22
    go_wp2
    go_end0
    exact ⟨rfl, HZ.out, HK.out⟩
  · replace c5 := c5 h0
    obtain ⟨ta, tc, c2, c2a, ta', tc', w', hr, e2, g2, hY, kY⟩ := h.drew.app3 (by unfold pot at hn; omega) st.text st.tat
    have hZ := hY.noX
    have e4 : (w'.setCell ⟨p, 2, none⟩ (.slice ta' (st.toks.length + 1) tc')).frozen? ⟨p, 4, none⟩ = false := hY.cells.2.2 4
    obtain ⟨bx, bcx, c4x, -⟩ := hY.text
    have HZ : Hid (DX s K ((w'.setCell ⟨p, 2, none⟩ (.slice ta' (st.toks.length + 1) tc')).setCell ⟨p, 4, none⟩ (.slice none 0 0)) p st.endT) := by
      have e : st.endT = { st with toks := st.toks ++ [⟨3, [], [], false, st.text, st.tat⟩], text := [] } := by
        unfold TS.endT
        rw [if_neg h0]
      show DX _ _ _ _ _
      rw [e]
      exact hZ
    have HK : Hid (Kept K w ((w'.setCell ⟨p, 2, none⟩ (.slice ta' (st.toks.length + 1) tc')).setCell ⟨p, 4, none⟩ (.slice none 0 0))) := ((Kept.refl K w).drew.trans kY).setCell (p := ⟨p, 4, none⟩) hKp _
    have hl0 : 0 < st.text.length := List.length_pos_iff.2 h0
    dsimp only at c4x
    obtain ⟨n, hne⟩ : ∃ n, st.toks.length = n := ⟨_, rfl⟩
    obtain ⟨m, hm⟩ : ∃ m, st.text.length = m := ⟨_, rfl⟩
    rw [hne] at c2 c2a hr e2 e4 HZ HK c4x
    rw [hm] at c4 hcv hl0 c4x
    have c4d : w.drew.cell? ⟨p, 4, none⟩ = some (.slice ba m bc) := c4
    have c5d : w.drew.cell? ⟨p, 5, none⟩ = some (.int .i64 (st.tat : Int)) := c5
    have hcvd : (convert 53 9 (.slice ba m bc)).run Try.prog w.drew = .ok (sv st.text) w.drew := by
      have ho := h.drew.text
      obtain ⟨b2, bc2, q1, q2, -⟩ := ho
      rw [hm] at q1 q2
      rw [c4d] at q1
      injection q1 with q1
      injection q1 with e1 e2 e3
      subst e1
      subst e3
      exact q2
    have c2b : (w.alloc (.cells #[.int .u8 3, .string ⟨#[]⟩, .slice none 0 0, .bool false, sv st.text, .int .i64 (st.tat : Int)] 43)).drew.cell? ⟨p, 2, none⟩ = some (.slice ta n tc) := c2a
    have c2c : (w.alloc (.cells #[.int .u8 3, .string ⟨#[]⟩, .slice none 0 0, .bool false, sv st.text, .int .i64 (st.tat : Int)] 43)).cell? ⟨p, 2, none⟩ = some (.slice ta n tc) := c2a
    clear h hn hY hZ kY h0 hcv c2a hne hm
    go_enter Try.func22, Try.ntmps22
    go_wp2_with fail
    go_region_law (refine step_appR (w' := w') rfl (.tmp 12) (.tmp 23) 24 24 rfl _ _ (.slice ta' (n + 1) tc') rfl rfl hr ?_)
    all_goals
      go_wp2
      go_end0
      exact ⟨rfl, HZ.out, HK.out⟩
end Go.Proofs.Ytffllhohlfblnaa
