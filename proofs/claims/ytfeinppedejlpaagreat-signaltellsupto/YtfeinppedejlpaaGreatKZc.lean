/-
  The Board: mark, Pending, Take.
-/
import Derived.Test.YtfeinppedejlpaaGreatKZb
import Derived.Laws.MakeOwn
import Derived.Laws.CopyRow
namespace Go.Proofs.YtfeinppedejlpaaGreat
set_option maxHeartbeats 8000000
set_option maxRecDepth 100000
open Go.RowKit
set_option linter.unusedVariables false
theorem zih (k : Nat) : ¬ zaf none k := fun h => by cases h
def mkP (pd : List Nat) (i : Nat) : List Nat := if i ∈ pd then pd else pd ++ [i]
structure Gr (E E' : Nat -> Prop) (w w' : World) : Prop where
 sub : ∀ k, E k -> E' k
 new : ∀ k, E' k -> E k \/ w.heap.size <= k
 kept : Kept (fun k => k < w.heap.size /\ ¬ E k) w w'
theorem zrk {E : Nat -> Prop} {w : World} {b n : Nat} {kn : Nat -> List Nat} {pd : List Nat} (h : Bo E w b n kn pd) (hp : pd.length <= 100000) (i : Nat) (hi : i <= 1000000) :
  Calls Tryz.prog 109 #[.pointer (some ⟨b, 0, none⟩), .int .i64 (i : Int)] w fun e w' => e = .returned (.tuple #[]) /\ ∃ E', Bo E' w' b n kn (mkP pd i) /\ Gr E E' w w' := by
 have hB := h
 obtain ⟨h1, h2, mb, ap, c, F, h3, h4, h5, h6, h7, h8⟩ := h
 have hc1 : w.cell? ⟨b, 1, none⟩ = some (.slice ap pd.length c) := by rw [zaa h5]; rfl
 have rc := zhy pd ap pd.length c rfl (by omega) i w (h8.intsAt fun g hg => (h8.out hg).2)
 obtain ⟨q, hq⟩ : ∃ q, pd.length = q := ⟨_, rfl⟩
 by_cases hin : i ∈ pd
 ·have HB : Hid (∃ E', Bo E' w b n kn (mkP pd i) /\ Gr E E' w w) := by
   refine ⟨E, ?_, ⟨fun _ h => h, fun _ h => .inl h, Kept.refl _ _⟩⟩
   unfold mkP
   rw [if_pos hin]
   exact hB
  rw [decide_eq_true hin] at rc
  rw [hq] at hc1 rc
  clear h1 h2 h3 h4 h5 h6 h7 h8 hB hq hin hp
  go_enter Tryz.func109, Tryz.ntmps109
  go_wp2_with fail
  refine rc.mono ?_
  rintro e w1 ⟨rfl, hw⟩
  replace hw := hw.symm
  subst hw
  clear rc
  go_wp2
  go_end0
  exact ⟨rfl, HB.out⟩
 ·have h8' : Zac (fun k => k < w.heap.size /\ ¬ zaf ap k) w 3 1 ap pd.length c (ivs pd) := h8.to (fun g hg hh => hh.2 hg) (fun _ _ => rfl)
  obtain ⟨ap', c', w1, hrun, hO, hk⟩ := zkx h8' (fun k hk => hk.1) (by omega) (i : Int)
  have hbK : b < w.heap.size /\ ¬ zaf ap b := ⟨h1 b h2, fun hh => (h8.out hh).1 (.inr (.inl rfl))⟩
  have hmK : mb < w.heap.size /\ ¬ zaf ap mb := ⟨h1 mb h3, fun hh => (h8.out hh).1 (.inr (.inr rfl))⟩
  have hb1 : w1.heap[b]? = some (.cells #[.map (some mb), .slice ap pd.length c] 118 (0, 0)) := (hk.block b hbK).trans h5
  have hb2 : (w1.setCell ⟨b, 1, none⟩ (.slice ap' (pd.length + 1) c')).heap[b]? = some (.cells #[.map (some mb), .slice ap' (pd.length + 1) c'] 118 (0, 0)) := zag hb1 1 _
  have k2 : Kept (fun k => k ≠ b) w1 (w1.setCell ⟨b, 1, none⟩ (.slice ap' (pd.length + 1) c')) := (Kept.refl _ w1).setCell (p := ⟨b, 1, none⟩) (fun hh => hh rfl) _
  have hnb : ∀ g, zaf ap' g -> g ≠ b /\ g ≠ mb /\ (zaf ap g \/ w.heap.size <= g) := fun g hg => by
   have := (hO.out hg).1
   refine ⟨fun e => this (e ▸ hbK), fun e => this (e ▸ hmK), ?_⟩
   by_cases hb : zaf ap g
   ·exact .inl hb
   ·exact .inr (Nat.le_of_not_lt fun hl => this ⟨hl, hb⟩)
  have hap : ∀ g, zaf ap g -> E g := fun g hg => Classical.byContradiction fun hn => (h8.out hg).1 (.inl hn)
  have HB : Hid (∃ E', Bo E' (w1.setCell ⟨b, 1, none⟩ (.slice ap' (pd.length + 1) c')) b n kn (mkP pd i) /\ Gr E E' w (w1.setCell ⟨b, 1, none⟩ (.slice ap' (pd.length + 1) c'))) := by
   refine ⟨fun k => E k \/ zaf ap' k, ?_, ⟨fun k hE => .inl hE, fun k hE => ?_, ?_⟩⟩
   ·unfold mkP
    rw [if_neg hin]
    have hs2 : w.heap.size <= (w1.setCell ⟨b, 1, none⟩ (.slice ap' (pd.length + 1) c')).heap.size := Nat.le_trans hk.size k2.size
    refine ⟨fun k hE => ?_, .inl h2, mb, ap', c', F, .inl h3, h4, by rw [List.length_append]; exact hb2, h6.of ((k2.block mb h4).trans (hk.block mb hmK)), fun j hj => ?_, ?_⟩
    ·rcases hE with hE | hE
     ·exact ltl (h1 k hE) hs2
     ·exact ltl (hO.out hE).2 k2.size
    ·obtain ⟨a, cc, e, hI⟩ := h7 j hj
     refine ⟨a, cc, e, hI.to (fun g hg => ⟨.inl hg.1, hg.2.1, hg.2.2.1, fun hh => ?_⟩) (fun g hg => (k2.block g hg.2.1).trans (hk.block g ⟨h1 g hg.1, hg.2.2.2⟩))⟩
     rcases (hnb g hh).2.2 with h | h
     ·exact hg.2.2.2 h
     ·have := h1 g hg.1; omega
    ·rw [List.length_append, zcy]
     refine Zac.to hO (fun g hg hh => ?_) (fun g hg => k2.block g (hnb g hg).1)
     rcases hh with hh | hh | hh
     ·exact hh (.inr hg)
     ·exact (hnb g hg).1 hh
     ·exact (hnb g hg).2.1 hh
   ·rcases hE with hE | hE
    ·exact .inl hE
    ·rcases (hnb k hE).2.2 with h | h
     ·exact .inl (hap k h)
     ·exact .inr h
   ·refine (hk.mono fun k hk' => ⟨hk'.1, fun hh => hk'.2 (hap k hh)⟩).trans (k2.mono fun k hk' e => hk'.2 (e ▸ h2))
  have hf : w1.frozen? ⟨b, 1, none⟩ = false := zak hb1 1
  have hcw : w1.cell? ⟨b, 1, none⟩ = some (.slice ap pd.length c) := by rw [zaa hb1]; rfl
  rw [decide_eq_false hin] at rc
  rw [hq] at hc1 rc hrun hcw HB
  have hq2 : q <= 100000 := by omega
  clear h1 h2 h3 h4 h5 h6 h7 h8 hB hq hin hp h8' hO hk hb1 hb2 k2 hnb hap hbK hmK
  go_enter Tryz.func109, Tryz.ntmps109
  go_wp2_with fail
  refine rc.mono ?_
  rintro e w2 ⟨rfl, hw⟩
  replace hw := hw.symm
  subst hw
  clear rc
  go_wp2_with (at_builtin; refine zae (w' := w1) rfl (.tmp 15) (.tmp 17) 33 33 rfl _ _ (.slice ap' (q + 1) c') rfl rfl hrun ?_)
  go_end0
  exact ⟨rfl, HB.out⟩
theorem zja {w w' : World} {ops : Array Oper} {rest : List Oper} {o : Oper} {a : Act} {Q : Exit -> Act -> World -> Prop} (hg : o.guard = none) (m x : Operand) (t k : TypeId) (hop : o.op = Op.call { callee := Callee.builtin Builtin.copy, args := #[m, x], argTypes := #[t, k] })
  (vm key v : Value) (hm : a.eval m = vm) (hx : a.eval x = key) (hrun : (Builtin.copy_ #[t, k] o.type #[vm, key]).run Tryz.prog w = .ok v w') (hK : wpList Tryz.prog ops Q rest (a.put o.dst v) w') : wpList Tryz.prog ops Q (o :: rest) a w := by
 refine wpList_plain hg fun K' hK' => ?_
 unfold Oper.wp
 simp [execOp, hop, resolve, invoke, builtin, hm, hx, hrun, Result.andThen]
 exact hK' _ _ hK
theorem zrh {w : World} {l : List Nat} {aa : Option Addr} {n c : Nat} (hn : l.length = n) (hb : n <= 100000) (ha : Zad (fun k => k < w.heap.size) w aa l) (mc : Array Value) (hmc : mc.size = n * 1) :
  ∃ w', (Builtin.copy_ #[33, 33] 3 #[.slice (some ⟨w.heap.size, 0, none⟩) n n, .slice aa n c]).run Tryz.prog (w.alloc (.cells mc 3)) = .ok (goInt n) w' /\ Zac (fun k => k < w.heap.size) w' 3 1 (some ⟨w.heap.size, 0, none⟩) n n (ivs l) /\ Kept (fun k => k < w.heap.size) w w' := by
 obtain ⟨inf, hi, hip⟩ := Option.map_eq_some_iff.1 zgh
 have hsz : inf.size = 1 := congrArg (·.2.1) hip
 have kA : Kept (fun k => k < w.heap.size) w (w.alloc (.cells mc 3)) := (Kept.refl _ w).alloc (fun _ h => h) _
 have hl1 : (ivs l).length = n * 1 := by rw [ivs, List.length_map, hn, Nat.mul_one]
 cases aa with
 | none =>
  have h0 : n = 0 := by
   rcases Nat.eq_zero_or_pos n with h | h
   ·exact h
   ·obtain ⟨g, o, e, _⟩ := ha 0 (by omega); cases e
  subst h0
  have hl : l = [] := List.eq_nil_of_length_eq_zero hn
  subst hl
  refine ⟨w.alloc (.cells mc 3), ?_, ⟨rfl, Nat.le_refl _, Nat.zero_le _, .inr ⟨_, mc, rfl, Nat.lt_irrefl _, heap_alloc_new w _, hmc, by simp [ivs]⟩⟩, kA⟩
  simp [Builtin.copy_, run_underlying Tryz.underlying33, Builtin.lenOf, Builtin.firstCells, sizeOf, typeInfo, hi, storeCells]
 | some a =>
  have hrun := znp (P := Tryz.prog) (w.alloc (.cells mc 3)) 33 3 3 inf 1 w.heap.size n n c a mc (ivs l) Tryz.underlying33 hi hsz (heap_alloc_new w _) hl1 hmc (fun j v hj => by
   rw [ivs, List.getElem?_map] at hj
   obtain ⟨x, hx, rfl⟩ := Option.map_eq_some_iff.1 hj
   obtain ⟨hjl, hx⟩ := List.getElem?_eq_some_iff.1 hx
   obtain ⟨g, o, e, hg, hc⟩ := ha j hjl
   have e := Option.some.inj e
   subst e
   rw [Addr.add_lit, kA.cell (p := ⟨g, o + j, none⟩) hg, hc, hx]) (zk8 l)
  refine ⟨_, hrun, ⟨hl1, Nat.le_refl _, ?_, .inr ⟨_, (ivs l).toArray, rfl, Nat.lt_irrefl _, setRow_heap _ _ _ _ _ _ (heap_alloc_new w _), by simp [hl1], ?_⟩⟩, zap kA (Nat.lt_irrefl _) _⟩
  ·have hm : (100000 : Nat) <= maxLen := by decide +kernel
   exact Nat.le_trans hb hm
  ·show List.take (n * 1) (ivs l) = ivs l
   rw [List.take_of_length_le (by rw [hl1]; exact Nat.le_refl _)]
theorem zc2 {E : Nat -> Prop} {w : World} {b n : Nat} {kn : Nat -> List Nat} {pd : List Nat} (h : Bo E w b n kn pd) (hp : pd.length <= 100000) :
  Calls Tryz.prog 36 #[.pointer (some ⟨b, 0, none⟩)] w (Lst w pd) := by
 obtain ⟨h1, h2, mb, ap, c, F, h3, h4, h5, h6, h7, h8⟩ := h
 have hc1 : w.cell? ⟨b, 1, none⟩ = some (.slice ap pd.length c) := by rw [zaa h5]; rfl
 obtain ⟨inf, hi, hip⟩ := Option.map_eq_some_iff.1 zgh
 have hz : inf.zero = some (.int .i64 0) := congrArg (·.1) hip
 have hsz : inf.size = 1 := congrArg (·.2.1) hip
 have hby : inf.bytes = 8 := congrArg (·.2.2) hip
 obtain ⟨q, hq⟩ : ∃ q, pd.length = q := ⟨_, rfl⟩
 have hmake := run_make (P := Tryz.prog) w 33 3 inf _ Tryz.underlying33 hi hz .i64 .i64 (q : Int) (q : Int) (by omega) (Int.le_refl _) (by rw [hby]; omega) (by omega)
 rw [Int.toNat_natCast] at hmake
 obtain ⟨mc, hmc⟩ : ∃ mc, madeCells (Value.int .i64 0).cells (q * inf.size) = mc := ⟨_, rfl⟩
 rw [hmc] at hmake
 obtain ⟨w', hcopy, hO, hk⟩ := zrh (w := w) (l := pd) (aa := ap) (n := q) (c := c) hq (by omega) (h8.intsAt fun g hg => (h8.out hg).2) mc (by rw [<- hmc, hsz]; simp [madeCells, Value.cells])
 obtain ⟨W, hW⟩ : ∃ W, w.alloc (.cells mc 3) = W := ⟨_, rfl⟩
 obtain ⟨N, hN⟩ : ∃ N, w.heap.size = N := ⟨_, rfl⟩
 have kW : Kept (fun k => k < w.heap.size) w W := by rw [<- hW]; exact (Kept.refl _ w).alloc (fun _ h => h) _
 have hc2 : W.cell? ⟨b, 1, none⟩ = some (.slice ap q c) := by rw [<- hq]; exact (kW.cell (p := ⟨b, 1, none⟩) (h1 b h2)).trans hc1
 rw [hW] at hmake hcopy
 rw [hq] at hc1
 have HL : Hid (Lst w pd (.returned (.slice (some ⟨N, 0, none⟩) q q)) w') := ⟨some ⟨N, 0, none⟩, q, by rw [hq], by rw [hq, <- hN]; exact hO, hk⟩
 rw [hN] at hmake hcopy
 clear h1 h2 h3 h4 h5 h6 h7 h8 hip hz hsz hby hmc hO hk kW hW hN hi
 go_enter Tryz.func36, Tryz.ntmps36
 go_wp2_with (at_builtin; refine zja (w' := w') rfl (.tmp 10) (.tmp 14) 33 33 rfl _ _ _ rfl rfl hcopy ?_)
 go_ret
 exact HL.out
theorem zll {E : Nat -> Prop} {w : World} {b n : Nat} {kn : Nat -> List Nat} {pd : List Nat} (h : Bo E w b n kn pd) (hp : pd.length <= 100000) :
  Calls Tryz.prog 34 #[.pointer (some ⟨b, 0, none⟩)] w fun e w' => ∃ ao c, e = .returned (.slice ao pd.length c) /\ Zac (fun k => k < w.heap.size) w' 3 1 ao pd.length c (ivs pd) /\ Bo E w' b n kn [] /\ Kept (fun k => k < w.heap.size /\ ¬ E k) w w' := by
 have rp := zc2 h hp
 have HB : Hid (Bo E w b n kn pd) := h
 clear h
 go_enter Tryz.func34, Tryz.ntmps34
 go_wp2_with fail
 refine rp.mono ?_
 rintro e w1 ⟨ao, c, rfl, hO, hk⟩
 obtain ⟨h1, h2, mb, ap, c0, F, h3, h4, h5, h6, h7, h8⟩ := HB.out.keptA hk
 have hcw : w1.cell? ⟨b, 1, none⟩ = some (.slice ap pd.length c0) := by rw [zaa h5]; rfl
 have hf : w1.frozen? ⟨b, 1, none⟩ = false := zak h5 1
 have hb2 : (w1.setCell ⟨b, 1, none⟩ (.slice none 0 0)).heap[b]? = some (.cells #[.map (some mb), .slice none 0 0] 118 (0, 0)) := zag h5 1 _
 have k2 : Kept (fun k => k ≠ b) w1 (w1.setCell ⟨b, 1, none⟩ (.slice none 0 0)) := (Kept.refl _ w1).setCell (p := ⟨b, 1, none⟩) (fun hh => hh rfl) _
 have hbl := HB.out.lt b h2
 have HR : Hid (Zac (fun k => k < w.heap.size) (w1.setCell ⟨b, 1, none⟩ (.slice none 0 0)) 3 1 ao pd.length c (ivs pd)) := hO.to (fun g hg => (hO.out hg).1) (fun g hg => k2.block g fun e => (hO.out hg).1 (e ▸ hbl))
 have HB2 : Hid (Bo E (w1.setCell ⟨b, 1, none⟩ (.slice none 0 0)) b n kn []) := by
  refine ⟨fun k hE => ltl (h1 k hE) k2.size, h2, mb, none, 0, F, h3, h4, hb2, h6.of (k2.block mb h4), fun j hj => ?_, Zac.nil _ _ _ _⟩
  obtain ⟨a, cc, e, hI⟩ := h7 j hj
  exact ⟨a, cc, e, hI.to (fun g hg => ⟨hg.1, hg.2.1, hg.2.2.1, zih g⟩) (fun g hg => k2.block g hg.2.1)⟩
 have HK2 : Hid (Kept (fun k => k < w.heap.size /\ ¬ E k) w (w1.setCell ⟨b, 1, none⟩ (.slice none 0 0))) := (hk.mono fun k h => h.1).trans (k2.mono fun k h e => h.2 (e ▸ h2))
 obtain ⟨q, hq⟩ : ∃ q, pd.length = q := ⟨_, rfl⟩
 rw [hq] at hcw HR ⊢
 have HQ : Hid (pd.length = q) := hq
 clear h1 h2 h3 h4 h5 h6 h7 h8 hb2 k2 hbl hO hk rp HB hq
 go_wp2
 go_ret
 exact ⟨ao, c, by rw [HQ.out]; rfl, by rw [HQ.out]; exact HR.out, HB2.out, HK2.out⟩
end Go.Proofs.YtfeinppedejlpaaGreat
