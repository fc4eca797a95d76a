/-
  The document's own Board: what it holds in memory, New, Pending, Take, and the three stores of See.
-/
import Derived.Test.YtfeinppedejlpaaGreatKZd
namespace Go.Proofs.YtfeinppedejlpaaGreat
set_option maxHeartbeats 8000000
set_option maxRecDepth 100000
open Go.RowKit
set_option linter.unusedVariables false
structure DBo (E : Nat -> Prop) (w : World) (b m : Nat) (kn : Nat -> List Nat) (pd : List Nat) : Prop where
 lt : ∀ k, E k -> k < w.heap.size
 eb : E b
 far : ∀ i, m <= i -> kn i = []
 ex : ∃ kp kc lp lc vs, w.heap[b]? = some (.cells #[.slice kp m kc, .slice lp pd.length lc] 120 (0, 0)) /\
  Zac (fun k => ¬ E k \/ k = b \/ zaf lp k) w 33 1 kp m kc vs /\
  (∀ i, i < m -> ∃ a cc, vs[i]? = some (.slice a (kn i).length cc) /\ Zad (fun g => E g /\ g ≠ b /\ ¬ zaf kp g /\ ¬ zaf lp g) w a (kn i)) /\
  Zac (fun k => ¬ E k \/ k = b) w 3 1 lp pd.length lc (ivs pd)
section
variable {E : Nat -> Prop} {w w' : World} {b m : Nat} {kn : Nat -> List Nat} {pd : List Nat}
theorem DBo.kept (h : DBo E w b m kn pd) (hk : Kept E w w') : DBo E w' b m kn pd := by
 obtain ⟨h1, h2, hf, kp, kc, lp, lc, vs, h5, h6, h7, h8⟩ := h
 refine ⟨fun k hE => ltl (h1 k hE) hk.size, h2, hf, kp, kc, lp, lc, vs, (hk.block b h2).trans h5, h6.to (fun g hg => (h6.out hg).1) (fun g hg => hk.block g ?_), fun i hi => ?_, h8.to (fun g hg => (h8.out hg).1) (fun g hg => hk.block g ?_)⟩
 ·exact Classical.byContradiction fun hn => (h6.out hg).1 (.inl hn)
 ·obtain ⟨a, cc, e, hI⟩ := h7 i hi
  exact ⟨a, cc, e, hI.to (fun g hg => hg) (fun g hg => hk.block g hg.1)⟩
 ·exact Classical.byContradiction fun hn => (h8.out hg).1 (.inl hn)
theorem DBo.keptA (h : DBo E w b m kn pd) (hk : Kept (fun k => k < w.heap.size) w w') : DBo E w' b m kn pd := h.kept (hk.mono fun k hE => h.lt k hE)
theorem zt2 : (Tryz.prog.info? 33).map (fun i => (i.zero, i.size, i.bytes)) = some (some (.slice none 0 0), 1, 24) := by kernel_rfl
theorem appN {K : Nat -> Prop} {w : World} {ao : Option Addr} {n cap : Nat} {xs : List Value} (h : Zac K w 33 1 ao n cap xs) (hKl : ∀ k, K k -> k < w.heap.size) (hn : n <= 1000000000) :
  ∃ ao' cap' w', (Builtin.append_ #[95, 95] 95 #[.slice ao n cap, .slice (some ⟨w.heap.size, 0, none⟩) 1 1]).run Tryz.prog (w.alloc (.cells #[.slice none 0 0] 33)) = .ok (.slice ao' (n + 1) cap') w' /\ Zac K w' 33 1 ao' (n + 1) cap' (xs ++ [.slice none 0 0]) /\ Kept K w w' := by
 obtain ⟨i, hi, hip⟩ := Option.map_eq_some_iff.1 zt2
 have hz : i.zero = some (.slice none 0 0) := congrArg (·.1) hip
 have hsz : i.size = 1 := congrArg (·.2.1) hip
 have hby : i.bytes = 24 := congrArg (·.2.2) hip
 obtain ⟨W, hW⟩ : ∃ W, w.alloc (.cells #[.slice none 0 0] 33) = W := ⟨_, rfl⟩
 rw [hW]
 have hsrc : Src Tryz.prog 1 95 (.slice (some ⟨w.heap.size, 0, none⟩) 1 1) 1 [.slice none 0 0] W := by
  rw [<- hW]
  exact zc5 w w.heap.size [.slice none 0 0] _ Tryz.underlying95 (by intro u hu; rw [List.mem_singleton.1 hu]; rfl) rfl rfl
 have kW : Kept (fun k => k < w.heap.size) w W := by rw [<- hW]; exact (Kept.refl _ w).alloc (fun _ h => h) _
 obtain ⟨ao', cap', w', hr, ho, hk⟩ := zin (P := Tryz.prog) W 95 95 95 33 i _ Tryz.underlying95 hi hz 1 hsz rfl (by omega)
  (h.to (w' := W) (fun g hg => (h.out hg).1) (fun g hg => kW.block g (h.out hg).2)) _ _ hsrc (fun g hg => ltl (hKl g hg) kW.size) hn
 exact ⟨ao', cap', w', hr, ho, (kW.mono hKl).trans hk⟩
theorem DBo.grow (h : DBo E w b m kn pd) (hm : m <= 100000) : ∃ kp kc kp' kc' w1, w.cell? ⟨b, 0, none⟩ = some (.slice kp m kc) /\
  (Builtin.append_ #[95, 95] 95 #[.slice kp m kc, .slice (some ⟨w.heap.size, 0, none⟩) 1 1]).run Tryz.prog (w.alloc (.cells #[.slice none 0 0] 33)) = .ok (.slice kp' (m + 1) kc') w1 /\
  w1.cell? ⟨b, 0, none⟩ = some (.slice kp m kc) /\ w1.frozen? ⟨b, 0, none⟩ = false /\
  ∃ E', DBo E' (w1.setCell ⟨b, 0, none⟩ (.slice kp' (m + 1) kc')) b (m + 1) kn pd /\ Gr E E' w (w1.setCell ⟨b, 0, none⟩ (.slice kp' (m + 1) kc')) := by
 obtain ⟨h1, h2, hf, kp, kc, lp, lc, vs, h5, h6, h7, h8⟩ := h
 have hK : Zac (fun k => k < w.heap.size /\ ¬ zaf kp k) w 33 1 kp m kc vs := h6.to (fun g hg hh => hh.2 hg) (fun _ _ => rfl)
 obtain ⟨kp', kc', w1, hrun, hO, hk⟩ := appN hK (fun k hk => hk.1) (by omega)
 have hbK : b < w.heap.size /\ ¬ zaf kp b := ⟨h1 b h2, fun hh => (h6.out hh).1 (.inr (.inl rfl))⟩
 have hb1 : w1.heap[b]? = some (.cells #[.slice kp m kc, .slice lp pd.length lc] 120 (0, 0)) := (hk.block b hbK).trans h5
 have hb2 : (w1.setCell ⟨b, 0, none⟩ (.slice kp' (m + 1) kc')).heap[b]? = some (.cells #[.slice kp' (m + 1) kc', .slice lp pd.length lc] 120 (0, 0)) := zag hb1 0 _
 have k2 : Kept (fun k => k ≠ b) w1 (w1.setCell ⟨b, 0, none⟩ (.slice kp' (m + 1) kc')) := (Kept.refl _ w1).setCell (p := ⟨b, 0, none⟩) (fun hh => hh rfl) _
 have hs2 : w.heap.size <= (w1.setCell ⟨b, 0, none⟩ (.slice kp' (m + 1) kc')).heap.size := Nat.le_trans hk.size k2.size
 have hlE : ∀ g, zaf lp g -> E g /\ g ≠ b /\ g < w.heap.size := fun g hg => ⟨Classical.byContradiction fun hn => (h8.out hg).1 (.inl hn), fun e => (h8.out hg).1 (.inr e), (h8.out hg).2⟩
 have hkE : ∀ g, zaf kp g -> E g := fun g hg => Classical.byContradiction fun hn => (h6.out hg).1 (.inl hn)
 have hnb : ∀ g, zaf kp' g -> g ≠ b /\ ¬ zaf lp g /\ (zaf kp g \/ w.heap.size <= g) := fun g hg => by
  have hx := (hO.out hg).1
  have hy : zaf kp g \/ w.heap.size <= g := by
   by_cases hb : zaf kp g
   ·exact .inl hb
   ·exact .inr (Nat.le_of_not_lt fun hl => hx ⟨hl, hb⟩)
  refine ⟨fun e => hx (e ▸ hbK), fun hl => ?_, hy⟩
  rcases hy with hy | hy
  ·exact (h6.out hy).1 (.inr (.inr hl))
  ·exact absurd (hlE g hl).2.2 (Nat.not_lt.2 hy)
 refine ⟨kp, kc, kp', kc', w1, by rw [zaa h5]; rfl, hrun, by rw [zaa hb1]; rfl, zak hb1 0, fun k => E k \/ zaf kp' k, ⟨fun k hE => ?_, .inl h2, fun i hi => hf i (by omega), kp', kc', lp, lc, vs ++ [.slice none 0 0], hb2, ?_, fun i hi => ?_, ?_⟩, ⟨fun k hE => .inl hE, fun k hE => ?_, ?_⟩⟩
 ·rcases hE with hE | hE
  ·exact ltl (h1 k hE) hs2
  ·exact ltl (hO.out hE).2 k2.size
 ·refine Zac.to hO (fun g hg hh => ?_) (fun g hg => k2.block g (hnb g hg).1)
  rcases hh with hh | hh | hh
  ·exact hh (.inr hg)
  ·exact (hnb g hg).1 hh
  ·exact (hnb g hg).2.1 hh
 ·by_cases c : i < m
  ·obtain ⟨a, cc, e, hI⟩ := h7 i c
   refine ⟨a, cc, ?_, hI.to (fun g hg => ⟨.inl hg.1, hg.2.1, fun hh => ?_, hg.2.2.2⟩) (fun g hg => (k2.block g hg.2.1).trans (hk.block g ⟨h1 g hg.1, hg.2.2.1⟩))⟩
   ·rw [List.getElem?_append_left (by have := h6.1; omega)]; exact e
   ·rcases (hnb g hh).2.2 with h | h
    ·exact hg.2.2.1 h
    ·have := h1 g hg.1; omega
  ·have e : i = m := by omega
   subst e
   rw [hf i (Nat.le_refl _)]
   refine ⟨none, 0, ?_, Zad.nil _ _ _⟩
   rw [List.getElem?_append_right (by have := h6.1; omega), show i - vs.length = 0 from by have := h6.1; omega]
   exact rfl
 ·exact h8.to (fun g hg hh => (h8.out hg).1 (hh.elim (fun x => .inl fun he => x (.inl he)) .inr)) (fun g hg => (k2.block g (hlE g hg).2.1).trans (hk.block g ⟨(hlE g hg).2.2, fun hh => (h6.out hh).1 (.inr (.inr hg))⟩))
 ·rcases hE with hE | hE
  ·exact .inl hE
  ·rcases (hnb k hE).2.2 with h | h
   ·exact .inl (hkE k h)
   ·exact .inr h
 ·exact (hk.mono fun k hk' => ⟨hk'.1, fun hh => hk'.2 (hkE k hh)⟩).trans (k2.mono fun k hk' e => hk'.2 (e ▸ h2))
theorem DBo.put (h : DBo E w b m kn pd) {i : Nat} (hi : i < m) {l : List Nat} {a : Option Addr} {q cc : Nat} (hq : l.length = q) (hr : ∀ g, zaf a g -> ¬ E g /\ g < w.heap.size) (hI : Zad (fun g => zaf a g) w a l) :
  ∃ kb kc ka kcc, w.cell? ⟨b, 0, none⟩ = some (.slice (some ⟨kb, 0, none⟩) m kc) /\ w.cell? ⟨kb, i, none⟩ = some (.slice ka (kn i).length kcc) /\ w.frozen? ⟨kb, i, none⟩ = false /\ Zad (fun g => g < w.heap.size) w ka (kn i) /\
  DBo (fun k => E k \/ zaf a k) (w.setCell ⟨kb, i, none⟩ (.slice a q cc)) b m (zaw kn i l) pd /\ Kept (fun k => k < w.heap.size /\ ¬ E k) w (w.setCell ⟨kb, i, none⟩ (.slice a q cc)) := by
 obtain ⟨h1, h2, hf, kp, kc, lp, lc, vs, h5, h6, h7, h8⟩ := h
 have h6' := h6
 obtain ⟨v1, v2, v3, v4⟩ := h6
 rcases v4 with ⟨rfl, rfl⟩ | ⟨kb, cur, rfl, r2, r3, r4, r5⟩
 ·omega
 have hkb : E kb := Classical.byContradiction fun hn => r2 (.inl hn)
 have hkbb : kb ≠ b := fun e => r2 (.inr (.inl e))
 obtain ⟨ka, kcc, e, hKI⟩ := h7 i hi
 have hvl : vs.length = m := by omega
 have hci : ∀ j, j < m -> cur[j]? = vs[j]? := fun j hj => by rw [<- Array.getElem?_toList, <- r5, List.getElem?_take, if_pos (by omega)]
 have hlE : ∀ g, zaf lp g -> E g /\ g ≠ b /\ g ≠ kb := fun g hg => ⟨Classical.byContradiction fun hn => (h8.out hg).1 (.inl hn), fun e => (h8.out hg).1 (.inr e), fun e => r2 (.inr (.inr (e ▸ hg)))⟩
 have k2 : Kept (fun k => k ≠ kb) w (w.setCell ⟨kb, i, none⟩ (.slice a q cc)) := (Kept.refl _ w).setCell (p := ⟨kb, i, none⟩) (fun hh => hh rfl) _
 have hb2 : (w.setCell ⟨kb, i, none⟩ (.slice a q cc)).heap[kb]? = some (.cells (cur.setIfInBounds i (.slice a q cc)) 33 (0, 0)) := zag r3 i _
 refine ⟨kb, kc, ka, kcc, by rw [zaa h5]; rfl, by rw [zaa r3, hci i hi]; exact e, zak r3 i, hKI.to (fun g hg => h1 g hg.1) (fun _ _ => rfl), ⟨fun k hE => ?_, .inl h2, fun j hj => ?_, some ⟨kb, 0, none⟩, kc, lp, lc, vs.set i (.slice a q cc), (k2.block b (fun e => hkbb e.symm)).trans h5, ?_, fun j hj => ?_, ?_⟩, k2.mono fun k hk' e => hk'.2 (e ▸ hkb)⟩
 ·rcases hE with hE | hE
  ·exact ltl (h1 k hE) k2.size
  ·exact ltl (hr k hE).2 k2.size
 ·rw [zaq _ _ (by omega)]
  exact hf j hj
 ·refine ⟨by rw [List.length_set]; exact v1, v2, v3, .inr ⟨kb, _, rfl, fun hh => ?_, hb2, by rw [Array.size_setIfInBounds]; exact r4, ?_⟩⟩
  ·rcases hh with hh | hh | hh
   ·exact hh (.inl hkb)
   ·exact hkbb hh
   ·exact r2 (.inr (.inr hh))
  ·rw [Array.toList_setIfInBounds, List.take_set, r5]
 ·by_cases c : j = i
  ·subst c
   rw [zaj, hq]
   refine ⟨a, cc, by rw [List.getElem?_set_self (by omega)], hI.to (fun g hg => ⟨.inr hg, fun e => (hr g hg).1 (e ▸ h2), fun e => (hr g hg).1 ?_, fun hl => (hr g hg).1 (hlE g hl).1⟩) (fun g hg => k2.block g fun e => (hr g hg).1 (e ▸ hkb))⟩
   have : g = kb := by simpa [zaf] using e.symm
   rw [this]; exact hkb
  ·rw [zaq _ _ c]
   obtain ⟨a', c', e', hI'⟩ := h7 j hj
   refine ⟨a', c', by rw [List.getElem?_set_ne (fun e => c e.symm)]; exact e', hI'.to (fun g hg => ⟨.inl hg.1, hg.2⟩) (fun g hg => k2.block g fun e => hg.2.2.1 ?_)⟩
   rw [e]; simp [zaf]
 ·exact h8.to (fun g hg hh => (h8.out hg).1 (hh.elim (fun x => .inl fun he => x (.inl he)) .inr)) (fun g hg => k2.block g (hlE g hg).2.2)
theorem DBo.add (h : DBo E w b m kn pd) (hp : pd.length <= 100000) (i : Nat) : ∃ lp lc lp' lc' w1, w.cell? ⟨b, 1, none⟩ = some (.slice lp pd.length lc) /\
  (Builtin.append_ #[33, 33] 33 #[.slice lp pd.length lc, .slice (some ⟨w.heap.size, 0, none⟩) 1 1]).run Tryz.prog (w.alloc (.cells #[.int .i64 (i : Int)] 3)) = .ok (.slice lp' (pd.length + 1) lc') w1 /\
  w1.cell? ⟨b, 1, none⟩ = some (.slice lp pd.length lc) /\ w1.frozen? ⟨b, 1, none⟩ = false /\
  ∃ E', DBo E' (w1.setCell ⟨b, 1, none⟩ (.slice lp' (pd.length + 1) lc')) b m kn (pd ++ [i]) /\ Gr E E' w (w1.setCell ⟨b, 1, none⟩ (.slice lp' (pd.length + 1) lc')) := by
 obtain ⟨h1, h2, hf, kp, kc, lp, lc, vs, h5, h6, h7, h8⟩ := h
 have h8' : Zac (fun k => k < w.heap.size /\ ¬ zaf lp k) w 3 1 lp pd.length lc (ivs pd) := h8.to (fun g hg hh => hh.2 hg) (fun _ _ => rfl)
 obtain ⟨lp', lc', w1, hrun, hO, hk⟩ := zkx h8' (fun k hk => hk.1) (by omega) (i : Int)
 have hbK : b < w.heap.size /\ ¬ zaf lp b := ⟨h1 b h2, fun hh => (h8.out hh).1 (.inr rfl)⟩
 have hb1 : w1.heap[b]? = some (.cells #[.slice kp m kc, .slice lp pd.length lc] 120 (0, 0)) := (hk.block b hbK).trans h5
 have hb2 : (w1.setCell ⟨b, 1, none⟩ (.slice lp' (pd.length + 1) lc')).heap[b]? = some (.cells #[.slice kp m kc, .slice lp' (pd.length + 1) lc'] 120 (0, 0)) := zag hb1 1 _
 have k2 : Kept (fun k => k ≠ b) w1 (w1.setCell ⟨b, 1, none⟩ (.slice lp' (pd.length + 1) lc')) := (Kept.refl _ w1).setCell (p := ⟨b, 1, none⟩) (fun hh => hh rfl) _
 have hs2 : w.heap.size <= (w1.setCell ⟨b, 1, none⟩ (.slice lp' (pd.length + 1) lc')).heap.size := Nat.le_trans hk.size k2.size
 have hlE : ∀ g, zaf lp g -> E g := fun g hg => Classical.byContradiction fun hn => (h8.out hg).1 (.inl hn)
 have hkE : ∀ g, zaf kp g -> E g /\ g ≠ b /\ g < w.heap.size /\ ¬ zaf lp g := fun g hg => ⟨Classical.byContradiction fun hn => (h6.out hg).1 (.inl hn), fun e => (h6.out hg).1 (.inr (.inl e)), (h6.out hg).2, fun e => (h6.out hg).1 (.inr (.inr e))⟩
 have hnb : ∀ g, zaf lp' g -> g ≠ b /\ (zaf lp g \/ w.heap.size <= g) := fun g hg => by
  have hx := (hO.out hg).1
  refine ⟨fun e => hx (e ▸ hbK), ?_⟩
  by_cases hb : zaf lp g
  ·exact .inl hb
  ·exact .inr (Nat.le_of_not_lt fun hl => hx ⟨hl, hb⟩)
 refine ⟨lp, lc, lp', lc', w1, by rw [zaa h5]; rfl, hrun, by rw [zaa hb1]; rfl, zak hb1 1, fun k => E k \/ zaf lp' k, ⟨fun k hE => ?_, .inl h2, hf, kp, kc, lp', lc', vs, by rw [List.length_append]; exact hb2, ?_, fun j hj => ?_, ?_⟩, ⟨fun k hE => .inl hE, fun k hE => ?_, ?_⟩⟩
 ·rcases hE with hE | hE
  ·exact ltl (h1 k hE) hs2
  ·exact ltl (hO.out hE).2 k2.size
 ·refine h6.to (fun g hg hh => ?_) (fun g hg => (k2.block g (hkE g hg).2.1).trans (hk.block g ⟨(hkE g hg).2.2.1, (hkE g hg).2.2.2⟩))
  rcases hh with hh | hh | hh
  ·exact hh (.inl (hkE g hg).1)
  ·exact (hkE g hg).2.1 hh
  ·rcases (hnb g hh).2 with h | h
   ·exact (hkE g hg).2.2.2 h
   ·have := (hkE g hg).2.2.1; omega
 ·obtain ⟨a, cc, e, hI⟩ := h7 j hj
  refine ⟨a, cc, e, hI.to (fun g hg => ⟨.inl hg.1, hg.2.1, hg.2.2.1, fun hh => ?_⟩) (fun g hg => (k2.block g hg.2.1).trans (hk.block g ⟨h1 g hg.1, hg.2.2.2⟩))⟩
  rcases (hnb g hh).2 with h | h
  ·exact hg.2.2.2 h
  ·have := h1 g hg.1; omega
 ·rw [List.length_append, zcy]
  refine Zac.to hO (fun g hg hh => ?_) (fun g hg => k2.block g (hnb g hg).1)
  rcases hh with hh | hh
  ·exact hh (.inr hg)
  ·exact (hnb g hg).1 hh
 ·rcases hE with hE | hE
  ·exact .inl hE
  ·rcases (hnb k hE).2 with h | h
   ·exact .inl (hlE k h)
   ·exact .inr h
 ·exact (hk.mono fun k hk' => ⟨hk'.1, fun hh => hk'.2 (hlE k hh)⟩).trans (k2.mono fun k hk' e => hk'.2 (e ▸ h2))
theorem DBo.row (h : DBo E w b m kn pd) : ∃ lp lc, w.cell? ⟨b, 1, none⟩ = some (.slice lp pd.length lc) /\ Zad (fun k => E k /\ k ≠ b) w lp pd := by
 obtain ⟨h1, h2, hf, kp, kc, lp, lc, vs, h5, h6, h7, h8⟩ := h
 exact ⟨lp, lc, by rw [zaa h5]; rfl, h8.intsAt fun g hg => ⟨Classical.byContradiction fun hn => (h8.out hg).1 (.inl hn), fun e => (h8.out hg).1 (.inr e)⟩⟩
theorem DBo.len (h : DBo E w b m kn pd) : ∃ kp kc, w.cell? ⟨b, 0, none⟩ = some (.slice kp m kc) := by
 obtain ⟨h1, h2, hf, kp, kc, lp, lc, vs, h5, h6, h7, h8⟩ := h
 exact ⟨kp, kc, by rw [zaa h5]; rfl⟩
theorem DBo.clear (h : DBo E w b m kn pd) : w.frozen? ⟨b, 1, none⟩ = false /\ DBo E (w.setCell ⟨b, 1, none⟩ (.slice none 0 0)) b m kn [] /\ Kept (fun k => k ≠ b) w (w.setCell ⟨b, 1, none⟩ (.slice none 0 0)) := by
 obtain ⟨h1, h2, hf, kp, kc, lp, lc, vs, h5, h6, h7, h8⟩ := h
 have k2 : Kept (fun k => k ≠ b) w (w.setCell ⟨b, 1, none⟩ (.slice none 0 0)) := (Kept.refl _ w).setCell (p := ⟨b, 1, none⟩) (fun hh => hh rfl) _
 have hb2 : (w.setCell ⟨b, 1, none⟩ (.slice none 0 0)).heap[b]? = some (.cells #[.slice kp m kc, .slice none 0 0] 120 (0, 0)) := zag h5 1 _
 have hkE : ∀ g, zaf kp g -> E g /\ g ≠ b := fun g hg => ⟨Classical.byContradiction fun hn => (h6.out hg).1 (.inl hn), fun e => (h6.out hg).1 (.inr (.inl e))⟩
 refine ⟨zak h5 1, ⟨fun k hE => ltl (h1 k hE) k2.size, h2, hf, kp, kc, none, 0, vs, hb2, h6.to (fun g hg hh => ?_) (fun g hg => k2.block g (hkE g hg).2), fun j hj => ?_, Zac.nil _ _ _ _⟩, k2⟩
 ·rcases hh with hh | hh | hh
  ·exact hh (hkE g hg).1
  ·exact (hkE g hg).2 hh
  ·exact zih g hh
 ·obtain ⟨a, cc, e, hI⟩ := h7 j hj
  exact ⟨a, cc, e, hI.to (fun g hg => ⟨hg.1, hg.2.1, hg.2.2.1, zih g⟩) (fun g hg => k2.block g hg.2.1)⟩
end
theorem zo2 (w : World) : Calls Tryz.prog 30 #[] w fun e w' => ∃ b, e = .returned (.pointer (some ⟨b, 0, none⟩)) /\ DBo (fun k => k = w.heap.size) w' b 0 (fun _ => []) [] /\ Kept (fun k => k < w.heap.size) w w' := by
 obtain ⟨W1, hW1⟩ : ∃ W1, w.alloc (.cells #[.slice none 0 0, .slice none 0 0] 120) = W1 := ⟨_, rfl⟩
 have k1 : Kept (fun k => k < w.heap.size) w W1 := by rw [<- hW1]; exact (Kept.refl _ w).alloc (fun _ h => h) _
 have hb : W1.heap[w.heap.size]? = some (.cells #[.slice none 0 0, .slice none 0 0] 120 (0, 0)) := by rw [<- hW1]; exact heap_alloc_new w _
 have HB : Hid (DBo (fun k => k = w.heap.size) W1 w.heap.size 0 (fun _ => []) []) := ⟨fun k hk => by rw [hk]; exact zai hb, rfl, fun _ _ => rfl, none, 0, none, 0, [], hb, Zac.nil _ _ _ _, fun i hi => absurd hi (Nat.not_lt_zero _), Zac.nil _ _ _ _⟩
 have HK : Hid (Kept (fun k => k < w.heap.size) w W1) := k1
 have HW : Hid (w.alloc (.cells #[.slice none 0 0, .slice none 0 0] 120) = W1) := hW1
 clear hW1 k1 hb
 go_enter Tryz.func30, Tryz.ntmps30
 go_wp2
 go_ret
 exact ⟨w.heap.size, rfl, by first | exact HB.out | (rw [HW.out]; exact HB.out), by first | exact HK.out | (rw [HW.out]; exact HK.out)⟩
end Go.Proofs.YtfeinppedejlpaaGreat
