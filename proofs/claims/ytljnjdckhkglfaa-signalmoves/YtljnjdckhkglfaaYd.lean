/-
  Rows of integers that grow beside a document.
-/
import Derived.Test.YtljnjdckhkglfaaYb
namespace Go.Proofs.Ytljnjdckhkglfaa
open Go.RowKit
set_option linter.unusedVariables false
theorem DY.keptBut {K : Nat → Prop} {w w' : World} {p : Nat} {S : Dm} {ga : Option Addr} {cap : Nat} (h : DY K w p S ga cap) (hk : Kept (fun k => k < w.heap.size ∧ ¬ K k) w w') : DY K w' p S ga cap := by
  obtain ⟨h1, h2, h3, xs, aa, ac, ho, hx, ha, hs⟩ := h
  have hp := lt_block h3
  refine ⟨fun k hk' => Nat.lt_of_lt_of_le (h1 k hk') hk.size, h2, by rw [hk.block p ⟨hp, h2⟩]; exact h3, xs, aa, ac, OwnZ.to ho (fun g hg => (ho.out hg).1) (fun g hg => hk.block g ⟨(ho.out hg).2, fun hh => (ho.out hg).1 (.inl hh)⟩), hx,
    fun i hi => OwnZ.to (ha i hi) (fun g hg => ((ha i hi).out hg).1) (fun g hg => hk.block g ⟨((ha i hi).out hg).2, fun hh => ((ha i hi).out hg).1 (.inl hh)⟩), hs⟩
theorem own_appK {K0 : Nat → Prop} {w : World} {p : Nat} {M : Dm} {ao : Option Addr} {n cap : Nat} {xs : List Value} (hX : DX (fun k => K0 k ∨ blkOf ao k) w p M) (hB : ∀ k, K0 k → k < w.heap.size) (hO : OwnZ K0 w 3 1 ao n cap xs) (hn : n ≤ 1000000) (x : Int) :
    ∃ ao' cap' w', (Builtin.append_ #[34, 34] 34 #[.slice ao n cap, .slice (some ⟨w.heap.size, 0, none⟩) 1 1]).run Try.prog (w.alloc (.cells #[.int .i64 x] 3)) = .ok (.slice ao' (n + 1) cap') w' ∧ OwnZ K0 w' 3 1 ao' (n + 1) cap' (xs ++ [.int .i64 x]) ∧ DX (fun k => K0 k ∨ blkOf ao' k) w' p M ∧ Kept K0 w w' := by
  have hO' : OwnZ (fun k => k < w.heap.size ∧ ¬ blkOf ao k) w 3 1 ao n cap xs := OwnZ.to hO (fun g hg hh => hh.2 hg) (fun _ _ => rfl)
  obtain ⟨ao', cap', w', hr, hO2, hk⟩ := appI hO' (fun k hk => hk.1) (by omega) x
  have hnew : ∀ g, blkOf ao' g → blkOf ao g ∨ w.heap.size ≤ g := fun g hg => by
    have := (OwnZ.out hO2 hg).1
    by_cases hb : blkOf ao g
    · exact .inl hb
    · exact .inr (Nat.le_of_not_lt fun hl => this ⟨hl, hb⟩)
  have hkB : Kept K0 w w' := hk.mono fun k hk' => ⟨hB k hk', fun hb => (OwnZ.out hO hb).1 hk'⟩
  obtain ⟨ga, gc, hY⟩ := hX
  have hY' := hY.keptBut (hk.mono fun k hk' => ⟨hk'.1, fun hb => hk'.2 (.inr hb)⟩)
  refine ⟨ao', cap', w', hr, OwnZ.to hO2 (fun g hg hh => ?_) (fun _ _ => rfl), ⟨ga, gc, ?_⟩, hkB⟩
  · rcases hnew g hg with h | h
    · exact (OwnZ.out hO h).1 hh
    · have := hB g hh
      omega
  · obtain ⟨h1, h2, h3, ys, aa, ac, ho, hx, ha, hs⟩ := hY'
    obtain ⟨i1, i2, i3, ys', aa', ac', ho', hx', ha', hs'⟩ := hY
    have hsz := hk.size
    have key : ∀ g, (blkOf ao' g) → g < w.heap.size → blkOf ao g := fun g hg hl => by
      rcases hnew g hg with h | h
      · exact h
      · omega
    have hpw := lt_block i3
    refine ⟨fun k hk' => ?_, fun hh => ?_, h3, ys', aa', ac', OwnZ.to ho' (fun g hg hh => ?_) (fun g hg => hk.block g ⟨(ho'.out hg).2, fun hb => (ho'.out hg).1 (.inl (.inr hb))⟩), hx', fun i hi => OwnZ.to (ha' i hi) (fun g hg hh => ?_) (fun g hg => hk.block g ⟨((ha' i hi).out hg).2, fun hb => ((ha' i hi).out hg).1 (.inl (.inr hb))⟩), hs'⟩
    · rcases hk' with h | h
      · have := hB k h
        omega
      · exact (OwnZ.out hO2 h).2
    · rcases hh with h | h
      · exact i2 (.inl h)
      · exact i2 (.inr (key p h hpw))
    · rcases hh with (h | h) | h
      · exact (ho'.out hg).1 (.inl (.inl h))
      · exact (ho'.out hg).1 (.inl (.inr (key g h (ho'.out hg).2)))
      · exact (ho'.out hg).1 (.inr h)
    · rcases hh with (h | h) | h
      · exact ((ha' i hi).out hg).1 (.inl (.inl h))
      · exact ((ha' i hi).out hg).1 (.inl (.inr (key g h ((ha' i hi).out hg).2)))
      · exact ((ha' i hi).out hg).1 (.inr h)
section
variable {K K' : Nat → Prop} {w w' : World} {p : Nat} {xs : List Nd} {Q : Nat → List Nat} {ao : Option Addr} {n cap : Nat} {l : List Nat}
theorem Dst.more (h : Dst K w p xs Q) (hk : Kept (fun k => k < w.heap.size) w w') (hs : ∀ k, K' k → K k ∨ w.heap.size ≤ k) (hl : ∀ k, K' k → k < w'.heap.size) : Dst K' w' p xs Q := by
  obtain ⟨M, R, G, a, b⟩ := h
  exact ⟨M, R, G, ⟨a.d.more hk hs hl, a.inv, a.lim, a.le⟩, b⟩
theorem Dst.app (h : Dst (fun k => K k ∨ blkOf ao k) w p xs Q) (hB : ∀ k, K k → k < w.heap.size) (hO : OwnZ K w 3 1 ao n cap (ivs l)) (hn : n ≤ 1000000) (x : Nat) :
    ∃ ao' cap' w', (Builtin.append_ #[34, 34] 34 #[.slice ao n cap, .slice (some ⟨w.heap.size, 0, none⟩) 1 1]).run Try.prog (w.alloc (.cells #[.int .i64 (x : Int)] 3)) = .ok (.slice ao' (n + 1) cap') w' ∧ OwnZ K w' 3 1 ao' (n + 1) cap' (ivs (l ++ [x])) ∧ Dst (fun k => K k ∨ blkOf ao' k) w' p xs Q ∧ Kept K w w' := by
  obtain ⟨M, R, G, a, b⟩ := h
  obtain ⟨ao', cap', w', h1, h2, h3, h4⟩ := own_appK a.d hB hO hn (x : Int)
  refine ⟨ao', cap', w', h1, ?_, ⟨M, R, G, ⟨h3, a.inv, a.lim, a.le⟩, b⟩, h4⟩
  rw [ivs_append]; exact h2
theorem blk_none (k : Nat) : ¬ blkOf none k := fun h => by cases h
/-- Steps of a beginning. -/
theorem stDiv (h : Dst K w p [frag0.new] (fun _ => [])) : Calls Try.prog 16 #[.pointer (some ⟨p, 0, none⟩), plainV 1 divB ⟨#[]⟩] w fun e w' => e = .returned (.tuple #[.int .i64 1, .int .u16 0]) ∧ Dst K w' p [frag0.new, elD [100, 105, 118]] (fun _ => []) ∧ Kept K w w' :=
  h.make 1 1 divB ⟨#[]⟩ [100, 105, 118] [] rfl divB_list empB_list sound_div (by decide) rfl (by decide)
theorem stRoot (h : Dst K w p [frag0.new, elD [100, 105, 118]] (fun _ => [])) (f : Fg) : Calls Try.prog 22 #[.pointer (some ⟨p, 0, none⟩), .int .i64 1, fgV f] w fun e w' => e = .returned (.tuple #[.int .i64 2, .int .u16 0]) ∧ Dst K w' p [frag0.new, divS, rtN f 1] (fun _ => []) ∧ Kept K w w' :=
  h.root 1 f (by decide) rfl rfl rfl (by decide)
theorem stSlot {f : Fg} (h : Dst K w p [frag0.new, divS, rtN f 1] (fun _ => [])) : Calls Try.prog 16 #[.pointer (some ⟨p, 0, none⟩), plainV 1 slotBB ⟨#[]⟩] w fun e w' => e = .returned (.tuple #[.int .i64 3, .int .u16 0]) ∧ Dst K w' p (bs f []) (fun _ => []) ∧ Kept K w w' :=
  h.make 1 1 slotBB ⟨#[]⟩ [115, 108, 111, 116] [] rfl slotBB_list empB_list sound_sl (by decide) rfl (by show 3 + 1 ≤ 300; decide)
theorem bs_host {f : Fg} {l : List Atr} {k : Nat} (h : k < (bs f l).length) : (bs f l)[k].host = -1 ∨ (bs f l)[k].host = 1 := by
  have : k = 0 ∨ k = 1 ∨ k = 2 ∨ k = 3 := by have : (bs f l).length = 4 := rfl; omega
  rcases this with rfl | rfl | rfl | rfl
  · exact .inl rfl
  · exact .inl rfl
  · exact .inr rfl
  · exact .inl rfl
theorem stIn {f : Fg} (h : Dst K w p (bs f []) (fun _ => [])) : Calls Try.prog 17 #[.pointer (some ⟨p, 0, none⟩), .int .i64 2, .int .i64 3, .int .i64 (-1)] w fun e w' => e = .returned (.int .u16 0) ∧ Dst K w' p (bs f []) (rw4 [] []) ∧ Kept K w w' := by
  refine (h.ins 2 3 (by show 2 < 4; decide) (by show 3 < 4; decide) (by decide) rfl (by decide) (by show (1 : Nat) ≠ 5; decide) (by show (1 : Nat) ≠ 4; decide) (fun _ _ h => by cases h) rfl (fun k hk => by have := bs_host hk; omega)).mono ?_
  rintro e w' ⟨rfl, h', hk⟩
  have e : updR (fun _ => []) 2 ([] ++ [3]) = rw4 [] [] := by
    funext k
    unfold updR rw4
    by_cases c : k = 2
    · subst c; rfl
    · rw [if_neg c, if_neg c]; simp
  rw [e] at h'
  exact ⟨rfl, h', hk⟩
abbrev qA : List Atr := [⟨nameN, [113]⟩]
abbrev nameBB : ByteArray := ⟨#[110, 97, 109, 101]⟩
theorem stName {Q : Nat → List Nat} (h : Dst K w p (bs fg0 []) Q) : Calls Try.prog 14 #[.pointer (some ⟨p, 0, none⟩), .int .i64 3, .string nameBB, .string ⟨#[113]⟩] w fun e w' => e = .returned (.int .u16 0) ∧ Dst K w' p (bs fg0 qA) Q ∧ Kept K w w' :=
  h.set 3 nameBB ⟨#[113]⟩ (by decide) rfl qA (by rw [ByteArray.toList_eq, ByteArray.toList_eq]; rfl) (by kernel_rfl) (by kernel_rfl) (fun x hx => by cases hx) (by decide) (by decide)
theorem xsR_00 (f : Fg) (l : List Atr) : xsR f l 0 0 = bs f l := by unfold xsR; simp
end
end Go.Proofs.Ytljnjdckhkglfaa
