/-
  The tree's builder: attributes.
-/
import Derived.Test.YtffllhohlfblnaaBJ
namespace Go.Proofs.Ytffllhohlfblnaa
open Go.RowKit

/-- Elsewhere, where its own blocks are as they were; apart from other blocks. -/
theorem BX.to {K K' : Nat → Prop} {w w' : World} {p : Nat} {st : BS} (h : BX K w p st) (hsz : w.heap.size ≤ w'.heap.size) (hb : ∀ g, ¬ K g → g < w.heap.size → w'.heap[g]? = w.heap[g]?) (hs : ∀ k, K' k → K k ∨ w.heap.size ≤ k) (hl : ∀ k, K' k → k < w'.heap.size) : BX K' w' p st := by
  obtain ⟨h1, h2, A, oa, oc, ia, ic, ics, fa, fc, hA, hbp, hS, hr⟩ := h
  have hp := lt_block hbp
  have no : ∀ k, ¬ K k → k < w.heap.size → ¬ K' k := fun k hk hkl hk' => by
    rcases hs k hk' with h | h
    · exact hk h
    · omega
  refine ⟨hl, no p h2 hp, A, oa, oc, ia, ic, ics, fa, fc, fun k hk => ⟨Nat.lt_of_lt_of_le (hA k hk).1 hsz, no k (hA k hk).2.1 (hA k hk).1, (hA k hk).2.2⟩, by rw [hb p h2 hp]; exact hbp, ?_, ?_⟩
  · refine hS.to (fun g hg hgl => ?_) (fun g hg hgl => hb g (fun h => hg (.inl h)) hgl)
    rintro (h | h)
    · exact no g (fun h => hg (.inl h)) hgl h
    · exact hg (.inr h)
  · have key : ∀ (l : List It) (cs : List Value), ItRep A w l cs → ItRep A w' l cs := by
      intro l
      induction l with
      | nil => intro cs h; exact h
      | cons x r ih =>
        rintro cs ⟨aa, ac, rest, h1, h2, h3, h4⟩
        refine ⟨aa, ac, rest, h1, fun j hj => ?_, h3, ih _ h4⟩
        obtain ⟨g, o, q1, q2, q3, q4⟩ := h2 j hj
        have hg := hb g (hA g q2).2.1 (hA g q2).1
        exact ⟨g, o, q1, q2, by rw [World.cell?_of_block (w := w) (a := ⟨g, o + j * 2, none⟩) hg]; exact q3, by rw [World.cell?_of_block (w := w) (a := ⟨g, o + j * 2 + 1, none⟩) hg]; exact q4⟩
    exact key _ _ hr

theorem keepA_snoc (a : Atr) : ∀ (x : List Atr) (ahead : List (List UInt8)), keepA ahead (x ++ [a]) = keepA ahead x ++ if (writP a && !((x.map Atr.name).reverse ++ ahead).contains a.name) = true then [a] else []
  | [], ahead => by
    show (if (writP a && !ahead.contains a.name) = true then a :: keepA (a.name :: ahead) [] else keepA (a.name :: ahead) []) = _
    simp only [List.map_nil, List.reverse_nil, List.nil_append, keepA]
  | y :: r, ahead => by
    have ih := keepA_snoc a r (y.name :: ahead)
    simp only [List.cons_append, keepA, ih, List.map_cons, List.reverse_cons, List.append_assoc]
    split <;> simp
theorem keepA_len : ∀ (l : List Atr) (ahead : List (List UInt8)), (keepA ahead l).length ≤ l.length
  | [], _ => Nat.le_refl _
  | a :: r, ahead => by
    have := keepA_len r (a.name :: ahead)
    simp only [keepA]
    split <;> simp <;> omega
/-- The names that stood ahead. -/
def aheadL (l : List Atr) (k : Nat) : List (List UInt8) := ((l.take k).map Atr.name).reverse
theorem aheadL_succ (l : List Atr) (k : Nat) (h : k < l.length) : aheadL l (k + 1) = l[k].name :: aheadL l k := by
  unfold aheadL
  rw [List.take_succ_eq_append_getElem h, List.map_append, List.reverse_append]
  rfl
theorem keepA_take (l : List Atr) (k : Nat) (h : k < l.length) : keepA [] (l.take (k + 1)) = keepA [] (l.take k) ++ if (writP l[k] && !(aheadL l k).contains l[k].name) = true then [l[k]] else [] := by
  rw [List.take_succ_eq_append_getElem h, keepA_snoc]
  unfold aheadL
  rw [List.append_nil]
theorem aheadL_len (l : List Atr) (k : Nat) : (aheadL l k).length ≤ l.length := by
  unfold aheadL
  simp
  omega

/-- Behind k attributes. -/
def stA (st : BS) (l : List Atr) (a k : Nat) : BS := st.flts' (k - (keepA [] (l.take k)).length) 5 a
theorem stA_zero (st : BS) (l : List Atr) (a : Nat) : stA st l a 0 = st := by
  unfold stA BS.flts'
  simp
theorem stA_kept (st : BS) (l : List Atr) (a k : Nat) (h : k < l.length) (hw : (writP l[k] && !(aheadL l k).contains l[k].name) = true) : stA st l a (k + 1) = stA st l a k := by
  unfold stA
  rw [keepA_take l k h, if_pos hw, List.length_append]
  congr 1
  simp
theorem stA_left (st : BS) (l : List Atr) (a k : Nat) (h : k < l.length) (hw : (writP l[k] && !(aheadL l k).contains l[k].name) = false) : stA st l a (k + 1) = (stA st l a k).flt 5 a := by
  have hl := keepA_len (l.take k) []
  rw [List.length_take] at hl
  unfold stA
  rw [keepA_take l k h, if_neg (by rw [hw]; exact Bool.false_ne_true), List.append_nil]
  unfold BS.flts' BS.flt
  simp only [List.append_assoc]
  congr 2
  rw [show k + 1 - (keepA [] (l.take k)).length = (k - (keepA [] (l.take k)).length) + 1 by omega, List.replicate_succ']

/-- The state of the loop. -/
structure AInv (K : Nat → Prop) (p d b mb : Nat) (st : BS) (l : List Atr) (a : Nat) (w1 wr : World) (k : Nat) (oa : Option Addr) (oc : Nat) : Prop where
  bx : BX (fun x => (K x ∨ x = d ∨ x = b ∨ x = mb) ∨ blkOf oa x) wr p (stA st l a k)
  own : OwnZ (fun x => K x ∨ x = d ∨ x = b ∨ x = mb) wr 41 2 oa (keepA [] (l.take k)).length oc (atrCells (keepA [] (l.take k)))
  cnt : WrX wr b mb k (aheadL l k)
  kp : Kept (fun x => K x ∨ x = d) w1 wr

theorem AInv.lt {K : Nat → Prop} {p d b mb : Nat} {st : BS} {l : List Atr} {a : Nat} {w1 wr : World} {k : Nat} {oa : Option Addr} {oc : Nat} (h : AInv K p d b mb st l a w1 wr k oa oc) : ∀ x, (K x ∨ x = d ∨ x = b ∨ x = mb) → x < wr.heap.size := fun x hx => h.bx.lt x (.inl hx)
/-- The closure was asked: the map alone has turned. -/
theorem AInv.asked {K : Nat → Prop} {p d b mb : Nat} {st : BS} {l : List Atr} {a : Nat} {w1 wr w2 : World} {k : Nat} {oa : Option Addr} {oc : Nat} (h : AInv K p d b mb st l a w1 wr k oa oc) (hm : ¬ K mb) (hmd : mb ≠ d) (hk : Kept (fun x => x < wr.heap.size ∧ x ≠ mb) wr w2) :
    BX (fun x => (K x ∨ x = d ∨ x = b ∨ x = mb) ∨ blkOf oa x) w2 p (stA st l a k) ∧ OwnZ (fun x => K x ∨ x = d ∨ x = b ∨ x = mb) w2 41 2 oa (keepA [] (l.take k)).length oc (atrCells (keepA [] (l.take k))) ∧ Kept (fun x => K x ∨ x = d) w1 w2 := by
  refine ⟨h.bx.to hk.size (fun g hg hgl => hk.block g ⟨hgl, fun e => hg (.inl (.inr (.inr (.inr e))))⟩) (fun k hk => .inl hk) (fun k hk' => Nat.lt_of_lt_of_le (h.bx.lt k hk') hk.size), ?_, ?_⟩
  · refine h.own.to (fun g hg => (h.own.out hg).1) (fun g hg => hk.block g ⟨(h.own.out hg).2, fun e => (h.own.out hg).1 (.inr (.inr (.inr e)))⟩)
  · refine h.kp.trans (hk.mono fun x (hx : K x ∨ x = d) => ⟨h.lt x (hx.elim .inl fun e => .inr (.inl e)), fun e => ?_⟩)
    rcases hx with hx | hx
    · exact hm (e ▸ hx)
    · exact hmd (e ▸ hx)
theorem infoA' : (Try.prog.info? 41).map (fun i => (i.zero, i.size, i.bytes)) = some (some (.agg #[.string ⟨#[]⟩, .string ⟨#[]⟩]), 2, 32) := by kernel_rfl
/-- One more is kept. -/
theorem AInv.keep {K : Nat → Prop} {p d b mb : Nat} {st : BS} {l : List Atr} {a : Nat} {w1 w2 : World} {k : Nat} {oa : Option Addr} {oc : Nat} (hk : k < l.length) (hl : l.length ≤ 1000000) (hw : (writP l[k] && !(aheadL l k).contains l[k].name) = true)
    (h1 : BX (fun x => (K x ∨ x = d ∨ x = b ∨ x = mb) ∨ blkOf oa x) w2 p (stA st l a k)) (h2 : OwnZ (fun x => K x ∨ x = d ∨ x = b ∨ x = mb) w2 41 2 oa (keepA [] (l.take k)).length oc (atrCells (keepA [] (l.take k)))) (h3 : WrX w2 b mb (k + 1) (aheadL l (k + 1))) (h4 : Kept (fun x => K x ∨ x = d) w1 w2) :
    ∃ oa' oc' w', (Builtin.append_ #[36, 36] 36 #[.slice oa (keepA [] (l.take k)).length oc, .slice (some ⟨w2.heap.size, 0, none⟩) 1 1]).run Try.prog (w2.alloc (.cells #[sv l[k].name, sv l[k].value] 41)) = .ok (.slice oa' (keepA [] (l.take (k + 1))).length oc') w' ∧ AInv K p d b mb st l a w1 w' (k + 1) oa' oc' := by
  obtain ⟨i, hi, hip⟩ := Option.map_eq_some_iff.1 infoA'
  have hz0 : i.zero = some (.agg #[.string ⟨#[]⟩, .string ⟨#[]⟩]) := congrArg (·.1) hip
  have hsz : i.size = 2 := congrArg (·.2.1) hip
  have hby : i.bytes = 32 := congrArg (·.2.2) hip
  obtain ⟨W, hW⟩ : ∃ W, w2.alloc (.cells #[sv l[k].name, sv l[k].value] 41) = W := ⟨_, rfl⟩
  rw [hW]
  have hsrc : Src Try.prog 2 36 (.slice (some ⟨w2.heap.size, 0, none⟩) 1 1) 1 [sv l[k].name, sv l[k].value] W := by
    rw [← hW]
    exact src_newZ w2 w2.heap.size [sv l[k].name, sv l[k].value] _ Try.underlying36 (by intro u hu; simp at hu; rcases hu with rfl | rfl <;> rfl) rfl rfl
  have kW : Kept (fun x => x < w2.heap.size) w2 W := by rw [← hW]; exact (Kept.refl _ w2).alloc (fun _ h => h) _
  have hkl := keepA_len (l.take k) []
  rw [List.length_take] at hkl
  have ho : OwnZ (fun x => x < w2.heap.size ∧ ¬ blkOf oa x) W 41 2 oa (keepA [] (l.take k)).length oc (atrCells (keepA [] (l.take k))) := h2.to (fun g hg hh => hh.2 hg) (fun g hg => kW.block g (h2.out hg).2)
  obtain ⟨oa', oc', w', hr, ho', hk'⟩ := run_appZ (P := Try.prog) W 36 36 36 41 i _ Try.underlying36 hi hz0 2 hsz rfl (by omega) ho _ _ hsrc (fun x hx => Nat.lt_of_lt_of_le hx.1 kW.size) (by omega)
  have ekeep : keepA [] (l.take (k + 1)) = keepA [] (l.take k) ++ [l[k]] := by rw [keepA_take l k hk, if_pos hw]
  have elen : (keepA [] (l.take (k + 1))).length = (keepA [] (l.take k)).length + 1 := by rw [ekeep]; simp
  have ecell : atrCells (keepA [] (l.take (k + 1))) = atrCells (keepA [] (l.take k)) ++ [sv l[k].name, sv l[k].value] := by rw [ekeep, atrCells_append]; rfl
  have hnew : ∀ g, blkOf oa' g → blkOf oa g ∨ w2.heap.size ≤ g := fun g hg => by
    have := (ho'.out hg).1
    by_cases hb : blkOf oa g
    · exact .inl hb
    · exact .inr (Nat.le_of_not_lt fun hl => this ⟨hl, hb⟩)
  have kall : Kept (fun x => x < w2.heap.size ∧ ¬ blkOf oa x) w2 w' := (kW.mono fun x hx => hx.1).trans hk'
  have hin : ∀ x, (K x ∨ x = d ∨ x = b ∨ x = mb) → x < w2.heap.size ∧ ¬ blkOf oa x := fun x hx => ⟨h1.lt x (.inl hx), fun hb => (h2.out hb).1 hx⟩
  refine ⟨oa', oc', w', by rw [elen]; exact hr, ?_, ?_, ?_, ?_⟩
  · rw [stA_kept st l a k hk hw]
    refine h1.to kall.size (fun g hg hgl => kall.block g ⟨hgl, fun hb => hg (.inr hb)⟩) ?_ ?_
    · rintro x (hx | hx)
      · exact .inl (.inl hx)
      · rcases hnew x hx with h | h
        · exact .inl (.inr h)
        · exact .inr h
    · rintro x (hx | hx)
      · exact Nat.lt_of_lt_of_le (hin x hx).1 kall.size
      · exact (ho'.out hx).2
  · rw [elen, ecell]
    refine ho'.to (fun g hg hh => ?_) (fun _ _ => rfl)
    rcases hnew g hg with h | h
    · exact (hin g hh).2 h
    · have := (hin g hh).1
      omega
  · exact h3.kept kall (hin b (.inr (.inr (.inl rfl)))) (hin mb (.inr (.inr (.inr rfl))))
  · exact h4.trans (kall.mono fun x (hx : K x ∨ x = d) => hin x (hx.elim .inl fun e => .inr (.inl e)))
/-- One more is left out. -/
theorem AInv.leave {K : Nat → Prop} {p d b mb : Nat} {st : BS} {l : List Atr} {a : Nat} {w1 w2 w3 : World} {k : Nat} {oa : Option Addr} {oc : Nat} (hk : k < l.length) (hw : (writP l[k] && !(aheadL l k).contains l[k].name) = false)
    (h2 : OwnZ (fun x => K x ∨ x = d ∨ x = b ∨ x = mb) w2 41 2 oa (keepA [] (l.take k)).length oc (atrCells (keepA [] (l.take k)))) (h3 : WrX w2 b mb (k + 1) (aheadL l (k + 1))) (h4 : Kept (fun x => K x ∨ x = d) w1 w2)
    (h5 : BX (fun x => (K x ∨ x = d ∨ x = b ∨ x = mb) ∨ blkOf oa x) w3 p ((stA st l a k).flt 5 a)) (h6 : Kept (fun x => (K x ∨ x = d ∨ x = b ∨ x = mb) ∨ blkOf oa x) w2 w3) :
    (keepA [] (l.take (k + 1))).length = (keepA [] (l.take k)).length ∧ AInv K p d b mb st l a w1 w3 (k + 1) oa oc := by
  have ekeep : keepA [] (l.take (k + 1)) = keepA [] (l.take k) := by rw [keepA_take l k hk, if_neg (by rw [hw]; exact Bool.false_ne_true), List.append_nil]
  refine ⟨by rw [ekeep], ?_, ?_, ?_, ?_⟩
  · rw [stA_left st l a k hk hw]
    exact h5
  · rw [ekeep]
    exact h2.to (fun g hg => (h2.out hg).1) (fun g hg => h6.block g (.inr hg))
  · exact h3.kept h6 (.inl (.inr (.inr (.inl rfl)))) (.inl (.inr (.inr (.inr rfl))))
  · exact h4.trans (h6.mono fun x (hx : K x ∨ x = d) => .inl (hx.elim .inl fun e => .inr (.inl e)))

set_option maxRecDepth 20000 in
set_option maxHeartbeats 1000000 in
theorem attributes_any (K : Nat → Prop) (p : Nat) (st : BS) (w : World) (h : BX K w p st) (l : List Atr) (hn : st.flts.length + l.length ≤ 800000) (hsz : ∀ x ∈ l, x.name.length ≤ 1000000000 ∧ x.value.length ≤ 1000000000) (kd : Nat) (nm : List UInt8) (aa : Option Addr) (ac : Nat) (sf : Bool) (dt : List UInt8) (a : Nat) (ha : AtsIn K w aa l) :
    Calls Try.prog 62 #[.pointer (some ⟨p, 0, none⟩), tokV kd nm aa l.length ac sf dt a] w fun e w' => ∃ oa oc, e = .returned (.slice oa (keepA [] l).length oc) ∧ (keepA [] l).length ≤ oc ∧ BX (fun k => K k ∨ blkOf oa k) w' p (st.flts' (l.length - (keepA [] l).length) 5 a) ∧ (∀ k, blkOf oa k → ¬ K k) ∧ AtsIn (blkOf oa) w' oa (keepA [] l) ∧ Kept K w w' := by
  obtain ⟨N, hN⟩ : ∃ N, w.heap.size = N := ⟨_, rfl⟩
  obtain ⟨n, hne⟩ : ∃ n, l.length = n := ⟨_, rfl⟩
  obtain ⟨W, hW⟩ : ∃ W, w.alloc (.cells #[.int .u8 (kd : Int), sv nm, .slice aa n ac, .bool sf, sv dt, .int .i64 (a : Int)] 43) = W := ⟨_, rfl⟩
  have kW0 : Kept (fun k => k < w.heap.size) w W := by rw [← hW]; exact (Kept.refl _ w).alloc (fun _ h => h) _
  have sW : W.heap.size = N + 1 := by rw [← hW, ← hN]; simp
  have hcW : ∀ i u, [Value.int .u8 (kd : Int), sv nm, .slice aa n ac, .bool sf, sv dt, .int .i64 (a : Int)][i]? = some u → W.cell? ⟨N, i, none⟩ = some u := by
    intro i u hi
    rw [← hW, ← hN, cell_block (heap_alloc_new w _), ← Array.getElem?_toList]
    exact hi
  have r := writables_any W
  rw [hne]
  have HW : Hid (w.alloc (.cells #[.int .u8 (kd : Int), sv nm, .slice aa n ac, .bool sf, sv dt, .int .i64 (a : Int)] 43) = W) := hW
  have HN : Hid (w.heap.size = N) := hN
  have HL : Hid (l.length = n) := hne
  have HX : Hid (BX K w p st) := h
  have HA : Hid (AtsIn K w aa l) := ha
  have HSZ : Hid (∀ x ∈ l, x.name.length ≤ 1000000000 ∧ x.value.length ≤ 1000000000) := hsz
  have HC : Hid (∀ i u, [Value.int .u8 (kd : Int), sv nm, .slice aa n ac, .bool sf, sv dt, .int .i64 (a : Int)][i]? = some u → W.cell? ⟨N, i, none⟩ = some u) := hcW
  have HKW : Hid (Kept (fun k => k < w.heap.size) w W) := kW0
  have HSW : Hid (W.heap.size = N + 1) := sW
  clear hW hN hne h ha hsz hcW kW0 sW
  go_enter Try.func62, Try.ntmps62
  go_wp2_with fail
  rw [HW.out, HN.out]
  refine r.mono ?_
  rintro e w1 ⟨b, mb, rfl, hX1, hK1, hb1, hmb1⟩
  clear r
  have hKlt : ∀ k, K k → k < N := fun k hk => by rw [← HN.out]; exact HX.out.lt k hk
  have kww1 : Kept (fun k => k < w.heap.size) w w1 := HKW.out.trans (hK1.mono fun k hk => Nat.lt_of_lt_of_le hk HKW.out.size)
  rw [HSW.out] at hb1 hmb1 hK1
  have hbl : b < w1.heap.size := hX1.1
  have hmbl : mb < w1.heap.size := hX1.2.2.2.lt
  have I0 : AInv K p N b mb st l a w1 w1 0 none 0 := by
    refine ⟨?_, OwnZ.nil _ _ _ _, hX1, Kept.refl _ _⟩
    rw [stA_zero]
    refine HX.out.to kww1.size (fun g _ hg => kww1.block g hg) ?_ ?_
    · rintro x ((hx | rfl | rfl | rfl) | hx)
      · exact .inl hx
      · exact .inr (by rw [HN.out]; exact Nat.le_refl _)
      · exact .inr (by rw [HN.out]; omega)
      · exact .inr (by rw [HN.out]; omega)
      · cases hx
    · rintro x ((hx | rfl | rfl | rfl) | hx)
      · have := hKlt x hx; omega
      · omega
      · exact hbl
      · exact hmbl
      · cases hx
  have hC1 : ∀ i u, [Value.int .u8 (kd : Int), sv nm, .slice aa n ac, .bool sf, sv dt, .int .i64 (a : Int)][i]? = some u → w1.cell? ⟨N, i, none⟩ = some u := fun i u hi => by
    rw [hK1.cell (p := ⟨N, i, none⟩) (by show N < _; omega)]
    exact HC.out i u hi
  have hA1 : AtsIn K w1 aa l := HA.out.kept (kww1.mono fun k hk => HX.out.lt k hk) fun _ h => h
  have m2 := hC1 2 _ rfl
  have HI0 : Hid (AInv K p N b mb st l a w1 w1 0 none 0) := I0
  have HC1 : Hid (∀ i u, [Value.int .u8 (kd : Int), sv nm, .slice aa n ac, .bool sf, sv dt, .int .i64 (a : Int)][i]? = some u → w1.cell? ⟨N, i, none⟩ = some u) := hC1
  have HA1 : Hid (AtsIn K w1 aa l) := hA1
  have HKK : Hid (Kept K w w1) := kww1.mono fun k hk => HX.out.lt k hk
  have HD : Hid (¬ K mb ∧ mb ≠ N ∧ ¬ K b ∧ ¬ K N) := ⟨fun hh => by have := hKlt _ hh; omega, by omega, fun hh => by have := hKlt _ hh; omega, fun hh => by have := hKlt _ hh; omega⟩
  clear HW HN HX HA HC HKW HSW hX1 hK1 hb1 hmb1 hKlt kww1 hbl hmbl I0 hC1 hA1
  go_upto_region 4 with fail
  go_loopg [13, 5] n (fun g v x wr => ∃ (k : Nat) (oa : Option Addr) (oc : Nat), g = n - k ∧ k ≤ n ∧ v = .int .i64 k ∧ x = .slice oa (keepA [] (l.take k)).length oc ∧ AInv K p N b mb st l a w1 wr k oa oc)
  case atStart => exact ⟨0, none, 0, rfl, Nat.zero_le _, rfl, rfl, HI0.out⟩
  case round =>
    clear HI0
    obtain ⟨k, oa, oc, hgk, hk, rfl, rfl, hI⟩ := hrel
    have HI : Hid (AInv K p N b mb st l a w1 wr k oa oc) := hI
    clear hI m2
    by_cases hlt : k < n
    · have hl : k < l.length := by rw [HL.out]; exact hlt
      obtain ⟨g, o, hg, hKg, c0, c1⟩ := HA1.out k hl
      have hkp := HI.out.kp
      have d0 : wr.cell? ⟨g, o + k * 2, none⟩ = some (sv l[k].name) := by rw [hkp.cell (p := ⟨g, o + k * 2, none⟩) (.inl hKg)]; exact c0
      have d1 : wr.cell? ⟨g, o + k * 2 + 1, none⟩ = some (sv l[k].value) := by rw [hkp.cell (p := ⟨g, o + k * 2 + 1, none⟩) (.inl hKg)]; exact c1
      subst hg
      clear c0 c1 hkp hKg
      obtain ⟨W, hW⟩ : ∃ W, wr.alloc (.cells #[sv l[k].name, sv l[k].value] 41) = W := ⟨_, rfl⟩
      obtain ⟨M, hM⟩ : ∃ M, wr.heap.size = M := ⟨_, rfl⟩
      have kW : Kept (fun x => x < wr.heap.size) wr W := by rw [← hW]; exact (Kept.refl _ wr).alloc (fun _ h => h) _
      have sW : W.heap.size = M + 1 := by rw [← hW, ← hM]; simp
      have hWr : WrX W b mb k (aheadL l k) := HI.out.cnt.kept kW HI.out.cnt.1 HI.out.cnt.2.2.2.lt
      have hmem := HSZ.out l[k] (List.getElem_mem hl)
      have hal := aheadL_len l k
      have r := writ1_any ⟨l[k].name.toArray⟩ ⟨l[k].value.toArray⟩ b mb k (aheadL l k) W hWr (by omega) (by omega) (by rw [sv_size]; exact hmem.1) (by rw [sv_size]; exact hmem.2)
      have eN : ByteArray.toList ⟨l[k].name.toArray⟩ = l[k].name := by rw [ByteArray.toList_eq]
      have eV : ByteArray.toList ⟨l[k].value.toArray⟩ = l[k].value := by rw [ByteArray.toList_eq]
      rw [eN, eV, ← aheadL_succ l k hl] at r
      have m0 : W.cell? ⟨M, 0, none⟩ = some (sv l[k].name) := by rw [← hW, ← hM, cell_block (heap_alloc_new wr _)]; rfl
      have m1 : W.cell? ⟨M, 1, none⟩ = some (sv l[k].value) := by rw [← hW, ← hM, cell_block (heap_alloc_new wr _)]; rfl
      obtain ⟨q, hq⟩ : ∃ q, (writP l[k] && !(aheadL l k).contains l[k].name) = q := ⟨_, rfl⟩
      have hq' : (writP ⟨l[k].name, l[k].value⟩ && !(aheadL l k).contains l[k].name) = q := hq
      rw [hq'] at r
      have HQ : Hid ((writP l[k] && !(aheadL l k).contains l[k].name) = q) := hq
      have HW2 : Hid (wr.alloc (.cells #[sv l[k].name, sv l[k].value] 41) = W) := hW
      have HM : Hid (wr.heap.size = M) := hM
      have HKW : Hid (Kept (fun x => x < wr.heap.size) wr W) := kW
      have HSW : Hid (W.heap.size = M + 1) := sW
      have HM0 : Hid (W.cell? ⟨M, 0, none⟩ = some (sv l[k].name)) := m0
      have HM1 : Hid (W.cell? ⟨M, 1, none⟩ = some (sv l[k].value)) := m1
      have hmm : mb < M := by rw [← hM]; exact HI.out.cnt.2.2.2.lt
      obtain ⟨n0, hn0⟩ : ∃ n0, (keepA [] (l.take k)).length = n0 := ⟨_, rfl⟩
      rw [hn0]
      have HN0 : Hid ((keepA [] (l.take k)).length = n0) := hn0
      clear hWr hmem hal eN eV hq hq' hW hM kW sW m0 m1 hn0
      go_wp2_with fail
      have hw2 : wr.alloc (.cells #[.string ⟨l[k].name.toArray⟩, .string ⟨l[k].value.toArray⟩] 41) = W := HW2.out
      rw [hw2, HM.out]
      refine r.mono ?_
      rintro e w2 ⟨rfl, hX2, hK2⟩
      have hkk : Kept (fun x => x < wr.heap.size ∧ x ≠ mb) wr w2 := (HKW.out.mono fun x hx => hx.1).trans (hK2.mono fun x hx => ⟨Nat.lt_of_lt_of_le hx.1 HKW.out.size, hx.2⟩)
      obtain ⟨A1, A2, A3⟩ := HI.out.asked HD.out.1 HD.out.2.1 hkk
      have m0 : w2.cell? ⟨M, 0, none⟩ = some (sv l[k].name) := by rw [hK2.cell (p := ⟨M, 0, none⟩) ⟨by show M < _; rw [HSW.out]; omega, by show M ≠ mb; omega⟩]; exact HM0.out
      have m1 : w2.cell? ⟨M, 1, none⟩ = some (sv l[k].value) := by rw [hK2.cell (p := ⟨M, 1, none⟩) ⟨by show M < _; rw [HSW.out]; omega, by show M ≠ mb; omega⟩]; exact HM1.out
      have HA1' : Hid (BX (fun x => (K x ∨ x = N ∨ x = b ∨ x = mb) ∨ blkOf oa x) w2 p (stA st l a k)) := A1
      have HA2 : Hid (OwnZ (fun x => K x ∨ x = N ∨ x = b ∨ x = mb) w2 41 2 oa (keepA [] (l.take k)).length oc (atrCells (keepA [] (l.take k)))) := A2
      have HA3 : Hid (Kept (fun x => K x ∨ x = N) w1 w2) := A3
      have HX2 : Hid (WrX w2 b mb (k + 1) (aheadL l (k + 1))) := hX2
      clear r hw2 hX2 hK2 hkk A1 A2 A3 HW2 HKW HSW HM0 HM1 HM HI d0 d1
      cases q with
      | true =>
        obtain ⟨oa', oc', w', hr, hI'⟩ := AInv.keep hl (by omega) HQ.out HA1'.out HA2.out HX2.out HA3.out
        rw [HN0.out] at hr
        obtain ⟨n1, hn1⟩ : ∃ n1, (keepA [] (l.take (k + 1))).length = n1 := ⟨_, rfl⟩
        rw [hn1] at hr
        have HN1 : Hid ((keepA [] (l.take (k + 1))).length = n1) := hn1
        have HI' : Hid (AInv K p N b mb st l a w1 w' (k + 1) oa' oc') := hI'
        clear hn1 hI'
        go_wp2_with (at_builtin; refine wpList_appR (w' := w') rfl (.tmp 20) (.tmp 22) 36 36 rfl _ _ (.slice oa' n1 oc') rfl rfl hr ?_)
        go_roundg (n - (k + 1))
        case rel => exact ⟨k + 1, oa', oc', rfl, by omega, by go_num, by rw [HN1.out], HI'.out⟩
        case measure => omega
      | false =>
        have hc2 : ∀ i u, [Value.int .u8 (kd : Int), sv nm, .slice (some ⟨g, o, none⟩) n ac, .bool sf, sv dt, .int .i64 (a : Int)][i]? = some u → w2.cell? ⟨N, i, none⟩ = some u := fun i u hi => by
          rw [HA3.out.cell (p := ⟨N, i, none⟩) (.inr rfl)]
          exact HC1.out i u hi
        have t0 := hc2 0 _ rfl
        have t1 := hc2 1 _ rfl
        have t2 := hc2 2 _ rfl
        have t3 := hc2 3 _ rfl
        have t4 := hc2 4 _ rfl
        have t5 := hc2 5 _ rfl
        have hfl : (stA st l a k).flts.length ≤ 1000000 := by
          unfold stA BS.flts'
          simp
          omega
        have r := bfault_any _ p _ w2 HA1'.out hfl 5 kd nm (some ⟨g, o, none⟩) n ac sf dt a
        clear hc2 m0 m1 hfl
        go_wp2_with fail
        refine r.mono ?_
        rintro e w3 ⟨rfl, hX3, hK3⟩
        obtain ⟨e1, hI'⟩ := AInv.leave hl HQ.out HA2.out HX2.out HA3.out hX3 hK3
        have HI' : Hid (AInv K p N b mb st l a w1 w3 (k + 1) oa oc) := hI'
        have HE1 : Hid ((keepA [] (l.take (k + 1))).length = n0) := e1.trans HN0.out
        clear r hX3 hK3 e1 hI' t0 t1 t2 t3 t4 t5
        go_wp2
        go_roundg (n - (k + 1))
        case rel => exact ⟨k + 1, oa, oc, rfl, by omega, by go_num, by rw [HE1.out], HI'.out⟩
        case measure => omega
    · have hkk : k = n := by omega
      subst hkk
      have et : l.take k = l := List.take_of_length_le (by rw [HL.out]; exact Nat.le_refl _)
      have hI := HI.out
      have h1 := hI.bx
      have h2 := hI.own
      have h3 := hI.kp
      unfold stA at h1
      rw [et] at h1 h2
      rw [et]
      obtain ⟨n0, hn0⟩ : ∃ n0, (keepA [] l).length = n0 := ⟨_, rfl⟩
      rw [hn0] at h1 h2 ⊢
      have H1 : Hid (BX (fun x => (K x ∨ x = N ∨ x = b ∨ x = mb) ∨ blkOf oa x) wr p (st.flts' (k - n0) 5 a)) := h1
      have H2 : Hid (OwnZ (fun x => K x ∨ x = N ∨ x = b ∨ x = mb) wr 41 2 oa n0 oc (atrCells (keepA [] l))) := h2
      have H3 : Hid (Kept (fun x => K x ∨ x = N) w1 wr) := h3
      have HE : Hid ((keepA [] l).length = n0) := hn0
      clear hI h1 h2 h3 hn0 HI et
      go_wp2
      go_ret
      rw [HE.out]
      refine ⟨oa, oc, rfl, H2.out.2.1, H1.out.weaken ?_, fun x hx hK => (H2.out.out hx).1 (.inl hK), ?_, HKK.out.trans (H3.out.mono fun x hx => .inl hx)⟩
      · rintro x (hx | hx)
        · exact .inl (.inl hx)
        · exact .inr hx
      · intro j hj
        obtain ⟨g0, g1⟩ := atrCells_get (keepA [] l) j hj
        obtain ⟨g, e1, c0⟩ := H2.out.cell g0
        obtain ⟨g', e2, c1⟩ := H2.out.cell g1
        rw [e1] at e2
        injection e2 with e2
        injection e2 with e2
        subst e2
        exact ⟨g, 0, e1, e1, by rw [Nat.zero_add]; exact c0, by rw [Nat.zero_add]; exact c1⟩
end Go.Proofs.Ytffllhohlfblnaa
