/-
  Several texts, one behind the other: TkT, TkP.
-/
import Derived.Test.YtncfgahnjakeiaaDoorTkQ
import Derived.Test.YtncfgahnjakeiaaDoorMe
import Derived.Test.YtncfgahnjakeiaaDoorMc
section
namespace Go.Proofs.YtncfgahnjakeiaaDoor
open Go.RowKit

theorem TK.reA {K K' A A' : Nat → Prop} {w : World} {p : Nat} {st : TS} (h : TK K A w p st) (hK : ∀ k, K' k → K k) (hA : ∀ k, A k → A' k) (hA' : ∀ k, A' k → K' k) : TK K' A' w p st := by
  obtain ⟨h1, _, ta, tc, tcs, fa, fc, bp, ba, bc, hp, hq, h2, h3, h4, h5⟩ := h
  refine ⟨fun hh => h1 (hK _ hh), hA', ta, tc, tcs, fa, fc, bp, ba, bc, hp, hq, h2.to (fun g hg => ?_) (fun _ _ => rfl), h3.kept (Kept.refl _ w) hA, h4.to (fun g hg => ?_) (fun _ _ => rfl), h5.to (fun g hg => ?_) (fun _ _ => rfl)⟩
  · rintro (hh | hh)
    · exact (h2.out hg).1 (.inl (hK _ hh))
    · exact (h2.out hg).1 (.inr hh)
  · rintro (hh | hh)
    · exact (h4.out hg).1 (.inl (hK _ hh))
    · exact (h4.out hg).1 (.inr hh)
  · rintro (hh | hh)
    · exact (h5.out hg).1 (.inl (hK _ hh))
    · exact (h5.out hg).1 (.inr hh)

theorem TX.setK {K : Nat → Prop} {w : World} {p : Nat} {st : TS} (h : TX K w p st) {b : Nat} (hb : K b) (h0 : b ≠ 0) (h1 : b ≠ 1) (i : Nat) (v : Value) : TX K (w.setCell ⟨b, i, none⟩ v) p st := by
  obtain ⟨⟨t1, t2, t3⟩, l1, A, l2, l3⟩ := h
  have oth : ∀ g, g ≠ b → (w.setCell ⟨b, i, none⟩ v).heap[g]? = w.heap[g]? := fun g hg => Below.heap_setCell _ _ _ _ (fun e => hg e)
  have hk : Kept (fun k => k ≠ b) w (w.setCell ⟨b, i, none⟩ v) := (Kept.refl _ w).setCell (p := ⟨b, i, none⟩) (fun h => h rfl) v
  have hs : (w.setCell ⟨b, i, none⟩ v).heap.size = w.heap.size := by simp
  refine ⟨⟨t1.kept hk (Ne.symm h0) (Ne.symm h1), t2, t3⟩, fun k hk => by rw [hs]; exact l1 k hk, A, fun k hk => by rw [hs]; exact l2 k hk, ?_⟩
  exact l3.move (fun g _ hg => oth g fun e => hg (.inl (e ▸ hb))) (fun _ hh _ => hh) (fun _ hh => .inr hh) (hk.mono fun k hk e => (l2 k hk).2 (e ▸ hb))

/-- A token with attributes is added. -/
theorem addA (K : Nat → Prop) (p : Nat) (st : TS) (w : World) (attrs : List Atr) (aa : Option Addr) (ac : Nat) (h : TX (fun k => K k ∨ blkOf aa k) w p st) (ho : OwnZ K w 36 2 aa attrs.length ac (atrCells attrs)) (hn : pot st ≤ 1000000000) (kind : Nat) (name : List UInt8) (self : Bool) (a : Nat) (h0 : K 0) (h1 : K 1) :
    Calls Tryd.prog 73 #[.pointer (some ⟨p, 0, none⟩), .agg #[.int .u8 (kind : Int), sv name, .slice aa attrs.length ac, .bool self, sv [], .int .i64 (a : Int)]] w fun e w' => e = .returned (.tuple #[]) ∧ TX K w' p (st.add ⟨kind, name, attrs, self, [], a⟩) ∧ Kept K w w' := by
  obtain ⟨⟨t1, _, _⟩, l1, A, l2, l3⟩ := h
  have hats := ho.ats
  have h3 : TK (fun k => K k ∨ (A k ∨ blkOf aa k)) (fun k => A k ∨ blkOf aa k) w p st := by
    refine l3.reA ?_ (fun _ h => .inl h) (fun _ h => .inr h)
    rintro k (hh | hh | hh)
    · exact .inl (.inl hh)
    · exact .inr hh
    · exact .inl (.inr hh)
  have hlt : ∀ k, (K k ∨ (A k ∨ blkOf aa k)) → k < w.heap.size := by
    rintro k (hh | hh | hh)
    · exact l1 k (.inl hh)
    · exact (l2 k hh).1
    · exact (ho.out hh).2
  have ha : AtsIn (fun k => A k ∨ blkOf aa k) w aa attrs := by
    intro j hj
    obtain ⟨g, e1, _, e3⟩ := hats j hj
    exact ⟨g, e1, .inr e1, e3⟩
  refine (add_any _ _ p st w h3 hlt hn ⟨kind, name, attrs, self, [], a⟩ aa ac ha).mono ?_
  rintro e w' ⟨rfl, q1, q2⟩
  refine ⟨rfl, ⟨⟨t1.kept q2 (.inl h0) (.inl h1), h0, h1⟩, fun k hk => Nat.lt_of_lt_of_le (hlt k (.inl hk)) q2.size, fun k => A k ∨ blkOf aa k, fun k hk => ⟨Nat.lt_of_lt_of_le (hlt k (.inr hk)) q2.size, ?_⟩, q1⟩, q2.mono fun _ h => .inl h⟩
  rcases hk with hk | hk
  · exact fun hh => (l2 k hk).2 (.inl hh)
  · exact (ho.out hk).1

/-! ### How far is read -/
theorem val2_le (st : TS) : st.val2.st.rest.length ≤ st.rest.length := by
  have cu : ∀ (s : TS) n, (s.cut n).rest.length ≤ s.rest.length := fun s n => by simp only [TS.cut, List.length_drop]; omega
  have ci : ∀ (s : TS) f, (s.cutIf f).rest.length ≤ s.rest.length := fun s f => by unfold TS.cutIf; split; exact cu _ _; exact Nat.le_refl _
  unfold TS.val2
  repeat' split
  · exact Nat.le_trans (ci _ _) (Nat.le_trans (cu _ _) (cu _ _))
  · exact Nat.le_trans (ci _ _) (Nat.le_trans (cu _ _) (cu _ _))
  · exact Nat.le_refl _
  · exact cu _ _
theorem value_le (st : TS) : st.value.st.rest.length ≤ st.rest.length := by
  have cu : ∀ (s : TS) n, (s.cut n).rest.length ≤ s.rest.length := fun s n => by simp only [TS.cut, List.length_drop]; omega
  unfold TS.value
  split
  · exact Nat.le_trans (val2_le _) (Nat.le_trans (cu _ _) (Nat.le_trans (cu _ _) (cu _ _)))
  · exact cu _ _
theorem first_lt {st : TS} (h : st.rest ≠ []) : st.first.rest.length < st.rest.length := by
  have : 0 < st.rest.length := List.length_pos_iff.2 h
  unfold TS.first
  split <;> simp only [TS.flt, TS.cut, List.length_drop] <;> omega
theorem attr_lt {st : TS} (h : st.rest ≠ []) (attrs : List Atr) : (st.attr attrs).st.rest.length < st.rest.length := by
  have h1 := first_lt h
  have h2 := value_le (st.first.cutTo (hdIn atE))
  have h3 : (st.first.cutTo (hdIn atE)).rest.length ≤ st.first.rest.length := by simp only [TS.cutTo, TS.cut, List.length_drop]; omega
  unfold TS.attr
  split
  · split
    · show (TS.flt _ _ _).rest.length < _
      exact Nat.lt_of_le_of_lt (Nat.le_trans h2 h3) h1
    · exact Nat.lt_of_le_of_lt (Nat.le_trans h2 h3) h1
  · exact Nat.lt_of_le_of_lt (Nat.le_trans h2 h3) h1
theorem Fit.attr {b : Nat} {st : TS} (h : Fit b st) (hne : st.rest ≠ []) (attrs : List Atr) : Fit b (st.attr attrs).st := by
  have hp : 0 < st.rest.length := List.length_pos_iff.2 hne
  have hb : 16 ≤ b := by have := h.room; unfold pot at this; omega
  have f0 := h.cut (n := 1) (by omega)
  have f1 : Fit (b - 16 + 1) st.first := by
    unfold TS.first
    split
    · exact f0.flt _ _
    · exact f0.mono (by omega)
  have f3 := (f1.cutTo (hdIn atE)).value.1
  unfold TS.attr
  split
  · split
    · exact (f3.flt 5 st.pl).mono (by omega)
    · exact f3.mono (by omega)
  · exact f3.mono (by omega)
theorem attr_few {st : TS} {attrs : List Atr} (h : attrs.length ≤ 50) : (st.attr attrs).attrs.length ≤ 50 := by
  unfold TS.attr
  split
  · split
    · exact h
    · rename_i hn
      have : ¬ 50 ≤ attrs.length := fun hh => hn (.inl hh)
      simp only [List.length_append, List.length_cons, List.length_nil]
      omega
  · exact h
theorem tagF_succ (f : Nat) (st : TS) (attrs : List Atr) : TS.tagF (f + 1) st attrs =
    if (st.cutTo (hdOut sla)).rest = [] then ⟨(st.cutTo (hdOut sla)).flt 6 (st.cutTo (hdOut sla)).pl, attrs, false, false⟩
    else if pre [62] (st.cutTo (hdOut sla)).rest = true then ⟨(st.cutTo (hdOut sla)).cut 1, attrs, (st.front (hdOut sla)).getLast? == some 47, true⟩
    else TS.tagF f ((st.cutTo (hdOut sla)).attr attrs).st ((st.cutTo (hdOut sla)).attr attrs).attrs := rfl
end Go.Proofs.YtncfgahnjakeiaaDoor
end
section
namespace Go.Proofs.YtncfgahnjakeiaaDoor
open Go.RowKit

theorem softX (K : Nat → Prop) (p : Nat) (st : TS) (w : World) (h : TX K w p st) (s : List UInt8) :
    Calls Tryd.prog 93 #[sv s] w fun e w' => e = .returned (.bool (softP s)) ∧ TX K w' p st ∧ Kept K w w' := by
  have := soft_any ⟨s.toArray⟩ (fun k => k < w.heap.size) w
  rw [ByteArray.toList_eq] at this
  refine this.mono ?_
  rintro e w' ⟨rfl, hk⟩
  exact ⟨rfl, h.kept hk, hk.mono h.lt⟩
theorem rawX (K : Nat → Prop) (p : Nat) (st : TS) (w : World) (h : TX K w p st) (s : List UInt8) :
    Calls Tryd.prog 94 #[sv s] w fun e w' => e = .returned (.bool (rawP s)) ∧ TX K w' p st ∧ Kept K w w' := by
  have := raw_any ⟨s.toArray⟩ (fun k => k < w.heap.size) w
  rw [ByteArray.toList_eq] at this
  refine this.mono ?_
  rintro e w' ⟨rfl, hk⟩
  exact ⟨rfl, h.kept hk, hk.mono h.lt⟩
theorem endOfX (K : Nat → Prop) (p : Nat) (st : TS) (w : World) (h : TX K w p st) (name : List UInt8) (hn : name.length < 9000) :
    Calls Tryd.prog 95 #[sv name] w fun e w' => e = .returned (.func (.func 104) #[] #[.pointer (some ⟨w.heap.size, 0, none⟩)]) ∧ TX K w' p st ∧ w.heap.size < w'.heap.size ∧ w'.cell? ⟨w.heap.size, 0, none⟩ = some (sv (60 :: 47 :: name)) ∧ Kept K w w' := by
  refine (endOf_any name hn w).mono ?_
  rintro e w' ⟨rfl, rfl⟩
  exact ⟨rfl, h.alloc _, by simp, by rw [cell_block (heap_alloc_new w _)]; rfl, (Kept.refl K w).alloc h.lt _⟩
theorem cutEndX (K : Nat → Prop) (p : Nat) (st : TS) (w : World) (h : TX K w p st) (hs : st.pl + st.rest.length ≤ 1000000) (name : List UInt8) (hn : name.length < 9000) (b : Nat) (hb : b < w.heap.size) (hc : w.cell? ⟨b, 0, none⟩ = some (sv (60 :: 47 :: name))) :
    Calls Tryd.prog 30 #[.pointer (some ⟨p, 0, none⟩), .func (.func 104) #[] #[.pointer (some ⟨b, 0, none⟩)]] w fun e w' => e = .returned (sv (st.front (endOfP name))) ∧ TX K w' p (st.cutTo (endOfP name)) ∧ Kept K w w' :=
  h.lift fun K A h hK => cutTo_any K A p st w h hK hs (endOfP name) 104 _ enter104 fun X hX l _ hll =>
    endOf1_any name l b hll hn (fun k => k < w.heap.size) X (fun k hk => Nat.lt_of_lt_of_le hk hX.size) hb (by rw [hX.cell (p := ⟨b, 0, none⟩) hb]; exact hc)

theorem kind_short {name : List UInt8} (h : softP name = true ∨ rawP name = true) : name.length < 9000 := by
  have key : ∀ L : List (List UInt8), (∀ x ∈ L, x.length < 9000) → L.any (name == ·) = true → name.length < 9000 := by
    intro L hL ha
    obtain ⟨x, hx, e⟩ := List.any_eq_true.1 ha
    have : name = x := by simpa using e
    exact this ▸ hL x hx
  rcases h with h | h
  · exact key softL (by decide) h
  · exact key rawL (by decide) h

theorem allL_length (attr : Bool) : ∀ (n : Nat) (l : List UInt8), l.length ≤ n → (allL attr l).length ≤ 4 * l.length
  | 0, l, h => by
    rw [List.eq_nil_of_length_eq_zero (l := l) (by omega)]
    exact Nat.le_refl _
  | n + 1, [], _ => Nat.le_refl _
  | n + 1, c :: r, h => by
    by_cases h0 : (takeL (c :: r) attr).n = 0
    · rw [allL_none h0]
      have := allL_length attr n r (by simpa using h)
      simp only [List.length_cons]
      omega
    · rw [allL_some h0, List.length_append]
      have hn := takeL_n (c :: r) attr
      have ht : (takeL (c :: r) attr).text.data.toList.length ≤ 4 := text_le (c :: r) attr
      have := allL_length attr n ((c :: r).drop (takeL (c :: r) attr).n) (by rw [List.length_drop]; simp only [List.length_cons] at h ⊢; omega)
      rw [List.length_drop] at this
      omega

set_option maxRecDepth 20000 in
set_option maxHeartbeats 1000000 in
theorem insideX (K : Nat → Prop) (p : Nat) (st : TS) (w : World) (h : TX K w p st) (b : Nat) (hf : Fit b st) (hb : b ≤ 900000000) (hsm : st.rest.length < 300000) (name : List UInt8) :
    Calls Tryd.prog 74 #[.pointer (some ⟨p, 0, none⟩), sv name] w fun e w' => e = .returned (.tuple #[]) ∧ TX K w' p (st.inside name) ∧ Kept K w w' := by
  have HD : Hid (st.inside name = if softP name = true then (st.cutTo (endOfP name)).addT (allL false (cleanL (st.front (endOfP name)))) st.pl
    else if rawP name = true then (st.cutTo (endOfP name)).addT (cleanL (st.front (endOfP name))) st.pl else st) := rfl
  have r1 := softX K p st w h name
  have r2 := fun X hX => rawX K p st X hX name
  have hks := @kind_short name
  obtain ⟨so, eso⟩ : ∃ q, softP name = q := ⟨_, rfl⟩
  obtain ⟨ra, era⟩ : ∃ q, rawP name = q := ⟨_, rfl⟩
  rw [eso, era] at HD hks
  rw [eso] at r1
  rw [era] at r2
  have r3 := fun hn X hX => endOfX K p st X hX name hn
  have r4 := fun hn X hX => cutEndX K p st X hX hf.le name hn
  have f1 := hf.cutTo (endOfP name)
  have hfr : (st.front (endOfP name)).length ≤ st.rest.length := by unfold TS.front; rw [List.length_take]; omega
  have hroom : pot (st.cutTo (endOfP name)) + 16 * (st.front (endOfP name)).length ≤ b := by
    have h1 := hf.room
    have h2 := upTo_le (endOfP name) st.rest
    unfold pot at h1 ⊢
    simp only [TS.cutTo, TS.cut, TS.front, List.length_drop, List.length_take]
    omega
  obtain ⟨s1, e1⟩ : ∃ s, st.cutTo (endOfP name) = s := ⟨_, rfl⟩
  obtain ⟨v, ev⟩ : ∃ s, st.front (endOfP name) = s := ⟨_, rfl⟩
  rw [e1, ev] at HD
  rw [e1] at f1
  rw [e1, ev] at hroom
  rw [ev] at hfr
  simp only [e1, ev] at r4
  have hcl := cleanL_length v
  have r5 := fun X hX => cleanX K p s1 X hX v (by omega)
  have hal := allL_length false _ (cleanL v) (Nat.le_refl _)
  have r6 := fun X hX => allX K p s1 X hX (cleanL v) false (by omega)
  have r7 := fun X hX => addTextX K p s1 X hX (cleanL v) st.pl (by omega)
  have r8 := fun X hX => addTextX K p s1 X hX (allL false (cleanL v)) st.pl (by omega)
  obtain ⟨cl, ecl⟩ : ∃ s, cleanL v = s := ⟨_, rfl⟩
  rw [ecl] at HD
  simp only [ecl] at r5 r6 r7 r8
  obtain ⟨al, eal⟩ : ∃ s, allL false cl = s := ⟨_, rfl⟩
  rw [eal] at HD
  simp only [eal] at r6 r8
  clear h hf f1 hfr hroom hcl hal eso era e1 ev ecl eal
  cases so with
  | true =>
    have hn := hks (.inl rfl)
    have r3 := r3 hn
    have r4 := r4 hn
    rw [if_pos rfl] at HD
    clear hks hn r2 r7
    go_enter Tryd.func74, Tryd.ntmps74
    go_wp2_with fail
    refine r1.mono ?_
    rintro e w1 ⟨rfl, t1, k1⟩
    have r3 := r3 _ t1.drew
    obtain ⟨c0, c1⟩ := t1.cells
    clear r1
    go_wp2_with fail
    go_region_with (first | (refine r3.mono ?_; rintro e w3 ⟨rfl, t3, l3, d3, k3⟩; have r4 := r4 w3 t3 _ l3 d3) | (refine r4.mono ?_; rintro e w4 ⟨rfl, t4, k4⟩; have r5 := r5 w4 t4) | (refine r5.mono ?_; rintro e w5 ⟨rfl, t5, k5⟩))
    have r6 := r6 _ t5
    replace k5 : Kept K w w5 := ((k1.drew.trans k3).trans k4).trans k5
    clear t1 t3 l3 d3 k3 t4 k4 k1 r3 r4 r5 c0 c1
    go_wp2_with fail
    refine r6.mono ?_
    rintro e w6 ⟨rfl, t6, k6⟩
    have r8 := r8 _ t6
    clear r6
    go_wp2_with fail
    refine r8.mono ?_
    rintro e w7 ⟨rfl, t7, k7⟩
    go_wp2
    go_end0
    exact ⟨rfl, by rw [HD.out]; exact t7, (k5.trans k6).trans k7⟩
  | false =>
    rw [if_neg (by decide)] at HD
    cases ra with
    | true =>
      have hn := hks (.inr rfl)
      have r3 := r3 hn
      have r4 := r4 hn
      rw [if_pos rfl] at HD
      clear hks hn r6 r8
      go_enter Tryd.func74, Tryd.ntmps74
      go_wp2_with fail
      refine r1.mono ?_
      rintro e w0 ⟨rfl, t0, k0⟩
      have r2 := r2 _ t0
      clear r1
      go_wp2_with fail
      refine r2.mono ?_
      rintro e w1 ⟨rfl, t1, k1⟩
      have r3 := r3 _ t1.drew
      obtain ⟨c0, c1⟩ := t1.cells
      clear r2
      go_wp2_with fail
      go_region_with (first | (refine r3.mono ?_; rintro e w3 ⟨rfl, t3, l3, d3, k3⟩; have r4 := r4 w3 t3 _ l3 d3) | (refine r4.mono ?_; rintro e w4 ⟨rfl, t4, k4⟩; have r5 := r5 w4 t4) | (refine r5.mono ?_; rintro e w5 ⟨rfl, t5, k5⟩))
      have r7 := r7 _ t5
      replace k5 : Kept K w w5 := (((k0.trans k1).drew.trans k3).trans k4).trans k5
      clear t1 t3 l3 d3 k3 t4 k4 k1 r3 r4 r5 c0 c1
      go_wp2_with fail
      refine r7.mono ?_
      rintro e w7 ⟨rfl, t7, k7⟩
      go_wp2
      go_end0
      exact ⟨rfl, by rw [HD.out]; exact t7, k5.trans k7⟩
    | false =>
      rw [if_neg (by decide)] at HD
      clear hks r3 r4 r5 r6 r7 r8
      go_enter Tryd.func74, Tryd.ntmps74
      go_wp2_with fail
      refine r1.mono ?_
      rintro e w0 ⟨rfl, t0, k0⟩
      have r2 := r2 _ t0
      clear r1
      go_wp2_with fail
      refine r2.mono ?_
      rintro e w1 ⟨rfl, t1, k1⟩
      go_wp2
      refine bodyPost_ret (results_none rfl _ _ _) rfl ?_
      exact ⟨rfl, by rw [HD.out]; exact t1, k0.trans k1⟩
end Go.Proofs.YtncfgahnjakeiaaDoor
end
