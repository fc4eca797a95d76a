/-
  What inside does to the reader.
-/
import Derived.Test.YtncfgahnjakeiabDoorTkO
import Derived.Test.YtncfgahnjakeiabDoorMb
namespace Go.Proofs.YtncfgahnjakeiabDoor
open Go.RowKit

theorem softX (K : Nat → Prop) (p : Nat) (st : TS) (w : World) (h : TX K w p st) (s : List UInt8) :
    Calls Tryd.prog 63 #[sv s] w fun e w' => e = .returned (.bool (softP s)) ∧ TX K w' p st ∧ Kept K w w' := by
  have := soft_any ⟨s.toArray⟩ (fun k => k < w.heap.size) w
  rw [ByteArray.toList_eq] at this
  refine this.mono ?_
  rintro e w' ⟨rfl, hk⟩
  exact ⟨rfl, h.kept hk, hk.mono h.lt⟩
theorem rawX (K : Nat → Prop) (p : Nat) (st : TS) (w : World) (h : TX K w p st) (s : List UInt8) :
    Calls Tryd.prog 64 #[sv s] w fun e w' => e = .returned (.bool (rawP s)) ∧ TX K w' p st ∧ Kept K w w' := by
  have := raw_any ⟨s.toArray⟩ (fun k => k < w.heap.size) w
  rw [ByteArray.toList_eq] at this
  refine this.mono ?_
  rintro e w' ⟨rfl, hk⟩
  exact ⟨rfl, h.kept hk, hk.mono h.lt⟩
theorem endOfX (K : Nat → Prop) (p : Nat) (st : TS) (w : World) (h : TX K w p st) (name : List UInt8) (hn : name.length < 9000) :
    Calls Tryd.prog 65 #[sv name] w fun e w' => e = .returned (.func (.func 73) #[] #[.pointer (some ⟨w.heap.size, 0, none⟩)]) ∧ TX K w' p st ∧ w.heap.size < w'.heap.size ∧ w'.cell? ⟨w.heap.size, 0, none⟩ = some (sv (60 :: 47 :: name)) ∧ Kept K w w' := by
  refine (endOf_any name hn w).mono ?_
  rintro e w' ⟨rfl, rfl⟩
  exact ⟨rfl, h.alloc _, by simp, by rw [cell_block (heap_alloc_new w _)]; rfl, (Kept.refl K w).alloc h.lt _⟩
theorem cutEndX (K : Nat → Prop) (p : Nat) (st : TS) (w : World) (h : TX K w p st) (hs : st.pl + st.rest.length ≤ 1000000) (name : List UInt8) (hn : name.length < 9000) (b : Nat) (hb : b < w.heap.size) (hc : w.cell? ⟨b, 0, none⟩ = some (sv (60 :: 47 :: name))) :
    Calls Tryd.prog 25 #[.pointer (some ⟨p, 0, none⟩), .func (.func 73) #[] #[.pointer (some ⟨b, 0, none⟩)]] w fun e w' => e = .returned (sv (st.front (endOfP name))) ∧ TX K w' p (st.cutTo (endOfP name)) ∧ Kept K w w' :=
  h.lift fun K A h hK => cutTo_any K A p st w h hK hs (endOfP name) 73 _ enter104 fun X hX l _ hll =>
    endOf1_any name l b hll hn (fun k => k < w.heap.size) X (fun k hk => Nat.lt_of_lt_of_le hk hX.size) hb (by rw [hX.cell (p := ⟨b, 0, none⟩) hb]; exact hc)

theorem kind_short {name : List UInt8} (h : softP name = true ∨ rawP name = true) : name.length < 9000 := by
  have key : ∀ L : List (List UInt8), (∀ x ∈ L, x.length < 9000) → L.any (name == ·) = true → name.length < 9000 := by
    intro L hL ha
    obtain ⟨x, hx, e⟩ := List.any_eq_true.1 ha
    have : name = x := by simpa using e
    exact this ▸ hL x hx
  rcases h with h | h
  · exact key softL (by decide) h
  · exact key rawL (by decide) h

theorem allL_length (attr : Bool) : ∀ (n : Nat) (l : List UInt8), l.length ≤ n → (allL attr l).length ≤ 4 * l.length
  | 0, l, h => by
    rw [List.eq_nil_of_length_eq_zero (l := l) (by omega)]
    exact Nat.le_refl _
  | n + 1, [], _ => Nat.le_refl _
  | n + 1, c :: r, h => by
    by_cases h0 : (takeL (c :: r) attr).n = 0
    · rw [allL_none h0]
      have := allL_length attr n r (by simpa using h)
      simp only [List.length_cons]
      omega
    · rw [allL_some h0, List.length_append]
      have hn := takeL_n (c :: r) attr
      have ht : (takeL (c :: r) attr).text.data.toList.length ≤ 4 := text_le (c :: r) attr
      have := allL_length attr n ((c :: r).drop (takeL (c :: r) attr).n) (by rw [List.length_drop]; simp only [List.length_cons] at h ⊢; omega)
      rw [List.length_drop] at this
      omega

set_option maxRecDepth 20000 in
set_option maxHeartbeats 1000000 in
theorem insideX (K : Nat → Prop) (p : Nat) (st : TS) (w : World) (h : TX K w p st) (b : Nat) (hf : Fit b st) (hb : b ≤ 900000000) (hsm : st.rest.length < 300000) (name : List UInt8) :
    Calls Tryd.prog 48 #[.pointer (some ⟨p, 0, none⟩), sv name] w fun e w' => e = .returned (.tuple #[]) ∧ TX K w' p (st.inside name) ∧ Kept K w w' := by
  have HD : Hid (st.inside name = if softP name = true then (st.cutTo (endOfP name)).addT (allL false (cleanL (st.front (endOfP name)))) st.pl
    else if rawP name = true then (st.cutTo (endOfP name)).addT (cleanL (st.front (endOfP name))) st.pl else st) := rfl
  have r1 := softX K p st w h name
  have r2 := fun X hX => rawX K p st X hX name
  have hks := @kind_short name
  obtain ⟨so, eso⟩ : ∃ q, softP name = q := ⟨_, rfl⟩
  obtain ⟨ra, era⟩ : ∃ q, rawP name = q := ⟨_, rfl⟩
  rw [eso, era] at HD hks
  rw [eso] at r1
  rw [era] at r2
  have r3 := fun hn X hX => endOfX K p st X hX name hn
  have r4 := fun hn X hX => cutEndX K p st X hX hf.le name hn
  have f1 := hf.cutTo (endOfP name)
  have hfr : (st.front (endOfP name)).length ≤ st.rest.length := by unfold TS.front; rw [List.length_take]; omega
  have hroom : pot (st.cutTo (endOfP name)) + 16 * (st.front (endOfP name)).length ≤ b := by
    have h1 := hf.room
    have h2 := upTo_le (endOfP name) st.rest
    unfold pot at h1 ⊢
    simp only [TS.cutTo, TS.cut, TS.front, List.length_drop, List.length_take]
    omega
  obtain ⟨s1, e1⟩ : ∃ s, st.cutTo (endOfP name) = s := ⟨_, rfl⟩
  obtain ⟨v, ev⟩ : ∃ s, st.front (endOfP name) = s := ⟨_, rfl⟩
  rw [e1, ev] at HD
  rw [e1] at f1
  rw [e1, ev] at hroom
  rw [ev] at hfr
  simp only [e1, ev] at r4
  have hcl := cleanL_length v
  have r5 := fun X hX => cleanX K p s1 X hX v (by omega)
  have hal := allL_length false _ (cleanL v) (Nat.le_refl _)
  have r6 := fun X hX => allX K p s1 X hX (cleanL v) false (by omega)
  have r7 := fun X hX => addTextX K p s1 X hX (cleanL v) st.pl (by omega)
  have r8 := fun X hX => addTextX K p s1 X hX (allL false (cleanL v)) st.pl (by omega)
  obtain ⟨cl, ecl⟩ : ∃ s, cleanL v = s := ⟨_, rfl⟩
  rw [ecl] at HD
  simp only [ecl] at r5 r6 r7 r8
  obtain ⟨al, eal⟩ : ∃ s, allL false cl = s := ⟨_, rfl⟩
  rw [eal] at HD
  simp only [eal] at r6 r8
  clear h hf f1 hfr hroom hcl hal eso era e1 ev ecl eal
  cases so with
  | true =>
    have hn := hks (.inl rfl)
    have r3 := r3 hn
    have r4 := r4 hn
    rw [if_pos rfl] at HD
    clear hks hn r2 r7
    go_enter Tryd.func48, Tryd.ntmps48
    go_wp2_with fail
    refine r1.mono ?_
    rintro e w1 ⟨rfl, t1, k1⟩
    have r3 := r3 _ t1.drew
    obtain ⟨c0, c1⟩ := t1.cells
    clear r1
    go_wp2_with fail
    go_region_with (first | (refine r3.mono ?_; rintro e w3 ⟨rfl, t3, l3, d3, k3⟩; have r4 := r4 w3 t3 _ l3 d3) | (refine r4.mono ?_; rintro e w4 ⟨rfl, t4, k4⟩; have r5 := r5 w4 t4) | (refine r5.mono ?_; rintro e w5 ⟨rfl, t5, k5⟩))
    have r6 := r6 _ t5
    replace k5 : Kept K w w5 := ((k1.drew.trans k3).trans k4).trans k5
    clear t1 t3 l3 d3 k3 t4 k4 k1 r3 r4 r5 c0 c1
    go_wp2_with fail
    refine r6.mono ?_
    rintro e w6 ⟨rfl, t6, k6⟩
    have r8 := r8 _ t6
    clear r6
    go_wp2_with fail
    refine r8.mono ?_
    rintro e w7 ⟨rfl, t7, k7⟩
    go_wp2
    go_end0
    exact ⟨rfl, by rw [HD.out]; exact t7, (k5.trans k6).trans k7⟩
  | false =>
    rw [if_neg (by decide)] at HD
    cases ra with
    | true =>
      have hn := hks (.inr rfl)
      have r3 := r3 hn
      have r4 := r4 hn
      rw [if_pos rfl] at HD
      clear hks hn r6 r8
      go_enter Tryd.func48, Tryd.ntmps48
      go_wp2_with fail
      refine r1.mono ?_
      rintro e w0 ⟨rfl, t0, k0⟩
      have r2 := r2 _ t0
      clear r1
      go_wp2_with fail
      refine r2.mono ?_
      rintro e w1 ⟨rfl, t1, k1⟩
      have r3 := r3 _ t1.drew
      obtain ⟨c0, c1⟩ := t1.cells
      clear r2
      go_wp2_with fail
      go_region_with (first | (refine r3.mono ?_; rintro e w3 ⟨rfl, t3, l3, d3, k3⟩; have r4 := r4 w3 t3 _ l3 d3) | (refine r4.mono ?_; rintro e w4 ⟨rfl, t4, k4⟩; have r5 := r5 w4 t4) | (refine r5.mono ?_; rintro e w5 ⟨rfl, t5, k5⟩))
      have r7 := r7 _ t5
      replace k5 : Kept K w w5 := (((k0.trans k1).drew.trans k3).trans k4).trans k5
      clear t1 t3 l3 d3 k3 t4 k4 k1 r3 r4 r5 c0 c1
      go_wp2_with fail
      refine r7.mono ?_
      rintro e w7 ⟨rfl, t7, k7⟩
      go_wp2
      go_end0
      exact ⟨rfl, by rw [HD.out]; exact t7, k5.trans k7⟩
    | false =>
      rw [if_neg (by decide)] at HD
      clear hks r3 r4 r5 r6 r7 r8
      go_enter Tryd.func48, Tryd.ntmps48
      go_wp2_with fail
      refine r1.mono ?_
      rintro e w0 ⟨rfl, t0, k0⟩
      have r2 := r2 _ t0
      clear r1
      go_wp2_with fail
      refine r2.mono ?_
      rintro e w1 ⟨rfl, t1, k1⟩
      go_wp2
      refine bodyPost_ret (results_none rfl _ _ _) rfl ?_
      exact ⟨rfl, by rw [HD.out]; exact t1, k0.trans k1⟩
end Go.Proofs.YtncfgahnjakeiabDoor
