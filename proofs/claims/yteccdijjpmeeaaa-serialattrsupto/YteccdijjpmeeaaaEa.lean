/-
  Rows of bytes that grow, and texts as they are written (plain functions).
-/
import Derived.Test.YteccdijjpmeeaaaProg
import Derived.Test.YteccdijjpmeeaaaP01
import Derived.Test.YteccdijjpmeeaaaP02
namespace Go.Proofs.Yteccdijjpmeeaaa
open Go.RowKit
set_option linter.unusedVariables false
set_option maxRecDepth 100000
set_option maxHeartbeats 4000000
/-- A byte as a cell. -/
abbrev bv (c : UInt8) : Value := .int .u8 (c.toNat : Int)
def bvs (l : List UInt8) : List Value := l.map bv
theorem bvs_length (l : List UInt8) : (bvs l).length = l.length := by simp [bvs]
theorem bvs_append (l m : List UInt8) : bvs (l ++ m) = bvs l ++ bvs m := by simp [bvs]
theorem bvs_one (l : List UInt8) : ∀ u ∈ bvs l, u.oneCell' = true := by
  intro u hu
  obtain ⟨c, _, rfl⟩ := List.mem_map.1 hu
  rfl
theorem Own.cast {K : Nat → Prop} {w : World} {e : TypeId} {ao : Option Addr} {n n' cap : Nat} {xs xs' : List Value} (h : Own K w e ao n cap xs) (hn : n = n') (hx : xs = xs') : Own K w e ao n' cap xs' := by subst hn; subst hx; exact h
section
variable {P : Program}
/-- append ONTO WHAT IS OWNED, out of whatever source. -/
theorem run_app {K : Nat → Prop} (w : World) (t tx ty e : TypeId) (i : TypeInfo) (z : Value) (ht : P.underlying t = some (.slice e)) (hi : P.info? e = some i) (hz : i.zero = some z) (hsize : i.size = 1) (hzs : z.cells.size = 1)
    {ao : Option Addr} {n cap : Nat} {xs : List Value} (hown : Own K w e ao n cap xs) (x : Value) (m : Nat) (news : List Value) (hs : Src P 1 tx x m news w)
    (hK : ∀ k, K k → k < w.heap.size) (h63 : n + m ≤ maxLen) (hbytes : (n + m) * i.bytes ≤ 140737488355328) :
    ∃ ao' cap' w', (Builtin.append_ #[t, tx] ty #[.slice ao n cap, x]).run P w = .ok (.slice ao' (n + m) cap') w' ∧ Own K w' e ao' (n + m) cap' (xs ++ news) ∧ Kept K w w' ∧ (0 < n + m → ao'.isSome) := by
  have hsmall : n + m ≤ 9223372036854775807 := by simp only [maxLen] at h63; omega
  have hnl : news.length = m := by simpa using hs.newsLen
  have hs' : Src P i.size tx x m news w := by rw [hsize]; exact hs
  obtain ⟨h1, h2, h3, h4⟩ := hown
  have grow : cap < n + m → (Builtin.firstCells i.size n (.slice ao n cap)).run P w.drew = .ok xs.toArray w.drew →
      ∃ ao' cap' w', (Builtin.append_ #[t, tx] ty #[.slice ao n cap, x]).run P w = .ok (.slice ao' (n + m) cap') w' ∧ Own K w' e ao' (n + m) cap' (xs ++ news) ∧ Kept K w w' ∧ (0 < n + m → ao'.isSome) := by
    intro hg hold
    have hr := run_append_grow_src (P := P) w t tx ty e i z ht hi hz ao n cap xs hold x m news hs' hg (by omega) (growslice_fits hg hbytes)
    have hge := grownCap_ge w (n + m) cap e
    refine ⟨_, _, _, hr, ⟨by simp [h1, hnl], hge, grownCap_le_maxLen w (n + m) cap e h63, .inr ⟨w.heap.size, _, rfl, fun hk => Nat.lt_irrefl _ (hK _ hk), heap_alloc_new w.drew _, ?_, ?_⟩⟩, (Kept.refl K w).drew.alloc (by simpa using hK) _, fun _ => rfl⟩
    · simp only [Array.size_append, List.size_toArray, List.length_append, size_zeroCells, hzs, h1, hnl]
      omega
    · simp only [Array.toList_append]
      have hl : (xs ++ news).length = n + m := by simp [h1, hnl]
      rw [← hl]
      exact List.take_left
  rcases h4 with ⟨rfl, rfl⟩ | ⟨g, cur, rfl, r2, r3, r4, r5⟩
  · have hn0 : n = 0 := by omega
    subst hn0
    have hx : xs = [] := List.eq_nil_of_length_eq_zero h1
    subst hx
    by_cases hm : m = 0
    · subst hm
      have hnn : news = [] := List.eq_nil_of_length_eq_zero hnl
      subst hnn
      exact ⟨none, 0, w, run_append_nothing w t tx ty e i ht hi none 0 0 (Nat.le_refl _) x hs', ⟨rfl, Nat.le_refl _, Nat.zero_le _, .inl ⟨rfl, rfl⟩⟩, Kept.refl K w, fun h => absurd h (by omega)⟩
    · exact grow (by omega) (run_firstCells_none w.drew i.size 0 0 0)
  · have hcells : ∀ j u, xs[j]? = some u → w.cell? ((⟨g, 0, none⟩ : Addr).add j) = some u := by
      intro j u hj
      have hjl : j < xs.length := by
        rcases Nat.lt_or_ge j xs.length with hl | hg
        · exact hl
        · rw [List.getElem?_eq_none hg] at hj; cases hj
      have : (⟨g, 0, none⟩ : Addr).add j = ⟨g, j, none⟩ := by rw [Addr.add_lit, Nat.zero_add]
      rw [this, cell_block r3, ← hj, ← r5, List.getElem?_take, if_pos (by omega), Array.getElem?_toList]
    by_cases hroom : n + m ≤ cap
    · have hr := run_append_room_src (P := P) w t tx ty e i ht hi g 0 n cap x m news hs' hroom
        (fun j hj => by rw [cell_block r3]; simp only [hsize]; rw [Array.getElem?_eq_getElem (by omega)]; rfl)
        (fun j hj => frozen_block r3 _)
      simp only [hsize, Nat.zero_add, Nat.mul_one] at hr
      obtain ⟨c', q1, q2⟩ := heap_setCells_at (b := g) (e := e) (f := (0, 0)) news n w cur r3 (by omega)
      refine ⟨_, _, _, hr, ⟨by simp [h1, hnl], hroom, h3, .inr ⟨g, c', rfl, r2, q1, ?_, ?_⟩⟩, ⟨?_, ?_, ?_, ?_, ?_⟩, fun _ => rfl⟩
      · have := congrArg List.length q2
        simp at this
        omega
      · rw [q2, r5]
        have hl : (xs ++ news).length = n + m := by simp [h1, hnl]
        rw [← hl]
        exact List.take_left
      · exact World.os_setCells w g n news
      · have key : ∀ (vs : List Value) (o : Nat) (v : World), (v.setCells g o vs).tape = v.tape := by
          intro vs
          induction vs with
          | nil => intro o v; rfl
          | cons a r ih => intro o v; rw [World.setCells, ih]; rfl
        exact key news n w
      · exact World.output_setCells w g n news
      · have key : ∀ (vs : List Value) (o : Nat) (v : World), (v.setCells g o vs).heap.size = v.heap.size := by
          intro vs
          induction vs with
          | nil => intro o v; rfl
          | cons a r ih => intro o v; rw [World.setCells, ih]; simp
        rw [key]; exact Nat.le_refl _
      · intro k hk
        exact World.heap_setCells_other w g n news (hK k hk) (fun e => r2 (e ▸ hk))
    · exact grow (by omega) (run_firstCells_some w.drew i.size n ⟨g, 0, none⟩ n cap xs (by rw [hsize, h1]; simp) (by simpa using hcells))
/-- The operation, for a plain region's list. -/
theorem wpList_app {K : Nat → Prop} {w : World} {ops : Array Oper} {rest : List Oper} {o : Oper} {a : Act} {Q : Exit → Act → World → Prop} (hgd : o.guard = none) (s x : Operand) (t tx e : TypeId)
    (ho : o.op = .call { callee := .builtin .append, args := #[s, x], argTypes := #[t, tx] })
    (i : TypeInfo) (z : Value) (ht : P.underlying t = some (.slice e)) (hi : P.info? e = some i) (hz : i.zero = some z) (hsize : i.size = 1) (hzs : z.cells.size = 1)
    (ao : Option Addr) (n cap : Nat) (xs : List Value) (hs : a.eval s = .slice ao n cap) (hown : Own K w e ao n cap xs) (v : Value) (m : Nat) (news : List Value) (hx : a.eval x = v) (hsrc : Src P 1 tx v m news w)
    (hK : ∀ k, K k → k < w.heap.size) (h63 : n + m ≤ maxLen) (hbytes : (n + m) * i.bytes ≤ 140737488355328)
    (h : ∀ ao' cap' w', Own K w' e ao' (n + m) cap' (xs ++ news) → Kept K w w' → (0 < n + m → ao'.isSome) → wpList P ops Q rest (a.put o.dst (.slice ao' (n + m) cap')) w') : wpList P ops Q (o :: rest) a w := by
  refine wpList_plain hgd fun _ hK' => ?_
  obtain ⟨ao', cap', w', hr, h2, h3, h4⟩ := run_app (P := P) w t tx o.type e i z ht hi hz hsize hzs hown v m news hsrc hK h63 hbytes
  unfold Oper.wp execOp
  simp only [ho, resolve, invoke, builtin, Sem.run_bind, Sem.run_pure, Result.andThen_ok, List.map_toArray, List.map_cons, List.map_nil, hs, hx, hr]
  exact hK' _ _ (h ao' cap' w' h2 h3 h4)
/-- 'append(s, str...)' at a plain region's list. -/
theorem wpList_appS {K : Nat → Prop} {X : World} {ops : Array Oper} {rest : List Oper} {o : Oper} {a : Act} {Q : Exit → Act → World → Prop} (hgd : o.guard = none) (s x : Operand) (t u e : TypeId)
    (ho : o.op = .call { callee := .builtin .append, args := #[s, x], argTypes := #[t, u] })
    (i : TypeInfo) (z : Value) (ht : P.underlying t = some (.slice e)) (hu : P.underlying u = some .string) (hi : P.info? e = some i) (hz : i.zero = some z) (hsize : i.size = 1) (hzs : z.cells.size = 1) (hby : i.bytes ≤ 64)
    (ao : Option Addr) (n cap : Nat) (xs : List Value) (hs : a.eval s = .slice ao n cap) (str : ByteArray) (hx : a.eval x = .string str) (m : Nat) (hm : str.size = m) (hb : n + m ≤ 1099511627776)
    (hown : Own K X e ao n cap xs) (hK : ∀ k, K k → k < X.heap.size)
    (h : ∀ ao' cap' w', Own K w' e ao' (n + m) cap' (xs ++ bvs str.data.toList) → Kept K X w' → wpList P ops Q rest (a.put o.dst (.slice ao' (n + m) cap')) w') : wpList P ops Q (o :: rest) a X := by
  subst hm
  have hbb : (n + str.size) * i.bytes ≤ 1099511627776 * 64 := Nat.mul_le_mul (by omega) hby
  refine wpList_app (K := K) hgd s x t u e ho i z ht hi hz hsize hzs ao n cap xs hs hown _ str.size (byteCells str) hx (Src.ofString X hu str) hK (by unfold maxLen; omega) (by omega) ?_
  intro ao' cap' w' q1 q2 _
  exact h ao' cap' w' q1 q2
end
theorem front_cons (q : Bool) (c : UInt8) (r : List UInt8) : front q (c :: r) = if nbq (c :: r) = true then nbsp else one q c := rfl
def esc (q : Bool) : List UInt8 → List UInt8
  | [] => []
  | [c] => one q c
  | c :: d :: r => if nbq (c :: d :: r) = true then nbsp ++ esc q r else one q c ++ esc q (d :: r)
theorem nbq_iff {l : List UInt8} : nbq l = true ↔ ∃ r, l = 194 :: 160 :: r := by
  constructor
  · intro h
    unfold nbq at h
    split at h
    · exact ⟨_, rfl⟩
    · cases h
  · rintro ⟨r, rfl⟩
    rfl
theorem esc_nil (q : Bool) : esc q [] = [] := rfl
theorem esc_nb (q : Bool) (r : List UInt8) : esc q (194 :: 160 :: r) = nbsp ++ esc q r := rfl
theorem esc_one {q : Bool} {c : UInt8} {r : List UInt8} (h : nbq (c :: r) = false) : esc q (c :: r) = one q c ++ esc q r := by
  cases r with
  | nil => rw [esc, esc, List.append_nil]
  | cons d r => rw [esc, h]; rfl
theorem esc_step (q : Bool) {l : List UInt8} (h : l ≠ []) : esc q l = front q l ++ esc q (l.drop (far l)) := by
  cases l with
  | nil => exact absurd rfl h
  | cons c r =>
    by_cases hn : nbq (c :: r) = true
    · obtain ⟨t, ht⟩ := nbq_iff.1 hn
      unfold far
      rw [front_cons, if_pos hn, if_pos hn, ht]
      rfl
    · have hn' : nbq (c :: r) = false := by simpa using hn
      unfold far
      rw [front_cons, if_neg hn, if_neg hn, esc_one hn']
      rfl
theorem far_le {l : List UInt8} (h : l ≠ []) : 1 ≤ far l ∧ far l ≤ l.length := by
  unfold far
  split
  · rename_i h1
    obtain ⟨r, rfl⟩ := nbq_iff.1 h1
    simp
  · cases l with
    | nil => exact absurd rfl h
    | cons c r => simp
theorem one_len (q : Bool) (c : UInt8) : 1 ≤ (one q c).length ∧ (one q c).length ≤ 6 := by
  unfold one
  repeat' split
  all_goals simp
theorem front_len (q : Bool) {l : List UInt8} (h : l ≠ []) : far l ≤ (front q l).length ∧ (front q l).length ≤ 6 := by
  cases l with
  | nil => exact absurd rfl h
  | cons c r =>
    unfold far
    rw [front_cons]
    split
    · decide
    · exact one_len q c
theorem one_grow (c : UInt8) : (one false c).length ≤ (one true c).length := by
  unfold one
  by_cases h1 : c = 38
  · simp [h1]
  · by_cases h2 : c = 60
    · simp [h2]
    · by_cases h3 : c = 62
      · simp [h3]
      · by_cases h4 : c = 34
        · simp [h4]
        · simp [h1, h2, h3, h4]
/-- Going over a text, a step at a time. -/
theorem walkL {p : List UInt8 → Prop} (h0 : p []) (hs : ∀ l, l ≠ [] → p (l.drop (far l)) → p l) : ∀ (n : Nat) (l : List UInt8), l.length ≤ n → p l
  | 0, l, h => by rw [List.eq_nil_of_length_eq_zero (l := l) (by omega)]; exact h0
  | n + 1, l, h => by
    by_cases hl : l = []
    · rw [hl]; exact h0
    · have := far_le hl
      exact hs l hl (walkL h0 hs n _ (by rw [List.length_drop]; omega))
theorem overL {p : List UInt8 → Prop} (h0 : p []) (hs : ∀ l, l ≠ [] → p (l.drop (far l)) → p l) (l : List UInt8) : p l := walkL h0 hs l.length l (Nat.le_refl _)
theorem esc_long (q : Bool) : ∀ l, l.length ≤ (esc q l).length :=
  overL (Nat.le_refl _) fun l hl ih => by
    rw [esc_step q hl, List.length_append]
    have h1 := front_len q hl
    have h2 := far_le hl
    rw [List.length_drop] at ih
    omega
theorem esc_short (q : Bool) : ∀ l, (esc q l).length ≤ 6 * l.length :=
  overL (Nat.le_refl _) fun l hl ih => by
    rw [esc_step q hl, List.length_append]
    have h1 := front_len q hl
    have h2 := far_le hl
    rw [List.length_drop] at ih
    omega
theorem esc_grow : ∀ l, (esc false l).length ≤ (esc true l).length :=
  overL (Nat.le_refl _) fun l hl ih => by
    rw [esc_step false hl, esc_step true hl, List.length_append, List.length_append]
    have h1 : (front false l).length ≤ (front true l).length := by
      cases l with
      | nil => exact absurd rfl hl
      | cons c r =>
        rw [front_cons, front_cons]
        split
        · exact Nat.le_refl _
        · exact one_grow c
    omega
theorem one_letter {q : Bool} {c : UInt8} (h : 97 ≤ c.toNat ∧ c.toNat ≤ 122) : one q c = [c] := by
  have k : ∀ d : UInt8, d.toNat < 97 → c ≠ d := fun d hd he => by rw [he] at h; omega
  unfold one
  rw [if_neg (k 38 (by decide)), if_neg (k 60 (by decide)), if_neg (k 62 (by decide)), if_neg (fun e => k 34 (by decide) e.2)]
theorem esc_letters (q : Bool) : ∀ l : List UInt8, (∀ c ∈ l, 97 ≤ c.toNat ∧ c.toNat ≤ 122) → esc q l = l
  | [], _ => rfl
  | c :: r, h => by
    have hn : nbq (c :: r) = false := by
      rw [Bool.eq_false_iff]
      intro hh
      obtain ⟨t, ht⟩ := nbq_iff.1 hh
      injection ht with h1 _
      have := (h c List.mem_cons_self).2
      rw [h1] at this
      exact absurd this (by decide)
    rw [esc_one hn, one_letter (h c List.mem_cons_self), esc_letters q r fun d hd => h d (List.mem_cons_of_mem _ hd)]
    rfl
/-- Two texts, if no character is cut. -/
theorem esc_append (q : Bool) (t : List UInt8) : ∀ (s : List UInt8), s.getLast? ≠ some 194 → esc q (s ++ t) = esc q s ++ esc q t :=
  overL (p := fun s => s.getLast? ≠ some 194 → esc q (s ++ t) = esc q s ++ esc q t) (fun _ => rfl) fun l hl ih hlast => by
    cases l with
    | nil => exact absurd rfl hl
    | cons c r =>
      by_cases hn : nbq (c :: r) = true
      · obtain ⟨u, hu⟩ := nbq_iff.1 hn
        have hf : far (c :: r) = 2 := if_pos hn
        rw [hf, hu] at ih
        rw [hu] at hlast ⊢
        have ih' := ih (by
          show u.getLast? ≠ some 194
          intro h
          apply hlast
          cases u with
          | nil => cases h
          | cons a u => rw [List.getLast?_cons_cons, List.getLast?_cons_cons]; exact h)
        show nbsp ++ esc q (u ++ t) = nbsp ++ esc q u ++ esc q t
        rw [List.append_assoc]
        exact congrArg (nbsp ++ ·) ih'
      · have hf : far (c :: r) = 1 := if_neg hn
        rw [hf] at ih
        have hn' : nbq (c :: r) = false := by simpa using hn
        have ih' := ih (by
          show r.getLast? ≠ some 194
          intro h
          apply hlast
          cases r with
          | nil => cases h
          | cons a u => rw [List.getLast?_cons_cons]; exact h)
        have hn2 : nbq (c :: (r ++ t)) = false := by
          rw [Bool.eq_false_iff]
          intro hh
          obtain ⟨u, hu⟩ := nbq_iff.1 hh
          cases r with
          | nil =>
            have : c = 194 := by injection hu
            exact hlast (by rw [this]; rfl)
          | cons a r =>
            rw [List.cons_append] at hu
            injection hu with h1 h2
            injection h2 with h3 _
            exact hn (by rw [h1, h3]; rfl)
        rw [esc_one hn', List.cons_append, esc_one hn2, List.append_assoc]
        exact congrArg (one q c ++ ·) ih'
/-- Which bytes stand in what is written. -/
theorem one_sign {q : Bool} {c d : UInt8} (h : d ∈ one q c) : d ≠ 60 ∧ d ≠ 62 ∧ (q = true → d ≠ 34) := by
  unfold one at h
  by_cases h1 : c = 38
  · rw [if_pos h1] at h
    have : ∀ d ∈ ([38, 97, 109, 112, 59] : List UInt8), d ≠ 60 ∧ d ≠ 62 ∧ d ≠ 34 := by decide
    exact ⟨(this d h).1, (this d h).2.1, fun _ => (this d h).2.2⟩
  · rw [if_neg h1] at h
    by_cases h2 : c = 60
    · rw [if_pos h2] at h
      have : ∀ d ∈ ([38, 108, 116, 59] : List UInt8), d ≠ 60 ∧ d ≠ 62 ∧ d ≠ 34 := by decide
      exact ⟨(this d h).1, (this d h).2.1, fun _ => (this d h).2.2⟩
    · rw [if_neg h2] at h
      by_cases h3 : c = 62
      · rw [if_pos h3] at h
        have : ∀ d ∈ ([38, 103, 116, 59] : List UInt8), d ≠ 60 ∧ d ≠ 62 ∧ d ≠ 34 := by decide
        exact ⟨(this d h).1, (this d h).2.1, fun _ => (this d h).2.2⟩
      · rw [if_neg h3] at h
        by_cases h4 : q = true ∧ c = 34
        · rw [if_pos h4] at h
          have : ∀ d ∈ ([38, 113, 117, 111, 116, 59] : List UInt8), d ≠ 60 ∧ d ≠ 62 ∧ d ≠ 34 := by decide
          exact ⟨(this d h).1, (this d h).2.1, fun _ => (this d h).2.2⟩
        · rw [if_neg h4, List.mem_singleton] at h
          subst h
          exact ⟨h2, h3, fun hq he => h4 ⟨hq, he⟩⟩
theorem front_sign {q : Bool} {l : List UInt8} {d : UInt8} (h : d ∈ front q l) : d ≠ 60 ∧ d ≠ 62 ∧ (q = true → d ≠ 34) := by
  cases l with
  | nil => cases h
  | cons c r =>
    rw [front_cons] at h
    split at h
    · have : ∀ d ∈ nbsp, d ≠ 60 ∧ d ≠ 62 ∧ d ≠ 34 := by decide
      exact ⟨(this d h).1, (this d h).2.1, fun _ => (this d h).2.2⟩
    · exact one_sign h
theorem esc_sign (q : Bool) : ∀ l, ∀ d ∈ esc q l, d ≠ 60 ∧ d ≠ 62 ∧ (q = true → d ≠ 34) :=
  overL (p := fun l => ∀ d ∈ esc q l, d ≠ 60 ∧ d ≠ 62 ∧ (q = true → d ≠ 34)) (fun _ h => by cases h) fun l hl ih d hd => by
    rw [esc_step q hl] at hd
    rcases List.mem_append.1 hd with hd | hd
    · exact front_sign hd
    · exact ih d hd
theorem extract_list (s : ByteArray) (a b : Nat) : (s.extract a b).data.toList = (s.data.toList.take b).drop a := by
  rw [ByteArray.data_extract, Array.toList_extract, List.extract_eq_take_drop, List.drop_take]
theorem beq_data (a b : ByteArray) : (a.toList == b.toList) = (a.data.toList == b.data.toList) := by rw [ByteArray.toList_eq, ByteArray.toList_eq]
theorem pre_take : ∀ (p l : List UInt8), (l.take p.length == p) = p.isPrefixOf l
  | [], l => by simp
  | a :: p, [] => by simp
  | a :: p, c :: l => by
    have := pre_take p l
    simp only [List.length_cons, List.take_succ_cons, List.isPrefixOf]
    rw [← this, List.cons_beq_cons, Bool.beq_comm]
theorem pre_short (p l : List UInt8) (h : l.length < p.length) : p.isPrefixOf l = false := by
  rw [Bool.eq_false_iff]
  intro h'
  have := prefix_length p l h'
  omega
def preS (p s : ByteArray) : Bool := p.data.toList.isPrefixOf s.data.toList
theorem slpre_any (s p : ByteArray) (w : World) :
    Calls Try.prog 78 #[.string s, .string p] w fun e w' => e = .returned (.bool (preS p s)) ∧ w' = w := by
  by_cases h : p.size ≤ s.size
  · have e1 : decide ((s.size : Int) ≥ (p.size : Int)) = true := by simp; omega
    have HP : Hid (((s.extract 0 p.size).toList == p.toList) = preS p s) := by
      show (_ == _) = _
      rw [beq_data, extract_list, List.drop_zero]
      exact pre_take p.data.toList s.data.toList
    go_enter Try.func78, Try.ntmps78
    go_wp2
    go_ret
    exact ⟨by rw [HP.out]; rfl, rfl⟩
  · have e1 : decide ((s.size : Int) ≥ (p.size : Int)) = false := by simp; omega
    have hp : preS p s = false := pre_short _ _ (by show s.size < p.size; omega)
    rw [hp]
    clear hp
    go_enter Try.func78, Try.ntmps78
    go_wp2
    go_ret
    exact ⟨rfl, rfl⟩
theorem pre_any (s p : ByteArray) (w : World) :
    Calls Try.prog 75 #[.string s, .string p] w fun e w' => e = .returned (.bool (preS p s)) ∧ w' = w := by
  have h1 := slpre_any s p w
  go_enter Try.func75, Try.ntmps75
  go_wp2_with fail
  refine h1.mono ?_
  rintro e w1 ⟨rfl, rfl⟩
  go_wp2
  go_ret
  exact ⟨rfl, rfl⟩
theorem drop_cons {s : ByteArray} {k : Nat} (h : k < s.size) : s.data.toList.drop k = s[k] :: s.data.toList.drop (k + 1) := List.drop_eq_getElem_cons (show k < s.data.toList.length from h)
end Go.Proofs.Yteccdijjpmeeaaa
