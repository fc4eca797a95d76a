/-
  A row of tokens that the call itself makes, by append; it is handed to Build.
-/
import Derived.Test.YtffllhohlfblnabEB
namespace Go.Proofs.Ytffllhohlfblnab
open Go.RowKit Go.Sort

section
variable {P : Program}
/-- append of some elements of some cells each onto what is owned. -/
theorem run_appM {K : Nat → Prop} (w : World) (t tx ty e : TypeId) (i : TypeInfo) (zv : Value) (ht : P.underlying t = some (.slice e)) (hi : P.info? e = some i) (hz : i.zero = some zv) (z : Nat) (hsize : i.size = z) (hzs : zv.cells.size = z) (hby : i.bytes ≤ 128)
    {ao : Option Addr} {n cap : Nat} {xs : List Value} (hown : OwnZ K w e z ao n cap xs) (x : Value) (m : Nat) (hm0 : 0 < m) (hm : m ≤ 1000) (news : List Value) (hs : Src P z tx x m news w)
    (hK : ∀ k, K k → k < w.heap.size) (hn : n ≤ 1000000000) :
    ∃ ao' cap' w', (Builtin.append_ #[t, tx] ty #[.slice ao n cap, x]).run P w = .ok (.slice ao' (n + m) cap') w' ∧ OwnZ K w' e z ao' (n + m) cap' (xs ++ news) ∧ Kept K w w' := by
  subst hsize
  have h63 : n + m ≤ maxLen := by unfold maxLen; omega
  have hbytes : (n + m) * i.bytes ≤ 140737488355328 := by
    have : (n + m) * i.bytes ≤ (1000000000 + 1000) * 128 := Nat.mul_le_mul (by omega) hby
    omega
  have hnl : news.length = m * i.size := by simpa using hs.newsLen
  obtain ⟨h1, h2, h3, h4⟩ := hown
  have hlen : (xs ++ news).length = (n + m) * i.size := by rw [List.length_append, h1, hnl, Nat.add_mul]
  have grow : cap < n + m → (Builtin.firstCells i.size n (.slice ao n cap)).run P w.drew = .ok xs.toArray w.drew →
      ∃ ao' cap' w', (Builtin.append_ #[t, tx] ty #[.slice ao n cap, x]).run P w = .ok (.slice ao' (n + m) cap') w' ∧ OwnZ K w' e i.size ao' (n + m) cap' (xs ++ news) ∧ Kept K w w' := by
    intro hg hold
    have hr := run_append_grow_src (P := P) w t tx ty e i zv ht hi hz ao n cap xs hold x m news hs hg (by omega) (growslice_fits hg hbytes)
    have hge := grownCap_ge w (n + m) cap e
    refine ⟨_, _, _, hr, ⟨hlen, hge, grownCap_le_maxLen w (n + m) cap e h63, .inr ⟨w.heap.size, _, rfl, fun hk => Nat.lt_irrefl _ (hK _ hk), heap_alloc_new w.drew _, ?_, ?_⟩⟩, (Kept.refl K w).drew.alloc (by simpa using hK) _⟩
    · rw [Array.size_append, List.size_toArray, hlen, size_zeroCells, hzs, ← Nat.add_mul]
      congr 1
      omega
    · rw [Array.toList_append]
      rw [← hlen]
      exact List.take_left
  rcases h4 with ⟨rfl, rfl⟩ | ⟨g, cur, rfl, r2, r3, r4, r5⟩
  · have hn0 : n = 0 := by omega
    subst hn0
    have hx : xs = [] := List.eq_nil_of_length_eq_zero (by omega)
    subst hx
    exact grow (by omega) (run_firstCells_none w.drew i.size 0 0 0)
  · have hcells : ∀ j u, xs[j]? = some u → w.cell? ((⟨g, 0, none⟩ : Addr).add j) = some u := by
      intro j u hj
      have hjl : j < xs.length := by
        rcases Nat.lt_or_ge j xs.length with hl | hg
        · exact hl
        · rw [List.getElem?_eq_none hg] at hj; cases hj
      have : (⟨g, 0, none⟩ : Addr).add j = ⟨g, j, none⟩ := by rw [Addr.add_lit, Nat.zero_add]
      rw [this, cell_block r3, ← hj, ← r5, List.getElem?_take, if_pos (by omega), Array.getElem?_toList]
    by_cases hroom : n + m ≤ cap
    · have hfit : n * i.size + m * i.size ≤ cur.size := by
        rw [r4, ← Nat.add_mul]
        exact Nat.mul_le_mul_right _ hroom
      have hr := run_append_room_src (P := P) w t tx ty e i ht hi g 0 n cap x m news hs hroom
        (fun j hj => by rw [cell_block r3]; rw [Array.getElem?_eq_getElem (by omega)]; rfl)
        (fun j hj => frozen_block r3 _)
      rw [Nat.zero_add] at hr
      obtain ⟨c', q1, q2⟩ := heap_setCells_at (b := g) (e := e) (f := (0, 0)) news (n * i.size) w cur r3 (by omega)
      refine ⟨_, _, _, hr, ⟨hlen, hroom, h3, .inr ⟨g, c', rfl, r2, q1, ?_, ?_⟩⟩, ⟨?_, ?_, ?_, ?_, ?_⟩⟩
      · have := congrArg List.length q2
        rw [List.length_append, List.length_append, List.length_drop, List.length_take] at this
        simp only [Array.length_toList] at this
        omega
      · rw [q2, r5, ← hlen]
        exact List.take_left
      · exact World.os_setCells w g _ news
      · have key : ∀ (vs : List Value) (o : Nat) (v : World), (v.setCells g o vs).tape = v.tape := by
          intro vs
          induction vs with
          | nil => intro o v; rfl
          | cons a r ih => intro o v; rw [World.setCells, ih]; rfl
        exact key news _ w
      · exact World.output_setCells w g _ news
      · have key : ∀ (vs : List Value) (o : Nat) (v : World), (v.setCells g o vs).heap.size = v.heap.size := by
          intro vs
          induction vs with
          | nil => intro o v; rfl
          | cons a r ih => intro o v; rw [World.setCells, ih]; simp
        rw [key]; exact Nat.le_refl _
      · intro k hk
        exact World.heap_setCells_other w g _ news (hK k hk) (fun e => r2 (e ▸ hk))
    · exact grow (by omega) (run_firstCells_some w.drew i.size n ⟨g, 0, none⟩ n cap xs h1 hcells)
/-- What 'append(s, x, y)' lays for its elements of some cells each. -/
theorem src_newM {tx e e' : TypeId} (X : World) (N m z : Nat) (vs : List Value) (cur : Array Value) (hk : P.underlying tx = some (.slice e')) (h1 : ∀ u ∈ vs, u.oneCell' = true) (hN : N = X.heap.size) (hc : cur.toList = vs) (hl : vs.length = m * z) :
    Src P z tx (.slice (some ⟨N, 0, none⟩) m m) m vs (X.alloc (.cells cur e)) := by
  subst hN
  refine Src.ofSlice _ hk _ _ _ vs hl (fun j u hj => ?_) h1
  rw [Addr.add_lit, Nat.zero_add, cell_block (heap_alloc_new X _), ← Array.getElem?_toList, hc, hj]
end

/-- Tokens in a block whose cells are known. -/
theorem toks_of_rep {K : Nat → Prop} {w : World} {l : List Tk} {cs : List Value} (h : TokRep K w l cs) (g : Nat) (hg : K g) (hc : ∀ i u, cs[i]? = some u → w.cell? ⟨g, i, none⟩ = some u) : ToksIn K w (some ⟨g, 0, none⟩) l := by
  intro j hj
  obtain ⟨aa, ac, h1, h2⟩ := h.get j hj
  exact ⟨g, aa, ac, rfl, hg, h1, hc _ _ (h2 0 _ rfl), hc _ _ (h2 1 _ rfl), hc _ _ (h2 2 _ rfl), hc _ _ (h2 3 _ rfl), hc _ _ (h2 4 _ rfl), hc _ _ (h2 5 _ rfl)⟩
theorem rep_plain (K : Nat → Prop) (w : World) : ∀ l : List Tk, (∀ t ∈ l, t.attrs = []) → TokRep K w l (l.flatMap fun t => tokCells t none 0)
  | [], _ => rfl
  | t :: r, h => ⟨none, 0, r.flatMap fun t => tokCells t none 0, rfl, by rw [h t (by simp)]; exact AtsIn.nil _ _ _, rep_plain K w r fun x hx => h x (by simp [hx])⟩
theorem cells_len : ∀ l : List Tk, (l.flatMap fun t => tokCells t none 0).length = l.length * 6
  | [] => rfl
  | t :: r => by
    rw [List.flatMap_cons, List.length_append, cells_len r, List.length_cons]
    show 6 + _ = _
    omega
theorem cells_one (l : List Tk) : ∀ u ∈ (l.flatMap fun t => tokCells t none 0), u.oneCell' = true := by
  intro u hu
  obtain ⟨t, _, h⟩ := List.mem_flatMap.1 hu
  exact tok_one t none 0 u h
/-- A row of tokens of the call's own: they have no attributes. -/
structure TOwn (w0 w : World) (la : Option Addr) (n cap : Nat) (l : List Tk) : Prop where
  own : OwnZ (fun k => k < w0.heap.size) w 31 6 la n cap (l.flatMap fun t => tokCells t none 0)
  len : l.length = n
  plain : ∀ t ∈ l, t.attrs = []
  kept : Kept (fun k => k < w0.heap.size) w0 w
theorem TOwn.nil (w : World) : TOwn w w none 0 0 [] := ⟨OwnZ.nil _ _ _ _, rfl, fun _ h => absurd h List.not_mem_nil, Kept.refl _ _⟩
theorem TOwn.app {w0 w : World} {la : Option Addr} {n cap : Nat} {l : List Tk} (h : TOwn w0 w la n cap l) (hn : n ≤ 1000000) (m : Nat) (hm0 : 0 < m) (hm : m ≤ 10) (news : List Tk) (hnl : news.length = m) (hnp : ∀ t ∈ news, t.attrs = []) (cur : Array Value) (hc : cur.toList = news.flatMap fun t => tokCells t none 0) :
    ∃ la' cap' w', (Builtin.append_ #[29, 29] 29 #[.slice la n cap, .slice (some ⟨w.heap.size, 0, none⟩) m m]).run Try.prog (w.alloc (.cells cur 31)) = .ok (.slice la' (n + m) cap') w' ∧ TOwn w0 w' la' (n + m) cap' (l ++ news) := by
  obtain ⟨i, hi, hip⟩ := Option.map_eq_some_iff.1 infoT
  have hz0 : i.zero = some (.agg #[.int .u8 0, .string ⟨#[]⟩, .slice none 0 0, .bool false, .string ⟨#[]⟩, .int .i64 0]) := congrArg (·.1) hip
  have hsz : i.size = 6 := congrArg (·.2.1) hip
  have hby : i.bytes = 80 := congrArg (·.2.2) hip
  obtain ⟨W, hW⟩ : ∃ W, w.alloc (.cells cur 31) = W := ⟨_, rfl⟩
  rw [hW]
  have kW : Kept (fun k => k < w.heap.size) w W := by rw [← hW]; exact (Kept.refl _ w).alloc (fun _ h => h) _
  have hsrc : Src Try.prog 6 29 (.slice (some ⟨w.heap.size, 0, none⟩) m m) m (news.flatMap fun t => tokCells t none 0) W := by
    rw [← hW]
    exact src_newM w w.heap.size m 6 _ cur Try.underlying29 (cells_one news) rfl hc (by rw [cells_len, hnl])
  have ho : OwnZ (fun k => k < w0.heap.size) W 31 6 la n cap (l.flatMap fun t => tokCells t none 0) := h.own.to (fun g hg => (h.own.out hg).1) (fun g hg => kW.block g (h.own.out hg).2)
  obtain ⟨la', cap', w', hr, ho', hk'⟩ := run_appM (P := Try.prog) W 29 29 29 31 i _ Try.underlying29 hi hz0 6 hsz rfl (by omega) ho _ m hm0 (by omega) _ hsrc (fun k hk => Nat.lt_of_lt_of_le (Nat.lt_of_lt_of_le hk h.kept.size) kW.size) (by omega)
  refine ⟨la', cap', w', hr, by rw [List.flatMap_append]; exact ho', by rw [List.length_append, h.len, hnl], ?_, (h.kept.trans (kW.mono fun k hk => Nat.lt_of_lt_of_le hk h.kept.size)).trans hk'⟩
  intro t ht
  rcases List.mem_append.1 ht with ht | ht
  · exact h.plain t ht
  · exact hnp t ht
theorem TOwn.toks {w0 w : World} {la : Option Addr} {n cap : Nat} {l : List Tk} (h : TOwn w0 w la n cap l) : ToksIn (fun k => k < w.heap.size) w la l := by
  cases l with
  | nil => intro j hj; exact absurd hj (Nat.not_lt_zero _)
  | cons t r =>
    obtain ⟨g, e, -⟩ := h.own.cell (j := 0) (u := .int .u8 (t.kind : Int)) (by rw [List.flatMap_cons]; rfl)
    subst e
    refine toks_of_rep (rep_plain _ _ _ h.plain) g (h.own.out rfl).2 fun i u hu => ?_
    obtain ⟨g', e', c⟩ := h.own.cell hu
    injection e' with e'
    injection e' with e'
    subst e'
    exact c
theorem wt_none : ∀ l : List Tk, (∀ t ∈ l, t.attrs = []) → wtL l = 2 * l.length
  | [], _ => rfl
  | t :: r, h => by
    rw [wtL_cons, wt_none r fun x hx => h x (by simp [hx])]
    unfold wtT
    rw [h t (by simp)]
    simp
    omega
/-- Build of such a row. -/
theorem TOwn.build {w0 w : World} {la : Option Addr} {n cap : Nat} {l : List Tk} (h : TOwn w0 w la n cap l) (hn : n ≤ 100000) {b : BS} (hb : buildL l = some b) (ni nf : Nat) (hi : b.items.length = ni) (hf : b.flts.length = nf) :
    Calls Try.prog 11 #[.slice la n cap] w fun e w' => (∃ ia ic fa fc, e = .returned (.tuple #[.slice ia ni ic, .slice fa nf fc, .int .u16 0]) ∧ ItsIn w' ia b.items ∧ FltsIn (fun k => k < w'.heap.size) w' fa b.flts) ∧ Kept (fun k => k < w0.heap.size) w0 w' := by
  have r := build_any l la n cap h.len (by omega) (by rw [wt_none l h.plain, h.len]; omega) (fun t ht x hx => by rw [h.plain t ht] at hx; cases hx) w h.toks
  rw [hb] at r
  refine r.mono ?_
  rintro e w' ⟨⟨ia, ic, fa, fc, q1, q2, q3, -⟩, k⟩
  rw [hi, hf] at q1
  exact ⟨⟨ia, ic, fa, fc, q1, q2, q3⟩, h.kept.trans (k.mono fun x hx => Nat.lt_of_lt_of_le hx h.kept.size)⟩
end Go.Proofs.Ytffllhohlfblnab
