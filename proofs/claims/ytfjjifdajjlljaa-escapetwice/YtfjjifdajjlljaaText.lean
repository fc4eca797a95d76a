/-
  What the program's Text and Value answer, the document's own, and what the chapter's examples ask (known).
-/
import Derived.Test.YtfjjifdajjlljaaRepl
namespace Go.Proofs.Ytfjjifdajjlljaa
open Go.RowKit

theorem liesT {w : World} {g : Nat} {cs : Array Value} {tt : TypeId} (hb : w.heap[g]? = some (.cells cs tt (0, 0))) (hc : cs.toList.take 8 = cellsT.toList) : Lies w g (tabOf false) := by
  have key : ∀ i, i < 8 → w.cell? ⟨g, i, none⟩ = cellsT.toList[i]? := fun i hi => by
    rw [cell_block hb, ← hc, List.getElem?_take, if_pos hi, Array.getElem?_toList]
  intro k hk
  match k, hk with
  | 0, _ => exact ⟨key 0 (by decide), key 1 (by decide)⟩
  | 1, _ => exact ⟨key 2 (by decide), key 3 (by decide)⟩
  | 2, _ => exact ⟨key 4 (by decide), key 5 (by decide)⟩
  | 3, _ => exact ⟨key 6 (by decide), key 7 (by decide)⟩
  | n + 4, h => exact absurd h (by show ¬ (n + 4 < 4); omega)
def cellsQ : Array Value := #[.string ⟨#[34]⟩, .string ⟨#[38, 113, 117, 111, 116, 59]⟩]
theorem liesQ {w : World} {g : Nat} {cs : Array Value} {tt : TypeId} (hb : w.heap[g]? = some (.cells cs tt (0, 0))) (hc : cs.toList.take 10 = cellsT.toList ++ cellsQ.toList) : Lies w g (tabOf true) := by
  have key : ∀ i, i < 10 → w.cell? ⟨g, i, none⟩ = (cellsT.toList ++ cellsQ.toList)[i]? := fun i hi => by
    rw [cell_block hb, ← hc, List.getElem?_take, if_pos hi, Array.getElem?_toList]
  intro k hk
  match k, hk with
  | 0, _ => exact ⟨key 0 (by decide), key 1 (by decide)⟩
  | 1, _ => exact ⟨key 2 (by decide), key 3 (by decide)⟩
  | 2, _ => exact ⟨key 4 (by decide), key 5 (by decide)⟩
  | 3, _ => exact ⟨key 6 (by decide), key 7 (by decide)⟩
  | 4, _ => exact ⟨key 8 (by decide), key 9 (by decide)⟩
  | n + 5, h => exact absurd h (by show ¬ (n + 5 < 5); omega)

theorem text_any (s : ByteArray) (K : Nat → Prop) (w : World) (hK : ∀ k, K k → k < w.heap.size) (hs : s.size < 1000000) :
    Calls Try.prog 9 #[.string s] w fun e w' => e = .returned (.string ⟨(esc false s.data.toList).toArray⟩) ∧ Kept K w w' := by
  have h1 := everywhere_any w
  obtain ⟨W, hW⟩ : ∃ W, w.alloc (.cells cellsT 32) = W := ⟨_, rfl⟩
  obtain ⟨g, hg⟩ : ∃ g, w.heap.size = g := ⟨_, rfl⟩
  have hb : W.heap[g]? = some (.cells cellsT 32 (0, 0)) := by rw [← hW, ← hg]; exact heap_alloc_new w _
  obtain ⟨K', hK'⟩ : ∃ K' : Nat → Prop, (fun k => K k ∨ k = g) = K' := ⟨_, rfl⟩
  have hKW : ∀ k, K' k → k < W.heap.size := fun k hk => by
    rw [← hK'] at hk
    rcases hk with hk | rfl
    · have := hK k hk
      rw [← hW]
      simp
      omega
    · exact lt_block hb
  have hkk : Kept K w W := by rw [← hW]; exact (Kept.refl K w).alloc hK _
  have h2 := replaced_any s false (tabOf false) rfl g 4 K' W hKW hs (by rw [← hK']; exact .inr rfl) (liesT hb rfl)
  have hmono : ∀ k, K k → K' k := fun k hk => by rw [← hK']; exact .inl hk
  rw [hW, hg] at h1
  have h2 : Calls Try.prog 14 #[.string s, .slice (some ⟨g, 0, none⟩) 4 4] W fun e w' => e = .returned (.string ⟨(esc false s.data.toList).toArray⟩) ∧ Kept K' W w' := h2
  clear hW hg hb hK'
  go_enter Try.func9, Try.ntmps9
  go_wp2_with fail
  refine h1.mono ?_
  rintro e w1 ⟨rfl, rfl⟩
  go_wp2_with fail
  refine h2.mono ?_
  rintro e w2 ⟨rfl, hk2⟩
  go_wp2
  go_ret
  exact ⟨rfl, hkk.trans (hk2.mono hmono)⟩

theorem infoR : (Try.prog.info? 32).map (fun i => (i.zero, i.size, i.bytes)) = some (some (.agg #[.string ⟨#[]⟩, .string ⟨#[]⟩]), 2, 32) := by kernel_rfl
/-- 'append(everywhere(), ..)': the list grows. -/
theorem run_appQ (W : World) (g q : Nat) (hg : W.heap[g]? = some (.cells cellsT 32 (0, 0))) (hq : W.heap[q]? = some (.cells cellsQ 32 (0, 0))) :
    ∃ cap W' cs, (Builtin.append_ #[29, 29] 29 #[.slice (some ⟨g, 0, none⟩) 4 4, .slice (some ⟨q, 0, none⟩) 1 1]).run Try.prog W = .ok (.slice (some ⟨W.heap.size, 0, none⟩) 5 cap) W' ∧ W' = W.drew.alloc (.cells cs 32) ∧ cs.toList.take 10 = cellsT.toList ++ cellsQ.toList := by
  obtain ⟨i, hi, hp⟩ := Option.map_eq_some_iff.1 infoR
  have hz : i.zero = some (.agg #[.string ⟨#[]⟩, .string ⟨#[]⟩]) := congrArg (·.1) hp
  have hsz : i.size = 2 := congrArg (·.2.1) hp
  have hby : i.bytes = 32 := congrArg (·.2.2) hp
  have hold : (Builtin.firstCells i.size 4 (.slice (some ⟨g, 0, none⟩) 4 4)).run Try.prog W.drew = .ok cellsT.toList.toArray W.drew := by
    refine run_firstCells_some W.drew i.size 4 ⟨g, 0, none⟩ 4 4 cellsT.toList (by rw [hsz]; rfl) fun j u hj => ?_
    have hg' : W.drew.heap[g]? = some (.cells cellsT 32 (0, 0)) := hg
    rw [Addr.add_lit, Nat.zero_add, cell_block hg', ← Array.getElem?_toList, hj]
  have hsrc : Src Try.prog i.size 29 (.slice (some ⟨q, 0, none⟩) 1 1) 1 cellsQ.toList W := by
    refine Src.ofSlice W Try.underlying29 ⟨q, 0, none⟩ 1 1 cellsQ.toList (by rw [hsz]; rfl) (fun j u hj => ?_) (fun u hu => ?_)
    · rw [Addr.add_lit, Nat.zero_add, cell_block hq, ← Array.getElem?_toList, hj]
    · simp only [cellsQ, List.mem_cons, List.not_mem_nil, or_false] at hu
      rcases hu with rfl | rfl <;> rfl
  have hr := run_append_grow_src (P := Try.prog) W 29 29 29 32 i _ Try.underlying29 hi hz (some ⟨g, 0, none⟩) 4 4 cellsT.toList hold (.slice (some ⟨q, 0, none⟩) 1 1) 1 cellsQ.toList hsrc (by omega) (by omega) (growslice_fits (by omega) (by rw [hby]; omega))
  exact ⟨_, _, _, hr, rfl, by rw [Array.toList_append]; rfl⟩

/-- An append whose run is known, at a plain region's list. -/
theorem wpList_appR {P : Program} {w w' : World} {ops : Array Oper} {rest : List Oper} {o : Oper} {a : Act} {Q : Exit → Act → World → Prop} (hgd : o.guard = none) (s x : Operand) (t tx : TypeId)
    (ho : o.op = .call { callee := .builtin .append, args := #[s, x], argTypes := #[t, tx] }) (vs vx v : Value) (hs : a.eval s = vs) (hx : a.eval x = vx)
    (hr : (Builtin.append_ #[t, tx] o.type #[vs, vx]).run P w = .ok v w') (h : wpList P ops Q rest (a.put o.dst v) w') : wpList P ops Q (o :: rest) a w := by
  refine wpList_plain hgd fun _ hK' => ?_
  unfold Oper.wp execOp
  simp only [ho, resolve, invoke, builtin, Sem.run_bind, Sem.run_pure, Result.andThen_ok, List.map_toArray, List.map_cons, List.map_nil, hs, hx, hr]
  exact hK' _ _ h

set_option maxRecDepth 20000 in
theorem value_any (s : ByteArray) (K : Nat → Prop) (w : World) (hK : ∀ k, K k → k < w.heap.size) (hs : s.size < 1000000) :
    Calls Try.prog 10 #[.string s] w fun e w' => e = .returned (.string ⟨(esc true s.data.toList).toArray⟩) ∧ Kept K w w' := by
  have h1 := everywhere_any w
  obtain ⟨W, hW⟩ : ∃ W, w.alloc (.cells cellsT 32) = W := ⟨_, rfl⟩
  obtain ⟨g, hg⟩ : ∃ g, w.heap.size = g := ⟨_, rfl⟩
  have hb : W.heap[g]? = some (.cells cellsT 32 (0, 0)) := by rw [← hW, ← hg]; exact heap_alloc_new w _
  have hKW : ∀ k, K k → k < W.heap.size := fun k hk => by
    have := hK k hk
    rw [← hW]
    simp
    omega
  have hkk : Kept K w W := by rw [← hW]; exact (Kept.refl K w).alloc hK _
  rw [hW, hg] at h1
  clear hW hg
  obtain ⟨cap, W2, cs, hrun, hW2, hcs⟩ := run_appQ (W.alloc (.cells cellsQ 32)) g W.heap.size (heap_alloc_past hb _) (heap_alloc_new W _)
  obtain ⟨p, hp⟩ : ∃ p, (W.alloc (.cells cellsQ 32)).heap.size = p := ⟨_, rfl⟩
  rw [hp] at hrun
  have hb2 : W2.heap[p]? = some (.cells cs 32 (0, 0)) := by rw [hW2, ← hp]; exact heap_alloc_new _ _
  have hkk2 : Kept K w W2 := by
    rw [hW2]
    exact ((hkk.alloc hKW _).drew).alloc (fun k hk => by have := hKW k hk; simp; omega) _
  obtain ⟨K', hK'⟩ : ∃ K' : Nat → Prop, (fun k => K k ∨ k = p) = K' := ⟨_, rfl⟩
  have hK2 : ∀ k, K' k → k < W2.heap.size := fun k hk => by
    rw [← hK'] at hk
    rcases hk with hk | rfl
    · exact Nat.lt_of_lt_of_le (hK k hk) hkk2.size
    · exact lt_block hb2
  have h2 := replaced_any s true (tabOf true) rfl p cap K' W2 hK2 hs (by rw [← hK']; exact .inr rfl) (liesQ hb2 hcs)
  have h2 : Calls Try.prog 14 #[.string s, .slice (some ⟨p, 0, none⟩) 5 cap] W2 fun e w' => e = .returned (.string ⟨(esc true s.data.toList).toArray⟩) ∧ Kept K' W2 w' := h2
  have hmono : ∀ k, K k → K' k := fun k hk => by rw [← hK']; exact .inl hk
  clear hb2 hW2 hcs hp hK' hb
  go_enter Try.func10, Try.ntmps10
  go_wp2_with fail
  refine h1.mono ?_
  rintro e w1 ⟨rfl, rfl⟩
  go_wp2_with (at_builtin; refine wpList_appR (w' := W2) rfl (.tmp 4) (.tmp 6) 29 29 rfl _ _ (.slice (some ⟨p, 0, none⟩) 5 cap) rfl rfl hrun ?_)
  refine h2.mono ?_
  rintro e w2 ⟨rfl, hk2⟩
  go_wp2
  go_ret
  exact ⟨rfl, hkk2.trans (hk2.mono hmono)⟩

theorem rtext_any (s : ByteArray) (w : World) (hs : s.size < 1000000) :
    Calls Try.prog 11 #[.string s] w fun e w' => e = .returned (.string ⟨(esc false s.data.toList).toArray⟩) ∧ w' = w := by
  have h1 := rwritten_any s false w hs
  go_enter Try.func11, Try.ntmps11
  go_wp2_with fail
  refine h1.mono ?_
  rintro e w1 ⟨rfl, rfl⟩
  go_wp2
  go_ret
  exact ⟨rfl, rfl⟩

theorem rvalue_any (s : ByteArray) (w : World) (hs : s.size < 1000000) :
    Calls Try.prog 12 #[.string s] w fun e w' => e = .returned (.string ⟨(esc true s.data.toList).toArray⟩) ∧ w' = w := by
  have h1 := rwritten_any s true w hs
  go_enter Try.func12, Try.ntmps12
  go_wp2_with fail
  refine h1.mono ?_
  rintro e w1 ⟨rfl, rfl⟩
  go_wp2
  go_ret
  exact ⟨rfl, rfl⟩

theorem kn1 : (⟨(esc false (ByteArray.mk #[97, 60, 98, 38]).data.toList).toArray⟩ : ByteArray) = ⟨#[97, 38, 108, 116, 59, 98, 38, 97, 109, 112, 59]⟩ := by decide +kernel
theorem kn2 : (⟨(esc true (ByteArray.mk #[34]).data.toList).toArray⟩ : ByteArray) = ⟨#[38, 113, 117, 111, 116, 59]⟩ := by decide +kernel
theorem kn3 : (⟨(esc false (ByteArray.mk #[194, 160]).data.toList).toArray⟩ : ByteArray) = ⟨#[38, 110, 98, 115, 112, 59]⟩ := by decide +kernel
theorem known_any (K : Nat → Prop) (w : World) (hK : ∀ k, K k → k < w.heap.size) :
    Calls Try.prog 8 #[] w fun e w' => e = .returned (.bool true) ∧ Kept K w w' := by
  have h1 := fun X hX => text_any ⟨#[97, 60, 98, 38]⟩ K X hX (by decide)
  rw [kn1] at h1
  have h2 := fun X hX => value_any ⟨#[34]⟩ K X hX (by decide)
  rw [kn2] at h2
  have h3 := fun X hX => text_any ⟨#[194, 160]⟩ K X hX (by decide)
  rw [kn3] at h3
  go_enter Try.func8, Try.ntmps8
  go_wp2_with fail
  refine (h1 w hK).mono ?_
  rintro e w1 ⟨rfl, q1⟩
  go_wp2_with fail
  refine (h2 w1 (fun k hk => Nat.lt_of_lt_of_le (hK k hk) q1.size)).mono ?_
  rintro e w2 ⟨rfl, p2⟩
  have q2 := q1.trans p2
  clear p2 q1
  go_wp2_with fail
  refine (h3 w2 (fun k hk => Nat.lt_of_lt_of_le (hK k hk) q2.size)).mono ?_
  rintro e w3 ⟨rfl, p3⟩
  have q3 := q2.trans p3
  clear p3 q2
  go_wp2
  go_ret
  exact ⟨rfl, q3⟩
end Go.Proofs.Ytfjjifdajjlljaa
