/-
  What DomInserts looks at: rows behind a putting in; boxes that stay (pure).
-/
import Derived.Test.YthhoicmfmfeehaaGreatZ44
import Derived.Test.YthhoicmfmfeehaaGreatZ36
namespace Go.Proofs.YthhoicmfmfeehaaGreat
open Go.RowKit Go.Sort
set_option linter.unusedVariables false
/-- The row that is asked for, so far. -/
def wantF (l : List Nat) (k : Nat) (b : Int) : List Nat := l.flatMap fun (x : Nat) => (if (x : Int) = b then [k] else []) ++ (if x = k then [] else [x])
theorem wantF_snoc (l : List Nat) (x k : Nat) (b : Int) : wantF (l ++ [x]) k b = wantF l k b ++ ((if (x : Int) = b then [k] else []) ++ (if x = k then [] else [x])) := by
  unfold wantF
  rw [List.flatMap_append]
  simp
theorem wantF_len (l : List Nat) (k : Nat) (b : Int) : (wantF l k b).length ≤ 2 * l.length := by
  unfold wantF
  induction l with
  | nil => exact Nat.le_refl _
  | cons x r ih =>
    rw [List.flatMap_cons, List.length_append, List.length_cons]
    have : ((if (x : Int) = b then [k] else []) ++ (if x = k then [] else [x])).length ≤ 2 := by
      rw [List.length_append]
      split <;> split <;> simp
    omega
theorem wantF_ins (l : List Nat) (k : Nat) (b : Int) (hb : b ≠ (k : Int)) : wantF l k b = insF (l.filter fun x => x != k) k b := by
  induction l with
  | nil => rfl
  | cons x r ih =>
    have e : wantF (x :: r) k b = ((if (x : Int) = b then [k] else []) ++ (if x = k then [] else [x])) ++ wantF r k b := rfl
    rw [e, ih]
    by_cases c : x = k
    · subst c
      rw [if_neg (fun e => hb e.symm), if_pos rfl, List.filter_cons_of_neg (by simp)]
      rfl
    · rw [if_neg c, List.filter_cons_of_pos (by simpa using c)]
      show _ = (if (x : Int) = b then [k, x] else [x]) ++ insF (r.filter fun x => x != k) k b
      by_cases d : (x : Int) = b
      · rw [if_pos d, if_pos d]; rfl
      · rw [if_neg d, if_neg d]; rfl
theorem outR_row {n : Nat} {L : Nat → Lk} {R : Nat → List Nat} (h : WF n L R) {i u : Nat} (hi : i < n) (hu : u < n) : outR L R i u = (R u).erase i := by
  have hno : ¬ (L i).up = (u : Int) → (R u).erase i = R u := fun hne => List.erase_of_not_mem fun hm => hne (h.up hu hm)
  unfold outR
  by_cases c : (L i).up = -1
  · rw [if_pos c, hno (by omega)]
  · rw [if_neg c]
    rcases h.inn i hi with e | ⟨v, hv, e, -⟩
    · exact absurd e c
    · rw [e, Int.toNat_natCast]
      by_cases d : u = v
      · subst d; rw [updR_same]
      · rw [updR_ne _ _ d, hno (by omega)]
/-- What stands in the row behind a putting in is what was asked for. -/
theorem ins_want {M : Dm} {R : Nat → List Nat} (h : WF M.n M.pl R) {u k : Nat} {b : Int} (hu : u < M.n) (hk : k < M.n) (h4 : (M.nd k).kind ≠ 4) (hbk : b ≠ (k : Int)) (hF : Fits M u k b) :
    putDR M R u k b u = (if b < 0 then wantF (R u) k b ++ [k] else wantF (R u) k b) := by
  have hB : BefOk M.n M.pl u k b := by
    rcases hF.2.2.2 with e | ⟨m, hm, e, hup⟩
    · exact .inl e
    · exact .inr ⟨m, hm, fun e' => hbk (by rw [e, e']), e, hup⟩
  unfold putDR
  rw [if_neg h4, if_neg hbk]
  show updR (outR M.pl R k) u (insB (outR M.pl R k u) k b) u = _
  rw [updR_same]
  obtain ⟨a, c, ha⟩ := put_at h hu hk hB
  have hnd := (h.out hk).nodup u hu
  obtain ⟨e1, e2⟩ := at_of ha hnd
  have h1 : insB (outR M.pl R k u) k b = a ++ k :: c := by unfold insB; rw [← e1, ← e2]
  rw [h1, ← insW_at hnd ha k, outR_row h hk hu, (h.nodup u hu).erase_eq_filter, wantF_ins _ _ _ hbk]
  rfl
theorem ins_up {M : Dm} {R : Nat → List Nat} {u k : Nat} {b : Int} (h4 : (M.nd k).kind ≠ 4) (hbk : b ≠ (k : Int)) : (putD M R u k b k).up = (u : Int) := by
  unfold putD
  rw [if_neg h4, if_neg hbk]
  exact put_up_same
theorem out_up_self {L : Nat → Lk} {i : Nat} : (outL L i i).up = -1 := by
  unfold outL
  by_cases q : (L i).up = -1
  · rw [if_pos q, q]
  · rw [if_neg q]
    simp
/-- A box, and where it lies. -/
structure BoxF (F : Nat → Prop) (V : World) (N : Nat) (kd : Int) (up : Int) (Q : List Nat) (ko : Option Addr) (kc : Nat) : Prop where
  f : F N
  c0 : V.cell? ⟨N, 0, none⟩ = some (.int .u8 kd)
  c4 : V.cell? ⟨N, 4, none⟩ = some (.int .i64 up)
  c5 : V.cell? ⟨N, 5, none⟩ = some (.slice ko Q.length kc)
  kid : ∀ j (h : j < Q.length), ∃ g, ko = some ⟨g, 0, none⟩ ∧ F g ∧ V.cell? ⟨g, j, none⟩ = some (.int .i64 (Q[j] : Int))
theorem BoxF.of {w w' : World} {x : Nd} {up : Int} {Q : List Nat} {ao ko : Option Addr} {ac kc : Nat} (hQ : OwnZ (fun k => k < w.heap.size) w' 3 1 ko Q.length kc (ivs Q)) (hK : Kept (fun k => k < w.heap.size) w w') (V : World) (N : Nat) (hN : w'.heap.size = N)
    (hV : w'.alloc (.cells (outC x.kind ⟨x.name.toArray⟩ ⟨x.data.toArray⟩ ao x.attrs.length ac up ko Q.length kc x.shadow x.host x.content x.fl) 45) = V) : BoxF (fun k => w.heap.size ≤ k ∧ k < V.heap.size) V N x.kind up Q ko kc ∧ Kept (fun k => k < w.heap.size) w V := by
  have hB := Box.of hQ hK V N hN hV
  refine ⟨⟨⟨hB.lo, hB.hi⟩, hB.c0, hB.c4, hB.c5, fun j hj => ?_⟩, hB.kept⟩
  obtain ⟨g, e, hg, hc⟩ := hB.kid j hj
  exact ⟨g, e, ⟨Nat.le_of_not_lt (OwnZ.out hQ (g := g) e).1, hg⟩, hc⟩
theorem BoxF.to {F F' : Nat → Prop} {V V' : World} {N : Nat} {kd up : Int} {Q : List Nat} {ko : Option Addr} {kc : Nat} (h : BoxF F V N kd up Q ko kc) (hF : ∀ k, F k → F' k) (hb : ∀ k, F k → V'.heap[k]? = V.heap[k]?) : BoxF F' V' N kd up Q ko kc := by
  have c : ∀ f, V'.cell? ⟨N, f, none⟩ = V.cell? ⟨N, f, none⟩ := fun f => World.cell?_of_block (w := V) (a := ⟨N, f, none⟩) (hb N h.f)
  refine ⟨hF N h.f, by rw [c]; exact h.c0, by rw [c]; exact h.c4, by rw [c]; exact h.c5, fun j hj => ?_⟩
  obtain ⟨g, e, hg, hc⟩ := h.kid j hj
  exact ⟨g, e, hF g hg, (World.cell?_of_block (w := V) (a := ⟨g, j, none⟩) (hb g hg)).trans hc⟩
theorem BoxF.ints {F : Nat → Prop} {V : World} {N : Nat} {kd up : Int} {Q : List Nat} {ko : Option Addr} {kc : Nat} (h : BoxF F V N kd up Q ko kc) : IntsAt F V ko Q := fun j hj => by
  obtain ⟨g, e, hg, hc⟩ := h.kid j hj
  exact ⟨g, 0, e, hg, by rw [Nat.zero_add]; exact hc⟩
end Go.Proofs.YthhoicmfmfeehaaGreat
