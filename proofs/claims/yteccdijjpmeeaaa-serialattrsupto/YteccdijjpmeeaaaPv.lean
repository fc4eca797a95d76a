/-
  Small steps on a page: the end of an element, texts, the beginning of an element; what is void, what is raw.
-/
import Derived.Test.YteccdijjpmeeaaaPu
import Derived.Test.YteccdijjpmeeaaaEc
import Derived.Test.YteccdijjpmeeaaaP10
namespace Go.Proofs.Yteccdijjpmeeaaa
open Go.RowKit
set_option linter.unusedVariables false
set_option maxRecDepth 100000
set_option maxHeartbeats 4000000
theorem alloc_bx (X : World) (cs : Array Value) (t : TypeId) : ∃ V N, X.alloc (.cells cs t) = V ∧ X.heap.size = N ∧ V.heap[N]? = some (.cells cs t (0, 0)) ∧ Kept (fun k => k < X.heap.size) X V ∧ V.heap.size = X.heap.size + 1 :=
  ⟨_, _, rfl, rfl, heap_alloc_new X _, (Kept.refl _ X).alloc (fun _ h => h) _, by simp⟩
/-- Parts that are laid for the call itself. -/
theorem put_new (K : Nat → Prop) (c : Cf) (ps : List ByteArray) (cs : Array Value) (hcs : cs.toList = ps.map Value.string) (n : Nat) (hn : ps.length = n) (hnn : n ≤ 1000) (l : List UInt8) (w : World) (h : Pg K w c l) (hl : l.length + (cat ps).length ≤ 1099511627776) :
    Calls Try.prog 52 #[.pointer (some ⟨c.b, 0, none⟩), .slice (some ⟨w.heap.size, 0, none⟩) n n] (w.alloc (.cells cs 9)) fun e w' => e = .returned (.tuple #[]) ∧ Pg K w' c (l ++ cat ps) ∧ Kept K w w' := by
  obtain ⟨V, N, hV, hN, hb, hk, hz⟩ := alloc_bx w cs 9
  rw [hV, hN]
  have hP := h.up hk
  refine (put_any _ c N n n ps hn hnn l V hP ⟨.inr ⟨by omega, by omega⟩, fun j hj => ?_⟩ hl).mono ?_
  · rw [cell_block hb, ← Array.getElem?_toList, hcs, List.getElem?_map, List.getElem?_eq_getElem hj]; rfl
  · rintro e w' ⟨rfl, hP', hk'⟩
    exact ⟨rfl, hP'.less fun k h => .inl h, (hk.mono h.lt).trans (hk'.mono fun k h => .inl h)⟩
theorem end_any (K : Nat → Prop) (c : Cf) (nm : List UInt8) (l : List UInt8) (w : World) (h : Pg K w c l) (hl : l.length + (endL nm).length ≤ 1099511627776) :
    Calls Try.prog 59 #[.pointer (some ⟨c.b, 0, none⟩), .string ⟨nm.toArray⟩] w fun e w' => e = .returned (.tuple #[]) ∧ Pg K w' c (l ++ endL nm) ∧ Kept K w w' := by
  have r := put_new K c [⟨#[60, 47]⟩, ⟨nm.toArray⟩, ⟨#[62]⟩] #[.string ⟨#[60, 47]⟩, .string ⟨nm.toArray⟩, .string ⟨#[62]⟩] rfl 3 rfl (by decide) l w h hl
  have e : cat [⟨#[60, 47]⟩, ⟨nm.toArray⟩, ⟨#[62]⟩] = endL nm := by simp [cat, endL]
  rw [e] at r
  clear h hl e
  go_enter Try.func59, Try.ntmps59
  go_wp2_with fail
  refine r.mono ?_
  rintro e w1 ⟨rfl, hP, hK⟩
  go_wp2
  go_end0
  exact ⟨rfl, hP, hK⟩
theorem bits (l : List UInt8) : (⟨l.toArray⟩ : ByteArray).data.toList = l := rfl
theorem text_put (K : Nat → Prop) (c : Cf) (d : List UInt8) (raw : Bool) (l : List UInt8) (w : World) (h : Pg K w c l) (hd : d.length < 1000000) (hl : l.length + (if raw = true then d else esc false d).length ≤ 1099511627776) :
    Calls Try.prog 51 #[.pointer (some ⟨c.b, 0, none⟩), .string ⟨d.toArray⟩, .bool raw] w fun e w' => e = .returned (.tuple #[]) ∧ Pg K w' c (l ++ (if raw = true then d else esc false d)) ∧ Kept K w w' := by
  cases raw with
  | true =>
    have r := put_new K c [⟨d.toArray⟩] #[.string ⟨d.toArray⟩] rfl 1 rfl (by decide) l w h (by simpa [cat] using hl)
    have e : cat [⟨d.toArray⟩] = d := by simp [cat]
    rw [e] at r
    rw [if_pos rfl]
    clear h hl e
    go_enter Try.func51, Try.ntmps51
    go_wp2_with fail
    refine r.mono ?_
    rintro e w1 ⟨rfl, hP, hK⟩
    go_wp2
    go_end0
    exact ⟨rfl, hP, hK⟩
  | false =>
    rw [if_neg (by decide)] at hl ⊢
    have r1 := text_any ⟨d.toArray⟩ (fun k => k < w.heap.size) w (fun k h => h) hd
    rw [bits] at r1
    have R2 : Hid (∀ V, Kept (fun k => k < w.heap.size) w V → Calls Try.prog 52 #[.pointer (some ⟨c.b, 0, none⟩), .slice (some ⟨V.heap.size, 0, none⟩) 1 1] (V.alloc (.cells #[.string ⟨(esc false d).toArray⟩] 9)) fun e w' => e = .returned (.tuple #[]) ∧ Pg K w' c (l ++ esc false d) ∧ Kept K w w') := fun V hV => by
      have hP := (h.up hV).less (K := K) fun k h => .inl h
      have r := put_new K c [⟨(esc false d).toArray⟩] #[.string ⟨(esc false d).toArray⟩] rfl 1 rfl (by decide) l V hP (by simpa [cat] using hl)
      have e : cat [⟨(esc false d).toArray⟩] = esc false d := by simp [cat]
      rw [e] at r
      exact r.mono fun e w' h' => ⟨h'.1, h'.2.1, (hV.mono h.lt).trans h'.2.2⟩
    clear h hl
    go_enter Try.func51, Try.ntmps51
    go_wp2_with fail
    refine r1.mono ?_
    rintro e V ⟨rfl, hV⟩
    have r2 := R2.out V hV
    clear r1 hV R2
    go_wp2_with fail
    refine r2.mono ?_
    rintro e w1 ⟨rfl, hP, hK⟩
    clear r2
    go_wp2
    go_end0
    exact ⟨rfl, hP, hK⟩
theorem raw_any (s : ByteArray) (K : Nat → Prop) (w : World) :
    Calls Try.prog 53 #[.string s] w fun e w' => e = .returned (.bool (rawP s.toList)) ∧ Kept K w w' := by
  go_enter Try.func53, Try.ntmps53
  go_wp2
  all_goals first | (simp_all; done) | (go_ret; exact ⟨by simp [rawP, rawL, *], Kept.refl _ _⟩)
end Go.Proofs.Yteccdijjpmeeaaa
