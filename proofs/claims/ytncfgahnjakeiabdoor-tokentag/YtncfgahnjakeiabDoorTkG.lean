/-
  The reader apart from K, with the attributes of its tokens in memory of its own (TX); what each method does to it; addComment, note.
-/
import Derived.Test.YtncfgahnjakeiabDoorMb
import Derived.Test.YtncfgahnjakeiabDoorTake
namespace Go.Proofs.YtncfgahnjakeiabDoor
open Go.RowKit

def TX (K : Nat → Prop) (w : World) (p : Nat) (st : TS) : Prop :=
  (Tab w ∧ K 0 ∧ K 1) ∧ (∀ k, K k → k < w.heap.size) ∧ ∃ A : Nat → Prop, (∀ k, A k → k < w.heap.size ∧ ¬ K k) ∧ TK (fun k => K k ∨ A k) A w p st

theorem TX.lt {K : Nat → Prop} {w : World} {p : Nat} {st : TS} (h : TX K w p st) : ∀ k, K k → k < w.heap.size := h.2.1
theorem TX.tab {K : Nat → Prop} {w : World} {p : Nat} {st : TS} (h : TX K w p st) : Tab w := h.1.1
theorem TX.kept {K : Nat → Prop} {w w' : World} {p : Nat} {st : TS} (h : TX K w p st) (hk : Kept (fun k => k < w.heap.size) w w') : TX K w' p st := by
  obtain ⟨⟨t1, t2, t3⟩, h1, A, h2, h3⟩ := h
  exact ⟨⟨t1.kept hk (h1 0 t2) (h1 1 t3), t2, t3⟩, fun k hk' => Nat.lt_of_lt_of_le (h1 k hk') hk.size, A, fun k hk' => ⟨Nat.lt_of_lt_of_le (h2 k hk').1 hk.size, (h2 k hk').2⟩, h3.keptA hk fun k hk' => (h2 k hk').1⟩
theorem TX.alloc {K : Nat → Prop} {w : World} {p : Nat} {st : TS} (h : TX K w p st) (o : Obj) : TX K (w.alloc o) p st := h.kept ((Kept.refl _ w).alloc (fun _ h => h) o)
theorem TX.drew {K : Nat → Prop} {w : World} {p : Nat} {st : TS} (h : TX K w p st) : TX K w.drew p st := h.kept (Kept.refl _ w).drew
theorem TX.drewN {K : Nat → Prop} {w : World} {p : Nat} {st : TS} (h : TX K w p st) (n : Nat) : TX K (w.drewN n) p st := h.kept ((Kept.refl _ w).drewN n)
theorem TX.weaken {K K' : Nat → Prop} {w : World} {p : Nat} {st : TS} (h : TX K w p st) (hs : ∀ k, K' k → K k) (t0 : K' 0) (t1 : K' 1) : TX K' w p st := by
  obtain ⟨⟨q1, _, _⟩, h1, A, h2, h3⟩ := h
  exact ⟨⟨q1, t0, t1⟩, fun k hk => h1 k (hs k hk), A, fun k hk => ⟨(h2 k hk).1, fun hh => (h2 k hk).2 (hs k hh)⟩, h3.weaken (fun k hk => by rcases hk with hk | hk; exact .inl (hs k hk); exact .inr hk) (fun k hk => .inr hk)⟩
theorem TX.cells {K : Nat → Prop} {w : World} {p : Nat} {st : TS} (h : TX K w p st) : w.cell? ⟨p, 0, none⟩ = some (sv st.rest) ∧ w.cell? ⟨p, 1, none⟩ = some (.int .i64 (st.pl : Int)) := by
  obtain ⟨_, h1, A, h2, h3⟩ := h
  exact ⟨h3.cells.1, h3.cells.2.1⟩
/-- From the contract of a method on TK to one on TX. -/
theorem TX.lift {K : Nat → Prop} {w : World} {p : Nat} {st st' : TS} {f : FuncId} {args : Array Value} {v : Value} (h : TX K w p st)
    (hc : ∀ K A, TK K A w p st → (∀ k, K k → k < w.heap.size) → Calls Tryd.prog f args w fun e w' => e = .returned v ∧ TK K A w' p st' ∧ Kept K w w') :
    Calls Tryd.prog f args w fun e w' => e = .returned v ∧ TX K w' p st' ∧ Kept K w w' := by
  obtain ⟨⟨t1, t2, t3⟩, h1, A, h2, h3⟩ := h
  refine (hc _ A h3 (fun k hk => by rcases hk with hk | hk; exact h1 k hk; exact (h2 k hk).1)).mono ?_
  rintro e w' ⟨rfl, q1, q2⟩
  exact ⟨rfl, ⟨⟨t1.kept q2 (.inl t2) (.inl t3), t2, t3⟩, fun k hk => Nat.lt_of_lt_of_le (h1 k hk) q2.size, A, fun k hk => ⟨Nat.lt_of_lt_of_le (h2 k hk).1 q2.size, (h2 k hk).2⟩, q1⟩, q2.mono fun _ h => .inl h⟩

theorem Fit.cutTo {b : Nat} {st : TS} (h : Fit b st) (p : List UInt8 → Bool) : Fit b (st.cutTo p) := (h.cut (upTo_le p st.rest)).mono (by omega)
theorem Fit.cutIf {b : Nat} {st : TS} (h : Fit b st) (f : List UInt8) : Fit b (st.cutIf f) := by
  unfold TS.cutIf
  split
  · rename_i hp
    exact (h.cut (pre_length hp)).mono (by omega)
  · exact h
theorem Fit.cmt {b : Nat} {st : TS} (h : Fit b st) (d : List UInt8) (a : Nat) : Fit (b + 1) (st.cmt d a) := h.add _
theorem Fit.front {b : Nat} {st : TS} (h : Fit b st) (p : List UInt8 → Bool) : (st.front p).length < 1000001 := by
  unfold TS.front
  rw [List.length_take]
  have := h.place
  omega

theorem atEndX (K : Nat → Prop) (p : Nat) (st : TS) (w : World) (h : TX K w p st) :
    Calls Tryd.prog 17 #[.pointer (some ⟨p, 0, none⟩)] w fun e w' => e = .returned (.bool st.rest.isEmpty) ∧ w' = w := by
  obtain ⟨_, h1, A, h2, h3⟩ := h
  exact atEnd_any _ A p st w h3
theorem cutX (K : Nat → Prop) (p : Nat) (st : TS) (w : World) (h : TX K w p st) (n : Nat) (hn : n ≤ st.rest.length) (hs : st.pl + st.rest.length ≤ 1000000) :
    Calls Tryd.prog 23 #[.pointer (some ⟨p, 0, none⟩), .int .i64 n] w fun e w' => e = .returned (sv (st.rest.take n)) ∧ TX K w' p (st.cut n) ∧ Kept K w w' :=
  h.lift fun K A h _ => cut_any K A p st w h n hn hs
theorem cutIfX (K : Nat → Prop) (p : Nat) (st : TS) (w : World) (h : TX K w p st) (f : List UInt8) (hs : st.pl + st.rest.length ≤ 1000000) :
    Calls Tryd.prog 32 #[.pointer (some ⟨p, 0, none⟩), sv f] w fun e w' => e = .returned (.bool (pre f st.rest)) ∧ TX K w' p (st.cutIf f) ∧ Kept K w w' :=
  h.lift fun K A h _ => cutIf_any K A p st w h f hs
theorem faultX (K : Nat → Prop) (p : Nat) (st : TS) (w : World) (h : TX K w p st) (hn : pot st ≤ 1000000000) (k a : Nat) :
    Calls Tryd.prog 22 #[.pointer (some ⟨p, 0, none⟩), .int .u8 k, .int .i64 a] w fun e w' => e = .returned (.tuple #[]) ∧ TX K w' p (st.flt k a) ∧ Kept K w w' :=
  h.lift fun K A h hK => fault_any K A p st w h hK hn k a
theorem addTextX (K : Nat → Prop) (p : Nat) (st : TS) (w : World) (h : TX K w p st) (s : List UInt8) (a : Nat) (hn : pot st + s.length ≤ 1000000000) :
    Calls Tryd.prog 24 #[.pointer (some ⟨p, 0, none⟩), sv s, .int .i64 a] w fun e w' => e = .returned (.tuple #[]) ∧ TX K w' p (st.addT s a) ∧ Kept K w w' :=
  h.lift fun K A h hK => addText_any K A p st w h hK s a (by unfold pot at hn; omega)
theorem endTextX (K : Nat → Prop) (p : Nat) (st : TS) (w : World) (h : TX K w p st) (hn : pot st ≤ 1000000000) :
    Calls Tryd.prog 19 #[.pointer (some ⟨p, 0, none⟩)] w fun e w' => e = .returned (.tuple #[]) ∧ TX K w' p st.endT ∧ Kept K w w' :=
  h.lift fun K A h hK => endText_any K A p st w h hK hn
/-- A token without attributes. -/
theorem addX (K : Nat → Prop) (p : Nat) (st : TS) (w : World) (h : TX K w p st) (hn : pot st ≤ 1000000000) (kind : Nat) (name data : List UInt8) (self : Bool) (a : Nat) :
    Calls Tryd.prog 47 #[.pointer (some ⟨p, 0, none⟩), .agg #[.int .u8 (kind : Int), sv name, .slice none 0 0, .bool self, sv data, .int .i64 (a : Int)]] w fun e w' => e = .returned (.tuple #[]) ∧ TX K w' p (st.add ⟨kind, name, [], self, data, a⟩) ∧ Kept K w w' :=
  h.lift fun K A h hK => add_any K A p st w h hK hn ⟨kind, name, [], self, data, a⟩ none 0 (AtsIn.nil _ _ _)

/-- oneOf, noneOf, and what they make. -/
theorem oneX (K : Nat → Prop) (p : Nat) (st : TS) (w : World) (h : TX K w p st) (set : List UInt8) :
    Calls Tryd.prog 26 #[sv set] w fun e w' => e = .returned (.func (.func 41) #[] #[.pointer (some ⟨w.heap.size, 0, none⟩)]) ∧ TX K w' p st ∧ w.heap.size < w'.heap.size ∧ w'.cell? ⟨w.heap.size, 0, none⟩ = some (sv set) ∧ Kept K w w' := by
  refine (oneOf_any set w).mono ?_
  rintro e w' ⟨rfl, rfl⟩
  exact ⟨rfl, h.alloc _, by simp, by rw [cell_block (heap_alloc_new w _)]; rfl, (Kept.refl K w).alloc h.lt _⟩
theorem noneX (K : Nat → Prop) (p : Nat) (st : TS) (w : World) (h : TX K w p st) (set : List UInt8) :
    Calls Tryd.prog 44 #[sv set] w fun e w' => e = .returned (.func (.func 58) #[] #[.pointer (some ⟨w.heap.size, 0, none⟩)]) ∧ TX K w' p st ∧ w.heap.size < w'.heap.size ∧ w'.cell? ⟨w.heap.size, 0, none⟩ = some (sv set) ∧ Kept K w w' := by
  refine (noneOf_any set w).mono ?_
  rintro e w' ⟨rfl, rfl⟩
  exact ⟨rfl, h.alloc _, by simp, by rw [cell_block (heap_alloc_new w _)]; rfl, (Kept.refl K w).alloc h.lt _⟩
theorem cutOneX (K : Nat → Prop) (p : Nat) (st : TS) (w : World) (h : TX K w p st) (hs : st.pl + st.rest.length ≤ 1000000) (set : List UInt8) (b : Nat) (hb : b < w.heap.size) (hc : w.cell? ⟨b, 0, none⟩ = some (sv set)) :
    Calls Tryd.prog 25 #[.pointer (some ⟨p, 0, none⟩), .func (.func 41) #[] #[.pointer (some ⟨b, 0, none⟩)]] w fun e w' => e = .returned (sv (st.front (hdIn set))) ∧ TX K w' p (st.cutTo (hdIn set)) ∧ Kept K w w' :=
  h.lift fun K A h hK => cutOne_any K A p st w h hK hs set b hb hc
theorem cutNoneX (K : Nat → Prop) (p : Nat) (st : TS) (w : World) (h : TX K w p st) (hs : st.pl + st.rest.length ≤ 1000000) (set : List UInt8) (b : Nat) (hb : b < w.heap.size) (hc : w.cell? ⟨b, 0, none⟩ = some (sv set)) :
    Calls Tryd.prog 25 #[.pointer (some ⟨p, 0, none⟩), .func (.func 58) #[] #[.pointer (some ⟨b, 0, none⟩)]] w fun e w' => e = .returned (sv (st.front (hdOut set))) ∧ TX K w' p (st.cutTo (hdOut set)) ∧ Kept K w w' :=
  h.lift fun K A h hK => cutNone_any K A p st w h hK hs set b hb hc

theorem cleanX (K : Nat → Prop) (p : Nat) (st : TS) (w : World) (h : TX K w p st) (s : List UInt8) (hs : s.length < 10000000) :
    Calls Tryd.prog 57 #[sv s] w fun e w' => e = .returned (sv (cleanL s)) ∧ TX K w' p st ∧ Kept K w w' := by
  refine (clean_any s (fun k => k < w.heap.size) w (fun _ h => h) hs).mono ?_
  rintro e w' ⟨rfl, hk⟩
  exact ⟨rfl, h.kept hk, hk.mono h.lt⟩
theorem smallX (K : Nat → Prop) (p : Nat) (st : TS) (w : World) (h : TX K w p st) (s : List UInt8) (hs : s.length < 1000000) :
    Calls Tryd.prog 43 #[sv s] w fun e w' => e = .returned (sv (nmL s)) ∧ TX K w' p st ∧ Kept K w w' := by
  refine (small_any s (fun k => k < w.heap.size) w (fun _ h => h) hs).mono ?_
  rintro e w' ⟨rfl, hk⟩
  exact ⟨rfl, h.kept hk, hk.mono h.lt⟩

theorem cmtX (K : Nat → Prop) (p : Nat) (st : TS) (w : World) (h : TX K w p st) (hn : pot st ≤ 1000000000) (d : List UInt8) (hd : d.length < 10000000) (a : Nat) :
    Calls Tryd.prog 49 #[.pointer (some ⟨p, 0, none⟩), sv d, .int .i64 a] w fun e w' => e = .returned (.tuple #[]) ∧ TX K w' p (st.cmt d a) ∧ Kept K w w' := by
  have h1 := cleanX K p st w h d hd
  have h2 := fun X hX => addX K p st X hX hn 4 [] (cleanL d) false a
  clear h
  go_enter Tryd.func49, Tryd.ntmps49
  go_wp2_with fail
  refine h1.mono ?_
  rintro e w1 ⟨rfl, ht1, hk1⟩
  go_wp2_with fail
  refine (h2 w1 ht1).mono ?_
  rintro e w2 ⟨rfl, ht2, hk2⟩
  go_wp2
  go_end0
  exact ⟨rfl, ht2, hk1.trans hk2⟩

theorem noteX (K : Nat → Prop) (p : Nat) (st : TS) (w : World) (h : TX K w p st) (b : Nat) (hf : Fit b st) (hb : b ≤ 900000000) (a : Nat) :
    Calls Tryd.prog 38 #[.pointer (some ⟨p, 0, none⟩), .int .i64 a] w fun e w' => e = .returned (.tuple #[]) ∧ TX K w' p (st.note a) ∧ Kept K w w' := by
  have h1 := faultX K p st w h (by have := hf.room; omega) 7 a
  have f1 := hf.flt 7 a
  have f2 := f1.cutTo (hdIn [62])
  have f3 := f2.cmt (st.front (hdIn [62])) a
  have h2 := fun X hX => oneX K p (st.flt 7 a) X hX [62]
  have h3 := fun X hX => cutOneX K p (st.flt 7 a) X hX f1.le [62]
  have h4 := fun X hX => cmtX K p ((st.flt 7 a).cutTo (hdIn [62])) X hX (by have := f2.room; omega) (st.front (hdIn [62])) (by have := hf.front (hdIn [62]); omega) a
  have h5 := fun X hX => cutIfX K p (((st.flt 7 a).cutTo (hdIn [62])).cmt (st.front (hdIn [62])) a) X hX [62] f3.le
  clear h hf f1 f2 f3
  go_enter Tryd.func38, Tryd.ntmps38
  go_wp2_with fail
  refine h1.mono ?_
  rintro e w1 ⟨rfl, ht1, hk1⟩
  have h2 := h2 _ ht1.drew
  clear h1
  go_wp2_with fail
  go_region_with (first | (refine h2.mono ?_; rintro e w2 ⟨rfl, ht2, hl2, hc2, hk2⟩; have h3 := h3 w2 ht2 _ hl2 hc2) | (refine h3.mono ?_; rintro e w3 ⟨rfl, ht3, hk3⟩; have h4 := h4 w3 ht3) | (refine h4.mono ?_; rintro e w4 ⟨rfl, ht4, hk4⟩))
  have h5 := h5 _ ht4
  have hk : Kept K w w4 := ((hk1.drew.trans hk2).trans hk3).trans hk4
  clear ht1 ht2 ht3 ht4 h3 h4 h2 hl2 hc2 hk1 hk2 hk3 hk4
  go_wp2_with fail
  refine h5.mono ?_
  rintro e w5 ⟨rfl, ht5, hk5⟩
  go_wp2
  go_end0
  exact ⟨rfl, ht5, hk.trans hk5⟩
end Go.Proofs.YtncfgahnjakeiabDoor
