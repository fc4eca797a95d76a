/-
  Several texts, one behind the other: Mem, NPure, Tok.
-/
import Derived.Test.YtncfgahnjakeiabDoorBase
import Derived.WalkKit
import Derived.Test.YtncfgahnjakeiabDoorPure
section
namespace Go.Proofs.YtncfgahnjakeiabDoor
open Go.RowKit

/-- The block that a slice's value names. -/
def blkOf (ao : Option Addr) (k : Nat) : Prop := ao = some ⟨k, 0, none⟩

/-- The slice value '.slice ao n cap' owns n elements of z cells each, in a block outside K, from its head on; or it is nil. -/
def OwnZ (K : Nat → Prop) (w : World) (e : TypeId) (z : Nat) (ao : Option Addr) (n cap : Nat) (xs : List Value) : Prop :=
  xs.length = n * z ∧ n ≤ cap ∧ cap ≤ maxLen ∧ ((ao = none ∧ cap = 0) ∨
    ∃ g cur, ao = some ⟨g, 0, none⟩ ∧ ¬ K g ∧ w.heap[g]? = some (.cells cur e (0, 0)) ∧ cur.size = cap * z ∧ cur.toList.take (n * z) = xs)

theorem OwnZ.nil (K : Nat → Prop) (w : World) (e : TypeId) (z : Nat) : OwnZ K w e z none 0 0 [] := ⟨by simp, Nat.le_refl _, Nat.zero_le _, .inl ⟨rfl, rfl⟩⟩
theorem OwnZ.out {K : Nat → Prop} {w : World} {e : TypeId} {z : Nat} {ao : Option Addr} {n cap : Nat} {xs : List Value} (h : OwnZ K w e z ao n cap xs) {g : Nat} (hg : blkOf ao g) : ¬ K g ∧ g < w.heap.size := by
  obtain ⟨_, _, _, h4⟩ := h
  rcases h4 with ⟨r, _⟩ | ⟨g', cur, r1, r2, r3, _⟩
  · rw [r] at hg; cases hg
  · rw [r1] at hg
    injection hg with hg
    injection hg with hg
    subst hg
    exact ⟨r2, lt_block r3⟩
/-- Elsewhere, apart from other blocks, where its own block is as it was. -/
theorem OwnZ.to {K K' : Nat → Prop} {w w' : World} {e : TypeId} {z : Nat} {ao : Option Addr} {n cap : Nat} {xs : List Value} (h : OwnZ K w e z ao n cap xs) (hk : ∀ g, blkOf ao g → ¬ K' g) (hb : ∀ g, blkOf ao g → w'.heap[g]? = w.heap[g]?) :
    OwnZ K' w' e z ao n cap xs := by
  obtain ⟨h1, h2, h3, h4⟩ := h
  refine ⟨h1, h2, h3, ?_⟩
  rcases h4 with h4 | ⟨g, cur, r1, r2, r3, r4⟩
  · exact .inl h4
  · exact .inr ⟨g, cur, r1, hk g r1, by rw [hb g r1]; exact r3, r4⟩
theorem OwnZ.cell {K : Nat → Prop} {w : World} {e : TypeId} {z : Nat} {ao : Option Addr} {n cap : Nat} {xs : List Value} (h : OwnZ K w e z ao n cap xs) {j : Nat} {u : Value} (hj : xs[j]? = some u) : ∃ g, ao = some ⟨g, 0, none⟩ ∧ w.cell? ⟨g, j, none⟩ = some u := by
  obtain ⟨h1, h2, h3, h4⟩ := h
  have hjl : j < xs.length := by
    rcases Nat.lt_or_ge j xs.length with hl | hg
    · exact hl
    · rw [List.getElem?_eq_none hg] at hj; cases hj
  rcases h4 with ⟨r1, r2⟩ | ⟨g, cur, r1, r2, r3, r4, r5⟩
  · have : n = 0 := by omega
    subst this
    omega
  · refine ⟨g, r1, ?_⟩
    rw [cell_block r3, ← hj, ← r5, List.getElem?_take, if_pos (by omega), Array.getElem?_toList]
theorem Own.out {K : Nat → Prop} {w : World} {e : TypeId} {ao : Option Addr} {n cap : Nat} {xs : List Value} (h : Own K w e ao n cap xs) {g : Nat} (hg : blkOf ao g) : ¬ K g ∧ g < w.heap.size := by
  obtain ⟨_, _, _, h4⟩ := h
  rcases h4 with ⟨r, _⟩ | ⟨g', cur, r1, r2, r3, _⟩
  · rw [r] at hg; cases hg
  · rw [r1] at hg
    injection hg with hg
    injection hg with hg
    subst hg
    exact ⟨r2, lt_block r3⟩
theorem Own.to {K K' : Nat → Prop} {w w' : World} {e : TypeId} {ao : Option Addr} {n cap : Nat} {xs : List Value} (h : Own K w e ao n cap xs) (hk : ∀ g, blkOf ao g → ¬ K' g) (hb : ∀ g, blkOf ao g → w'.heap[g]? = w.heap[g]?) :
    Own K' w' e ao n cap xs := by
  obtain ⟨h1, h2, h3, h4⟩ := h
  refine ⟨h1, h2, h3, ?_⟩
  rcases h4 with h4 | ⟨g, cur, r1, r2, r3, r4⟩
  · exact .inl h4
  · exact .inr ⟨g, cur, r1, hk g r1, by rw [hb g r1]; exact r3, r4⟩

section
variable {P : Program}

/-- append of one element onto what is owned. -/
theorem run_appZ {K : Nat → Prop} (w : World) (t tx ty e : TypeId) (i : TypeInfo) (zv : Value) (ht : P.underlying t = some (.slice e)) (hi : P.info? e = some i) (hz : i.zero = some zv) (z : Nat) (hsize : i.size = z) (hzs : zv.cells.size = z) (hby : i.bytes ≤ 128)
    {ao : Option Addr} {n cap : Nat} {xs : List Value} (hown : OwnZ K w e z ao n cap xs) (x : Value) (news : List Value) (hs : Src P z tx x 1 news w)
    (hK : ∀ k, K k → k < w.heap.size) (hn : n ≤ 1000000000) :
    ∃ ao' cap' w', (Builtin.append_ #[t, tx] ty #[.slice ao n cap, x]).run P w = .ok (.slice ao' (n + 1) cap') w' ∧ OwnZ K w' e z ao' (n + 1) cap' (xs ++ news) ∧ Kept K w w' := by
  subst hsize
  have h63 : n + 1 ≤ maxLen := by unfold maxLen; omega
  have hbytes : (n + 1) * i.bytes ≤ 140737488355328 := by
    have : (n + 1) * i.bytes ≤ (1000000000 + 1) * 128 := Nat.mul_le_mul (by omega) hby
    omega
  have hnl : news.length = i.size := by simpa using hs.newsLen
  obtain ⟨h1, h2, h3, h4⟩ := hown
  have grow : cap < n + 1 → (Builtin.firstCells i.size n (.slice ao n cap)).run P w.drew = .ok xs.toArray w.drew →
      ∃ ao' cap' w', (Builtin.append_ #[t, tx] ty #[.slice ao n cap, x]).run P w = .ok (.slice ao' (n + 1) cap') w' ∧ OwnZ K w' e i.size ao' (n + 1) cap' (xs ++ news) ∧ Kept K w w' := by
    intro hg hold
    have hr := run_append_grow_src (P := P) w t tx ty e i zv ht hi hz ao n cap xs hold x 1 news hs hg (by omega) (growslice_fits hg hbytes)
    have hge := grownCap_ge w (n + 1) cap e
    have hlen : (xs ++ news).length = (n + 1) * i.size := by rw [List.length_append, h1, hnl, Nat.succ_mul]
    refine ⟨_, _, _, hr, ⟨hlen, hge, grownCap_le_maxLen w (n + 1) cap e h63, .inr ⟨w.heap.size, _, rfl, fun hk => Nat.lt_irrefl _ (hK _ hk), heap_alloc_new w.drew _, ?_, ?_⟩⟩, (Kept.refl K w).drew.alloc (by simpa using hK) _⟩
    · rw [Array.size_append, List.size_toArray, hlen, size_zeroCells, hzs, ← Nat.add_mul]
      congr 1
      omega
    · rw [Array.toList_append]
      rw [← hlen]
      exact List.take_left
  rcases h4 with ⟨rfl, rfl⟩ | ⟨g, cur, rfl, r2, r3, r4, r5⟩
  · have hn0 : n = 0 := by omega
    subst hn0
    have hx : xs = [] := List.eq_nil_of_length_eq_zero (by omega)
    subst hx
    exact grow (by omega) (run_firstCells_none w.drew i.size 0 0 0)
  · have hcells : ∀ j u, xs[j]? = some u → w.cell? ((⟨g, 0, none⟩ : Addr).add j) = some u := by
      intro j u hj
      have hjl : j < xs.length := by
        rcases Nat.lt_or_ge j xs.length with hl | hg
        · exact hl
        · rw [List.getElem?_eq_none hg] at hj; cases hj
      have : (⟨g, 0, none⟩ : Addr).add j = ⟨g, j, none⟩ := by rw [Addr.add_lit, Nat.zero_add]
      rw [this, cell_block r3, ← hj, ← r5, List.getElem?_take, if_pos (by omega), Array.getElem?_toList]
    by_cases hroom : n + 1 ≤ cap
    · have hfit : n * i.size + i.size ≤ cur.size := by
        rw [r4, ← Nat.succ_mul]
        exact Nat.mul_le_mul_right _ hroom
      have hr := run_append_room_src (P := P) w t tx ty e i ht hi g 0 n cap x 1 news hs hroom
        (fun j hj => by rw [cell_block r3]; rw [Array.getElem?_eq_getElem (by omega)]; rfl)
        (fun j hj => frozen_block r3 _)
      rw [Nat.zero_add] at hr
      obtain ⟨c', q1, q2⟩ := heap_setCells_at (b := g) (e := e) (f := (0, 0)) news (n * i.size) w cur r3 (by omega)
      have hlen : (xs ++ news).length = (n + 1) * i.size := by rw [List.length_append, h1, hnl, Nat.succ_mul]
      refine ⟨_, _, _, hr, ⟨hlen, hroom, h3, .inr ⟨g, c', rfl, r2, q1, ?_, ?_⟩⟩, ⟨?_, ?_, ?_, ?_, ?_⟩⟩
      · have := congrArg List.length q2
        rw [List.length_append, List.length_append, List.length_drop, List.length_take] at this
        simp only [Array.length_toList] at this
        omega
      · rw [q2, r5, ← hlen]
        exact List.take_left
      · exact World.os_setCells w g _ news
      · have key : ∀ (vs : List Value) (o : Nat) (v : World), (v.setCells g o vs).tape = v.tape := by
          intro vs
          induction vs with
          | nil => intro o v; rfl
          | cons a r ih => intro o v; rw [World.setCells, ih]; rfl
        exact key news _ w
      · exact World.output_setCells w g _ news
      · have key : ∀ (vs : List Value) (o : Nat) (v : World), (v.setCells g o vs).heap.size = v.heap.size := by
          intro vs
          induction vs with
          | nil => intro o v; rfl
          | cons a r ih => intro o v; rw [World.setCells, ih]; simp
        rw [key]; exact Nat.le_refl _
      · intro k hk
        exact World.heap_setCells_other w g _ news (hK k hk) (fun e => r2 (e ▸ hk))
    · exact grow (by omega) (run_firstCells_some w.drew i.size n ⟨g, 0, none⟩ n cap xs h1 hcells)

/-- An append whose run is known, at a plain region's list. -/
theorem wpList_appR {w w' : World} {ops : Array Oper} {rest : List Oper} {o : Oper} {a : Act} {Q : Exit → Act → World → Prop} (hgd : o.guard = none) (s x : Operand) (t tx : TypeId)
    (ho : o.op = .call { callee := .builtin .append, args := #[s, x], argTypes := #[t, tx] }) (vs vx v : Value) (hs : a.eval s = vs) (hx : a.eval x = vx)
    (hr : (Builtin.append_ #[t, tx] o.type #[vs, vx]).run P w = .ok v w') (h : wpList P ops Q rest (a.put o.dst v) w') : wpList P ops Q (o :: rest) a w := by
  refine wpList_plain hgd fun _ hK' => ?_
  unfold Oper.wp execOp
  simp only [ho, resolve, invoke, builtin, Sem.run_bind, Sem.run_pure, Result.andThen_ok, List.map_toArray, List.map_cons, List.map_nil, hs, hx, hr]
  exact hK' _ _ h
/-- What 'append(s, x)' lays for its one element of some cells. -/
theorem src_newZ {tx e e' : TypeId} (X : World) (N : Nat) (vs : List Value) (cur : Array Value) (hk : P.underlying tx = some (.slice e')) (h1 : ∀ u ∈ vs, u.oneCell' = true) (hN : N = X.heap.size) (hc : cur.toList = vs) :
    Src P vs.length tx (.slice (some ⟨N, 0, none⟩) 1 1) 1 vs (X.alloc (.cells cur e)) := by
  subst hN
  refine Src.ofSlice _ hk _ _ _ vs (by simp) (fun j u hj => ?_) h1
  rw [Addr.add_lit, Nat.zero_add, cell_block (heap_alloc_new X _), ← Array.getElem?_toList, hc, hj]
end
end Go.Proofs.YtncfgahnjakeiabDoor
end
section
namespace Go.Proofs.YtncfgahnjakeiabDoor

def rawL : List (List UInt8) := [[115, 99, 114, 105, 112, 116], [115, 116, 121, 108, 101], [120, 109, 112], [105, 102, 114, 97, 109, 101], [110, 111, 101, 109, 98, 101, 100], [110, 111, 102, 114, 97, 109, 101, 115]]
def softL : List (List UInt8) := [[116, 105, 116, 108, 101], [116, 101, 120, 116, 97, 114, 101, 97]]
def rawP (l : List UInt8) : Bool := rawL.any (l == ·)
def softP (l : List UInt8) : Bool := softL.any (l == ·)
/-- The words of a text, with one blank between. -/
def wordsP : List UInt8 → List UInt8 → List (List UInt8)
  | acc, [] => [acc]
  | acc, c :: r => if c = 32 then acc :: wordsP [] r else wordsP (acc ++ [c]) r
def amongP (t l : List UInt8) : Bool := (wordsP [] t).any (· == l) && l != []
def rawT : ByteArray := ⟨#[115, 99, 114, 105, 112, 116, 32, 115, 116, 121, 108, 101, 32, 120, 109, 112, 32, 105, 102, 114, 97, 109, 101, 32, 110, 111, 101, 109, 98, 101, 100, 32, 110, 111, 102, 114, 97, 109, 101, 115]⟩
def softT : ByteArray := ⟨#[116, 105, 116, 108, 101, 32, 116, 101, 120, 116, 97, 114, 101, 97]⟩

theorem among_of {t l : List UInt8} {L : List (List UInt8)} (h : wordsP [] t = L) (h0 : ∀ x ∈ L, x ≠ []) : amongP t l = L.any (l == ·) := by
  unfold amongP
  rw [h]
  have e : (L.any fun x => x == l) = L.any (l == ·) := by
    apply List.any_congr rfl
    intro x
    exact BEq.comm
  rw [e]
  by_cases hl : l = []
  · subst hl
    have : L.any ([] == ·) = false := by
      rw [List.any_eq_false]
      intro x hx
      have hx0 := h0 x hx
      cases x with
      | nil => exact absurd rfl hx0
      | cons a r => simp
    rw [this]
    rfl
  · have : (l != []) = true := by simpa using hl
    rw [this, Bool.and_true]
theorem among_raw (l : List UInt8) : amongP rawT.data.toList l = rawP l := among_of (L := rawL) (by decide +kernel) (by decide +kernel)
theorem among_soft (l : List UInt8) : amongP softT.data.toList l = softP l := among_of (L := softL) (by decide +kernel) (by decide +kernel)
def lowB (c : UInt8) : UInt8 := if 65 ≤ c.toNat ∧ c.toNat ≤ 90 then c + 32 else c
def lowL (l : List UInt8) : List UInt8 := l.map lowB
end Go.Proofs.YtncfgahnjakeiabDoor
end
section
namespace Go.Proofs.YtncfgahnjakeiabDoor







/-- U+FFFD for each byte 0. -/
def cleanB (c : UInt8) : List UInt8 := if c = 0 then [239, 191, 189] else [c]
def cleanL (l : List UInt8) : List UInt8 := l.flatMap cleanB
/-- A name as it is told. -/
def nmL (l : List UInt8) : List UInt8 := cleanL (lowL l)
def letterP (c : UInt8) : Bool := (decide (97 ≤ c.toNat) && decide (c.toNat ≤ 122)) || (decide (65 ≤ c.toNat) && decide (c.toNat ≤ 90))
def begL : List UInt8 → Bool
  | [] => false
  | c :: _ => letterP c
/-- How many bytes up to the first place whose rest is sought. -/
def upTo (p : List UInt8 → Bool) : List UInt8 → Nat
  | [] => 0
  | c :: r => if p (c :: r) = true then 0 else upTo p r + 1
def hdIn (set : List UInt8) : List UInt8 → Bool
  | [] => false
  | c :: _ => set.contains c
def hdOut (set : List UInt8) : List UInt8 → Bool
  | [] => true
  | c :: _ => !set.contains c
def pre (f l : List UInt8) : Bool := f.isPrefixOf l
/-- These bytes, of letters of any size. -/
def anyG (front l : List UInt8) : Bool := decide (front.length ≤ l.length) && (l.head? == front.head? && lowL (l.take front.length) == front)
def endsC (l : List UInt8) : Bool := pre [45, 45, 62] l || pre [45, 45, 33, 62] l
def endOfP (name l : List UInt8) : Bool := anyG (60 :: 47 :: name) l && (decide (name.length + 2 < l.length) && hdIn [9, 10, 12, 32, 47, 62] (l.drop (name.length + 2)))

structure Atr where
  name : List UInt8
  value : List UInt8
structure Tk where
  kind : Nat
  name : List UInt8
  attrs : List Atr
  self : Bool
  data : List UInt8
  pl : Nat
structure Fl where
  kind : Nat
  pl : Nat
/-- What is not read yet, its place, and what came. -/
structure TS where
  rest : List UInt8
  pl : Nat
  toks : List Tk
  flts : List Fl
  text : List UInt8
  tat : Nat

def TS.cut (st : TS) (n : Nat) : TS := { st with rest := st.rest.drop n, pl := st.pl + n }
def TS.flt (st : TS) (k a : Nat) : TS := { st with flts := st.flts ++ [⟨k, a⟩] }
def TS.endT (st : TS) : TS := if st.text = [] then st else { st with toks := st.toks ++ [⟨3, [], [], false, st.text, st.tat⟩], text := [] }
def TS.add (st : TS) (t : Tk) : TS := { st.endT with toks := st.endT.toks ++ [t] }
def TS.addT (st : TS) (part : List UInt8) (a : Nat) : TS := if part = [] then st else { st with text := st.text ++ part, tat := if st.text = [] then a else st.tat }
def TS.cutIf (st : TS) (f : List UInt8) : TS := if pre f st.rest = true then st.cut f.length else st
def TS.cutTo (st : TS) (p : List UInt8 → Bool) : TS := st.cut (upTo p st.rest)
def TS.front (st : TS) (p : List UInt8 → Bool) : List UInt8 := st.rest.take (upTo p st.rest)
def TS.cmt (st : TS) (d : List UInt8) (a : Nat) : TS := st.add ⟨4, [], [], false, cleanL d, a⟩

def TS.fltIf (st : TS) (k a : Nat) : TS := if k = 0 then st else st.flt k a
def TS.refr (st : TS) : TS :=
  ((st.fltIf (takeL st.rest false).fault st.pl).cut (if (takeL st.rest false).n = 0 then 1 else (takeL st.rest false).n)).addT (if (takeL st.rest false).n = 0 then [38] else (takeL st.rest false).text.data.toList) st.pl
def TS.note (st : TS) (a : Nat) : TS := ((((st.flt 7 a).cutTo (hdIn [62])).cmt (st.front (hdIn [62])) a)).cutIf [62]
/-- Behind what a comment has in it. -/
def TS.cmtEnd (st : TS) (a : Nat) : TS := if st.rest = [] then st.flt 6 st.pl else if pre [45, 45, 62] st.rest = true then st.cut 3 else (st.cutIf [45, 45, 33, 62]).flt 7 a
def TS.comment (st : TS) (a : Nat) : TS :=
  if pre [62] st.rest = true then ((st.cut 1).flt 7 a).cmt [] a else if pre [45, 62] st.rest = true then ((st.cut 2).flt 7 a).cmt [] a
  else ((st.cutTo endsC).cmtEnd a).cmt (st.front endsC) a
def blk : List UInt8 := [9, 10, 12, 32]
def TS.dtEnd (st : TS) : TS := if pre [62] st.rest = true then st.cut 1 else st.flt 6 st.pl
def TS.doctype (st : TS) (a : Nat) : TS :=
  ((((st.cutTo (hdOut blk)).cutTo (hdIn [9, 10, 12, 32, 62])).cutTo (hdIn [62])).dtEnd).add ⟨5, nmL ((st.cutTo (hdOut blk)).front (hdIn [9, 10, 12, 32, 62])), [], false, [], a⟩

structure Val where
  st : TS
  v : List UInt8
  ok : Bool
/-- Behind a quote. -/
def TS.quoted (st : TS) (q : UInt8) : Val := ⟨(st.cutTo (hdIn [q])).cutIf [q], st.front (hdIn [q]), pre [q] (st.cutTo (hdIn [q])).rest⟩
/-- Behind the sign =, and blanks. -/
def TS.val2 (st : TS) : Val :=
  if pre [34] st.rest = true then (st.cut 1).quoted 34 else if pre [39] st.rest = true then (st.cut 1).quoted 39
  else if pre [62] st.rest = true then ⟨st.flt 5 st.pl, [], true⟩ else ⟨st.cutTo (hdIn [9, 10, 12, 32, 62]), st.front (hdIn [9, 10, 12, 32, 62]), true⟩
def TS.value (st : TS) : Val :=
  if pre [61] (st.cutTo (hdOut blk)).rest = true then (((st.cutTo (hdOut blk)).cut 1).cutTo (hdOut blk)).val2 else ⟨st.cutTo (hdOut blk), [], true⟩
def hasN (attrs : List Atr) (name : List UInt8) : Bool := attrs.any (fun a => a.name == name)
structure Ats where
  st : TS
  attrs : List Atr
def TS.first (st : TS) : TS := if st.rest.take 1 = [61] then (st.cut 1).flt 5 st.pl else st.cut 1
def TS.aname (st : TS) : List UInt8 := nmL (st.rest.take 1 ++ st.first.front (hdIn [9, 10, 12, 32, 47, 62, 61]))
def TS.attr (st : TS) (attrs : List Atr) : Ats :=
  if (st.first.cutTo (hdIn [9, 10, 12, 32, 47, 62, 61])).value.ok = true then
    (if 50 ≤ attrs.length ∨ hasN attrs st.aname = true then ⟨(st.first.cutTo (hdIn [9, 10, 12, 32, 47, 62, 61])).value.st.flt 5 st.pl, attrs⟩
    else ⟨(st.first.cutTo (hdIn [9, 10, 12, 32, 47, 62, 61])).value.st, attrs ++ [⟨st.aname, allL true (cleanL (st.first.cutTo (hdIn [9, 10, 12, 32, 47, 62, 61])).value.v)⟩]⟩)
  else ⟨(st.first.cutTo (hdIn [9, 10, 12, 32, 47, 62, 61])).value.st, attrs⟩
def sla : List UInt8 := [9, 10, 12, 32, 47]
structure Tg where
  st : TS
  attrs : List Atr
  self : Bool
  ok : Bool
def TS.tagF : Nat → TS → List Atr → Tg
  | 0, st, attrs => ⟨st, attrs, false, false⟩
  | f + 1, st, attrs =>
    if (st.cutTo (hdOut sla)).rest = [] then ⟨(st.cutTo (hdOut sla)).flt 6 (st.cutTo (hdOut sla)).pl, attrs, false, false⟩
    else if pre [62] (st.cutTo (hdOut sla)).rest = true then ⟨(st.cutTo (hdOut sla)).cut 1, attrs, (st.front (hdOut sla)).getLast? == some 47, true⟩
    else TS.tagF f ((st.cutTo (hdOut sla)).attr attrs).st ((st.cutTo (hdOut sla)).attr attrs).attrs
def TS.inside (st : TS) (name : List UInt8) : TS :=
  if softP name = true then (st.cutTo (endOfP name)).addT (allL false (cleanL (st.front (endOfP name)))) st.pl
  else if rawP name = true then (st.cutTo (endOfP name)).addT (cleanL (st.front (endOfP name))) st.pl else st
def tgE : List UInt8 := [9, 10, 12, 32, 47, 62]
def TS.tag (st : TS) (kind a : Nat) : TS :=
  if ((st.cutTo (hdIn tgE)).tagF (st.cutTo (hdIn tgE)).rest.length.succ []).ok = true then
    (if kind = 2 then ((st.cutTo (hdIn tgE)).tagF (st.cutTo (hdIn tgE)).rest.length.succ []).st.add ⟨2, nmL (st.front (hdIn tgE)), [], false, [], a⟩
    else (((st.cutTo (hdIn tgE)).tagF (st.cutTo (hdIn tgE)).rest.length.succ []).st.add ⟨kind, nmL (st.front (hdIn tgE)), ((st.cutTo (hdIn tgE)).tagF (st.cutTo (hdIn tgE)).rest.length.succ []).attrs, ((st.cutTo (hdIn tgE)).tagF (st.cutTo (hdIn tgE)).rest.length.succ []).self, [], a⟩).inside (nmL (st.front (hdIn tgE))))
  else ((st.cutTo (hdIn tgE)).tagF (st.cutTo (hdIn tgE)).rest.length.succ []).st
def TS.ending (st : TS) (a : Nat) : TS :=
  if begL st.rest = true then st.tag 2 a else if st.rest = [] then (st.flt 6 a).addT [60, 47] a else if pre [62] st.rest = true then (st.cut 1).flt 4 a else st.note a
def dtL : List UInt8 := [33, 100, 111, 99, 116, 121, 112, 101]
/-- Behind a <. -/
def TS.opened (st : TS) (a : Nat) : TS :=
  if begL st.rest = true then st.tag 1 a else if pre [47] st.rest = true then (st.cut 1).ending a else if pre [33, 45, 45] st.rest = true then (st.cut 3).comment a
  else if anyG dtL st.rest = true then (st.cut 8).doctype a else if pre [33] st.rest = true then (st.cut 1).note a else if pre [63] st.rest = true then st.note a
  else (st.flt 4 a).addT [60] a
def TS.markup (st : TS) : TS := (st.cut 1).opened st.pl
def TS.next (st : TS) : TS :=
  match st.rest with
  | [] => st
  | c :: _ => if c = 60 then st.markup else if c = 38 then st.refr else if c = 0 then (st.flt 3 st.pl).cut 1 else (st.cutTo (hdIn [60, 38, 0])).addT (st.front (hdIn [60, 38, 0])) st.pl
def TS.runF : Nat → TS → TS
  | 0, st => st.endT
  | f + 1, st => if st.rest = [] then st.endT else TS.runF f st.next
def TS.run (st : TS) : TS := TS.runF st.rest.length st
def TS.new (s : List UInt8) : TS := ⟨s, 0, [], [], [], 0⟩
/-- All of it. -/
def tokL (s : List UInt8) : TS := (TS.new s).run
end Go.Proofs.YtncfgahnjakeiabDoor
end
