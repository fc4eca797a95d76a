/-
  Several texts, one behind the other: Sh, Known, Same, Few.
-/
import Derived.Test.YtncfgahnjakeiaaDoorRun
import Derived.Test.YtncfgahnjakeiaaDoorTkW
section
namespace Go.Proofs.YtncfgahnjakeiaaDoor

def shT (d : Nat) (t : Tk) : Tk := { t with pl := t.pl + d }
def shF (d : Nat) (f : Fl) : Fl := { f with pl := f.pl + d }
/-- The same rest, so many bytes further on, behind these tokens and faults. -/
structure Sh (T : List Tk) (F : List Fl) (d : Nat) (s s' : TS) : Prop where
  rest : s'.rest = s.rest
  pl : s'.pl = s.pl + d
  toks : s'.toks = T ++ s.toks.map (shT d)
  flts : s'.flts = F ++ s.flts.map (shF d)
  text : s'.text = s.text
  tat : s.text ≠ [] → s'.tat = s.tat + d

section
variable {T : List Tk} {F : List Fl} {d : Nat} {s s' : TS}
theorem Sh.cut (h : Sh T F d s s') (n : Nat) : Sh T F d (s.cut n) (s'.cut n) := ⟨by simp only [TS.cut, h.rest], by simp only [TS.cut, h.pl]; omega, h.toks, h.flts, h.text, h.tat⟩
theorem Sh.flt (h : Sh T F d s s') (k : Nat) {a a' : Nat} (ha : a' = a + d) : Sh T F d (s.flt k a) (s'.flt k a') := ⟨h.rest, h.pl, h.toks, by simp only [TS.flt, h.flts, List.map_append, List.append_assoc, ha]; rfl, h.text, h.tat⟩
theorem Sh.endT (h : Sh T F d s s') : Sh T F d s.endT s'.endT := by
  unfold TS.endT
  rw [h.text]
  split
  · exact h
  · rename_i ht
    exact ⟨h.rest, h.pl, by simp only [h.toks, List.map_append, List.append_assoc, h.tat ht]; rfl, h.flts, rfl, fun h => absurd rfl h⟩
theorem Sh.add (h : Sh T F d s s') (t : Tk) : Sh T F d (s.add t) (s'.add (shT d t)) := by
  have e := h.endT
  exact ⟨e.rest, e.pl, by simp only [TS.add, e.toks, List.map_append, List.append_assoc]; rfl, e.flts, e.text, e.tat⟩
theorem Sh.addT (h : Sh T F d s s') (p : List UInt8) {a a' : Nat} (ha : a' = a + d) : Sh T F d (s.addT p a) (s'.addT p a') := by
  unfold TS.addT
  split
  · exact h
  · refine ⟨h.rest, h.pl, h.toks, h.flts, by simp only [h.text], fun _ => ?_⟩
    dsimp only
    rw [h.text]
    split
    · exact ha
    · rename_i ht
      exact h.tat ht
theorem Sh.cutIf (h : Sh T F d s s') (f : List UInt8) : Sh T F d (s.cutIf f) (s'.cutIf f) := by
  unfold TS.cutIf
  rw [h.rest]
  split
  · exact h.cut _
  · exact h
theorem Sh.cutTo (h : Sh T F d s s') (p : List UInt8 → Bool) : Sh T F d (s.cutTo p) (s'.cutTo p) := by
  unfold TS.cutTo
  rw [h.rest]
  exact h.cut _
theorem Sh.front (h : Sh T F d s s') (p : List UInt8 → Bool) : s'.front p = s.front p := by
  unfold TS.front
  rw [h.rest]
theorem Sh.cmt (h : Sh T F d s s') (x : List UInt8) {a a' : Nat} (ha : a' = a + d) : Sh T F d (s.cmt x a) (s'.cmt x a') := by
  subst ha
  exact h.add ⟨4, [], [], false, cleanL x, a⟩
theorem Sh.fltIf (h : Sh T F d s s') (k : Nat) {a a' : Nat} (ha : a' = a + d) : Sh T F d (s.fltIf k a) (s'.fltIf k a') := by
  unfold TS.fltIf
  split
  · exact h
  · exact h.flt k ha
theorem Sh.refr (h : Sh T F d s s') : Sh T F d s.refr s'.refr := by
  unfold TS.refr
  rw [h.rest]
  exact ((h.fltIf _ h.pl).cut _).addT _ h.pl
theorem Sh.note (h : Sh T F d s s') {a a' : Nat} (ha : a' = a + d) : Sh T F d (s.note a) (s'.note a') := by
  unfold TS.note
  rw [h.front]
  exact (((h.flt 7 ha).cutTo _).cmt _ ha).cutIf _
theorem Sh.cmtEnd (h : Sh T F d s s') {a a' : Nat} (ha : a' = a + d) : Sh T F d (s.cmtEnd a) (s'.cmtEnd a') := by
  unfold TS.cmtEnd
  rw [h.rest]
  split
  · exact h.flt 6 h.pl
  · split
    · exact h.cut _
    · exact (h.cutIf _).flt 7 ha
theorem Sh.comment (h : Sh T F d s s') {a a' : Nat} (ha : a' = a + d) : Sh T F d (s.comment a) (s'.comment a') := by
  unfold TS.comment
  rw [h.rest, h.front]
  split
  · exact ((h.cut _).flt 7 ha).cmt _ ha
  · split
    · exact ((h.cut _).flt 7 ha).cmt _ ha
    · exact ((h.cutTo _).cmtEnd ha).cmt _ ha
theorem Sh.dtEnd (h : Sh T F d s s') : Sh T F d s.dtEnd s'.dtEnd := by
  unfold TS.dtEnd
  rw [h.rest]
  split
  · exact h.cut _
  · exact h.flt 6 h.pl
theorem Sh.doctype (h : Sh T F d s s') {a a' : Nat} (ha : a' = a + d) : Sh T F d (s.doctype a) (s'.doctype a') := by
  unfold TS.doctype
  rw [(h.cutTo _).front]
  subst ha
  exact ((((h.cutTo _).cutTo _).cutTo _).dtEnd).add ⟨5, _, [], false, [], a⟩
theorem Sh.val2 (h : Sh T F d s s') : Sh T F d s.val2.st s'.val2.st ∧ s'.val2.v = s.val2.v ∧ s'.val2.ok = s.val2.ok := by
  unfold TS.val2
  rw [h.rest]
  split
  · have hc := h.cut 1
    unfold TS.quoted
    dsimp only
    exact ⟨(hc.cutTo _).cutIf _, hc.front _, by rw [(hc.cutTo _).rest]⟩
  · split
    · have hc := h.cut 1
      unfold TS.quoted
      dsimp only
      exact ⟨(hc.cutTo _).cutIf _, hc.front _, by rw [(hc.cutTo _).rest]⟩
    · split
      · exact ⟨h.flt 5 h.pl, rfl, rfl⟩
      · exact ⟨h.cutTo _, h.front _, rfl⟩
theorem Sh.value (h : Sh T F d s s') : Sh T F d s.value.st s'.value.st ∧ s'.value.v = s.value.v ∧ s'.value.ok = s.value.ok := by
  unfold TS.value
  rw [(h.cutTo _).rest]
  split
  · exact (((h.cutTo _).cut 1).cutTo _).val2
  · exact ⟨h.cutTo _, rfl, rfl⟩
theorem Sh.first (h : Sh T F d s s') : Sh T F d s.first s'.first := by
  unfold TS.first
  rw [h.rest]
  split
  · exact (h.cut 1).flt 5 h.pl
  · exact h.cut 1
theorem Sh.aname (h : Sh T F d s s') : s'.aname = s.aname := by
  unfold TS.aname
  rw [h.rest, h.first.front]
theorem Sh.attr (h : Sh T F d s s') (l : List Atr) : Sh T F d (s.attr l).st (s'.attr l).st ∧ (s'.attr l).attrs = (s.attr l).attrs := by
  obtain ⟨h1, h2, h3⟩ := (h.first.cutTo (hdIn atE)).value
  unfold TS.attr
  rw [h3, h2, h.aname]
  split
  · split
    · exact ⟨h1.flt 5 h.pl, rfl⟩
    · exact ⟨h1, rfl⟩
  · exact ⟨h1, rfl⟩
end
theorem Sh.tagF {T : List Tk} {F : List Fl} {d : Nat} : ∀ (f : Nat) {s s' : TS} (l : List Atr), Sh T F d s s' → Sh T F d (TS.tagF f s l).st (TS.tagF f s' l).st ∧ (TS.tagF f s' l).attrs = (TS.tagF f s l).attrs ∧ (TS.tagF f s' l).self = (TS.tagF f s l).self ∧ (TS.tagF f s' l).ok = (TS.tagF f s l).ok
  | 0, _, _, _, h => ⟨h, rfl, rfl, rfl⟩
  | f + 1, s, s', l, h => by
    rw [tagF_succ, tagF_succ, (h.cutTo _).rest, h.front]
    split
    · exact ⟨(h.cutTo _).flt 6 (h.cutTo _).pl, rfl, rfl, rfl⟩
    · split
      · exact ⟨(h.cutTo _).cut 1, rfl, rfl, rfl⟩
      · obtain ⟨h1, h2⟩ := (h.cutTo (hdOut sla)).attr l
        rw [h2]
        exact Sh.tagF f _ h1
section
variable {T : List Tk} {F : List Fl} {d : Nat} {s s' : TS}
theorem Sh.inside (h : Sh T F d s s') (name : List UInt8) : Sh T F d (s.inside name) (s'.inside name) := by
  unfold TS.inside
  rw [h.front]
  split
  · exact (h.cutTo _).addT _ h.pl
  · split
    · exact (h.cutTo _).addT _ h.pl
    · exact h
theorem Sh.tag (h : Sh T F d s s') (k : Nat) {a a' : Nat} (ha : a' = a + d) : Sh T F d (s.tag k a) (s'.tag k a') := by
  have e := (h.cutTo (hdIn tgE)).rest
  obtain ⟨h1, h2, h3, h4⟩ := Sh.tagF (s.cutTo (hdIn tgE)).rest.length.succ [] (h.cutTo (hdIn tgE))
  unfold TS.tag
  rw [e, h4, h3, h2, h.front]
  subst ha
  split
  · split
    · exact h1.add ⟨2, _, [], false, [], a⟩
    · exact (h1.add ⟨k, _, _, _, [], a⟩).inside _
  · exact h1
theorem Sh.ending (h : Sh T F d s s') {a a' : Nat} (ha : a' = a + d) : Sh T F d (s.ending a) (s'.ending a') := by
  unfold TS.ending
  rw [h.rest]
  split
  · exact h.tag 2 ha
  · split
    · exact (h.flt 6 ha).addT _ ha
    · split
      · exact (h.cut 1).flt 4 ha
      · exact h.note ha
theorem Sh.opened (h : Sh T F d s s') {a a' : Nat} (ha : a' = a + d) : Sh T F d (s.opened a) (s'.opened a') := by
  unfold TS.opened
  rw [h.rest]
  split
  · exact h.tag 1 ha
  · split
    · exact (h.cut 1).ending ha
    · split
      · exact (h.cut 3).comment ha
      · split
        · exact (h.cut 8).doctype ha
        · split
          · exact (h.cut 1).note ha
          · split
            · exact h.note ha
            · exact (h.flt 4 ha).addT _ ha
theorem Sh.next (h : Sh T F d s s') : Sh T F d s.next s'.next := by
  unfold TS.next
  rw [h.rest]
  split
  · exact h
  · split
    · exact (h.cut 1).opened h.pl
    · split
      · exact h.refr
      · split
        · exact (h.flt 3 h.pl).cut 1
        · rw [h.front]
          exact (h.cutTo _).addT _ h.pl
end
theorem Sh.runF {T : List Tk} {F : List Fl} {d : Nat} : ∀ (f : Nat) {s s' : TS}, Sh T F d s s' → Sh T F d (TS.runF f s) (TS.runF f s')
  | 0, _, _, h => h.endT
  | f + 1, s, s', h => by
    rw [TS.runF, TS.runF, h.rest]
    split
    · exact h.endT
    · exact Sh.runF f h.next
theorem Sh.run {T : List Tk} {F : List Fl} {d : Nat} {s s' : TS} (h : Sh T F d s s') : Sh T F d s.run s'.run := by
  unfold TS.run
  rw [h.rest]
  exact Sh.runF _ h

/-- Behind a whole comment. -/
theorem tok_behind (l : List UInt8) : (tokL (60 :: 33 :: 45 :: 45 :: 99 :: 45 :: 45 :: 62 :: l)).toks = ⟨4, [], [], false, [99], 0⟩ :: (tokL l).toks.map (shT 8) ∧ (tokL (60 :: 33 :: 45 :: 45 :: 99 :: 45 :: 45 :: 62 :: l)).flts = (tokL l).flts.map (shF 8) := by
  have e : (TS.new (60 :: 33 :: 45 :: 45 :: 99 :: 45 :: 45 :: 62 :: l)).markup = ⟨l, 8, [⟨4, [], [], false, [99], 0⟩], [], [], 0⟩ := rfl
  have h : Sh [⟨4, [], [], false, [99], 0⟩] [] 8 (TS.new l) ⟨l, 8, [⟨4, [], [], false, [99], 0⟩], [], [], 0⟩ := ⟨rfl, rfl, rfl, rfl, rfl, fun h => absurd rfl h⟩
  have hr := h.run
  unfold tokL
  rw [run_lt (s := TS.new (60 :: 33 :: 45 :: 45 :: 99 :: 45 :: 45 :: 62 :: l)) rfl, e]
  exact ⟨hr.toks, hr.flts⟩
end Go.Proofs.YtncfgahnjakeiaaDoor
end
section
namespace Go.Proofs.YtncfgahnjakeiaaDoor
open Go.RowKit

/-- What Tokens answers, of a text whose tokens are known. -/
theorem tokens_of {s : List UInt8} {T : List Tk} {F : List Fl} (hT0 : (tokL s).toks = T) (hF0 : (tokL s).flts = F) (hs : s.length < 100000) (K : Nat → Prop) (w : World) (hK : ∀ k, K k → k < w.heap.size) (hT : Tab w) (h0 : K 0) (h1 : K 1) :
    Calls Tryd.prog 10 #[sv s] w fun e w' => ∃ ta tc fa fc, e = .returned (.tuple #[.slice ta T.length tc, .slice fa F.length fc]) ∧ ToksIn (fun k => k < w'.heap.size) w' ta T ∧ FltsIn (fun k => k < w'.heap.size) w' fa F ∧ Kept K w w' := by
  have := tokens_any s hs K w hK hT h0 h1
  rw [hT0, hF0] at this
  exact this

def exL : List UInt8 := [60, 80, 32, 97, 61, 49, 32, 97, 61, 50, 62, 120, 38, 108, 116, 59, 60, 47, 112, 62]
theorem kn : tokL exL = ⟨[], 20, [⟨1, [112], [⟨[97], [49]⟩], false, [], 0⟩, ⟨3, [], [], false, [120, 60], 11⟩, ⟨2, [112], [], false, [], 16⟩], [⟨5, 7⟩], [], 11⟩ := by kernel_rfl

set_option maxRecDepth 20000 in
set_option maxHeartbeats 4000000 in
theorem known_any (K : Nat → Prop) (w : World) (hK : ∀ k, K k → k < w.heap.size) (hT : Tab w) (h0 : K 0) (h1 : K 1) :
    Calls Tryd.prog 9 #[] w fun e w' => e = .returned (.bool true) ∧ Kept K w w' := by
  have r := tokens_of (congrArg TS.toks kn) (congrArg TS.flts kn) (by decide) K w hK hT h0 h1
  clear hT
  go_enter Tryd.func9, Tryd.ntmps9
  go_wp2_with fail
  refine r.mono ?_
  rintro e w1 ⟨ta, tc, fa, fc, rfl, ht, hf, k1⟩
  obtain ⟨g, aa, ac, rfl, _, ha, c0, c1, c2, c3, c4, c5⟩ := ht 0 (by decide)
  obtain ⟨g', aa1, ac1, e1, _, _, _, _, _, _, d4, _⟩ := ht 1 (by decide)
  obtain ⟨g'', aa2, ac2, e2, _, _, b0, _⟩ := ht 2 (by decide)
  injection e1 with e1
  injection e1 with e1
  injection e2 with e2
  injection e2 with e2
  subst e1
  subst e2
  obtain ⟨ga, rfl, _, a0, a1⟩ := ha 0 (by decide)
  obtain ⟨gf, rfl, _, f0, f1⟩ := hf 0 (by decide)
  dsimp only [List.getElem_cons_zero, List.getElem_cons_succ, List.length_cons, List.length_nil] at c0 c1 c2 c3 c4 c5 d4 b0 a0 a1 f0 f1
  simp only [Nat.zero_mul, Nat.zero_add, Nat.one_mul, Nat.reduceMul, Nat.reduceAdd] at c0 c1 c2 c3 c4 c5 d4 b0 a0 a1 f0 f1
  clear ht hf ha r
  go_wp2
  go_ret
  exact ⟨rfl, k1⟩
end Go.Proofs.YtncfgahnjakeiaaDoor
end
section
namespace Go.Proofs.YtncfgahnjakeiaaDoor
open Go.RowKit

/-- Tokens lie at a slice, from some cell on. -/
def ToksAt (w : World) (ta : Option Addr) (l : List Tk) : Prop :=
  ∀ j (h : j < l.length), ∃ g o aa ac, ta = some ⟨g, o, none⟩ ∧ g < w.heap.size ∧ AtsIn (fun k => k < w.heap.size) w aa l[j].attrs ∧ w.cell? ⟨g, o + j * 6, none⟩ = some (.int .u8 (l[j].kind : Int)) ∧ w.cell? ⟨g, o + j * 6 + 1, none⟩ = some (sv l[j].name) ∧ w.cell? ⟨g, o + j * 6 + 2, none⟩ = some (.slice aa l[j].attrs.length ac) ∧
    w.cell? ⟨g, o + j * 6 + 3, none⟩ = some (.bool l[j].self) ∧ w.cell? ⟨g, o + j * 6 + 4, none⟩ = some (sv l[j].data) ∧ w.cell? ⟨g, o + j * 6 + 5, none⟩ = some (.int .i64 (l[j].pl : Int))
theorem ToksIn.at_ {w : World} {ta : Option Addr} {l : List Tk} (h : ToksIn (fun k => k < w.heap.size) w ta l) : ToksAt w ta l := fun j hj => by
  obtain ⟨g, aa, ac, h1, h2, h3, c⟩ := h j hj
  refine ⟨g, 0, aa, ac, h1, h2, h3, ?_⟩
  rw [Nat.zero_add]
  exact c
theorem ToksAt.kept {w w' : World} {ta : Option Addr} {l : List Tk} (h : ToksAt w ta l) (hk : Kept (fun k => k < w.heap.size) w w') : ToksAt w' ta l := fun j hj => by
  obtain ⟨g, o, aa, ac, h1, h2, h3, c0, c1, c2, c3, c4, c5⟩ := h j hj
  have e : ∀ i, w'.cell? ⟨g, i, none⟩ = w.cell? ⟨g, i, none⟩ := fun i => hk.cell (p := ⟨g, i, none⟩) h2
  exact ⟨g, o, aa, ac, h1, Nat.lt_of_lt_of_le h2 hk.size, h3.kept hk (fun k hk' => Nat.lt_of_lt_of_le hk' hk.size), by rw [e]; exact c0, by rw [e]; exact c1, by rw [e]; exact c2, by rw [e]; exact c3, by rw [e]; exact c4, by rw [e]; exact c5⟩

set_option maxRecDepth 20000 in
set_option maxHeartbeats 1000000 in
theorem sameA_any (l : List Atr) (aa ab : Option Addr) (ca cb : Nat) (hn : l.length ≤ 100000) (w : World) (ha : AtsIn (fun k => k < w.heap.size) w aa l) (hb : AtsIn (fun k => k < w.heap.size) w ab l) :
    Calls Tryd.prog 18 #[.slice aa l.length ca, .slice ab l.length cb] w fun e w' => e = .returned (.bool true) ∧ ∃ m, w' = w.drewN m := by
  have HA : Hid (AtsIn (fun k => k < w.heap.size) w aa l) := ha
  have HB : Hid (AtsIn (fun k => k < w.heap.size) w ab l) := hb
  obtain ⟨n, hne⟩ : ∃ n, l.length = n := ⟨_, rfl⟩
  have HN : Hid (l.length = n) := hne
  rw [hne] at hn ⊢
  clear ha hb hne
  go_enter Tryd.func18, Tryd.ntmps18
  go_wp2_with fail
  go_loopg [5] n (fun gm i wr => ∃ k m : Nat, gm = n - k ∧ k ≤ n ∧ i = .int .i64 k ∧ wr = w.drewN m)
  case atStart => exact ⟨0, 0, rfl, Nat.zero_le _, rfl, rfl⟩
  case round =>
    obtain ⟨k, m, hgk, hk, rfl, rfl⟩ := hrel
    by_cases hlt : k < n
    · obtain ⟨g, rfl, _, c0, c1⟩ := HA.out k (by rw [HN.out]; exact hlt)
      obtain ⟨g', rfl, _, d0, d1⟩ := HB.out k (by rw [HN.out]; exact hlt)
      clear HA HB
      obtain ⟨U, hU⟩ : ∃ S : ByteArray, (⟨(l[k]'(by rw [HN.out]; exact hlt)).name.toArray⟩ : ByteArray) = S := ⟨_, rfl⟩
      obtain ⟨V, hV⟩ : ∃ S : ByteArray, (⟨(l[k]'(by rw [HN.out]; exact hlt)).value.toArray⟩ : ByteArray) = S := ⟨_, rfl⟩
      replace c0 : w.cell? ⟨g, k * 2, none⟩ = some (.string U) := by rw [← hU]; exact c0
      replace c1 : w.cell? ⟨g, k * 2 + 1, none⟩ = some (.string V) := by rw [← hV]; exact c1
      replace d0 : w.cell? ⟨g', k * 2, none⟩ = some (.string U) := by rw [← hU]; exact d0
      replace d1 : w.cell? ⟨g', k * 2 + 1, none⟩ = some (.string V) := by rw [← hV]; exact d1
      clear hU hV HN
      go_wp2_with fail
      go_quiet (fail)
      go_wp2
      go_roundg (n - (k + 1))
      case rel => exact ⟨k + 1, _, rfl, by omega, by go_num, rfl⟩
      case measure => omega
    · have hkk : k = n := by omega
      subst hkk
      go_wp2
      go_ret
      exact ⟨rfl, m, rfl⟩

set_option maxRecDepth 20000 in
set_option maxHeartbeats 1000000 in
theorem sameF_any (l : List Fl) (aa ab : Option Addr) (ca cb : Nat) (hn : l.length ≤ 1000000) (w : World) (ha : FltsIn (fun k => k < w.heap.size) w aa l) (hb : FltsIn (fun k => k < w.heap.size) w ab l) :
    Calls Tryd.prog 14 #[.slice aa l.length ca, .slice ab l.length cb] w fun e w' => e = .returned (.bool true) ∧ ∃ m, w' = w.drewN m := by
  have HA : Hid (FltsIn (fun k => k < w.heap.size) w aa l) := ha
  have HB : Hid (FltsIn (fun k => k < w.heap.size) w ab l) := hb
  obtain ⟨n, hne⟩ : ∃ n, l.length = n := ⟨_, rfl⟩
  have HN : Hid (l.length = n) := hne
  rw [hne] at hn ⊢
  clear ha hb hne
  go_enter Tryd.func14, Tryd.ntmps14
  go_wp2_with fail
  go_loopg [5] n (fun gm i wr => ∃ k m : Nat, gm = n - k ∧ k ≤ n ∧ i = .int .i64 k ∧ wr = w.drewN m)
  case atStart => exact ⟨0, 0, rfl, Nat.zero_le _, rfl, rfl⟩
  case round =>
    obtain ⟨k, m, hgk, hk, rfl, rfl⟩ := hrel
    by_cases hlt : k < n
    · obtain ⟨g, rfl, _, c0, c1⟩ := HA.out k (by rw [HN.out]; exact hlt)
      obtain ⟨g', rfl, _, d0, d1⟩ := HB.out k (by rw [HN.out]; exact hlt)
      clear HA HB
      obtain ⟨u, hu⟩ : ∃ u, (l[k]'(by rw [HN.out]; exact hlt)).kind = u := ⟨_, rfl⟩
      obtain ⟨v, hv⟩ : ∃ u, (l[k]'(by rw [HN.out]; exact hlt)).pl = u := ⟨_, rfl⟩
      rw [hu] at c0 d0
      rw [hv] at c1 d1
      replace c0 : w.cell? ⟨g, k * 2, none⟩ = some (.int .u8 (u : Int)) := c0
      replace c1 : w.cell? ⟨g, k * 2 + 1, none⟩ = some (.int .i64 (v : Int)) := c1
      replace d0 : w.cell? ⟨g', k * 2, none⟩ = some (.int .u8 (u : Int)) := d0
      replace d1 : w.cell? ⟨g', k * 2 + 1, none⟩ = some (.int .i64 (v : Int)) := d1
      clear hu hv HN
      go_wp2_with fail
      go_quiet (fail)
      go_wp2
      go_roundg (n - (k + 1))
      case rel => exact ⟨k + 1, _, rfl, by omega, by go_num, rfl⟩
      case measure => omega
    · have hkk : k = n := by omega
      subst hkk
      go_wp2
      go_ret
      exact ⟨rfl, m, rfl⟩

set_option maxRecDepth 20000 in
set_option maxHeartbeats 1000000 in
theorem same_any (l : List Tk) (ta tb : Option Addr) (ca cb : Nat) (hn : l.length ≤ 1000000) (hat : ∀ t ∈ l, t.attrs.length ≤ 100000) (K : Nat → Prop) (w : World) (hK : ∀ k, K k → k < w.heap.size) (ha : ToksAt w ta l) (hb : ToksAt w tb l) :
    Calls Tryd.prog 11 #[.slice ta l.length ca, .slice tb l.length cb] w fun e w' => e = .returned (.bool true) ∧ Kept K w w' := by
  have HA : Hid (∀ X, Kept (fun k => k < w.heap.size) w X → ToksAt X ta l) := fun X hX => ha.kept hX
  have HB : Hid (∀ X, Kept (fun k => k < w.heap.size) w X → ToksAt X tb l) := fun X hX => hb.kept hX
  have HKK : Hid (∀ X, Kept (fun k => k < w.heap.size) w X → Kept K w X) := fun X hX => hX.mono hK
  obtain ⟨B, hB⟩ : ∃ B : Nat → Prop, (fun k => k < w.heap.size) = B := ⟨_, rfl⟩
  have hBl : ∀ k, B k → k < w.heap.size := fun k hk => by rw [← hB] at hk; exact hk
  rw [hB] at HA HB HKK
  obtain ⟨n, hne⟩ : ∃ n, l.length = n := ⟨_, rfl⟩
  have HN : Hid (l.length = n) := hne
  have HAT : Hid (∀ t ∈ l, t.attrs.length ≤ 100000) := hat
  rw [hne] at hn ⊢
  clear ha hb hne hat hB
  go_enter Tryd.func11, Tryd.ntmps11
  go_wp2_with fail
  go_loopg [5] n (fun gm i wr => ∃ k : Nat, gm = n - k ∧ k ≤ n ∧ i = .int .i64 k ∧ Kept B w wr)
  case atStart => exact ⟨0, rfl, Nat.zero_le _, rfl, Kept.refl _ _⟩
  case round =>
    obtain ⟨k, hgk, hk, rfl, kp⟩ := hrel
    by_cases hlt : k < n
    · have hlt' : k < l.length := by rw [HN.out]; exact hlt
      obtain ⟨g, o, aa, ac, rfl, gl, ha, c0, c1, c2, c3, c4, c5⟩ := HA.out wr kp k hlt'
      obtain ⟨g', o', ab, ac', rfl, gl', hb, d0, d1, d2, d3, d4, d5⟩ := HB.out wr kp k hlt'
      have hal := HAT.out l[k] (List.getElem_mem hlt')
      obtain ⟨tk, htk⟩ : ∃ t, l[k] = t := ⟨_, rfl⟩
      rw [htk] at ha hb hal c0 c1 c2 c3 c4 c5 d0 d1 d2 d3 d4 d5
      clear HA HB HAT HN htk hlt'
      obtain ⟨kind, name, attrs, self, data, pl⟩ := tk
      dsimp only at ha hb hal c0 c1 c2 c3 c4 c5 d0 d1 d2 d3 d4 d5
      obtain ⟨U, hU⟩ : ∃ S : ByteArray, (⟨name.toArray⟩ : ByteArray) = S := ⟨_, rfl⟩
      obtain ⟨V, hV⟩ : ∃ S : ByteArray, (⟨data.toArray⟩ : ByteArray) = S := ⟨_, rfl⟩
      replace c1 : wr.cell? ⟨g, o + k * 6 + 1, none⟩ = some (.string U) := by rw [← hU]; exact c1
      replace d1 : wr.cell? ⟨g', o' + k * 6 + 1, none⟩ = some (.string U) := by rw [← hU]; exact d1
      replace c4 : wr.cell? ⟨g, o + k * 6 + 4, none⟩ = some (.string V) := by rw [← hV]; exact c4
      replace d4 : wr.cell? ⟨g', o' + k * 6 + 4, none⟩ = some (.string V) := by rw [← hV]; exact d4
      clear hU hV
      have e0 : ∀ oo i, (wr.alloc oo).cell? ⟨g', i, none⟩ = wr.cell? ⟨g', i, none⟩ := fun oo i => World.cell?_of_block (w := wr) (Below.heap_alloc _ _ _ gl')
      have x0 := fun oo => (e0 oo (o' + k * 6)).trans d0
      have x1 := fun oo => (e0 oo (o' + k * 6 + 1)).trans d1
      have x2 := fun oo => (e0 oo (o' + k * 6 + 2)).trans d2
      have x3 := fun oo => (e0 oo (o' + k * 6 + 3)).trans d3
      have x4 := fun oo => (e0 oo (o' + k * 6 + 4)).trans d4
      have x5 := fun oo => (e0 oo (o' + k * 6 + 5)).trans d5
      have HS : Hid (∀ X, Kept (fun k => k < wr.heap.size) wr X → Calls Tryd.prog 18 #[.slice aa attrs.length ac, .slice ab attrs.length ac'] X fun e w' => e = .returned (.bool true) ∧ ∃ m, w' = X.drewN m) := fun X hX =>
        sameA_any attrs aa ab ac ac' hal X (ha.kept hX fun k hk => Nat.lt_of_lt_of_le hk hX.size) (hb.kept hX fun k hk => Nat.lt_of_lt_of_le hk hX.size)
      have hka : ∀ p q, Kept (fun k => k < wr.heap.size) wr ((wr.alloc p).alloc q) := fun p q => ((Kept.refl _ wr).alloc (fun _ h => h) p).alloc (fun k hk => by have : k < wr.heap.size := hk; simp; omega) q
      have hkb : ∀ p q, Kept B w ((wr.alloc p).alloc q) := fun p q => kp.trans ((hka p q).mono fun k hk => Nat.lt_of_lt_of_le (hBl k hk) kp.size)
      have hs := fun p q => HS.out _ (hka p q)
      clear HS ha hb hka e0 gl gl' d0 d1 d2 d3 d4 d5
      go_wp2_with fail
      refine (hs _ _).mono ?_
      rintro e w2 ⟨rfl, m, rfl⟩
      go_wp2
      go_roundg (n - (k + 1))
      case rel => exact ⟨k + 1, rfl, by omega, by go_num, (hkb _ _).drewN m⟩
      case measure => omega
    · have hkk : k = n := by omega
      subst hkk
      have hf := HKK.out wr kp
      go_wp2
      go_ret
      exact ⟨rfl, hf⟩
end Go.Proofs.YtncfgahnjakeiaaDoor
end
section
namespace Go.Proofs.YtncfgahnjakeiaaDoor

theorem Fit.runF {b : Nat} : ∀ (f : Nat) {s : TS}, Fit b s → Fit b (TS.runF f s)
  | 0, _, h => h.endT
  | f + 1, s, h => by
    rw [TS.runF]
    split
    · exact h.endT
    · rename_i hne
      exact Fit.runF f (h.next hne)
theorem tok_few {l : List UInt8} (hl : l.length < 100000) : (tokL l).toks.length + (tokL l).flts.length ≤ 1600000 := by
  have f0 : Fit (16 * l.length) (TS.new l) := ⟨by show 0 + l.length < 1000000; omega, by show 0 + 0 + 0 + 16 * l.length ≤ _; omega⟩
  have := (Fit.runF (TS.new l).rest.length f0).room
  unfold pot at this
  show (TS.runF _ _).toks.length + (TS.runF _ _).flts.length ≤ _
  omega

/-- No token has too many attributes. -/
def AllA (s : TS) : Prop := ∀ t ∈ s.toks, t.attrs.length ≤ 50
theorem AllA.of {s s' : TS} (h : AllA s) (e : s'.toks = s.toks) : AllA s' := fun t ht => h t (e ▸ ht)
theorem AllA.endT {s : TS} (h : AllA s) : AllA s.endT := by
  unfold TS.endT
  split
  · exact h
  · intro t ht
    rcases List.mem_append.1 ht with ht | ht
    · exact h t ht
    · rw [List.mem_singleton.1 ht]
      exact Nat.zero_le _
theorem AllA.add {s : TS} (h : AllA s) {t : Tk} (ht : t.attrs.length ≤ 50) : AllA (s.add t) := by
  intro u hu
  rcases List.mem_append.1 hu with hu | hu
  · exact h.endT u hu
  · rw [List.mem_singleton.1 hu]
    exact ht
theorem tk_addT (s : TS) (p : List UInt8) (a : Nat) : (s.addT p a).toks = s.toks := by unfold TS.addT; split <;> rfl
theorem tk_cutIf (s : TS) (f : List UInt8) : (s.cutIf f).toks = s.toks := by unfold TS.cutIf; split <;> rfl
theorem tk_fltIf (s : TS) (k a : Nat) : (s.fltIf k a).toks = s.toks := by unfold TS.fltIf; split <;> rfl
theorem tk_cmtEnd (s : TS) (a : Nat) : (s.cmtEnd a).toks = s.toks := by
  unfold TS.cmtEnd
  split
  · rfl
  · split
    · rfl
    · exact tk_cutIf _ _
theorem tk_dtEnd (s : TS) : s.dtEnd.toks = s.toks := by unfold TS.dtEnd; split <;> rfl
theorem tk_val2 (s : TS) : s.val2.st.toks = s.toks := by
  unfold TS.val2
  split
  · exact tk_cutIf _ _
  · split
    · exact tk_cutIf _ _
    · split <;> rfl
theorem tk_value (s : TS) : s.value.st.toks = s.toks := by
  unfold TS.value
  split
  · exact tk_val2 _
  · rfl
theorem tk_first (s : TS) : s.first.toks = s.toks := by unfold TS.first; split <;> rfl
theorem tk_attr (s : TS) (l : List Atr) : (s.attr l).st.toks = s.toks := by
  have e : (s.first.cutTo (hdIn atE)).value.st.toks = s.toks := (tk_value _).trans (tk_first s)
  unfold TS.attr
  split
  · split
    · exact e
    · exact e
  · exact e
theorem tk_tagF : ∀ (f : Nat) (s : TS) (l : List Atr), (TS.tagF f s l).st.toks = s.toks
  | 0, _, _ => rfl
  | f + 1, s, l => by
    rw [tagF_succ]
    split
    · rfl
    · split
      · rfl
      · exact (tk_tagF f _ _).trans (tk_attr _ _)
theorem at_tagF : ∀ (f : Nat) (s : TS) (l : List Atr), l.length ≤ 50 → (TS.tagF f s l).attrs.length ≤ 50
  | 0, _, _, h => h
  | f + 1, s, l, h => by
    rw [tagF_succ]
    split
    · exact h
    · split
      · exact h
      · exact at_tagF f _ _ (attr_few h)
theorem tk_inside (s : TS) (name : List UInt8) : (s.inside name).toks = s.toks := by
  unfold TS.inside
  split
  · exact tk_addT _ _ _
  · split
    · exact tk_addT _ _ _
    · rfl
theorem AllA.cmt {s : TS} (h : AllA s) (d : List UInt8) (a : Nat) : AllA (s.cmt d a) := h.add (Nat.zero_le _)
theorem AllA.note {s : TS} (h : AllA s) (a : Nat) : AllA (s.note a) := by
  have h1 : AllA (((s.flt 7 a).cutTo (hdIn [62])).cmt (s.front (hdIn [62])) a) := AllA.cmt (AllA.of (s' := (s.flt 7 a).cutTo (hdIn [62])) h rfl) _ _
  exact AllA.of h1 (tk_cutIf _ _)
theorem AllA.tag {s : TS} (h : AllA s) (k a : Nat) : AllA (s.tag k a) := by
  have h1 : AllA ((s.cutTo (hdIn tgE)).tagF (s.cutTo (hdIn tgE)).rest.length.succ []).st := AllA.of h (tk_tagF _ _ _)
  unfold TS.tag
  split
  · split
    · exact h1.add (Nat.zero_le _)
    · exact AllA.of (h1.add (at_tagF _ _ _ (Nat.zero_le _))) (tk_inside _ _)
  · exact h1
theorem AllA.ending {s : TS} (h : AllA s) (a : Nat) : AllA (s.ending a) := by
  unfold TS.ending
  split
  · exact h.tag _ _
  · split
    · exact AllA.of (s := s.flt 6 a) (AllA.of h rfl) (tk_addT _ _ _)
    · split
      · exact AllA.of h rfl
      · exact h.note a
theorem AllA.opened {s : TS} (h : AllA s) (a : Nat) : AllA (s.opened a) := by
  unfold TS.opened
  split
  · exact h.tag _ _
  · split
    · exact AllA.ending (AllA.of (s' := s.cut 1) h rfl) a
    · split
      · unfold TS.comment
        split
        · exact AllA.cmt (AllA.of (s' := ((s.cut 3).cut 1).flt 7 a) h rfl) _ _
        · split
          · exact AllA.cmt (AllA.of (s' := ((s.cut 3).cut 2).flt 7 a) h rfl) _ _
          · exact AllA.cmt (AllA.of (s := (s.cut 3).cutTo endsC) (AllA.of h rfl) (tk_cmtEnd _ _)) _ _
      · split
        · unfold TS.doctype
          exact AllA.add (s := ((((s.cut 8).cutTo (hdOut blk)).cutTo (hdIn [9, 10, 12, 32, 62])).cutTo (hdIn [62])).dtEnd) (AllA.of h (tk_dtEnd _)) (t := ⟨5, _, [], false, [], a⟩) (Nat.zero_le _)
        · split
          · exact AllA.note (AllA.of (s' := s.cut 1) h rfl) a
          · split
            · exact h.note a
            · exact AllA.of (s := s.flt 4 a) (AllA.of h rfl) (tk_addT _ _ _)
theorem AllA.next {s : TS} (h : AllA s) : AllA s.next := by
  unfold TS.next
  split
  · exact h
  · split
    · exact AllA.opened (AllA.of (s' := s.cut 1) h rfl) _
    · split
      · unfold TS.refr
        refine AllA.of h ((tk_addT _ _ _).trans ?_)
        exact tk_fltIf _ _ _
      · split
        · exact AllA.of h rfl
        · exact AllA.of h (tk_addT _ _ _)
theorem AllA.runF : ∀ (f : Nat) {s : TS}, AllA s → AllA (TS.runF f s)
  | 0, _, h => h.endT
  | f + 1, s, h => by
    rw [TS.runF]
    split
    · exact h.endT
    · exact AllA.runF f h.next
theorem tok_attrs (l : List UInt8) : ∀ t ∈ (tokL l).toks, t.attrs.length ≤ 50 := AllA.runF _ (s := TS.new l) (fun _ h => by cases h)
end Go.Proofs.YtncfgahnjakeiaaDoor
end
