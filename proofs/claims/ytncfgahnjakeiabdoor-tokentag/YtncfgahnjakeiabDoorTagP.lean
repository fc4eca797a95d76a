/-
  What the reader of tokens makes of a tag whose attributes are written as they should be.
-/
import Derived.Test.YtncfgahnjakeiabDoorPts
import Derived.Test.YtncfgahnjakeiabDoorLet
import Derived.Test.YtncfgahnjakeiabDoorFew
namespace Go.Proofs.YtncfgahnjakeiabDoor

theorem quoted_of {s : TS} {t z : List UInt8} {q : UInt8} (h : s.rest = t ++ q :: z) (ht : ∀ c ∈ t, ([q] : List UInt8).contains c = false) : s.quoted q = ⟨s.cut (t.length + 1), t, true⟩ := by
  have hu : upTo (hdIn [q]) s.rest = t.length := by
    rw [h, upTo_in t _ ht, upTo_cons, if_pos (show hdIn [q] (q :: z) = true by simp [hdIn])]
    rfl
  have h1 : (s.cutTo (hdIn [q])).rest = q :: z := by
    show s.rest.drop (upTo _ s.rest) = _
    rw [hu, h, List.drop_left]
  have h2 : s.front (hdIn [q]) = t := by
    show s.rest.take (upTo _ s.rest) = _
    rw [hu, h, List.take_left]
  have hp : pre [q] (q :: z) = true := by simp [pre]
  unfold TS.quoted TS.cutIf
  rw [h1, h2, hp, if_pos rfl]
  show Val.mk ((s.cut (upTo _ s.rest)).cut 1) t true = _
  rw [hu, cut_cut]
theorem one_z {q : Bool} {c d : UInt8} (h0 : c ≠ 0) (h : d ∈ one q c) : d ≠ 0 := by
  unfold one at h
  split at h
  · exact (show ∀ d ∈ ([38, 97, 109, 112, 59] : List UInt8), d ≠ 0 by decide) d h
  · split at h
    · exact (show ∀ d ∈ ([38, 108, 116, 59] : List UInt8), d ≠ 0 by decide) d h
    · split at h
      · exact (show ∀ d ∈ ([38, 103, 116, 59] : List UInt8), d ≠ 0 by decide) d h
      · split at h
        · exact (show ∀ d ∈ ([38, 113, 117, 111, 116, 59] : List UInt8), d ≠ 0 by decide) d h
        · rw [List.mem_singleton.1 h]
          exact h0
theorem esc_q (v : List UInt8) : ∀ c ∈ esc true v, ([34] : List UInt8).contains c = false := by
  intro c hc
  have := (esc_sign true v c hc).2.2 rfl
  simp [this]
theorem esc_z (q : Bool) : ∀ v : List UInt8, (∀ c ∈ v, c ≠ 0) → ∀ c ∈ esc q v, c ≠ 0 :=
  overL (p := fun l => (∀ c ∈ l, c ≠ 0) → ∀ c ∈ esc q l, c ≠ 0) (fun _ _ h => by cases h) fun l hl ih h0 d hd => by
    rw [esc_step q hl] at hd
    rcases List.mem_append.1 hd with hd | hd
    · cases l with
      | nil => exact absurd rfl hl
      | cons c r =>
        rw [front_cons] at hd
        split at hd
        · exact (show ∀ d ∈ nbsp, d ≠ 0 by decide) d hd
        · exact one_z (h0 c List.mem_cons_self) hd
    · exact ih (fun c hc => h0 c (List.mem_of_mem_drop hc)) d hd
theorem clean_id : ∀ l : List UInt8, (∀ c ∈ l, c ≠ 0) → cleanL l = l
  | [], _ => rfl
  | c :: r, h => by
    have e : cleanL (c :: r) = cleanB c ++ cleanL r := rfl
    rw [e, clean_id r (fun d hd => h d (List.mem_cons_of_mem _ hd))]
    unfold cleanB
    rw [if_neg (h c List.mem_cons_self)]
    rfl
theorem back {v : List UInt8} (h : ∀ c ∈ v, c ≠ 0) : allL true (cleanL (esc true v)) = v := by rw [clean_id _ (esc_z true v h), all_esc]

/-- An attribute as it is written. -/
def aw (c : UInt8) (v : List UInt8) : List UInt8 := 32 :: 107 :: c :: 61 :: 34 :: (esc true v ++ [34])
theorem attr_one {c : UInt8} (hc : 97 ≤ c.toNat ∧ c.toNat ≤ 122) {v : List UInt8} (hv : ∀ d ∈ v, d ≠ 0) (z : List UInt8) (p : Nat) (T : List Tk) (F : List Fl) (X : List UInt8) (a : Nat) {l : List Atr} (hl : l.length < 50) (hn : hasN l [107, c] = false) :
    (TS.mk (107 :: c :: 61 :: 34 :: (esc true v ++ 34 :: z)) p T F X a).attr l = ⟨TS.mk z (p + 4 + ((esc true v).length + 1)) T F X a, l ++ [⟨[107, c], v⟩]⟩ := by
  have hin : ∀ d : UInt8, d.toNat < 97 → (c == d) = false := by
    intro d hd
    rw [Bool.eq_false_iff]
    intro e
    have : c = d := by simpa using e
    rw [← this] at hd
    omega
  have hcn : ([9, 10, 12, 32, 47, 62, 61] : List UInt8).contains c = false := by
    simp only [List.contains_cons, List.contains_nil, hin 9 (by decide), hin 10 (by decide), hin 12 (by decide), hin 32 (by decide), hin 47 (by decide), hin 62 (by decide), hin 61 (by decide), Bool.or_false]
  obtain ⟨y, hy⟩ : ∃ y, 34 :: (esc true v ++ 34 :: z) = y := ⟨_, rfl⟩
  have hu : upTo (hdIn [9, 10, 12, 32, 47, 62, 61]) (c :: 61 :: y) = 1 := by
    rw [upTo_cons, if_neg (by show ¬ List.contains _ c = true; rw [hcn]; decide), upTo_cons, if_pos (show hdIn [9, 10, 12, 32, 47, 62, 61] (61 :: y) = true from rfl)]
  obtain ⟨s, hs⟩ : ∃ s, TS.mk (107 :: c :: 61 :: y) p T F X a = s := ⟨_, rfl⟩
  have f1 : s.first = TS.mk (c :: 61 :: y) (p + 1) T F X a := by rw [← hs]; rfl
  have f2 : s.aname = [107, c] := by
    unfold TS.aname
    rw [f1]
    show nmL (s.rest.take 1 ++ List.take (upTo _ (c :: 61 :: y)) (c :: 61 :: y)) = _
    rw [hu, ← hs]
    exact nm_letters (l := [107, c]) (by
      intro d hd
      simp only [List.mem_cons, List.not_mem_nil, or_false] at hd
      rcases hd with rfl | rfl
      · decide
      · exact hc)
  have f3 : (s.first.cutTo (hdIn [9, 10, 12, 32, 47, 62, 61])).value = ⟨TS.mk z (p + 4 + ((esc true v).length + 1)) T F X a, esc true v, true⟩ := by
    rw [f1]
    have e1 : (TS.mk (c :: 61 :: y) (p + 1) T F X a).cutTo (hdIn [9, 10, 12, 32, 47, 62, 61]) = TS.mk (61 :: y) (p + 1 + 1) T F X a := by
      show TS.cut _ (upTo _ (c :: 61 :: y)) = _
      rw [hu]
      rfl
    rw [e1, ← hy]
    show (TS.mk (esc true v ++ 34 :: z) (p + 1 + 1 + 1 + 1) T F X a).quoted 34 = _
    rw [quoted_of (t := esc true v) (z := z) rfl (esc_q v)]
    show Val.mk (TS.mk (List.drop ((esc true v).length + 1) (esc true v ++ 34 :: z)) _ _ _ _ _) _ _ = _
    rw [show List.drop ((esc true v).length + 1) (esc true v ++ 34 :: z) = z by rw [← List.drop_drop, List.drop_left]; rfl]
  rw [hy, hs]
  unfold TS.attr
  rw [f3, f2]
  dsimp only
  rw [if_pos rfl, if_neg (by rintro (h | h); omega; rw [hn] at h; cases h), back hv]
/-- Attributes as they are written. -/
def aws (l : List (UInt8 × List UInt8)) : List UInt8 := l.flatMap fun a => aw a.1 a.2
def ats (l : List (UInt8 × List UInt8)) : List Atr := l.map fun a => ⟨[107, a.1], a.2⟩
theorem has_no {l : List (UInt8 × List UInt8)} {c : UInt8} (h : ∀ a ∈ l, a.1 ≠ c) : hasN (ats l) [107, c] = false := by
  unfold hasN ats
  rw [List.any_map, List.any_eq_false]
  intro a ha
  have := h a ha
  simp [this]
theorem tag_all : ∀ (l m : List (UInt8 × List UInt8)) (f p : Nat) (T : List Tk) (F : List Fl) (X : List UInt8) (a : Nat), (aws l).length + 1 < f → (∀ b ∈ l, 97 ≤ b.1.toNat ∧ b.1.toNat ≤ 122) → (∀ b ∈ l, ∀ d ∈ b.2, d ≠ 0) → ((m ++ l).map (·.1)).Nodup → (m ++ l).length ≤ 50 →
    ∃ q, TS.tagF f (TS.mk (aws l ++ [62]) p T F X a) (ats m) = ⟨TS.mk [] q T F X a, ats (m ++ l), false, true⟩
  | [], m, f + 1, p, T, F, X, a, _, _, _, _, _ => by
    refine ⟨p + 1, ?_⟩
    rw [List.append_nil]
    rfl
  | b :: l, m, f + 1, p, T, F, X, a, hf, h1, h2, h3, h4 => by
    have hb1 := h1 b List.mem_cons_self
    have hb2 := h2 b List.mem_cons_self
    have hlen : (aws (b :: l)).length = 6 + (esc true b.2).length + (aws l).length := by
      show (aw b.1 b.2 ++ aws l).length = _
      simp only [aw, List.length_append, List.length_cons, List.length_nil]
      omega
    have hno : ∀ e ∈ m, e.1 ≠ b.1 := by
      intro e he
      rw [List.map_append, List.nodup_append] at h3
      exact h3.2.2 e.1 (List.mem_map_of_mem he) b.1 (by simp)
    have hml : (ats m).length < 50 := by
      have : (ats m).length = m.length := by simp [ats]
      rw [List.length_append, List.length_cons] at h4
      omega
    have e0 : aws (b :: l) ++ [62] = 32 :: 107 :: b.1 :: 61 :: 34 :: (esc true b.2 ++ 34 :: (aws l ++ [62])) := by
      show (aw b.1 b.2 ++ aws l) ++ [62] = _
      simp [aw]
    obtain ⟨y, hy⟩ : ∃ y, b.1 :: 61 :: 34 :: (esc true b.2 ++ 34 :: (aws l ++ [62])) = y := ⟨_, rfl⟩
    have e1 : (TS.mk (32 :: 107 :: y) p T F X a).cutTo (hdOut sla) = TS.mk (107 :: y) (p + 1) T F X a := rfl
    have e2 := attr_one hb1 hb2 (aws l ++ [62]) (p + 1) T F X a hml (has_no hno)
    have e3 : ats m ++ [⟨[107, b.1], b.2⟩] = ats (m ++ [b]) := by simp [ats]
    obtain ⟨q, hq⟩ := tag_all l (m ++ [b]) f (p + 1 + 4 + ((esc true b.2).length + 1)) T F X a (by omega) (fun c hc => h1 c (List.mem_cons_of_mem _ hc)) (fun c hc => h2 c (List.mem_cons_of_mem _ hc)) (by simpa using h3) (by simpa using h4)
    refine ⟨q, ?_⟩
    rw [e0, hy, tagF_succ, e1, if_neg (by intro h; cases h), if_neg (by rw [show pre [62] (107 :: y) = false from rfl]; decide)]
    rw [hy] at e2
    rw [e2, e3]
    dsimp only
    rw [hq]
    simp
end Go.Proofs.YtncfgahnjakeiabDoor
