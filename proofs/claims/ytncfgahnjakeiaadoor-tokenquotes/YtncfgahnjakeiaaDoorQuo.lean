/-
  What the reader of tokens makes of a tag with one attribute, between either quotes, and without.
-/
import Derived.Test.YtncfgahnjakeiaaDoorPts
import Derived.Test.YtncfgahnjakeiaaDoorLet
namespace Go.Proofs.YtncfgahnjakeiaaDoor

theorem not_in {set t : List UInt8} (ht : ∀ c ∈ t, 97 ≤ c.toNat ∧ c.toNat ≤ 122) (hs : ∀ d ∈ set, d.toNat < 97) : ∀ c ∈ t, set.contains c = false := by
  intro c hc
  have h := ht c hc
  rw [Bool.eq_false_iff]
  intro hh
  have := hs c (by simpa using hh)
  omega
theorem clean_letters {t : List UInt8} (ht : ∀ c ∈ t, 97 ≤ c.toNat ∧ c.toNat ≤ 122) : allL true (cleanL t) = t := by
  have h0 : cleanL t = t := by
    have key : ∀ l : List UInt8, (∀ c ∈ l, c ≠ 0) → cleanL l = l := by
      intro l
      induction l with
      | nil => exact fun _ => rfl
      | cons c r ih =>
        intro h
        have e : cleanL (c :: r) = cleanB c ++ cleanL r := rfl
        rw [e, ih (fun d hd => h d (List.mem_cons_of_mem _ hd))]
        unfold cleanB
        rw [if_neg (h c List.mem_cons_self)]
        rfl
    refine key t fun c hc e => ?_
    have := ht c hc
    rw [e] at this
    exact absurd this.1 (by decide)
  rw [h0]
  have := all_esc true false t
  rwa [esc_letters false t ht] at this
theorem quoted_of {s : TS} {t z : List UInt8} {q : UInt8} (h : s.rest = t ++ q :: z) (ht : ∀ c ∈ t, ([q] : List UInt8).contains c = false) : s.quoted q = ⟨s.cut (t.length + 1), t, true⟩ := by
  have hu : upTo (hdIn [q]) s.rest = t.length := by
    rw [h, upTo_in t _ ht, upTo_cons, if_pos (show hdIn [q] (q :: z) = true by simp [hdIn])]
    rfl
  have h1 : (s.cutTo (hdIn [q])).rest = q :: z := by
    show s.rest.drop (upTo _ s.rest) = _
    rw [hu, h, List.drop_left]
  have h2 : s.front (hdIn [q]) = t := by
    show s.rest.take (upTo _ s.rest) = _
    rw [hu, h, List.take_left]
  have hp : pre [q] (q :: z) = true := by simp [pre]
  unfold TS.quoted TS.cutIf
  rw [h1, h2, hp, if_pos rfl]
  show Val.mk ((s.cut (upTo _ s.rest)).cut 1) t true = _
  rw [hu, cut_cut]
/-- A tag whose attributes are read, and whose end stands there. -/
theorem tag_one {s : TS} {t : List UInt8} {p : Nat} {nm kn : List UInt8} (hnm : nmL (s.front (hdIn tgE)) = nm) (hk : softP nm = false ∧ rawP nm = false) (z : List UInt8) (hz : z = [62] ∨ z = [32, 62])
    (hne : ((s.cutTo (hdIn tgE)).cutTo (hdOut sla)).rest ≠ []) (hp : pre [62] ((s.cutTo (hdIn tgE)).cutTo (hdOut sla)).rest = false)
    (ha : ((s.cutTo (hdIn tgE)).cutTo (hdOut sla)).attr [] = ⟨⟨z, p, [], [], [], s.tat⟩, [⟨kn, t⟩]⟩) :
    ∃ p', s.tag 1 0 = ⟨[], p', [⟨1, nm, [⟨kn, t⟩], false, [], 0⟩], [], [], s.tat⟩ := by
  have hlen : 1 ≤ (s.cutTo (hdIn tgE)).rest.length := by
    have := (mv_cutTo (s.cutTo (hdIn tgE)) (hdOut sla)).le
    have h2 := List.length_pos_iff.2 hne
    omega
  obtain ⟨n, hn⟩ : ∃ n, (s.cutTo (hdIn tgE)).rest.length = n + 1 := ⟨_, (Nat.sub_add_cancel hlen).symm⟩
  have hF : ∃ p', (s.cutTo (hdIn tgE)).tagF (s.cutTo (hdIn tgE)).rest.length.succ [] = ⟨⟨[], p', [], [], [], s.tat⟩, [⟨kn, t⟩], false, true⟩ := by
    rw [hn, tagF_succ, if_neg hne, if_neg (by rw [hp]; decide), ha]
    rcases hz with rfl | rfl
    · exact ⟨p + 1, rfl⟩
    · exact ⟨p + 1 + 1, rfl⟩
  obtain ⟨p', hF⟩ := hF
  refine ⟨p', ?_⟩
  unfold TS.tag
  rw [hF, hnm]
  dsimp only
  rw [if_pos rfl, if_neg (by decide)]
  unfold TS.inside
  rw [hk.1, hk.2]
  rfl
theorem tok_of_tag {l : List UInt8} {c : UInt8} (hl : begL l = true) {nm kn t : List UInt8} (h : ∃ p', (TS.mk l 1 [] [] [] 0).tag 1 0 = ⟨[], p', [⟨1, nm, [⟨kn, t⟩], false, [], 0⟩], [], [], 0⟩) (hc : c = 60) : (tokL (c :: l)).toks = [⟨1, nm, [⟨kn, t⟩], false, [], 0⟩] ∧ (tokL (c :: l)).flts = [] := by
  subst hc
  obtain ⟨p', h⟩ := h
  have e : (TS.new (60 :: l)).markup = (TS.mk l 1 [] [] [] 0).tag 1 0 := by
    show (TS.mk l 1 [] [] [] 0).opened 0 = _
    unfold TS.opened
    rw [hl, if_pos rfl]
  unfold tokL
  rw [run_lt rfl, e, h, run_nil rfl]
  exact ⟨rfl, rfl⟩

section
variable {t : List UInt8} (ht : ∀ c ∈ t, 97 ≤ c.toNat ∧ c.toNat ≤ 122)
include ht
theorem attr_of {s : TS} {kn z : List UInt8} {p : Nat} (hv : (s.first.cutTo (hdIn atE)).value = ⟨⟨z, p, [], [], [], s.tat⟩, t, true⟩) (hn : s.aname = kn) : s.attr [] = ⟨⟨z, p, [], [], [], s.tat⟩, [⟨kn, t⟩]⟩ := by
  unfold TS.attr
  rw [hv, hn]
  dsimp only
  rw [if_pos rfl, if_neg (by rintro (h | h); exact absurd h (by decide); cases h), clean_letters ht]
  rfl
theorem tok_q1 : (tokL (60 :: 101 :: 32 :: 107 :: 61 :: 34 :: (t ++ [34, 62]))).toks = [⟨1, [101], [⟨[107], t⟩], false, [], 0⟩] ∧ (tokL (60 :: 101 :: 32 :: 107 :: 61 :: 34 :: (t ++ [34, 62]))).flts = [] := by
  refine tok_of_tag rfl (tag_one (p := 6 + (t.length + 1)) rfl ⟨rfl, rfl⟩ [62] (.inl rfl) (by intro h; cases h) rfl ?_) rfl
  · refine attr_of ht ?_ rfl
    show (TS.mk (t ++ [34, 62]) 6 [] [] [] 0).quoted 34 = _
    rw [quoted_of (t := t) (z := [62]) rfl (not_in ht (by decide))]
    show Val.mk (TS.mk (List.drop (t.length + 1) (t ++ [34, 62])) _ _ _ _ _) _ _ = _
    rw [show List.drop (t.length + 1) (t ++ [34, 62]) = [62] by rw [← List.drop_drop, List.drop_left]; rfl]
    rfl
theorem tok_q2 : (tokL (60 :: 101 :: 32 :: 107 :: 61 :: 39 :: (t ++ [39, 62]))).toks = [⟨1, [101], [⟨[107], t⟩], false, [], 0⟩] ∧ (tokL (60 :: 101 :: 32 :: 107 :: 61 :: 39 :: (t ++ [39, 62]))).flts = [] := by
  refine tok_of_tag rfl (tag_one (p := 6 + (t.length + 1)) rfl ⟨rfl, rfl⟩ [62] (.inl rfl) (by intro h; cases h) rfl ?_) rfl
  · refine attr_of ht ?_ rfl
    show (TS.mk (t ++ [39, 62]) 6 [] [] [] 0).quoted 39 = _
    rw [quoted_of (t := t) (z := [62]) rfl (not_in ht (by decide))]
    show Val.mk (TS.mk (List.drop (t.length + 1) (t ++ [39, 62])) _ _ _ _ _) _ _ = _
    rw [show List.drop (t.length + 1) (t ++ [39, 62]) = [62] by rw [← List.drop_drop, List.drop_left]; rfl]
    rfl
theorem tok_q4 : (tokL (60 :: 69 :: 32 :: 32 :: 75 :: 32 :: 61 :: 32 :: 34 :: (t ++ [34, 32, 62]))).toks = [⟨1, [101], [⟨[107], t⟩], false, [], 0⟩] ∧ (tokL (60 :: 69 :: 32 :: 32 :: 75 :: 32 :: 61 :: 32 :: 34 :: (t ++ [34, 32, 62]))).flts = [] := by
  refine tok_of_tag rfl (tag_one (p := 9 + (t.length + 1)) rfl ⟨rfl, rfl⟩ [32, 62] (.inr rfl) (by intro h; cases h) rfl ?_) rfl
  · refine attr_of ht ?_ rfl
    show (TS.mk (t ++ [34, 32, 62]) 9 [] [] [] 0).quoted 34 = _
    rw [quoted_of (t := t) (z := [32, 62]) rfl (not_in ht (by decide))]
    show Val.mk (TS.mk (List.drop (t.length + 1) (t ++ [34, 32, 62])) _ _ _ _ _) _ _ = _
    rw [show List.drop (t.length + 1) (t ++ [34, 32, 62]) = [32, 62] by rw [← List.drop_drop, List.drop_left]; rfl]
    rfl
theorem tok_q3 (h0 : t ≠ []) : (tokL (60 :: 101 :: 32 :: 107 :: 61 :: (t ++ [62]))).toks = [⟨1, [101], [⟨[107], t⟩], false, [], 0⟩] ∧ (tokL (60 :: 101 :: 32 :: 107 :: 61 :: (t ++ [62]))).flts = [] := by
  obtain ⟨c, r, hcr⟩ : ∃ c r, t = c :: r := by
    cases t with
    | nil => exact absurd rfl h0
    | cons c r => exact ⟨c, r, rfl⟩
  have hc := ht c (by rw [hcr]; exact List.mem_cons_self)
  have hne : ∀ d : UInt8, d.toNat < 97 → (d == c) = false := by
    intro d hd
    rw [Bool.eq_false_iff]
    intro e
    have : d = c := by simpa using e
    rw [this] at hd
    omega
  have p1 : ∀ d : UInt8, d.toNat < 97 → pre [d] (t ++ [62]) = false := by
    intro d hd
    rw [hcr]
    show (d == c && _) = false
    rw [hne d hd]
    rfl
  refine tok_of_tag rfl (tag_one (p := 5 + t.length) rfl ⟨rfl, rfl⟩ [62] (.inl rfl) (by intro h; cases h) rfl ?_) rfl
  · refine attr_of ht ?_ rfl
    show ((TS.mk (t ++ [62]) 5 [] [] [] 0).cutTo (hdOut blk)).val2 = _
    have e0 : (TS.mk (t ++ [62]) 5 [] [] [] 0).cutTo (hdOut blk) = TS.mk (t ++ [62]) 5 [] [] [] 0 := by
      show TS.cut _ (upTo (hdOut blk) (t ++ [62])) = _
      rw [hcr]
      rw [List.cons_append, upTo_cons, if_pos]
      · rfl
      · show (!blk.contains c) = true
        rw [not_in (set := blk) ht (by decide) c (by rw [hcr]; exact List.mem_cons_self)]
        rfl
    rw [e0]
    unfold TS.val2
    dsimp only
    rw [if_neg (by rw [p1 34 (by decide)]; decide), if_neg (by rw [p1 39 (by decide)]; decide), if_neg (by rw [p1 62 (by decide)]; decide)]
    have hu : upTo (hdIn [9, 10, 12, 32, 62]) (t ++ [62]) = t.length := by
      rw [upTo_in t _ (not_in ht (by decide))]
      rfl
    show Val.mk (TS.mk (List.drop (upTo _ (t ++ [62])) (t ++ [62])) (5 + upTo _ (t ++ [62])) _ _ _ _) (List.take (upTo _ (t ++ [62])) (t ++ [62])) _ = _
    rw [hu, List.drop_left, List.take_left]
    rfl
end
end Go.Proofs.YtncfgahnjakeiaaDoor
