/-
  What the reader of tokens makes of plain bytes, of bytes 0 and of what is written as a text.
-/
import Derived.Test.YtncfgahnjakeiaaDoorTkW
import Derived.Test.YtncfgahnjakeiaaDoorEsc
namespace Go.Proofs.YtncfgahnjakeiaaDoor

theorem addT_nil (s : TS) (a : Nat) : s.addT [] a = s := by
  unfold TS.addT
  rw [if_pos rfl]
theorem cut_cut (s : TS) (a b : Nat) : (s.cut a).cut b = s.cut (a + b) := by
  unfold TS.cut
  simp only [List.drop_drop, Nat.add_assoc]
theorem cut_zero (s : TS) : s.cut 0 = s := rfl
theorem cut_addT (s : TS) (p : List UInt8) (a n : Nat) : (s.addT p a).cut n = (s.cut n).addT p a := by
  unfold TS.addT
  split <;> rfl
theorem addT_addT (s : TS) {p : List UInt8} (q : List UInt8) (a b : Nat) (hp : p ≠ []) : (s.addT p a).addT q b = s.addT (p ++ q) a := by
  have hpq : p ++ q ≠ [] := by simp [hp]
  by_cases hq : q = []
  · subst hq
    rw [addT_nil, List.append_nil]
  · have ht : s.text ++ p ≠ [] := by simp [hp]
    unfold TS.addT
    rw [if_neg hp, if_neg hq, if_neg hpq]
    dsimp only
    rw [if_neg ht, List.append_assoc]
theorem addT_rest (s : TS) (p : List UInt8) (a : Nat) : (s.addT p a).rest = s.rest ∧ (s.addT p a).pl = s.pl := by
  unfold TS.addT
  split <;> exact ⟨rfl, rfl⟩

def plain (c : UInt8) : Prop := c ≠ 60 ∧ c ≠ 38 ∧ c ≠ 0
theorem next_plain {s : TS} {c : UInt8} {r : List UInt8} (h : s.rest = c :: r) (hc : plain c) : s.next = (s.cut (upTo (hdIn [60, 38, 0]) r + 1)).addT (c :: r.take (upTo (hdIn [60, 38, 0]) r)) s.pl := by
  rw [next_cons h, if_neg hc.1, if_neg hc.2.1, if_neg hc.2.2]
  have e : upTo (hdIn [60, 38, 0]) s.rest = upTo (hdIn [60, 38, 0]) r + 1 := by
    rw [h, upTo_cons, if_neg (by rw [hd3 hc.1 hc.2.1 hc.2.2]; decide)]
  unfold TS.cutTo TS.front
  rw [e, h]
  rfl
/-- A plain byte is text, by itself. -/
theorem run_plain {s : TS} {c : UInt8} {r : List UInt8} (h : s.rest = c :: r) (hc : plain c) : s.run = ((s.cut 1).addT [c] s.pl).run := by
  have hne : s.rest ≠ [] := by rw [h]; exact List.cons_ne_nil _ _
  rw [run_next hne, next_plain h hc]
  have hr1 : ((s.cut 1).addT [c] s.pl).rest = r := by rw [(addT_rest _ _ _).1]; simp only [TS.cut, h]; rfl
  have same : upTo (hdIn [60, 38, 0]) r = 0 → (s.cut (upTo (hdIn [60, 38, 0]) r + 1)).addT (c :: r.take (upTo (hdIn [60, 38, 0]) r)) s.pl = (s.cut 1).addT [c] s.pl := by
    intro e
    rw [e]
    rfl
  cases r with
  | nil => rw [same rfl]
  | cons d r =>
    by_cases hd : plain d
    · have hne1 : ((s.cut 1).addT [c] s.pl).rest ≠ [] := by rw [hr1]; exact List.cons_ne_nil _ _
      rw [run_next hne1, next_plain hr1 hd]
      have e : upTo (hdIn [60, 38, 0]) (d :: r) = upTo (hdIn [60, 38, 0]) r + 1 := by rw [upTo_cons, if_neg (by rw [hd3 hd.1 hd.2.1 hd.2.2]; decide)]
      rw [e, cut_addT, cut_cut, addT_addT _ _ _ _ (List.cons_ne_nil _ _), show 1 + (upTo (hdIn [60, 38, 0]) r + 1) = upTo (hdIn [60, 38, 0]) r + 1 + 1 by omega]
      rfl
    · rw [same]
      rw [upTo_cons, if_pos]
      show ([60, 38, 0] : List UInt8).contains d = true
      unfold plain at hd
      by_cases h1 : d = 60
      · simp [h1]
      · by_cases h2 : d = 38
        · simp [h2]
        · by_cases h3 : d = 0
          · simp [h3]
          · exact absurd ⟨h1, h2, h3⟩ hd
theorem run_null {s : TS} {r : List UInt8} (h : s.rest = 0 :: r) : s.run = ((s.flt 3 s.pl).cut 1).run := by
  have hne : s.rest ≠ [] := by rw [h]; exact List.cons_ne_nil _ _
  rw [run_next hne, next_cons h, if_neg (by decide), if_neg (by decide), if_pos rfl]
theorem run_lt {s : TS} {r : List UInt8} (h : s.rest = 60 :: r) : s.run = s.markup.run := by
  have hne : s.rest ≠ [] := by rw [h]; exact List.cons_ne_nil _ _
  rw [run_next hne, next_cons h, if_pos rfl]
/-- A reference that tells a character, without a fault. -/
theorem run_rf {s : TS} {r : List UInt8} {n : Nat} {u : List UInt8} (h : s.rest = 38 :: r) (hn : (takeL (38 :: r) false).n = n + 1) (ht : (takeL (38 :: r) false).text.data.toList = u) (hf : (takeL (38 :: r) false).fault = 0) : s.run = ((s.cut (n + 1)).addT u s.pl).run := by
  have hne : s.rest ≠ [] := by rw [h]; exact List.cons_ne_nil _ _
  rw [run_next hne, next_cons h, if_neg (by decide), if_pos rfl]
  unfold TS.refr
  rw [h, hf, hn, ht, if_neg (by omega), if_neg (by omega)]
  rfl
theorem take_fault {c : UInt8} {l : List UInt8} {code n : Nat} (attr : Bool) (hc : c ≠ 35) (hs : scanN (c :: l) names = ⟨code, n + 1, true⟩) : (takeL (38 :: c :: l) attr).fault = 0 := by
  have h1 : takeL (38 :: c :: l) attr = refL (c :: l) attr := rfl
  have h2 : refL (c :: l) attr = nameL (c :: l) attr := by
    unfold refL
    rw [if_neg]
    simpa [hash] using hc
  rw [h1, h2]
  unfold nameL
  rw [hs]
  unfold endR
  dsimp only
  rw [if_neg (by omega), if_pos rfl]
theorem run_name {s : TS} {c : UInt8} {l : List UInt8} {code n : Nat} {b : List UInt8} (h : s.rest = 38 :: c :: l) (hc : c ≠ 35) (hs : scanN (c :: l) names = ⟨code, n + 1, true⟩) (hb : (Utf8.encode code).data.toList = b) : s.run = ((s.cut (n + 2)).addT b s.pl).run := by
  obtain ⟨h1, h2⟩ := take_name false hc hs
  exact run_rf h h1 (by rw [h2, hb]) (take_fault false hc hs)
/-- One byte, written as a text. -/
theorem run_one {s : TS} {c : UInt8} {y : List UInt8} (h : s.rest = one false c ++ y) (h0 : c ≠ 0) : s.run = ((s.cut (one false c).length).addT [c] s.pl).run := by
  unfold one at h ⊢
  by_cases h1 : c = 38
  · rw [if_pos h1] at h ⊢
    rw [h1]
    exact run_name h (by decide) (scan_amp y) enc38
  · rw [if_neg h1] at h ⊢
    by_cases h2 : c = 60
    · rw [if_pos h2] at h ⊢
      rw [h2]
      exact run_name h (by decide) (scan_lt y) enc60
    · rw [if_neg h2] at h ⊢
      by_cases h3 : c = 62
      · rw [if_pos h3] at h ⊢
        rw [h3]
        exact run_name h (by decide) (scan_gt y) enc62
      · rw [if_neg h3] at h ⊢
        rw [if_neg (by rintro ⟨h4, _⟩; cases h4)] at h ⊢
        exact run_plain h ⟨h2, h1, h0⟩
/-- WHAT IS WRITTEN AS A TEXT IS READ AS THAT TEXT, whatever stands behind. -/
theorem run_esc (y : List UInt8) : ∀ (t : List UInt8) (s : TS), (∀ c ∈ t, c ≠ 0) → s.rest = esc false t ++ y → s.run = ((s.cut (esc false t).length).addT t s.pl).run :=
  overL (p := fun t => ∀ s : TS, (∀ c ∈ t, c ≠ 0) → s.rest = esc false t ++ y → s.run = ((s.cut (esc false t).length).addT t s.pl).run)
    (fun s _ _ => by rw [addT_nil]; rfl)
    (fun l hl ih s h0 hr => by
      have key : ∀ (x u v : List UInt8), u ≠ [] → l = u ++ v → v = l.drop (far l) → esc false l = x ++ esc false v → s.run = ((s.cut x.length).addT u s.pl).run → s.run = ((s.cut (esc false l).length).addT l s.pl).run := by
        intro x u v hu hlu hv hx hrun
        rw [hrun]
        have hrest : ((s.cut x.length).addT u s.pl).rest = esc false v ++ y := by
          rw [(addT_rest _ _ _).1]
          show s.rest.drop x.length = _
          rw [hr, hx, List.append_assoc, List.drop_left]
        rw [hv] at hrest
        rw [ih _ (fun c hc => h0 c (List.mem_of_mem_drop hc)) hrest, cut_addT, cut_cut, addT_addT _ _ _ _ hu, ← hv, ← hlu, hx, List.length_append]
      cases l with
      | nil => exact absurd rfl hl
      | cons c r =>
        by_cases hn : nbq (c :: r) = true
        · obtain ⟨t, ht⟩ := nbq_iff.1 hn
          rw [ht]
          rw [ht] at hr key
          refine key nbsp [194, 160] t (by decide) rfl rfl rfl ?_
          have hr' : s.rest = 38 :: 110 :: (98 :: 115 :: 112 :: 59 :: (esc false t ++ y)) := hr
          exact run_name hr' (by decide) (scan_nbsp _) enc160
        · have hn' : nbq (c :: r) = false := by simpa using hn
          have hf : far (c :: r) = 1 := if_neg hn
          refine key (one false c) [c] r (by simp) rfl (by rw [hf]; rfl) (esc_one hn') ?_
          rw [esc_one hn', List.append_assoc] at hr
          exact run_one hr (h0 c List.mem_cons_self))
theorem addT_endT {s : TS} (hs : s.text = []) {p : List UInt8} (hp : p ≠ []) (a : Nat) : (s.addT p a).endT = { s with toks := s.toks ++ [⟨3, [], [], false, p, a⟩], tat := a } := by
  obtain ⟨rest, pl, toks, flts, text, tat⟩ := s
  have hs : text = [] := hs
  subst hs
  simp [TS.addT, TS.endT, hp]
/-- A text alone. -/
theorem tok_esc {t : List UInt8} (h0 : ∀ c ∈ t, c ≠ 0) : (tokL (esc false t)).toks = (if t = [] then [] else [⟨3, [], [], false, t, 0⟩]) ∧ (tokL (esc false t)).flts = [] := by
  unfold tokL
  rw [run_esc [] t (TS.new (esc false t)) h0 (by rw [List.append_nil]; rfl), run_nil (by rw [(addT_rest _ _ _).1]; show List.drop _ (esc false t) = []; exact List.drop_length)]
  by_cases ht : t = []
  · subst ht
    rw [if_pos rfl, addT_nil]
    exact ⟨rfl, rfl⟩
  · rw [if_neg ht]
    rw [addT_endT rfl ht]
    exact ⟨rfl, rfl⟩
end Go.Proofs.YtncfgahnjakeiaaDoor
