/-
  The walk of the statement InputEnds: it returns true for every text, character and number.
-/
import Derived.Test.YtnfallgpnoofiaaMark
import Derived.Test.YtnfallgpnoofiaaRune
namespace Go.Proofs.Ytnfallgpnoofiaa
open Go.RowKit

set_option maxHeartbeats 1000000 in
theorem ends_bad (s : ByteArray) (c k : Int) (w : World) (hs : s.size ≤ maxLen) (hbad : 500 < s.size ∨ c < 128 ∨ 1114111 < c ∨ (55296 ≤ c ∧ c ≤ 57343) ∨ c = 65279) :
    Calls Try.prog 3 #[.string s, .int .i32 c, .int .u8 k] w fun e w' => e = .returned (.bool true) ∧ Kept (fun k => k < w.heap.size) w w' := by
  unfold maxLen at hs
  have hkn := known_any (K := fun k => k < w.heap.size) (w := w) (fun _ h => h)
  by_cases b1 : 500 < s.size
  · have b1' : (500 : Int) < (s.size : Int) := by omega
    clear hbad
    go_enter Try.func3, Try.ntmps3
    go_wp2_with (go_at_call 9; refine hkn.mono ?_; rintro e w1 ⟨rfl, hk1⟩)
    go_ret
    exact ⟨rfl, hk1⟩
  have b1' : ¬ (500 : Int) < (s.size : Int) := by omega
  by_cases b2 : c < 128
  · clear hbad
    go_enter Try.func3, Try.ntmps3
    go_wp2_with (go_at_call 9; refine hkn.mono ?_; rintro e w1 ⟨rfl, hk1⟩)
    go_ret
    exact ⟨rfl, hk1⟩
  by_cases b3 : 1114111 < c
  · clear hbad
    go_enter Try.func3, Try.ntmps3
    go_wp2_with (go_at_call 9; refine hkn.mono ?_; rintro e w1 ⟨rfl, hk1⟩)
    go_ret
    exact ⟨rfl, hk1⟩
  by_cases b4 : c = 65279
  · subst b4
    clear hbad b2 b3
    go_enter Try.func3, Try.ntmps3
    go_wp2_with (go_at_call 9; refine hkn.mono ?_; rintro e w1 ⟨rfl, hk1⟩)
    go_ret
    exact ⟨rfl, hk1⟩
  · have b5 : 55296 ≤ c := by omega
    have b6 : c ≤ 57343 := by omega
    clear hbad
    go_enter Try.func3, Try.ntmps3
    go_wp2_with (go_at_call 9; refine hkn.mono ?_; rintro e w1 ⟨rfl, hk1⟩)
    go_ret
    exact ⟨rfl, hk1⟩

theorem Dec.start {K : Nat → Prop} {w : World} {b : Nat} (h : w.heap[b]? = some (.cells (decCells none 0 St.new) 39 (0, 0))) (hn : ¬ K b) (hK : ∀ k, K k → k < w.heap.size) : Dec K w b St.new :=
  ⟨hn, hK, Nat.le_refl _, none, 0, h, Own.nil _ _ _⟩

theorem rowB_block {K : Nat → Prop} {w : World} {g o : Nat} {cur : Array Value} {e : TypeId} {f : Nat × Nat} (bs : List UInt8) (h : w.heap[g]? = some (.cells cur e f)) (hK : K g) (hc : ∀ j (hj : j < bs.length), cur[o + j]? = some (.int .u8 (bs[j].toNat : Int))) :
    RowB K w (some ⟨g, o, none⟩) bs := .inr ⟨g, o, rfl, hK, fun j hj => by rw [cell_block h, hc j hj]⟩
theorem bobj_cells (X : World) (st : ByteArray) : ∃ cur f, bobj X st = .cells cur 5 f ∧ ∀ j (hj : j < st.data.toList.length), cur[j]? = some (.int .u8 (st.data.toList[j].toNat : Int)) := by
  refine ⟨_, _, rfl, fun j hj => ?_⟩
  unfold bytesRow
  have hj' : j < st.data.size := by simpa using hj
  rw [Array.getElem?_append_left (by simpa using hj')]
  simp
  exact ⟨_, Array.getElem?_eq_getElem hj', rfl⟩

def o0 : Obj := .cells (decCells none 0 St.new) 39
theorem o0_eq : o0 = .cells (decCells none 0 St.new) 39 := rfl
/-- The world of InputEnds: a decoder, the character's bytes, the text's. -/
def endsW (wr : World) (e t : ByteArray) : World := (((wr.alloc o0).alloc (bobj (wr.alloc o0) e)).alloc (bobj ((wr.alloc o0).alloc (bobj (wr.alloc o0) e)).drew t)).drew.drew
def endsK (wr : World) : Nat → Prop := fun k => k ≠ wr.heap.size ∧ k < wr.heap.size + 3
theorem ends_facts (wr : World) (e t : ByteArray) : Dec (endsK wr) (endsW wr e t) wr.heap.size St.new ∧ RowB (endsK wr) (endsW wr e t) (some ⟨wr.heap.size + 1 + 1, 0, none⟩) t.data.toList ∧
    (∀ p u, e.data.toList = p ++ u → RowB (endsK wr) (endsW wr e t) (some ⟨wr.heap.size + 1, 0, none⟩) p ∧ RowB (endsK wr) (endsW wr e t) (some ⟨wr.heap.size + 1, p.length, none⟩) u) ∧ Kept (fun k => k < wr.heap.size) wr (endsW wr e t) := by
  obtain ⟨c1, f1, h1, r1⟩ := bobj_cells (wr.alloc o0) e
  obtain ⟨c2, f2, h2, r2⟩ := bobj_cells ((wr.alloc o0).alloc (bobj (wr.alloc o0) e)).drew t
  have s1 : (wr.alloc o0).heap.size = wr.heap.size + 1 := by simp
  have b0 : (endsW wr e t).heap[wr.heap.size]? = some (.cells (decCells none 0 St.new) 39 (0, 0)) := heap_alloc_past (heap_alloc_past (heap_alloc_new wr o0) _) _
  have b1 : (endsW wr e t).heap[wr.heap.size + 1]? = some (.cells c1 5 f1) := by
    rw [← h1, ← s1]
    exact heap_alloc_past (heap_alloc_new (wr.alloc o0) _) _
  have b2 : (endsW wr e t).heap[wr.heap.size + 1 + 1]? = some (.cells c2 5 f2) := by
    rw [← h2]
    have s2 : ((wr.alloc o0).alloc (bobj (wr.alloc o0) e)).heap.size = wr.heap.size + 1 + 1 := by simp
    rw [← s2]
    exact heap_alloc_new ((wr.alloc o0).alloc (bobj (wr.alloc o0) e)) _
  have hsz : (endsW wr e t).heap.size = wr.heap.size + 3 := by simp [endsW]
  refine ⟨Dec.start b0 (fun h => h.1 rfl) (fun k hk => by rw [hsz]; exact hk.2), rowB_block _ b2 ⟨by omega, by omega⟩ (fun j hj => by rw [Nat.zero_add]; exact r2 j hj), ?_, ?_⟩
  · intro p u hpu
    refine ⟨rowB_block _ b1 ⟨by omega, by omega⟩ (fun j hj => ?_), rowB_block _ b1 ⟨by omega, by omega⟩ (fun j hj => ?_)⟩
    · rw [Nat.zero_add, r1 j (by rw [hpu]; simp; omega)]
      simp only [hpu, List.getElem_append_left hj]
    · rw [r1 (p.length + j) (by rw [hpu]; simp; omega)]
      simp only [hpu, List.getElem_append_right (Nat.le_add_right _ _), Nat.add_sub_cancel_left]
  · exact ((((Kept.refl _ wr).alloc (fun _ h => h) _).alloc (fun k hk => by simp; omega) _).alloc (fun k hk => by simp; omega) _).drew.drew

theorem ends_pure (c : Int) (l : List UInt8) (h0 : 128 ≤ c) (h1 : c ≤ 1114111) (h2 : ¬ (55296 ≤ c ∧ c ≤ 57343)) (h3 : c ≠ 65279) :
    decS (prL l ++ encB c) = prL l ++ encB c ∧ ∀ p u, encB c = p ++ u → p ≠ [] → u ≠ [] → decS (prL l ++ p) = prL l ++ repB := by
  have hch := encB_char h0 h1 h2
  have hm := encB_mark h0 h1 h2 h3
  have low : ∀ (t : List UInt8), (∀ c ∈ t, c.toNat < 128) → ∀ x, ch0 (t ++ x) = t ++ ch0 x := by
    intro t
    induction t with
    | nil => intro _ x; rfl
    | cons a t ih =>
      intro h x
      rw [List.cons_append, ch0_up_low a _ (h a (by simp)), ih (fun d hd => h d (by simp [hd]))]
      rfl
  have nlp : ∀ (t : List UInt8), (∀ c ∈ t, c.toNat ≠ 13) → ∀ x, nl false (t ++ x) = t ++ nl false x := by
    intro t
    induction t with
    | nil => intro _ x; rfl
    | cons a t ih =>
      intro h x
      rw [List.cons_append, nl, if_neg (h a (by simp)), if_neg (by simp), ih (fun d hd => h d (by simp [hd]))]
      rfl
  have st : ∀ x, x.take 3 ≠ markB → strip (prL l ++ x) = prL l ++ x := by
    intro x hx
    unfold strip
    rw [if_neg]
    intro hc
    cases hp : prL l with
    | nil => rw [hp] at hc; exact hx hc
    | cons a t =>
      have ha := pr_low l a (by rw [hp]; simp)
      rw [hp] at hc
      simp [markB] at hc
      rw [hc.1] at ha
      revert ha
      decide
  constructor
  · have e1 : ch0 (encB c) = encB c := by
      have := ch0_char hch []
      simpa [ch0, ch] using this
    have e2 : (encB c).take 3 ≠ markB := by
      intro h
      have := char_mark hch [] (by simpa using h)
      exact hm this
    have e3 := nl_up (encB c) false [] (up_char hch) (char_ne hch)
    rw [decS_spec, specB, low _ (pr_low l), e1, st _ e2, nlp _ (pr_13 l)]
    rw [List.append_nil] at e3
    rw [e3]
    simp [nl]
  · intro p u hpu hp hu
    have e1 : ch0 p = repB := ch0_cut hch p u hpu hp hu
    have e3 := nl_up repB false [] up_rep (by decide)
    rw [decS_spec, specB, low _ (pr_low l), e1, st _ (by decide), nlp _ (pr_13 l)]
    rw [List.append_nil] at e3
    rw [e3]
    simp [nl]

set_option maxRecDepth 20000 in
set_option maxHeartbeats 2000000 in
theorem ends_good (s : ByteArray) (c k : Int) (w : World) (hs : s.size ≤ 500) (hc0 : 128 ≤ c) (hc1 : c ≤ 1114111) (hc2 : ¬ (55296 ≤ c ∧ c ≤ 57343)) (hc3 : c ≠ 65279) (hk0 : 0 ≤ k) (hk1 : k ≤ 255) :
    Calls Try.prog 3 #[.string s, .int .i32 c, .int .u8 k] w fun e w' => e = .returned (.bool true) ∧ Kept (fun k => k < w.heap.size) w w' := by
  have hkn := known_any (K := fun k => k < w.heap.size) (w := w) (fun _ h => h)
  have b1 : ¬ (500 : Int) < (s.size : Int) := by omega
  have b2 : ¬ c < 128 := by omega
  have b3 : ¬ 1114111 < c := by omega
  have b4 : (c == 65279) = false := by simpa using hc3
  have hcv := fun (X : World) (n : Int) => conv_new X n X.heap.size rfl
  have hcb := conv_bytes
  have HC : Hid (¬ (55296 ≤ c ∧ c ≤ 57343)) := hc2
  have b5 : 55296 ≤ c → decide (c ≤ 57343) = false := by intro h; simp; omega
  have HC3 : Hid (c ≠ 65279) := hc3
  clear hc2 hc3
  have b67 : decide (55296 ≤ c) = false ∨ (55296 ≤ c ∧ decide (c ≤ 57343) = false) := by
    by_cases b6 : 55296 ≤ c
    · exact .inr ⟨b6, b5 b6⟩
    · exact .inl (by simpa using b6)
  clear b5
  have HCH : Hid (CharB (encB c)) := encB_char hc0 hc1 HC.out
  have hsz : (Utf8.encode c).size = (encB c).length := by simp [encB]
  have hL : 2 ≤ (encB c).length ∧ (encB c).length ≤ 4 := by
    have h1 := encode_facts c (valid_of (by omega) hc1 HC.out) hc0
    omega
  obtain ⟨L, hLL⟩ : ∃ L, L = (encB c).length := ⟨_, rfl⟩
  have HL : Hid (L = (encB c).length) := hLL
  rw [← hLL] at hsz hL
  obtain ⟨hL1, hL2⟩ := hL
  clear hLL
  obtain ⟨q, hq⟩ : ∃ q : Nat, k % ((L : Int) - 1) = (q : Int) := ⟨(k % ((L : Int) - 1)).toNat, by have := Int.emod_nonneg k (show (L : Int) - 1 ≠ 0 by omega); omega⟩
  have hqL : q + 1 < L := by have := Int.emod_lt_of_pos k (show (0 : Int) < (L : Int) - 1 by omega); omega
  have hT : (1 + (q : Int)).toNat = 1 + q := by omega
  have HP : Hid (decS (prL s.data.toList ++ encB c) = prL s.data.toList ++ encB c ∧ ∀ p u, encB c = p ++ u → p ≠ [] → u ≠ [] → decS (prL s.data.toList ++ p) = prL s.data.toList ++ repB) := ends_pure c s.data.toList hc0 hc1 HC.out HC3.out
  rcases b67 with b7 | ⟨b6, b7⟩
  all_goals
    go_enter Try.func3, Try.ntmps3
    go_wp2_with (go_at_call 9; refine hkn.mono ?_; rintro e w1 ⟨rfl, hk1⟩)
    clear hkn
    go_loopw [7, 8] (fun t i wr => ∃ k : Nat, k ≤ s.size ∧ i = .int .i64 k ∧ t = .string ⟨(prL (s.data.toList.take k)).toArray⟩ ∧ Kept (fun k => k < w.heap.size) w wr) (fun _ i _ => s.size - (intOf i).toNat)
    case atStart => exact ⟨0, Nat.zero_le _, rfl, rfl, hk1⟩
    case round =>
      clear hk1
      obtain ⟨j, hj, rfl, rfl, hkp⟩ := hrel
      have hpl : (prL (s.data.toList.take j)).length ≤ 500 := by simp [prL]; omega
      obtain ⟨tl, htl⟩ : ∃ tl, tl = prL (s.data.toList.take j) := ⟨_, rfl⟩
      rw [← htl] at hpl
      rw [← htl]
      have HT : Hid (tl = prL (s.data.toList.take j)) := htl
      clear htl
      by_cases hlt : j < s.size
      · have HS : Hid (prL (s.data.toList.take (j + 1)) = tl ++ [UInt8.ofNat (s[j].toNat % 95) + 32]) := by
          have h1 : j < s.data.toList.length := by simpa using hlt
          rw [List.take_succ_eq_append_getElem h1, prL_snoc, ← HT.out, prB_eq]
          rfl
        go_wp2
        go_roundw
        case rel =>
          refine ⟨j + 1, by omega, by go_num, ?_, hkp.alloc (fun k hk => Nat.lt_of_lt_of_le hk hkp.size) _⟩
          rw [HS.out]
          exact congrArg Value.string (ByteArray.mk_append_mk tl [_])
        case measure => simp [intOf]; omega
      · have hks : s.data.toList.take j = s.data.toList := List.take_of_length_le (by simp; omega)
        have HT2 : Hid (tl = prL s.data.toList) := by
          have h1 := HT.out
          rw [hks] at h1
          exact h1
        clear hks HT
        have hnew : Calls Try.prog 10 #[] wr fun e w' => e = .returned (dptr wr.heap.size) ∧ w' = wr.alloc o0 := new_any wr
        obtain ⟨F1, F2, F3, F4⟩ := ends_facts wr (Utf8.encode c) ⟨tl.toArray⟩
        have hsplit : encB c = (encB c).take (1 + q) ++ (encB c).drop (1 + q) := (List.take_append_drop _ _).symm
        obtain ⟨pp, hpp⟩ : ∃ pp, pp = (encB c).take (1 + q) := ⟨_, rfl⟩
        obtain ⟨uu, huu⟩ : ∃ uu, uu = (encB c).drop (1 + q) := ⟨_, rfl⟩
        have hpl1 : pp.length = 1 + q := by rw [hpp, List.length_take, ← HL.out]; omega
        have hul1 : uu.length = L - (1 + q) := by rw [huu, List.length_drop, ← HL.out]
        rw [← hpp, ← huu] at hsplit
        obtain ⟨F5, F6⟩ := F3 pp uu hsplit
        rw [hpl1] at F6
        have ok1 := St.feed_ok St.Ok.new tl
        have ok2 := St.feed_ok ok1.1 pp
        have ok3 := St.feed_ok ok2.1 uu
        have hn0 : St.new.text.length = 0 := rfl
        have hf1 := fun cp => feed_dec F1 St.Ok.new tl _ cp F2 (by omega)
        have hf2 : ∀ X cp, Dec (endsK wr) X wr.heap.size (St.new.feed tl) → Kept (endsK wr) (endsW wr (Utf8.encode c) ⟨tl.toArray⟩) X → Calls Try.prog 11 #[dptr wr.heap.size, .slice (some ⟨wr.heap.size + 1, 0, none⟩) (1 + q) cp] X fun e w' => e = .returned (.tuple #[]) ∧ Dec (endsK wr) w' wr.heap.size ((St.new.feed tl).feed pp) ∧ Kept (endsK wr) X w' := by
          intro X cp hd hk
          have h1 := feed_dec hd ok1.1 pp _ cp (F5.kept hk) (by omega)
          rw [hpl1] at h1
          exact h1
        have hf3 : ∀ X cp, Dec (endsK wr) X wr.heap.size ((St.new.feed tl).feed pp) → Kept (endsK wr) (endsW wr (Utf8.encode c) ⟨tl.toArray⟩) X → Calls Try.prog 11 #[dptr wr.heap.size, .slice (some ⟨wr.heap.size + 1, 1 + q, none⟩) (L - (1 + q)) cp] X fun e w' => e = .returned (.tuple #[]) ∧ Dec (endsK wr) w' wr.heap.size (((St.new.feed tl).feed pp).feed uu) ∧ Kept (endsK wr) X w' := by
          intro X cp hd hk
          have h1 := feed_dec hd ok2.1 uu _ cp (F6.kept hk) (by omega)
          rw [hul1] at h1
          exact h1
        have fin2 : ((St.new.feed tl).feed pp).finish = tl ++ repB := by
          rw [← St.feed_append]
          have h1 := HP.out.2 pp uu hsplit (by intro h; rw [h] at hpl1; simp at hpl1; omega) (by intro h; rw [h] at hul1; simp at hul1; omega)
          rw [← HT2.out] at h1
          exact h1
        have fin3 : (((St.new.feed tl).feed pp).feed uu).finish = tl ++ encB c := by
          rw [← St.feed_append, ← St.feed_append, ← hsplit]
          have h1 := HP.out.1
          rw [← HT2.out] at h1
          exact h1
        have hg2 : ∀ X, Dec (endsK wr) X wr.heap.size ((St.new.feed tl).feed pp) → Calls Try.prog 12 #[dptr wr.heap.size] X fun e w' => e = .returned (.string (⟨tl.toArray⟩ ++ ⟨#[239, 191, 189]⟩)) ∧ w' = X.drew := by
          intro X hd
          have h1 := finish_dec hd (by omega)
          rw [fin2] at h1
          exact h1.mono fun e w' ⟨a1, a2⟩ => ⟨a1.trans (congrArg (fun x => Ending.returned (.string x)) (ByteArray.mk_append_mk tl [239, 191, 189]).symm), a2⟩
        have hg3 : ∀ X, Dec (endsK wr) X wr.heap.size (((St.new.feed tl).feed pp).feed uu) → Calls Try.prog 12 #[dptr wr.heap.size] X fun e w' => e = .returned (.string (⟨tl.toArray⟩ ++ Utf8.encode c)) ∧ w' = X.drew := by
          intro X hd
          have h1 := finish_dec hd (by omega)
          rw [fin3] at h1
          exact h1.mono fun e w' ⟨a1, a2⟩ => ⟨a1.trans (congrArg (fun x => Ending.returned (.string x)) (ByteArray.mk_append_mk tl (encB c)).symm), a2⟩
        have hcapL : L ≤ bcap (wr.alloc o0) (Utf8.encode c) := by rw [← hsz]; exact grownCap_ge _ _ _ _
        have hcapI : (1 + (q : Int)) ≤ ((bcap (wr.alloc o0) (Utf8.encode c) : Nat) : Int) := by omega
        have hcapN : ¬ bcap (wr.alloc o0) (Utf8.encode c) = 1 + q := by omega
        have hqI : (1 + (q : Int)) ≤ (L : Int) := by omega
        have hqI0 : (0 : Int) ≤ 1 + (q : Int) := by omega
        have HKP : Hid (∀ k, k < w.heap.size → endsK wr k) := fun k hk => ⟨by have := hkp.size; omega, by have := hkp.size; omega⟩
        clear F1 F2 F3 F5 F6 ok1 ok2 ok3 fin2 fin3 hsplit hpp huu hpl1 hul1 HP HT2 HC HC3 HCH HL hn0
        go_wp2_with (go_at_call 10; refine hnew.mono ?_; rintro e w1 ⟨rfl, rfl⟩)
        refine (hf1 _).mono ?_
        rintro e w2 ⟨rfl, hd2, hk2⟩
        clear hf1 hnew
        go_wp2_with fail
        refine (hf2 _ _ hd2 hk2).mono ?_
        rintro e w3 ⟨rfl, hd3, hk3⟩
        have hk23 := hk2.trans hk3
        clear hf2 hd2 hk2 hk3
        go_wp2_with fail
        refine (hg2 _ hd3).mono ?_
        rintro e w4 ⟨rfl, rfl⟩
        have hd4 : Dec (endsK wr) w3.drew wr.heap.size ((St.new.feed tl).feed pp) := ⟨hd3.nb, hd3.lt, hd3.ok, hd3.blk⟩
        have hk4 := hk23.drew
        clear hg2 hd3 hk23
        go_wp2_with fail
        refine (hf3 _ _ hd4 hk4).mono ?_
        rintro e w5 ⟨rfl, hd5, hk5⟩
        have hk45 := hk4.trans hk5
        clear hf3 hd4 hk4 hk5
        go_wp2_with fail
        refine (hg3 _ hd5).mono ?_
        rintro e w6 ⟨rfl, rfl⟩
        clear hg3 hd5
        go_wp2
        go_ret
        exact ⟨rfl, ((hkp.trans (F4.mono fun k hk => Nat.lt_of_lt_of_le hk hkp.size)).trans (hk45.mono HKP.out)).drew⟩

theorem ends_walk (s : ByteArray) (c k : Int) (w : World) (hs : s.size ≤ maxLen) (hk0 : 0 ≤ k) (hk1 : k ≤ 255) :
    Calls Try.prog 3 #[.string s, .int .i32 c, .int .u8 k] w fun e w' => e = .returned (.bool true) ∧ Kept (fun k => k < w.heap.size) w w' := by
  by_cases hbad : 500 < s.size ∨ c < 128 ∨ 1114111 < c ∨ (55296 ≤ c ∧ c ≤ 57343) ∨ c = 65279
  · exact ends_bad s c k w hs hbad
  · exact ends_good s c k w (by omega) (by omega) (by omega) (by omega) (by omega) hk0 hk1
end Go.Proofs.Ytnfallgpnoofiaa
