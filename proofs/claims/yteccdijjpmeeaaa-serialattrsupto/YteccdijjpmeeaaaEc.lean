/-
  What escape.Text and escape.Value answer.
-/
import Derived.Test.YteccdijjpmeeaaaEb
import Derived.Deep.QuietTactic
import Derived.BigQuiet
import Derived.Deep.LoopGhost
namespace Go.Proofs.Yteccdijjpmeeaaa
open Go.RowKit
set_option linter.unusedVariables false
set_option maxRecDepth 100000
set_option maxHeartbeats 4000000
theorem Bld.kept {K : Nat → Prop} {w w' : World} {b : Nat} {l : List UInt8} (h : Bld K w b l) (hk : ∀ g, ¬ K g → g < w.heap.size → w'.heap[g]? = w.heap[g]?) : Bld K w' b l := by
  obtain ⟨h1, p, ao, cap, h2, h3, h4⟩ := h
  exact ⟨h1, p, ao, cap, by rw [hk b h1 (lt_block h2)]; exact h2, h3, h4.of fun g hg hl => hk g (fun h => hg (.inl h)) hl⟩
/-- A character, and what is written in its stead. -/
structure Rep where
  char : ByteArray
  written : ByteArray
def tabT : List Rep := [⟨⟨#[38]⟩, ⟨#[38, 97, 109, 112, 59]⟩⟩, ⟨⟨#[60]⟩, ⟨#[38, 108, 116, 59]⟩⟩, ⟨⟨#[62]⟩, ⟨#[38, 103, 116, 59]⟩⟩, ⟨⟨#[194, 160]⟩, ⟨#[38, 110, 98, 115, 112, 59]⟩⟩]
def tabQ : Rep := ⟨⟨#[34]⟩, ⟨#[38, 113, 117, 111, 116, 59]⟩⟩
def tabOf (q : Bool) : List Rep := if q = true then tabT ++ [tabQ] else tabT
def stE (l : ByteArray) (st : ByteArray × Nat) (r : Rep) : ByteArray × Nat := if preS r.char l = true then (r.written, r.char.size) else st
def foldE (l : ByteArray) (st : ByteArray × Nat) (rs : List Rep) : ByteArray × Nat := rs.foldl (stE l) st
theorem foldE_snoc (l : ByteArray) (st : ByteArray × Nat) (rs : List Rep) (r : Rep) : foldE l st (rs ++ [r]) = stE l (foldE l st rs) r := by
  unfold foldE
  rw [List.foldl_append]
  rfl
theorem pre1 (a c : UInt8) (l : ByteArray) (t : List UInt8) (h : l.data.toList = c :: t) : preS ⟨#[a]⟩ l = (a == c) := by
  unfold preS
  rw [h]
  show (a == c && true) = _
  rw [Bool.and_true]
theorem pre_nb (c : UInt8) (l : ByteArray) (t : List UInt8) (h : l.data.toList = c :: t) : preS ⟨#[194, 160]⟩ l = nbq (c :: t) := by
  unfold preS
  rw [h]
  cases t with
  | nil =>
    have : nbq [c] = false := by
      rw [Bool.eq_false_iff]
      intro hh
      obtain ⟨r, hr⟩ := nbq_iff.1 hh
      injection hr with _ h2
      cases h2
    rw [this]
    show ((194 : UInt8) == c && false) = false
    rw [Bool.and_false]
  | cons d t =>
    by_cases hc : c = 194 ∧ d = 160
    · rw [hc.1, hc.2]; rfl
    · have : nbq (c :: d :: t) = false := by
        rw [Bool.eq_false_iff]
        intro hh
        obtain ⟨r, hr⟩ := nbq_iff.1 hh
        injection hr with h1 h2
        injection h2 with h3 _
        exact hc ⟨h1, h3⟩
      rw [this]
      show ((194 : UInt8) == c && ((160 : UInt8) == d && true)) = false
      rw [Bool.eq_false_iff]
      intro hh
      simp at hh
      exact hc ⟨hh.1.symm, hh.2.symm⟩
theorem foldE_front (q : Bool) (c : UInt8) (l b : ByteArray) (t : List UInt8) (h : l.data.toList = c :: t) (hb : b.data.toList = [c]) : (foldE l (b, 1) (tabOf q)).1.data.toList = front q (c :: t) ∧ (foldE l (b, 1) (tabOf q)).2 = far (c :: t) := by
  have p1 := pre1 38 c l t h
  have p2 := pre1 60 c l t h
  have p3 := pre1 62 c l t h
  have p4 := pre1 34 c l t h
  have p5 := pre_nb c l t h
  have hk : ∀ r st, stE l st r = if preS r.char l = true then (r.written, r.char.size) else st := fun _ _ => rfl
  have key : foldE l (b, 1) (tabOf q) = if nbq (c :: t) = true then (⟨#[38, 110, 98, 115, 112, 59]⟩, 2) else if c = 38 then (⟨#[38, 97, 109, 112, 59]⟩, 1) else if c = 60 then (⟨#[38, 108, 116, 59]⟩, 1) else if c = 62 then (⟨#[38, 103, 116, 59]⟩, 1) else if q = true ∧ c = 34 then (⟨#[38, 113, 117, 111, 116, 59]⟩, 1) else (b, 1) := by
    have hT : foldE l (b, 1) tabT = if nbq (c :: t) = true then (⟨#[38, 110, 98, 115, 112, 59]⟩, 2) else if c = 62 then (⟨#[38, 103, 116, 59]⟩, 1) else if c = 60 then (⟨#[38, 108, 116, 59]⟩, 1) else if c = 38 then (⟨#[38, 97, 109, 112, 59]⟩, 1) else (b, 1) := by
      show stE l (stE l (stE l (stE l (b, 1) _) _) _) _ = _
      rw [hk, hk, hk, hk]
      dsimp only
      rw [p1, p2, p3, p5]
      simp only [beq_iff_eq, eq_comm (b := c)]
      rfl
    by_cases hn : nbq (c :: t) = true
    · obtain ⟨r, hr⟩ := nbq_iff.1 hn
      have hc : c = 194 := by injection hr
      rw [if_pos hn] at hT ⊢
      unfold tabOf
      split
      · rw [foldE_snoc, hT, hk]
        rw [show tabQ.char = ⟨#[34]⟩ from rfl, p4, hc]
        rfl
      · exact hT
    · rw [if_neg hn] at hT ⊢
      unfold tabOf
      cases q with
      | false =>
        rw [if_neg (by decide), hT]
        by_cases h1 : c = 38
        · simp [h1]
        · by_cases h2 : c = 60
          · simp [h2]
          · by_cases h3 : c = 62
            · simp [h3]
            · simp [h1, h2, h3]
      | true =>
        rw [if_pos rfl, foldE_snoc, hT, hk, show tabQ.char = ⟨#[34]⟩ from rfl, p4]
        by_cases h1 : c = 38
        · simp [h1]
        · by_cases h2 : c = 60
          · simp [h2]
          · by_cases h3 : c = 62
            · simp [h3]
            · by_cases h4 : c = 34
              · simp [h4]; exact ⟨rfl, rfl⟩
              · simp [h1, h2, h3, h4, Ne.symm h4]
  rw [key, front_cons]
  unfold far one
  by_cases hn : nbq (c :: t) = true
  · rw [if_pos hn, if_pos hn, if_pos hn]; exact ⟨rfl, rfl⟩
  · rw [if_neg hn, if_neg hn, if_neg hn]
    repeat' split
    all_goals first | exact ⟨rfl, rfl⟩ | exact ⟨hb, rfl⟩
theorem tab_short (q : Bool) : ∀ r ∈ tabOf q, r.char.size ≤ 2 ∧ r.written.size ≤ 6 := by
  cases q
  · show ∀ r ∈ tabT, _
    intro r hr
    simp only [tabT, List.mem_cons, List.not_mem_nil, or_false] at hr
    rcases hr with rfl | rfl | rfl | rfl <;> decide
  · show ∀ r ∈ tabT ++ [tabQ], _
    intro r hr
    simp only [tabT, tabQ, List.cons_append, List.nil_append, List.mem_cons, List.not_mem_nil, or_false] at hr
    rcases hr with rfl | rfl | rfl | rfl | rfl <;> decide
theorem foldE_short (l b : ByteArray) (hb : b.size ≤ 6) : ∀ (rs : List Rep), (∀ r ∈ rs, r.char.size ≤ 2 ∧ r.written.size ≤ 6) → (foldE l (b, 1) rs).1.size ≤ 6 ∧ (foldE l (b, 1) rs).2 ≤ 2 := by
  have key : ∀ (rs : List Rep) (st : ByteArray × Nat), (∀ r ∈ rs, r.char.size ≤ 2 ∧ r.written.size ≤ 6) → st.1.size ≤ 6 ∧ st.2 ≤ 2 → (foldE l st rs).1.size ≤ 6 ∧ (foldE l st rs).2 ≤ 2 := by
    intro rs
    induction rs with
    | nil => exact fun _ _ h => h
    | cons r rs ih =>
      intro st hm h
      refine ih _ (fun r hr => hm r (List.mem_cons_of_mem _ hr)) ?_
      unfold stE
      have := hm r List.mem_cons_self
      split
      · exact ⟨this.2, this.1⟩
      · exact h
  exact fun rs h => key rs _ h ⟨hb, by show 1 ≤ 2; omega⟩
theorem pre_q (s p : ByteArray) (w : World) : Calls Try.prog 75 #[.string s, .string p] w fun e w' => e = .returned (.bool (preS p s)) ∧ ∃ m, w' = w.drewN m :=
  (pre_any s p w).mono fun _ _ h => ⟨h.1, 0, h.2⟩
/-- The list of what is replaced, in memory. -/
def Lies (w : World) (g : Nat) (rs : List Rep) : Prop := ∀ k (h : k < rs.length), w.cell? ⟨g, k * 2, none⟩ = some (.string rs[k].char) ∧ w.cell? ⟨g, k * 2 + 1, none⟩ = some (.string rs[k].written)
theorem Lies.kept {K : Nat → Prop} {w w' : World} {g : Nat} {rs : List Rep} (h : Lies w g rs) (k : Kept K w w') (hg : K g) : Lies w' g rs := fun j hj => by
  obtain ⟨h1, h2⟩ := h j hj
  exact ⟨by rw [k.cell (p := ⟨g, j * 2, none⟩) hg]; exact h1, by rw [k.cell (p := ⟨g, j * 2 + 1, none⟩) hg]; exact h2⟩
def cellsT : Array Value := #[.string ⟨#[38]⟩, .string ⟨#[38, 97, 109, 112, 59]⟩, .string ⟨#[60]⟩, .string ⟨#[38, 108, 116, 59]⟩, .string ⟨#[62]⟩, .string ⟨#[38, 103, 116, 59]⟩, .string ⟨#[194, 160]⟩, .string ⟨#[38, 110, 98, 115, 112, 59]⟩]
theorem everywhere_any (w : World) :
    Calls Try.prog 71 #[] w fun e w' => e = .returned (.slice (some ⟨w.heap.size, 0, none⟩) 4 4) ∧ w' = w.alloc (.cells cellsT 121) := by
  go_enter Try.func71, Try.ntmps71
  go_wp2
  go_ret
  exact ⟨rfl, rfl⟩
set_option maxRecDepth 20000 in
set_option maxHeartbeats 1000000 in
theorem replaced_any (s : ByteArray) (q : Bool) (rs : List Rep) (hrs : rs = tabOf q) (g cap : Nat) (K : Nat → Prop) (w : World) (hK : ∀ k, K k → k < w.heap.size) (hs : s.size < 1000000) (hg : K g) (hL : Lies w g rs) :
    Calls Try.prog 70 #[.string s, .slice (some ⟨g, 0, none⟩) rs.length cap] w fun e w' => e = .returned (.string ⟨(esc q s.data.toList).toArray⟩) ∧ Kept K w w' := by
  have hshort : ∀ r ∈ rs, r.char.size ≤ 2 ∧ r.written.size ≤ 6 := by rw [hrs]; exact tab_short q
  have hrl : rs.length ≤ 5 := by rw [hrs]; cases q <;> decide
  have hl0 : s.data.toList.length = s.size := rfl
  obtain ⟨A, hA⟩ : ∃ A, esc q s.data.toList = A := ⟨_, rfl⟩
  rw [hA]
  have HA : Hid ([] ++ esc q (s.data.toList.drop 0) = A) := hA
  have HS : Hid (rs = tabOf q) := hrs
  have HL : Hid (Lies w g rs) := hL
  have HH : Hid (∀ r ∈ rs, r.char.size ≤ 2 ∧ r.written.size ≤ 6) := hshort
  clear hA hrs hL hshort
  obtain ⟨B, hB⟩ : ∃ B, w.heap.size = B := ⟨_, rfl⟩
  have hKB : ¬ K B := fun h => by have := hK B h; omega
  obtain ⟨n, hn⟩ : ∃ n, rs.length = n := ⟨_, rfl⟩
  rw [hn] at hrl ⊢
  go_enter Try.func70, Try.ntmps70
  go_wp2_with fail
  go_loopg [6] s.size (fun gm i wr => ∃ (k : Nat) (out : List UInt8), gm = s.size - k ∧ k ≤ s.size ∧ i = .int .i64 k ∧ out ++ esc q (s.data.toList.drop k) = A ∧ out.length ≤ 6 * k ∧ Bld K wr B out ∧ Kept K w wr)
  case atStart =>
    refine ⟨0, [], rfl, Nat.zero_le _, rfl, HA.out, Nat.zero_le _, ⟨hKB, none, none, 0, ?_, .inl rfl, ⟨rfl, Nat.le_refl _, Nat.zero_le _, .inl ⟨rfl, rfl⟩⟩⟩, (Kept.refl K w).alloc hK _⟩
    rw [← hB]
    exact heap_alloc_new w _
  case round =>
    clear HA
    obtain ⟨k, out, hgk, hk, rfl, HO, hol, hbld, hkp⟩ := hrel
    have HO : Hid (out ++ esc q (s.data.toList.drop k) = A) := HO
    have hKr : ∀ k, K k → k < wr.heap.size := fun k hk => Nat.lt_of_lt_of_le (hK k hk) hkp.size
    by_cases hlt : k < s.size
    · have hone : (s.extract k (k + 1)).data.toList = [s[k]] := by
        rw [extract_list, List.drop_take, Nat.add_sub_cancel_left, drop_cons hlt]
        rfl
      have hosz : (s.extract k (k + 1)).size = 1 := congrArg List.length hone
      obtain ⟨K2, hK2⟩ : ∃ K2 : Nat → Prop, (fun k => k < wr.heap.size) = K2 := ⟨_, rfl⟩
      have hkw : ∀ k, k < wr.heap.size → K2 k := fun k hk => by rw [← hK2]; exact hk
      have hkv : ∀ k, K2 k → k < wr.heap.size := fun k hk => by rw [← hK2] at hk; exact hk
      have hlr := HL.out.kept hkp hg
      have HB : Hid (∀ W, Kept K2 wr W → Bld K W B out) := fun W h => hbld.kept fun g _ hg => h.block g (hkw g hg)
      have HKW : Hid (∀ W, Kept K2 wr W → Kept K w W) := fun W h => hkp.trans (h.mono fun k hk => hkw k (hKr k hk))
      have hg2 := hkw g (hKr g hg)
      have HLR : Hid (Lies wr g rs) := hlr
      clear hlr hbld hK2 hkw hkp
      obtain ⟨WR, hWR⟩ : ∃ W, wr = W := ⟨_, rfl⟩
      rw [hWR] at hkv hKr HB HKW HLR ⊢
      clear hWR
      go_wp2_with fail
      go_loopg [7, 8, 22] n (fun gm wv nv iv wi => ∃ j : Nat, gm = n - j ∧ j ≤ n ∧ iv = .int .i64 j ∧ wv = .string (foldE (s.extract k s.size) (s.extract k (k + 1), 1) (rs.take j)).1 ∧ nv = .int .i64 (foldE (s.extract k s.size) (s.extract k (k + 1), 1) (rs.take j)).2 ∧ Kept K2 WR wi)
      case atStart =>
        exact ⟨0, rfl, Nat.zero_le _, rfl, rfl, rfl, Kept.refl _ _⟩
      case round =>
        obtain ⟨j, hgj, hj, rfl, rfl, rfl, hkj⟩ := hrel
        by_cases hjn : j < n
        · have hjr : j < rs.length := by omega
          have hlies := HLR.out.kept hkj hg2
          obtain ⟨hc1, hc2⟩ := hlies j hjr
          have hsh := HH.out rs[j] (List.getElem_mem hjr)
          have HF : Hid (foldE (s.extract k s.size) (s.extract k (k + 1), 1) (rs.take (j + 1)) = stE (s.extract k s.size) (foldE (s.extract k s.size) (s.extract k (k + 1), 1) (rs.take j)) rs[j]) := by
            show foldE _ _ _ = _
            rw [List.take_succ_eq_append_getElem hjr, foldE_snoc]
          obtain ⟨r, hr⟩ : ∃ r, rs[j] = r := ⟨_, rfl⟩
          rw [hr] at hc1 hc2 hsh HF
          obtain ⟨st, hst⟩ : ∃ st, foldE (s.extract k s.size) (s.extract k (k + 1), 1) (rs.take j) = st := ⟨_, rfl⟩
          rw [hst] at HF ⊢
          obtain ⟨a, b⟩ := r
          dsimp only at hc1 hc2 hsh
          have hpre := fun X => pre_q (s.extract k s.size) a X
          have HF2 : Hid (foldE (s.extract k s.size) (s.extract k (k + 1), 1) (rs.take (j + 1)) = if preS a (s.extract k s.size) = true then (b, a.size) else st) := HF.out
          obtain ⟨p, hp⟩ : ∃ p, preS a (s.extract k s.size) = p := ⟨_, rfl⟩
          rw [hp] at hpre HF2
          have hkn : ∀ o m, Kept K2 WR ((wr.alloc o).drewN m) := fun o m => (hkj.alloc (fun k hk => Nat.lt_of_lt_of_le (hkv k hk) hkj.size) o).drewN m
          clear hst hr hp HF HO hlies
          cases p with
          | false =>
            go_wp2_with fail
            go_quiet ((go_at_call 75; exact Calls.quiet_of (hpre _)))
            go_wp2
            go_roundg (n - (j + 1))
            case rel => exact ⟨j + 1, rfl, by omega, by go_num, by rw [HF2.out]; rfl, by rw [HF2.out]; rfl, hkn _ _⟩
            case measure => omega
          | true =>
            go_wp2_with fail
            go_quiet ((go_at_call 75; exact Calls.quiet_of (hpre _)))
            go_wp2_with fail
            go_quiet (fail)
            go_wp2
            go_roundg (n - (j + 1))
            case rel => exact ⟨j + 1, rfl, by omega, by go_num, by rw [HF2.out]; rfl, by rw [HF2.out]; rfl, hkn _ _⟩
            case measure => omega
        · have hjn' : j = n := by omega
          subst hjn'
          have hb := HB.out wr hkj
          have hkw := HKW.out wr hkj
          have HFR := foldE_front q s[k] (s.extract k s.size) (s.extract k (k + 1)) (s.data.toList.drop (k + 1)) (by
            rw [extract_list, show s.data.toList.take s.size = s.data.toList from List.take_length, drop_cons hlt]) hone
          have hFS := foldE_short (s.extract k s.size) (s.extract k (k + 1)) (by omega) rs HH.out
          have et : rs.take j = rs := by rw [← hn, List.take_length]
          rw [et]
          clear et
          rw [← HS.out] at HFR
          have hne : s.data.toList.drop k ≠ [] := by rw [drop_cons hlt]; exact List.cons_ne_nil _ _
          have HE : Hid ((out ++ front q (s.data.toList.drop k)) ++ esc q (s.data.toList.drop (k + far (s.data.toList.drop k))) = A) := by
            have := HO.out
            rw [esc_step q hne, List.drop_drop] at this
            show (out ++ front q _) ++ _ = A
            simpa using this
          have hfar := far_le hne
          rw [List.length_drop, hl0] at hfar
          have hfl := front_len q hne
          rw [← drop_cons hlt] at HFR
          obtain ⟨L, hL⟩ : ∃ L, front q (s.data.toList.drop k) = L := ⟨_, rfl⟩
          obtain ⟨f, hf⟩ : ∃ f, far (s.data.toList.drop k) = f := ⟨_, rfl⟩
          rw [hL, hf] at HFR
          rw [hL, hf] at HE hfl
          rw [hf] at hfar
          obtain ⟨st, hst⟩ : ∃ st, foldE (s.extract k s.size) (s.extract k (k + 1), 1) rs = st := ⟨_, rfl⟩
          rw [hst] at HFR hFS ⊢
          obtain ⟨tx, m⟩ := st
          dsimp only at HFR hFS ⊢
          obtain ⟨htx, rfl⟩ := HFR
          have htl : tx.data.toList.length = tx.size := rfl
          have hws := write_any K B out tx wr hb (fun k hk => Nat.lt_of_lt_of_le (hKr k hk) hkj.size) (by omega)
          rw [htx] at hws htl
          clear hst hL hf hne hn HB HKW HO HLR hb hone
          go_wp2_with fail
          refine hws.mono ?_
          rintro e w1 ⟨rfl, hb1, hk1⟩
          go_wp2
          go_roundg (s.size - (k + m))
          case rel => exact ⟨k + m, out ++ L, rfl, by omega, by go_num, HE.out, by rw [List.length_append]; omega, hb1, hkw.trans hk1⟩
          case measure => omega
    · have hAe : out = A := by
        have := HO.out
        rw [List.drop_eq_nil_of_le (show s.data.toList.length ≤ k by show s.size ≤ k; omega), esc_nil, List.append_nil] at this
        exact this
      subst hAe
      clear HO
      have hstr := string_any K B out wr hbld hKr (by omega)
      go_wp2_with fail
      refine hstr.mono ?_
      rintro e w1 ⟨rfl, hk1⟩
      go_wp2
      go_ret
      exact ⟨rfl, hkp.trans hk1⟩
theorem liesT {w : World} {g : Nat} {cs : Array Value} {tt : TypeId} (hb : w.heap[g]? = some (.cells cs tt (0, 0))) (hc : cs.toList.take 8 = cellsT.toList) : Lies w g (tabOf false) := by
  have key : ∀ i, i < 8 → w.cell? ⟨g, i, none⟩ = cellsT.toList[i]? := fun i hi => by
    rw [cell_block hb, ← hc, List.getElem?_take, if_pos hi, Array.getElem?_toList]
  intro k hk
  match k, hk with
  | 0, _ => exact ⟨key 0 (by decide), key 1 (by decide)⟩
  | 1, _ => exact ⟨key 2 (by decide), key 3 (by decide)⟩
  | 2, _ => exact ⟨key 4 (by decide), key 5 (by decide)⟩
  | 3, _ => exact ⟨key 6 (by decide), key 7 (by decide)⟩
  | n + 4, h => exact absurd h (by show ¬ (n + 4 < 4); omega)
def cellsQ : Array Value := #[.string ⟨#[34]⟩, .string ⟨#[38, 113, 117, 111, 116, 59]⟩]
theorem liesQ {w : World} {g : Nat} {cs : Array Value} {tt : TypeId} (hb : w.heap[g]? = some (.cells cs tt (0, 0))) (hc : cs.toList.take 10 = cellsT.toList ++ cellsQ.toList) : Lies w g (tabOf true) := by
  have key : ∀ i, i < 10 → w.cell? ⟨g, i, none⟩ = (cellsT.toList ++ cellsQ.toList)[i]? := fun i hi => by
    rw [cell_block hb, ← hc, List.getElem?_take, if_pos hi, Array.getElem?_toList]
  intro k hk
  match k, hk with
  | 0, _ => exact ⟨key 0 (by decide), key 1 (by decide)⟩
  | 1, _ => exact ⟨key 2 (by decide), key 3 (by decide)⟩
  | 2, _ => exact ⟨key 4 (by decide), key 5 (by decide)⟩
  | 3, _ => exact ⟨key 6 (by decide), key 7 (by decide)⟩
  | 4, _ => exact ⟨key 8 (by decide), key 9 (by decide)⟩
  | n + 5, h => exact absurd h (by show ¬ (n + 5 < 5); omega)
theorem text_any (s : ByteArray) (K : Nat → Prop) (w : World) (hK : ∀ k, K k → k < w.heap.size) (hs : s.size < 1000000) :
    Calls Try.prog 63 #[.string s] w fun e w' => e = .returned (.string ⟨(esc false s.data.toList).toArray⟩) ∧ Kept K w w' := by
  have h1 := everywhere_any w
  obtain ⟨W, hW⟩ : ∃ W, w.alloc (.cells cellsT 121) = W := ⟨_, rfl⟩
  obtain ⟨g, hg⟩ : ∃ g, w.heap.size = g := ⟨_, rfl⟩
  have hb : W.heap[g]? = some (.cells cellsT 121 (0, 0)) := by rw [← hW, ← hg]; exact heap_alloc_new w _
  obtain ⟨K', hK'⟩ : ∃ K' : Nat → Prop, (fun k => K k ∨ k = g) = K' := ⟨_, rfl⟩
  have hKW : ∀ k, K' k → k < W.heap.size := fun k hk => by
    rw [← hK'] at hk
    rcases hk with hk | rfl
    · have := hK k hk
      rw [← hW]
      simp
      omega
    · exact lt_block hb
  have hkk : Kept K w W := by rw [← hW]; exact (Kept.refl K w).alloc hK _
  have h2 := replaced_any s false (tabOf false) rfl g 4 K' W hKW hs (by rw [← hK']; exact .inr rfl) (liesT hb rfl)
  have hmono : ∀ k, K k → K' k := fun k hk => by rw [← hK']; exact .inl hk
  rw [hW, hg] at h1
  have h2 : Calls Try.prog 70 #[.string s, .slice (some ⟨g, 0, none⟩) 4 4] W fun e w' => e = .returned (.string ⟨(esc false s.data.toList).toArray⟩) ∧ Kept K' W w' := h2
  clear hW hg hb hK'
  go_enter Try.func63, Try.ntmps63
  go_wp2_with fail
  refine h1.mono ?_
  rintro e w1 ⟨rfl, rfl⟩
  go_wp2_with fail
  refine h2.mono ?_
  rintro e w2 ⟨rfl, hk2⟩
  go_wp2
  go_ret
  exact ⟨rfl, hkk.trans (hk2.mono hmono)⟩
theorem infoR : (Try.prog.info? 121).map (fun i => (i.zero, i.size, i.bytes)) = some (some (.agg #[.string ⟨#[]⟩, .string ⟨#[]⟩]), 2, 32) := by kernel_rfl
/-- 'append(everywhere(), ..)': the list grows. -/
theorem run_appQ (W : World) (g q : Nat) (hg : W.heap[g]? = some (.cells cellsT 121 (0, 0))) (hq : W.heap[q]? = some (.cells cellsQ 121 (0, 0))) :
    ∃ cap W' cs, (Builtin.append_ #[118, 118] 118 #[.slice (some ⟨g, 0, none⟩) 4 4, .slice (some ⟨q, 0, none⟩) 1 1]).run Try.prog W = .ok (.slice (some ⟨W.heap.size, 0, none⟩) 5 cap) W' ∧ W' = W.drew.alloc (.cells cs 121) ∧ cs.toList.take 10 = cellsT.toList ++ cellsQ.toList := by
  obtain ⟨i, hi, hp⟩ := Option.map_eq_some_iff.1 infoR
  have hz : i.zero = some (.agg #[.string ⟨#[]⟩, .string ⟨#[]⟩]) := congrArg (·.1) hp
  have hsz : i.size = 2 := congrArg (·.2.1) hp
  have hby : i.bytes = 32 := congrArg (·.2.2) hp
  have hold : (Builtin.firstCells i.size 4 (.slice (some ⟨g, 0, none⟩) 4 4)).run Try.prog W.drew = .ok cellsT.toList.toArray W.drew := by
    refine run_firstCells_some W.drew i.size 4 ⟨g, 0, none⟩ 4 4 cellsT.toList (by rw [hsz]; rfl) fun j u hj => ?_
    have hg' : W.drew.heap[g]? = some (.cells cellsT 121 (0, 0)) := hg
    rw [Addr.add_lit, Nat.zero_add, cell_block hg', ← Array.getElem?_toList, hj]
  have hsrc : Src Try.prog i.size 118 (.slice (some ⟨q, 0, none⟩) 1 1) 1 cellsQ.toList W := by
    refine Src.ofSlice W Try.underlying118 ⟨q, 0, none⟩ 1 1 cellsQ.toList (by rw [hsz]; rfl) (fun j u hj => ?_) (fun u hu => ?_)
    · rw [Addr.add_lit, Nat.zero_add, cell_block hq, ← Array.getElem?_toList, hj]
    · simp only [cellsQ, List.mem_cons, List.not_mem_nil, or_false] at hu
      rcases hu with rfl | rfl <;> rfl
  have hr := run_append_grow_src (P := Try.prog) W 118 118 118 121 i _ Try.underlying118 hi hz (some ⟨g, 0, none⟩) 4 4 cellsT.toList hold (.slice (some ⟨q, 0, none⟩) 1 1) 1 cellsQ.toList hsrc (by omega) (by omega) (growslice_fits (by omega) (by rw [hby]; omega))
  exact ⟨_, _, _, hr, rfl, by rw [Array.toList_append]; rfl⟩
set_option maxRecDepth 20000 in
theorem value_any (s : ByteArray) (K : Nat → Prop) (w : World) (hK : ∀ k, K k → k < w.heap.size) (hs : s.size < 1000000) :
    Calls Try.prog 65 #[.string s] w fun e w' => e = .returned (.string ⟨(esc true s.data.toList).toArray⟩) ∧ Kept K w w' := by
  have h1 := everywhere_any w
  obtain ⟨W, hW⟩ : ∃ W, w.alloc (.cells cellsT 121) = W := ⟨_, rfl⟩
  obtain ⟨g, hg⟩ : ∃ g, w.heap.size = g := ⟨_, rfl⟩
  have hb : W.heap[g]? = some (.cells cellsT 121 (0, 0)) := by rw [← hW, ← hg]; exact heap_alloc_new w _
  have hKW : ∀ k, K k → k < W.heap.size := fun k hk => by
    have := hK k hk
    rw [← hW]
    simp
    omega
  have hkk : Kept K w W := by rw [← hW]; exact (Kept.refl K w).alloc hK _
  rw [hW, hg] at h1
  clear hW hg
  obtain ⟨cap, W2, cs, hrun, hW2, hcs⟩ := run_appQ (W.alloc (.cells cellsQ 121)) g W.heap.size (heap_alloc_past hb _) (heap_alloc_new W _)
  obtain ⟨p, hp⟩ : ∃ p, (W.alloc (.cells cellsQ 121)).heap.size = p := ⟨_, rfl⟩
  rw [hp] at hrun
  have hb2 : W2.heap[p]? = some (.cells cs 121 (0, 0)) := by rw [hW2, ← hp]; exact heap_alloc_new _ _
  have hkk2 : Kept K w W2 := by
    rw [hW2]
    exact ((hkk.alloc hKW _).drew).alloc (fun k hk => by have := hKW k hk; simp; omega) _
  obtain ⟨K', hK'⟩ : ∃ K' : Nat → Prop, (fun k => K k ∨ k = p) = K' := ⟨_, rfl⟩
  have hK2 : ∀ k, K' k → k < W2.heap.size := fun k hk => by
    rw [← hK'] at hk
    rcases hk with hk | rfl
    · exact Nat.lt_of_lt_of_le (hK k hk) hkk2.size
    · exact lt_block hb2
  have h2 := replaced_any s true (tabOf true) rfl p cap K' W2 hK2 hs (by rw [← hK']; exact .inr rfl) (liesQ hb2 hcs)
  have h2 : Calls Try.prog 70 #[.string s, .slice (some ⟨p, 0, none⟩) 5 cap] W2 fun e w' => e = .returned (.string ⟨(esc true s.data.toList).toArray⟩) ∧ Kept K' W2 w' := h2
  have hmono : ∀ k, K k → K' k := fun k hk => by rw [← hK']; exact .inl hk
  clear hb2 hW2 hcs hp hK' hb
  go_enter Try.func65, Try.ntmps65
  go_wp2_with fail
  refine h1.mono ?_
  rintro e w1 ⟨rfl, rfl⟩
  go_wp2_with (at_builtin; refine wpList_appR (w' := W2) rfl (.tmp 4) (.tmp 6) 118 118 rfl _ _ (.slice (some ⟨p, 0, none⟩) 5 cap) rfl rfl hrun ?_)
  refine h2.mono ?_
  rintro e w2 ⟨rfl, hk2⟩
  go_wp2
  go_ret
  exact ⟨rfl, hkk2.trans (hk2.mono hmono)⟩
end Go.Proofs.Yteccdijjpmeeaaa
