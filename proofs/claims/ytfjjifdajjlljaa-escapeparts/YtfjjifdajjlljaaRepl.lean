/-
  What the program's everywhere and replaced answer.
-/
import Derived.Test.YtfjjifdajjlljaaWrit
import Derived.Test.YtfjjifdajjlljaaBld
import Derived.Deep.QuietTactic
import Derived.BigQuiet
namespace Go.Proofs.Ytfjjifdajjlljaa
open Go.RowKit

theorem Bld.kept {K : Nat → Prop} {w w' : World} {b : Nat} {l : List UInt8} (h : Bld K w b l) (hk : ∀ g, ¬ K g → g < w.heap.size → w'.heap[g]? = w.heap[g]?) : Bld K w' b l := by
  obtain ⟨h1, p, ao, cap, h2, h3, h4⟩ := h
  exact ⟨h1, p, ao, cap, by rw [hk b h1 (lt_block h2)]; exact h2, h3, h4.of fun g hg hl => hk g (fun h => hg (.inl h)) hl⟩

/-- A character, and what is written in its stead. -/
structure Rep where
  char : ByteArray
  written : ByteArray
def tabT : List Rep := [⟨⟨#[38]⟩, ⟨#[38, 97, 109, 112, 59]⟩⟩, ⟨⟨#[60]⟩, ⟨#[38, 108, 116, 59]⟩⟩, ⟨⟨#[62]⟩, ⟨#[38, 103, 116, 59]⟩⟩, ⟨⟨#[194, 160]⟩, ⟨#[38, 110, 98, 115, 112, 59]⟩⟩]
def tabQ : Rep := ⟨⟨#[34]⟩, ⟨#[38, 113, 117, 111, 116, 59]⟩⟩
def tabOf (q : Bool) : List Rep := if q = true then tabT ++ [tabQ] else tabT
def stE (l : ByteArray) (st : ByteArray × Nat) (r : Rep) : ByteArray × Nat := if preS r.char l = true then (r.written, r.char.size) else st
def foldE (l : ByteArray) (st : ByteArray × Nat) (rs : List Rep) : ByteArray × Nat := rs.foldl (stE l) st
theorem foldE_snoc (l : ByteArray) (st : ByteArray × Nat) (rs : List Rep) (r : Rep) : foldE l st (rs ++ [r]) = stE l (foldE l st rs) r := by
  unfold foldE
  rw [List.foldl_append]
  rfl
theorem pre1 (a c : UInt8) (l : ByteArray) (t : List UInt8) (h : l.data.toList = c :: t) : preS ⟨#[a]⟩ l = (a == c) := by
  unfold preS
  rw [h]
  show (a == c && true) = _
  rw [Bool.and_true]
theorem pre_nb (c : UInt8) (l : ByteArray) (t : List UInt8) (h : l.data.toList = c :: t) : preS ⟨#[194, 160]⟩ l = nbq (c :: t) := by
  unfold preS
  rw [h]
  cases t with
  | nil =>
    have : nbq [c] = false := by
      rw [Bool.eq_false_iff]
      intro hh
      obtain ⟨r, hr⟩ := nbq_iff.1 hh
      injection hr with _ h2
      cases h2
    rw [this]
    show ((194 : UInt8) == c && false) = false
    rw [Bool.and_false]
  | cons d t =>
    by_cases hc : c = 194 ∧ d = 160
    · rw [hc.1, hc.2]; rfl
    · have : nbq (c :: d :: t) = false := by
        rw [Bool.eq_false_iff]
        intro hh
        obtain ⟨r, hr⟩ := nbq_iff.1 hh
        injection hr with h1 h2
        injection h2 with h3 _
        exact hc ⟨h1, h3⟩
      rw [this]
      show ((194 : UInt8) == c && ((160 : UInt8) == d && true)) = false
      rw [Bool.eq_false_iff]
      intro hh
      simp at hh
      exact hc ⟨hh.1.symm, hh.2.symm⟩
theorem foldE_front (q : Bool) (c : UInt8) (l b : ByteArray) (t : List UInt8) (h : l.data.toList = c :: t) (hb : b.data.toList = [c]) : (foldE l (b, 1) (tabOf q)).1.data.toList = front q (c :: t) ∧ (foldE l (b, 1) (tabOf q)).2 = far (c :: t) := by
  have p1 := pre1 38 c l t h
  have p2 := pre1 60 c l t h
  have p3 := pre1 62 c l t h
  have p4 := pre1 34 c l t h
  have p5 := pre_nb c l t h
  have hk : ∀ r st, stE l st r = if preS r.char l = true then (r.written, r.char.size) else st := fun _ _ => rfl
  have key : foldE l (b, 1) (tabOf q) = if nbq (c :: t) = true then (⟨#[38, 110, 98, 115, 112, 59]⟩, 2) else if c = 38 then (⟨#[38, 97, 109, 112, 59]⟩, 1) else if c = 60 then (⟨#[38, 108, 116, 59]⟩, 1) else if c = 62 then (⟨#[38, 103, 116, 59]⟩, 1) else if q = true ∧ c = 34 then (⟨#[38, 113, 117, 111, 116, 59]⟩, 1) else (b, 1) := by
    have hT : foldE l (b, 1) tabT = if nbq (c :: t) = true then (⟨#[38, 110, 98, 115, 112, 59]⟩, 2) else if c = 62 then (⟨#[38, 103, 116, 59]⟩, 1) else if c = 60 then (⟨#[38, 108, 116, 59]⟩, 1) else if c = 38 then (⟨#[38, 97, 109, 112, 59]⟩, 1) else (b, 1) := by
      show stE l (stE l (stE l (stE l (b, 1) _) _) _) _ = _
      rw [hk, hk, hk, hk]
      dsimp only
      rw [p1, p2, p3, p5]
      simp only [beq_iff_eq, eq_comm (b := c)]
      rfl
    by_cases hn : nbq (c :: t) = true
    · obtain ⟨r, hr⟩ := nbq_iff.1 hn
      have hc : c = 194 := by injection hr
      rw [if_pos hn] at hT ⊢
      unfold tabOf
      split
      · rw [foldE_snoc, hT, hk]
        rw [show tabQ.char = ⟨#[34]⟩ from rfl, p4, hc]
        rfl
      · exact hT
    · rw [if_neg hn] at hT ⊢
      unfold tabOf
      cases q with
      | false =>
        rw [if_neg (by decide), hT]
        by_cases h1 : c = 38
        · simp [h1]
        · by_cases h2 : c = 60
          · simp [h2]
          · by_cases h3 : c = 62
            · simp [h3]
            · simp [h1, h2, h3]
      | true =>
        rw [if_pos rfl, foldE_snoc, hT, hk, show tabQ.char = ⟨#[34]⟩ from rfl, p4]
        by_cases h1 : c = 38
        · simp [h1]
        · by_cases h2 : c = 60
          · simp [h2]
          · by_cases h3 : c = 62
            · simp [h3]
            · by_cases h4 : c = 34
              · simp [h4]; exact ⟨rfl, rfl⟩
              · simp [h1, h2, h3, h4, Ne.symm h4]
  rw [key, front_cons]
  unfold far one
  by_cases hn : nbq (c :: t) = true
  · rw [if_pos hn, if_pos hn, if_pos hn]; exact ⟨rfl, rfl⟩
  · rw [if_neg hn, if_neg hn, if_neg hn]
    repeat' split
    all_goals first | exact ⟨rfl, rfl⟩ | exact ⟨hb, rfl⟩

theorem tab_short (q : Bool) : ∀ r ∈ tabOf q, r.char.size ≤ 2 ∧ r.written.size ≤ 6 := by
  cases q
  · show ∀ r ∈ tabT, _
    intro r hr
    simp only [tabT, List.mem_cons, List.not_mem_nil, or_false] at hr
    rcases hr with rfl | rfl | rfl | rfl <;> decide
  · show ∀ r ∈ tabT ++ [tabQ], _
    intro r hr
    simp only [tabT, tabQ, List.cons_append, List.nil_append, List.mem_cons, List.not_mem_nil, or_false] at hr
    rcases hr with rfl | rfl | rfl | rfl | rfl <;> decide
theorem foldE_short (l b : ByteArray) (hb : b.size ≤ 6) : ∀ (rs : List Rep), (∀ r ∈ rs, r.char.size ≤ 2 ∧ r.written.size ≤ 6) → (foldE l (b, 1) rs).1.size ≤ 6 ∧ (foldE l (b, 1) rs).2 ≤ 2 := by
  have key : ∀ (rs : List Rep) (st : ByteArray × Nat), (∀ r ∈ rs, r.char.size ≤ 2 ∧ r.written.size ≤ 6) → st.1.size ≤ 6 ∧ st.2 ≤ 2 → (foldE l st rs).1.size ≤ 6 ∧ (foldE l st rs).2 ≤ 2 := by
    intro rs
    induction rs with
    | nil => exact fun _ _ h => h
    | cons r rs ih =>
      intro st hm h
      refine ih _ (fun r hr => hm r (List.mem_cons_of_mem _ hr)) ?_
      unfold stE
      have := hm r List.mem_cons_self
      split
      · exact ⟨this.2, this.1⟩
      · exact h
  exact fun rs h => key rs _ h ⟨hb, by show 1 ≤ 2; omega⟩

theorem pre_q (s p : ByteArray) (w : World) : Calls Try.prog 18 #[.string s, .string p] w fun e w' => e = .returned (.bool (preS p s)) ∧ ∃ m, w' = w.drewN m :=
  (pre_any s p w).mono fun _ _ h => ⟨h.1, 0, h.2⟩

/-- The list of what is replaced, in memory. -/
def Lies (w : World) (g : Nat) (rs : List Rep) : Prop := ∀ k (h : k < rs.length), w.cell? ⟨g, k * 2, none⟩ = some (.string rs[k].char) ∧ w.cell? ⟨g, k * 2 + 1, none⟩ = some (.string rs[k].written)
theorem Lies.kept {K : Nat → Prop} {w w' : World} {g : Nat} {rs : List Rep} (h : Lies w g rs) (k : Kept K w w') (hg : K g) : Lies w' g rs := fun j hj => by
  obtain ⟨h1, h2⟩ := h j hj
  exact ⟨by rw [k.cell (p := ⟨g, j * 2, none⟩) hg]; exact h1, by rw [k.cell (p := ⟨g, j * 2 + 1, none⟩) hg]; exact h2⟩

def cellsT : Array Value := #[.string ⟨#[38]⟩, .string ⟨#[38, 97, 109, 112, 59]⟩, .string ⟨#[60]⟩, .string ⟨#[38, 108, 116, 59]⟩, .string ⟨#[62]⟩, .string ⟨#[38, 103, 116, 59]⟩, .string ⟨#[194, 160]⟩, .string ⟨#[38, 110, 98, 115, 112, 59]⟩]
theorem everywhere_any (w : World) :
    Calls Try.prog 15 #[] w fun e w' => e = .returned (.slice (some ⟨w.heap.size, 0, none⟩) 4 4) ∧ w' = w.alloc (.cells cellsT 32) := by
  go_enter Try.func15, Try.ntmps15
  go_wp2
  go_ret
  exact ⟨rfl, rfl⟩

set_option maxRecDepth 20000 in
set_option maxHeartbeats 1000000 in
theorem replaced_any (s : ByteArray) (q : Bool) (rs : List Rep) (hrs : rs = tabOf q) (g cap : Nat) (K : Nat → Prop) (w : World) (hK : ∀ k, K k → k < w.heap.size) (hs : s.size < 1000000) (hg : K g) (hL : Lies w g rs) :
    Calls Try.prog 14 #[.string s, .slice (some ⟨g, 0, none⟩) rs.length cap] w fun e w' => e = .returned (.string ⟨(esc q s.data.toList).toArray⟩) ∧ Kept K w w' := by
  have hshort : ∀ r ∈ rs, r.char.size ≤ 2 ∧ r.written.size ≤ 6 := by rw [hrs]; exact tab_short q
  have hrl : rs.length ≤ 5 := by rw [hrs]; cases q <;> decide
  have hl0 : s.data.toList.length = s.size := rfl
  obtain ⟨A, hA⟩ : ∃ A, esc q s.data.toList = A := ⟨_, rfl⟩
  rw [hA]
  have HA : Hid ([] ++ esc q (s.data.toList.drop 0) = A) := hA
  have HS : Hid (rs = tabOf q) := hrs
  have HL : Hid (Lies w g rs) := hL
  have HH : Hid (∀ r ∈ rs, r.char.size ≤ 2 ∧ r.written.size ≤ 6) := hshort
  clear hA hrs hL hshort
  obtain ⟨B, hB⟩ : ∃ B, w.heap.size = B := ⟨_, rfl⟩
  have hKB : ¬ K B := fun h => by have := hK B h; omega
  obtain ⟨n, hn⟩ : ∃ n, rs.length = n := ⟨_, rfl⟩
  rw [hn] at hrl ⊢
  go_enter Try.func14, Try.ntmps14
  go_wp2_with fail
  go_loopg [6] s.size (fun gm i wr => ∃ (k : Nat) (out : List UInt8), gm = s.size - k ∧ k ≤ s.size ∧ i = .int .i64 k ∧ out ++ esc q (s.data.toList.drop k) = A ∧ out.length ≤ 6 * k ∧ Bld K wr B out ∧ Kept K w wr)
  case atStart =>
    refine ⟨0, [], rfl, Nat.zero_le _, rfl, HA.out, Nat.zero_le _, ⟨hKB, none, none, 0, ?_, .inl rfl, ⟨rfl, Nat.le_refl _, Nat.zero_le _, .inl ⟨rfl, rfl⟩⟩⟩, (Kept.refl K w).alloc hK _⟩
    rw [← hB]
    exact heap_alloc_new w _
  case round =>
    clear HA
    obtain ⟨k, out, hgk, hk, rfl, HO, hol, hbld, hkp⟩ := hrel
    have HO : Hid (out ++ esc q (s.data.toList.drop k) = A) := HO
    have hKr : ∀ k, K k → k < wr.heap.size := fun k hk => Nat.lt_of_lt_of_le (hK k hk) hkp.size
    by_cases hlt : k < s.size
    · have hone : (s.extract k (k + 1)).data.toList = [s[k]] := by
        rw [extract_list, List.drop_take, Nat.add_sub_cancel_left, drop_cons hlt]
        rfl
      have hosz : (s.extract k (k + 1)).size = 1 := congrArg List.length hone
      obtain ⟨K2, hK2⟩ : ∃ K2 : Nat → Prop, (fun k => k < wr.heap.size) = K2 := ⟨_, rfl⟩
      have hkw : ∀ k, k < wr.heap.size → K2 k := fun k hk => by rw [← hK2]; exact hk
      have hkv : ∀ k, K2 k → k < wr.heap.size := fun k hk => by rw [← hK2] at hk; exact hk
      have hlr := HL.out.kept hkp hg
      have HB : Hid (∀ W, Kept K2 wr W → Bld K W B out) := fun W h => hbld.kept fun g _ hg => h.block g (hkw g hg)
      have HKW : Hid (∀ W, Kept K2 wr W → Kept K w W) := fun W h => hkp.trans (h.mono fun k hk => hkw k (hKr k hk))
      have hg2 := hkw g (hKr g hg)
      have HLR : Hid (Lies wr g rs) := hlr
      clear hlr hbld hK2 hkw hkp
      obtain ⟨WR, hWR⟩ : ∃ W, wr = W := ⟨_, rfl⟩
      rw [hWR] at hkv hKr HB HKW HLR ⊢
      clear hWR
      go_wp2_with fail
      go_loopg [7, 8, 22] n (fun gm wv nv iv wi => ∃ j : Nat, gm = n - j ∧ j ≤ n ∧ iv = .int .i64 j ∧ wv = .string (foldE (s.extract k s.size) (s.extract k (k + 1), 1) (rs.take j)).1 ∧ nv = .int .i64 (foldE (s.extract k s.size) (s.extract k (k + 1), 1) (rs.take j)).2 ∧ Kept K2 WR wi)
      case atStart =>
        exact ⟨0, rfl, Nat.zero_le _, rfl, rfl, rfl, Kept.refl _ _⟩
      case round =>
        obtain ⟨j, hgj, hj, rfl, rfl, rfl, hkj⟩ := hrel
        by_cases hjn : j < n
        · have hjr : j < rs.length := by omega
          have hlies := HLR.out.kept hkj hg2
          obtain ⟨hc1, hc2⟩ := hlies j hjr
          have hsh := HH.out rs[j] (List.getElem_mem hjr)
          have HF : Hid (foldE (s.extract k s.size) (s.extract k (k + 1), 1) (rs.take (j + 1)) = stE (s.extract k s.size) (foldE (s.extract k s.size) (s.extract k (k + 1), 1) (rs.take j)) rs[j]) := by
            show foldE _ _ _ = _
            rw [List.take_succ_eq_append_getElem hjr, foldE_snoc]
          obtain ⟨r, hr⟩ : ∃ r, rs[j] = r := ⟨_, rfl⟩
          rw [hr] at hc1 hc2 hsh HF
          obtain ⟨st, hst⟩ : ∃ st, foldE (s.extract k s.size) (s.extract k (k + 1), 1) (rs.take j) = st := ⟨_, rfl⟩
          rw [hst] at HF ⊢
          obtain ⟨a, b⟩ := r
          dsimp only at hc1 hc2 hsh
          have hpre := fun X => pre_q (s.extract k s.size) a X
          have HF2 : Hid (foldE (s.extract k s.size) (s.extract k (k + 1), 1) (rs.take (j + 1)) = if preS a (s.extract k s.size) = true then (b, a.size) else st) := HF.out
          obtain ⟨p, hp⟩ : ∃ p, preS a (s.extract k s.size) = p := ⟨_, rfl⟩
          rw [hp] at hpre HF2
          have hkn : ∀ o m, Kept K2 WR ((wr.alloc o).drewN m) := fun o m => (hkj.alloc (fun k hk => Nat.lt_of_lt_of_le (hkv k hk) hkj.size) o).drewN m
          clear hst hr hp HF HO hlies
          cases p with
          | false =>
            go_wp2_with fail
            go_quiet ((go_at_call 18; exact Calls.quiet_of (hpre _)))
            go_wp2
            go_roundg (n - (j + 1))
            case rel => exact ⟨j + 1, rfl, by omega, by go_num, by rw [HF2.out]; rfl, by rw [HF2.out]; rfl, hkn _ _⟩
            case measure => omega
          | true =>
            go_wp2_with fail
            go_quiet ((go_at_call 18; exact Calls.quiet_of (hpre _)))
            go_wp2_with fail
            go_quiet (fail)
            go_wp2
            go_roundg (n - (j + 1))
            case rel => exact ⟨j + 1, rfl, by omega, by go_num, by rw [HF2.out]; rfl, by rw [HF2.out]; rfl, hkn _ _⟩
            case measure => omega
        · have hjn' : j = n := by omega
          subst hjn'
          have hb := HB.out wr hkj
          have hkw := HKW.out wr hkj
          have HFR := foldE_front q s[k] (s.extract k s.size) (s.extract k (k + 1)) (s.data.toList.drop (k + 1)) (by
            rw [extract_list, show s.data.toList.take s.size = s.data.toList from List.take_length, drop_cons hlt]) hone
          have hFS := foldE_short (s.extract k s.size) (s.extract k (k + 1)) (by omega) rs HH.out
          have et : rs.take j = rs := by rw [← hn, List.take_length]
          rw [et]
          clear et
          rw [← HS.out] at HFR
          have hne : s.data.toList.drop k ≠ [] := by rw [drop_cons hlt]; exact List.cons_ne_nil _ _
          have HE : Hid ((out ++ front q (s.data.toList.drop k)) ++ esc q (s.data.toList.drop (k + far (s.data.toList.drop k))) = A) := by
            have := HO.out
            rw [esc_step q hne, List.drop_drop] at this
            show (out ++ front q _) ++ _ = A
            simpa using this
          have hfar := far_le hne
          rw [List.length_drop, hl0] at hfar
          have hfl := front_len q hne
          rw [← drop_cons hlt] at HFR
          obtain ⟨L, hL⟩ : ∃ L, front q (s.data.toList.drop k) = L := ⟨_, rfl⟩
          obtain ⟨f, hf⟩ : ∃ f, far (s.data.toList.drop k) = f := ⟨_, rfl⟩
          rw [hL, hf] at HFR
          rw [hL, hf] at HE hfl
          rw [hf] at hfar
          obtain ⟨st, hst⟩ : ∃ st, foldE (s.extract k s.size) (s.extract k (k + 1), 1) rs = st := ⟨_, rfl⟩
          rw [hst] at HFR hFS ⊢
          obtain ⟨tx, m⟩ := st
          dsimp only at HFR hFS ⊢
          obtain ⟨htx, rfl⟩ := HFR
          have htl : tx.data.toList.length = tx.size := rfl
          have hws := write_any K B out tx wr hb (fun k hk => Nat.lt_of_lt_of_le (hKr k hk) hkj.size) (by omega)
          rw [htx] at hws htl
          clear hst hL hf hne hn HB HKW HO HLR hb hone
          go_wp2_with fail
          refine hws.mono ?_
          rintro e w1 ⟨rfl, hb1, hk1⟩
          go_wp2
          go_roundg (s.size - (k + m))
          case rel => exact ⟨k + m, out ++ L, rfl, by omega, by go_num, HE.out, by rw [List.length_append]; omega, hb1, hkw.trans hk1⟩
          case measure => omega
    · have hAe : out = A := by
        have := HO.out
        rw [List.drop_eq_nil_of_le (show s.data.toList.length ≤ k by show s.size ≤ k; omega), esc_nil, List.append_nil] at this
        exact this
      subst hAe
      clear HO
      have hstr := string_any K B out wr hbld hKr (by omega)
      go_wp2_with fail
      refine hstr.mono ?_
      rintro e w1 ⟨rfl, hk1⟩
      go_wp2
      go_ret
      exact ⟨rfl, hkp.trans hk1⟩
end Go.Proofs.Ytfjjifdajjlljaa
