/-
  The walk of the statement InputParts: it returns true for every row of rows of bytes.
-/
import Derived.Test.YtnfallgpnoofiaaDecodes
import Derived.Test.YtnfallgpnoofiaaTwo
namespace Go.Proofs.Ytnfallgpnoofiaa
open Go.RowKit

def catR (R : Nat → List UInt8) (i : Nat) : List UInt8 := (List.range i).flatMap R
theorem catR_succ (R : Nat → List UInt8) (i : Nat) : catR R (i + 1) = catR R i ++ R i := by
  unfold catR
  rw [List.range_succ, List.flatMap_append]
  simp
theorem catR_len_succ (R : Nat → List UInt8) (i : Nat) : (catR R (i + 1)).length = (catR R i).length + (R i).length := by rw [catR_succ, List.length_append]
theorem catR_mono (R : Nat → List UInt8) {i j : Nat} (h : i ≤ j) : (catR R i).length ≤ (catR R j).length := by
  induction j with
  | zero => have : i = 0 := by omega
            subst this
            exact Nat.le_refl _
  | succ j ih =>
    by_cases hij : i = j + 1
    · subst hij; exact Nat.le_refl _
    · have := ih (by omega)
      rw [catR_len_succ]
      omega
theorem catR_bound (R : Nat → List UInt8) (n : Nat) (h : ∀ r, r < n → (R r).length ≤ 140737488355328) : ∀ i, i ≤ n → (catR R i).length ≤ i * 140737488355328 := by
  intro i
  induction i with
  | zero => intro _; simp [catR]
  | succ i ih =>
    intro hi
    have h1 := ih (by omega)
    have h2 := h i (by omega)
    rw [catR_len_succ]
    omega

theorem src_row {P : Program} {K : Nat → Prop} {w : World} {tx e' : TypeId} (hk : P.underlying tx = some (.slice e')) {ao : Option Addr} {bs : List UInt8} (c : Nat) (h : RowB K w ao bs) : Src P 1 tx (.slice ao bs.length c) bs.length (bvs bs) w := by
  rcases h with rfl | ⟨g, o, rfl, _, h3⟩
  · cases ao with
    | none => exact Src.ofNil w hk c
    | some ad => exact Src.ofSlice w hk ad 0 c [] rfl (fun j u hj => by simp at hj) (fun u hu => by cases hu)
  · refine Src.ofSlice w hk _ _ _ _ (by rw [bvs_length]; simp) (fun j u hj => ?_) (bvs_one _)
    rw [Addr.add_lit]
    have hjl : j < bs.length := by
      rcases Nat.lt_or_ge j bs.length with h1 | h1
      · exact h1
      · rw [List.getElem?_eq_none (by rw [bvs_length]; exact h1)] at hj; cases hj
    rw [h3 j hjl, ← hj]
    simp [bvs, hjl]

/-- All blocks but one row's. -/
def butK (w : World) (aa : Option Addr) : Nat → Prop := fun k => k < w.heap.size ∧ aa ≠ some ⟨k, 0, none⟩
theorem own_but {K0 : Nat → Prop} {w : World} {e : TypeId} {aa : Option Addr} {n cap : Nat} {xs : List Value} (h : Own K0 w e aa n cap xs) : Own (butK w aa) w e aa n cap xs :=
  h.mono fun _ _ h1 _ h3 => h3.2 h1
theorem sub_but {K0 : Nat → Prop} {w : World} {e : TypeId} {aa : Option Addr} {n cap : Nat} {xs : List Value} (h : Own K0 w e aa n cap xs) (hK : ∀ k, K0 k → k < w.heap.size) : ∀ k, K0 k → butK w aa k := by
  intro k hk
  refine ⟨hK k hk, fun h1 => ?_⟩
  rcases h.cells with ⟨h2, _⟩ | ⟨g, h2, h3, _⟩
  · rw [h1] at h2; cases h2
  · rw [h1] at h2; cases h2; exact h3 hk
theorem own_from {K0 : Nat → Prop} {w w3 : World} {e : TypeId} {aa aa1 : Option Addr} {n cap : Nat} {xs : List Value} (h : Own (butK w aa) w3 e aa1 n cap xs) (hs : ∀ k, K0 k → butK w aa k) : Own K0 w3 e aa1 n cap xs :=
  h.mono fun g _ _ h2 h3 => h2 (hs g h3)
theorem dec_move {K0 : Nat → Prop} {w2 w3 : World} {aa aa1 : Option Addr} {B : Nat} {s : St} {n cap : Nat} {xs : List Value} (hd : Dec (withK K0 aa) w2 B s) (own3 : Own (butK w2 aa) w3 5 aa1 n cap xs) (kp3 : Kept (butK w2 aa) w2 w3) : Dec (withK K0 aa1) w3 B s := by
  obtain ⟨ao, cp, h1, h2⟩ := hd.blk
  have hB : butK w2 aa B := ⟨lt_block h1, fun h => hd.nb (.inr h)⟩
  have hne : ∀ k, aa1 = some ⟨k, 0, none⟩ → ¬ butK w2 aa k := by
    intro k hk
    rcases own3.cells with ⟨h3, _⟩ | ⟨g, h3, h4, _⟩
    · rw [hk] at h3; cases h3
    · rw [hk] at h3; cases h3; exact h4
  refine ⟨fun h => ?_, fun k hk => ?_, hd.ok, ao, cp, (kp3.block B hB).trans h1, ?_⟩
  · rcases h with h | h
    · exact hd.nb (.inl h)
    · exact hne B h hB
  · rcases hk with hk | hk
    · exact Nat.lt_of_lt_of_le (hd.lt k (.inl hk)) kp3.size
    · rcases own3.cells with ⟨h3, _⟩ | ⟨g, h3, _, h4, _⟩
      · rw [hk] at h3; cases h3
      · rw [hk] at h3; cases h3; exact h4
  · obtain ⟨q1, q2, q3, q4⟩ := h2
    refine ⟨q1, q2, q3, ?_⟩
    rcases q4 with q4 | ⟨g, cur, r1, r2, r3, r4⟩
    · exact .inl q4
    · have hg : butK w2 aa g := ⟨lt_block r3, fun h => r2 (.inl (.inr h))⟩
      refine .inr ⟨g, cur, r1, fun h => ?_, (kp3.block g hg).trans r3, r4⟩
      rcases h with (h | h) | h
      · exact r2 (.inl (.inl h))
      · exact hne g h hg
      · exact r2 (.inr h)

/-- A row of rows of bytes that came in. -/
structure RowsB (K : Nat → Prop) (w : World) (a : Option Addr) (len : Nat) (A : Nat → Option Addr) (C : Nat → Nat) (R : Nat → List UInt8) : Prop where
  top : len = 0 ∨ ∃ g o, a = some ⟨g, o, none⟩ ∧ K g ∧ ∀ r, r < len → w.cell? ⟨g, o + r, none⟩ = some (.slice (A r) (R r).length (C r))
  row : ∀ r, r < len → RowB K w (A r) (R r) ∧ (R r).length ≤ 140737488355328

set_option maxHeartbeats 1000000 in
theorem parts_many (a : Option Addr) (len cap : Nat) (A : Nat → Option Addr) (C : Nat → Nat) (R : Nat → List UInt8) (w : World) (hlm : len ≤ 9223372036854775807) (hr : RowsB (fun k => k < w.heap.size) w a len A C R) (hbig : 200 < len) :
    Calls Try.prog 6 #[.slice a len cap] w fun e w' => e = .returned (.bool true) ∧ Kept (fun k => k < w.heap.size) w w' := by
  have hkn := known_any (K := fun k => k < w.heap.size) (w := w) (fun _ h => h)
  rcases hr.top with h0 | ⟨g, o, rfl, _, hc⟩
  · omega
  have hb' : (200 : Int) < (len : Int) := by omega
  have HC : Hid (∀ r, r < len → w.cell? ⟨g, o + r, none⟩ = some (.slice (A r) (R r).length (C r))) := hc
  clear hc hr
  go_enter Try.func6, Try.ntmps6
  go_wp2
  go_loop [3, 4] (fun nv iv => ∃ (i : Nat) (z : Int), i ≤ len ∧ iv = .int .i64 i ∧ nv = .int .i64 z) (fun _ iv => len - (intOf iv).toNat)
  case atStart => exact ⟨0, 0, Nat.zero_le _, rfl, rfl⟩
  case round =>
    obtain ⟨i, z, hi, rfl, rfl⟩ := hrel
    by_cases hlt : i < len
    · have hci := HC.out i hlt
      go_wp2
      go_round
      case rel => exact ⟨i + 1, _, by omega, by go_num, rfl⟩
      case measure => simp [intOf]; omega
    · by_cases hz : 3000 < z
      · go_wp2_with (go_at_call 9; refine hkn.mono ?_; rintro e w1 ⟨rfl, hk1⟩)
        go_ret
        exact ⟨rfl, hk1⟩
      · have hz' : decide (3000 < z) = false := by simpa using hz
        go_wp2_with (go_at_call 9; refine hkn.mono ?_; rintro e w1 ⟨rfl, hk1⟩)
        go_ret
        exact ⟨rfl, hk1⟩

set_option maxRecDepth 20000 in
set_option maxHeartbeats 2000000 in
theorem parts_few (a : Option Addr) (len cap : Nat) (A : Nat → Option Addr) (C : Nat → Nat) (R : Nat → List UInt8) (w : World) (hr : RowsB (fun k => k < w.heap.size) w a len A C R) (hbig : len ≤ 200) :
    Calls Try.prog 6 #[.slice a len cap] w fun e w' => e = .returned (.bool true) ∧ Kept (fun k => k < w.heap.size) w w' := by
  have hkn := known_any (K := fun k => k < w.heap.size) (w := w) (fun _ h => h)
  have HB : Hid (∀ i, i ≤ len → (catR R i).length ≤ i * 140737488355328) := catR_bound R len (fun r h => (hr.row r h).2)
  have hb' : ¬ (200 : Int) < (len : Int) := by omega
  have HR : Hid (RowsB (fun k => k < w.heap.size) w a len A C R) := hr
  obtain ⟨K, hKd⟩ : ∃ K : Nat → Prop, K = fun k => k < w.heap.size := ⟨_, rfl⟩
  have HK : Hid (∀ k, K k → k < w.heap.size) := by rw [hKd]; exact fun _ h => h
  rw [← hKd] at hkn HR ⊢
  clear hr hKd
  obtain ⟨i0, hi0, hz0, hz1, hz2⟩ := info_parts Try.info5
  go_enter Try.func6, Try.ntmps6
  go_wp2
  go_loop [3, 4] (fun nv iv => ∃ (i : Nat), i ≤ len ∧ iv = .int .i64 i ∧ nv = .int .i64 (catR R i).length) (fun _ iv => len - (intOf iv).toNat)
  case atStart => exact ⟨0, Nat.zero_le _, rfl, rfl⟩
  case round =>
    obtain ⟨i, hi, rfl, rfl⟩ := hrel
    have hbi := HB.out i hi
    by_cases hlt : i < len
    · rcases HR.out.top with h0 | ⟨g, o, rfl, _, hc⟩
      · omega
      have hci := hc i hlt
      have hrl := (HR.out.row i hlt).2
      have HS : Hid ((catR R (i + 1)).length = (catR R i).length + (R i).length) := catR_len_succ R i
      obtain ⟨q, hq⟩ : ∃ q, q = (catR R i).length := ⟨_, rfl⟩
      rw [← hq] at HS hbi ⊢
      clear hc hq
      go_wp2
      go_round
      case rel => exact ⟨i + 1, by omega, by go_num, by rw [HS.out]; go_num⟩
      case measure => simp [intOf]; omega
    · obtain rfl : i = len := by omega
      obtain ⟨q, hq⟩ : ∃ q, q = (catR R i).length := ⟨_, rfl⟩
      have HQ : Hid (q = (catR R i).length) := hq
      rw [← hq] at hbi ⊢
      clear hq
      by_cases hz : 3000 < q
      · have hz' : (3000 : Int) < (q : Int) := by omega
        go_wp2_with (go_at_call 9; refine hkn.mono ?_; rintro e w1 ⟨rfl, hk1⟩)
        go_ret
        exact ⟨rfl, hk1⟩
      · have hz' : ¬ (3000 : Int) < (q : Int) := by omega
        go_wp2_with (go_at_call 9; refine hkn.mono ?_; rintro e w1 ⟨rfl, hk1⟩)
        have hnew := new_any w1
        go_wp2_with (go_at_call 10; refine hnew.mono ?_; rintro e w2 ⟨rfl, rfl⟩)
        have hK1 : ∀ k, K k → k < w1.heap.size := fun k hk => Nat.lt_of_lt_of_le (HK.out k hk) hk1.size
        have hk0 := hk1.alloc hK1 (.cells (decCells none 0 St.new) 39)
        have hd0 : Dec (withK K none) (w1.alloc (.cells (decCells none 0 St.new) 39)) w1.heap.size St.new := Dec.fresh w1 _ (fun k hk => by rcases hk with hk | hk; exact hK1 k hk; cases hk)
        clear hkn hnew hK1 hk1
        have HM : Hid (∀ j, j ≤ i → (catR R j).length ≤ 3000) := fun j hj => by have := catR_mono R hj; have := HQ.out; omega
        obtain ⟨B, hB⟩ : ∃ B, B = w1.heap.size := ⟨_, rfl⟩
        rw [← hB] at hd0 ⊢
        clear hB hlt
        go_loopw [6, 7] (fun av iv wr => ∃ (j : Nat) (aa : Option Addr) (ac : Nat), j ≤ i ∧ iv = .int .i64 j ∧ av = .slice aa (catR R j).length ac ∧ Own K wr 5 aa (catR R j).length ac (bvs (catR R j)) ∧ Dec (withK K aa) wr B (St.new.feed (catR R j)) ∧ Kept K w wr) (fun _ iv _ => i - (intOf iv).toNat)
        case atStart => exact ⟨0, none, 0, Nat.zero_le _, rfl, rfl, Own.nil _ _ _, hd0, hk0⟩
        case round =>
          obtain ⟨j, aa, ac, hj, rfl, rfl, hown, hd, hkp⟩ := hrel
          have hcl := HM.out j hj
          have HKW : Hid (∀ k, K k → k < wr.heap.size) := fun k hk => Nat.lt_of_lt_of_le (HK.out k hk) hkp.size
          have ok1 := St.feed_ok St.Ok.new (catR R j)
          have hn0 : St.new.text.length = 0 := rfl
          by_cases hlt : j < i
          · rcases HR.out.top with h0 | ⟨g, o, rfl, hg, hc⟩
            · omega
            have hcw : w.cell? ⟨g, o + j, none⟩ = some (.slice (A j) (R j).length (C j)) := hc j hlt
            have hcj : wr.cell? ⟨g, o + j, none⟩ = some (.slice (A j) (R j).length (C j)) := (hkp.cell hg).trans hcw
            have hrj := (HR.out.row j hlt).1
            have hcl2 := HM.out (j + 1) (by omega)
            have HS : Hid (catR R (j + 1) = catR R j ++ R j) := catR_succ R j
            have hSl := catR_len_succ R j
            have hfeed := feed_dec hd ok1.1 (R j) (A j) (C j) ((hrj.kept hkp).mono withK_sub) (by omega)
            rw [← St.feed_append, ← catR_succ] at hfeed
            have HR2 : Hid (RowB K w (A j) (R j)) := hrj
            have HHD := hd
            obtain ⟨n1, hn1⟩ : ∃ n1, n1 = (catR R j).length := ⟨_, rfl⟩
            obtain ⟨m1, hm1⟩ : ∃ m1, m1 = (R j).length := ⟨_, rfl⟩
            have HM1 : Hid (m1 = (R j).length) := hm1
            have HN1 : Hid (n1 = (catR R j).length) := hn1
            rw [← hn1] at hcl hown hSl ⊢
            rw [← hm1] at hcj hfeed hSl hcw
            clear hc hm1 hn1 hrj ok1 HHD hd
            go_wp2_with fail
            refine hfeed.mono ?_
            rintro e w2 ⟨rfl, hd2, hk2⟩
            have hk2' := hkp.trans (hk2.mono withK_sub)
            have hcj2 : w2.cell? ⟨g, o + j, none⟩ = some (.slice (A j) m1 (C j)) := (hk2'.cell hg).trans hcw
            have own2 := hown.stay hk2
            have HKW2 : Hid (∀ k, K k → k < w2.heap.size) := fun k hk => Nat.lt_of_lt_of_le (HK.out k hk) hk2'.size
            have hsrc : Src Try.prog 1 23 (.slice (A j) m1 (C j)) m1 (bvs (R j)) w2 := by
              have h1 := src_row (P := Try.prog) Try.underlying23 (C j) (HR2.out.kept hk2')
              rw [← HM1.out] at h1
              exact h1
            clear hfeed hown hk2 hkp hcj
            go_wp2_with (at_builtin; refine wpList_app (K := butK w2 aa) rfl (.tmp 46) (.tmp 50) 23 23 5 rfl i0 (.int .u8 0) Try.underlying23 hi0 hz0 hz1 rfl aa n1 ac (bvs (catR R j)) rfl (own_but own2) (.slice (A j) m1 (C j)) m1 (bvs (R j)) rfl hsrc (fun k hk => hk.1) ?_ ?_ ?_)
            · unfold maxLen; omega
            · rw [hz2]; omega
            · intro aa1 ac1 w3 own3 kp3 _
              have hd3 := dec_move hd2 own3 kp3
              have hsub := sub_but own2 HKW2.out
              have hk3 := hk2'.trans (kp3.mono hsub)
              have own4 := (own_from own3 hsub).cast (show n1 + m1 = (catR R (j + 1)).length by omega) (show bvs (catR R j) ++ bvs (R j) = bvs (catR R (j + 1)) by rw [HS.out, bvs_append])
              have ok2 := St.feed_ok St.Ok.new (catR R (j + 1))
              have hfin := finish_dec hd3 (by omega)
              have hfs : (St.new.feed (catR R (j + 1))).finish = refB (catR R (j + 1)) := by
                show decS _ = _
                rw [decS_spec, spec_ref]
              rw [hfs] at hfin
              have own4d : Own K w3.drew 5 aa1 (catR R (j + 1)).length ac1 (bvs (catR R (j + 1))) := own4
              have href := refDecode_any (K := fun k => k < w3.drew.heap.size) (w := w3.drew) (fun _ h => h) (catR R (j + 1)) aa1 ac1 own4.2.1 own4.2.2.1 (rowB_own own4d) (by omega)
              have hnn : n1 + m1 = (catR R (j + 1)).length := by omega
              rw [hnn]
              have HNEW : Hid ((catR R (j + 1)).length ≤ 3000) := hcl2
              clear hd2 own3 kp3 own2 hsub HKW2 hk2' hfs hcj2 hsrc hcw ok2 hnn hSl
              go_wp2_with fail
              refine hfin.mono ?_
              rintro e w4 ⟨rfl, rfl⟩
              go_wp2_with fail
              refine href.mono ?_
              rintro e w5 ⟨rfl, hk5⟩
              have hd5 := (show Dec (withK K aa1) w3.drew B (St.new.feed (catR R (j + 1))) from ⟨hd3.nb, hd3.lt, hd3.ok, hd3.blk⟩).all hk5
              have own5 := own4d.all hk5
              have hkf := hk3.drew.trans (hk5.mono fun k hk => Nat.lt_of_lt_of_le (HK.out k hk) hk3.drew.size)
              clear hfin href hd3 own4 own4d hk3 hk5
              go_wp2
              go_roundw
              case rel => exact ⟨j + 1, aa1, ac1, by omega, by go_num, rfl, own5, hd5, hkf⟩
              case measure => simp [intOf]; omega
          · have hfin := finish_dec hd (by omega)
            have hfs : (St.new.feed (catR R j)).finish = refB (catR R j) := by
              show decS _ = _
              rw [decS_spec, spec_ref]
            rw [hfs] at hfin
            have hownd : Own K wr.drew 5 aa (catR R j).length ac (bvs (catR R j)) := hown
            have href := refDecode_any (K := fun k => k < wr.drew.heap.size) (w := wr.drew) (fun _ h => h) (catR R j) aa ac hown.2.1 hown.2.2.1 (rowB_own hownd) (by omega)
            clear hd hown hownd hfs ok1
            go_wp2_with fail
            refine hfin.mono ?_
            rintro e w4 ⟨rfl, rfl⟩
            go_wp2_with fail
            refine href.mono ?_
            rintro e w5 ⟨rfl, hk5⟩
            go_wp2
            go_ret
            exact ⟨rfl, hkp.drew.trans (hk5.mono HKW.out)⟩

theorem parts_walk (a : Option Addr) (len cap : Nat) (A : Nat → Option Addr) (C : Nat → Nat) (R : Nat → List UInt8) (w : World) (hlm : len ≤ 9223372036854775807) (hr : RowsB (fun k => k < w.heap.size) w a len A C R) :
    Calls Try.prog 6 #[.slice a len cap] w fun e w' => e = .returned (.bool true) ∧ Kept (fun k => k < w.heap.size) w w' := by
  by_cases h : 200 < len
  · exact parts_many a len cap A C R w hlm hr h
  · exact parts_few a len cap A C R w hr (by omega)
end Go.Proofs.Ytnfallgpnoofiaa
