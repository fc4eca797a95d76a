/-
  The walk of the statement InputRunes: it returns true for every row of characters and either flag.
-/
import Derived.Test.YtnfallgpnoofiaaEnds
import Derived.Test.YtnfallgpnoofiaaTwo
namespace Go.Proofs.Ytnfallgpnoofiaa
open Go.RowKit

/-- A character that InputRunes keeps. -/
def okR (r : Int) : Prop := 0 ≤ r ∧ r ≤ 1114111 ∧ ¬ (55296 ≤ r ∧ r ≤ 57343) ∧ r ≠ 13 ∧ r ≠ 65279
def encL (l : List Int) : List UInt8 := l.flatMap encB

theorem encL_append (a b : List Int) : encL (a ++ b) = encL a ++ encL b := by simp [encL]
theorem runes_toList : ∀ (ns : List Int), (runesBytes ns).data.toList = encL ns := by
  have key : ∀ (ns : List Int) (s : ByteArray), (ns.foldl (fun r n => r ++ Utf8.encode n) s).data.toList = s.data.toList ++ encL ns := by
    intro ns
    induction ns with
    | nil => intro s; simp [encL]
    | cons n ns ih =>
      intro s
      rw [List.foldl_cons, ih]
      have : (s ++ Utf8.encode n).data.toList = s.data.toList ++ encB n := by simp [encB, ByteArray.data_append]
      rw [this]
      simp [encL]
  intro ns
  have := key ns ByteArray.empty
  simpa [runesBytes] using this
theorem runes_eq (ns : List Int) : runesBytes ns = ⟨(encL ns).toArray⟩ := by
  have h := runes_toList ns
  have : (runesBytes ns).data = (encL ns).toArray := by
    apply Array.ext'
    rw [h]
  cases hr : runesBytes ns with
  | mk d => rw [hr] at this; rw [← this]

theorem ch0_one {r : Int} (h : okR r) (x : List UInt8) : ch0 (encB r ++ x) = encB r ++ ch0 x := by
  obtain ⟨h0, h1, h2, _, _⟩ := h
  by_cases hl : r < 128
  · rw [encB_one h0 hl]
    have hb := beh_of r.toNat (by omega)
    exact ch0_up_low _ x (by rw [hb]; omega)
  · exact ch0_char (encB_char (by omega) h1 h2) x
theorem ch0_encL : ∀ (l : List Int), (∀ r ∈ l, okR r) → ∀ x, ch0 (encL l ++ x) = encL l ++ ch0 x
  | [], _, x => rfl
  | r :: l, h, x => by
    have e : encL (r :: l) = encB r ++ encL l := by simp [encL]
    rw [e, List.append_assoc, ch0_one (h r (by simp)), ch0_encL l (fun q hq => h q (by simp [hq]))]
    simp
theorem nl_encL : ∀ (l : List Int), (∀ r ∈ l, okR r) → ∀ x, nl false (encL l ++ x) = encL l ++ nl false x
  | [], _, x => rfl
  | r :: l, h, x => by
    have e : encL (r :: l) = encB r ++ encL l := by simp [encL]
    have ih := nl_encL l (fun q hq => h q (by simp [hq])) x
    obtain ⟨h0, h1, h2, h3, h4⟩ := h r (by simp)
    rw [e, List.append_assoc]
    by_cases hl : r < 128
    · rw [encB_one h0 hl, List.cons_append, List.nil_append, nl]
      have hb := beh_of r.toNat (by omega)
      rw [if_neg (by rw [hb]; omega), if_neg (by simp), ih]
      rfl
    · have hc := encB_char (r := r) (by omega) h1 h2
      rw [nl_up _ false _ (up_char hc) (char_ne hc), ih]
      simp
theorem strip_encL (l : List Int) (h : ∀ r ∈ l, okR r) (x : List UInt8) (hx : l = [] → x.take 3 ≠ markB) : strip (encL l ++ x) = encL l ++ x := by
  unfold strip
  rw [if_neg]
  intro hm
  cases l with
  | nil => exact hx rfl hm
  | cons r l =>
    have e : encL (r :: l) = encB r ++ encL l := by simp [encL]
    obtain ⟨h0, h1, h2, h3, h4⟩ := h r (by simp)
    rw [e, List.append_assoc] at hm
    by_cases hl : r < 128
    · rw [encB_one h0 hl] at hm
      simp [markB] at hm
      have hb := beh_of r.toNat (by omega)
      rw [hm.1] at hb
      have : (239 : UInt8).toNat = 239 := rfl
      omega
    · exact encB_mark (by omega) h1 h2 h4 (char_mark (encB_char (by omega) h1 h2) _ hm)
theorem dec_encL (l : List Int) (h : ∀ r ∈ l, okR r) : decS (encL l) = encL l := by
  have h1 := ch0_encL l h []
  have h2 := nl_encL l h []
  have h3 := strip_encL l h [] (fun _ => by decide)
  have h4 : ch0 ([] : List UInt8) = [] := by simp [ch0, ch]
  rw [h4] at h1
  simp only [List.append_nil] at h1 h2 h3
  have h5 : nl false ([] : List UInt8) = [] := rfl
  rw [h5, List.append_nil] at h2
  rw [decS_spec, specB, h1, h3, h2]
theorem dec_cut (l : List Int) (h : ∀ r ∈ l, okR r) (r : Int) (hr : okR r) (h128 : 128 ≤ r) : decS (encL l ++ (encB r).dropLast) = encL l ++ repB := by
  obtain ⟨q0, q1, q2, q3, q4⟩ := hr
  have hc := encB_char h128 q1 q2
  obtain ⟨c, t, he, hne, _⟩ := hc.ex
  have hl : 0 < t.length := List.length_pos_iff.2 hne
  have hsp : encB r = (encB r).dropLast ++ [(encB r).getLast (char_ne hc)] := (List.dropLast_concat_getLast (char_ne hc)).symm
  have hp : ch0 (encB r).dropLast = repB := ch0_cut hc _ _ hsp (by
    intro h0
    have := congrArg List.length h0
    rw [List.length_dropLast, he] at this
    simp only [List.length_cons, List.length_nil] at this
    omega) (by simp)
  have h1 := ch0_encL l h (encB r).dropLast
  have h2 := nl_encL l h repB
  have h3 := strip_encL l h repB (fun _ => by decide)
  have h4 := nl_up repB false [] up_rep (by decide)
  rw [List.append_nil] at h4
  rw [decS_spec, specB, h1, hp, h3, h2, h4]
  simp [nl]

theorem run_runes_own {K : Nat → Prop} (w : World) {ao : Option Addr} {n cap : Nat} {ns : List Int} (hown : Own K w 21 ao n cap (ns.map (Value.int .i32))) :
    (convert 34 9 (.slice ao n cap)).run Try.prog w = .ok (.string ⟨(encL ns).toArray⟩) w := by
  have hn : n = ns.length := by rw [← hown.1]; simp
  rcases hown.cells with ⟨rfl, h0, rfl, hl⟩ | ⟨g, rfl, _, _, hc, _⟩
  · have : ns = [] := by simpa using hl
    subst this
    subst h0
    rw [run_convert_runes_string w 34 9 21 none 0 0 Try.underlying34 Try.underlying21 Try.underlying9]
    simp [Conv.runesToString]
    rfl
  · subst hn
    have h1 := run_convert_runes (P := Try.prog) w 34 9 21 ⟨g, 0, none⟩ ns.length cap ns (Nat.le_refl _) Try.underlying34 Try.underlying21 Try.underlying9 (fun j hj => by
      rw [Addr.add_lit, Nat.zero_add]
      exact hc j _ (by simp [hj]))
    rw [List.take_length, runes_eq] at h1
    exact h1
theorem Try.info21 : (Try.prog.info? 21).map (fun i => (i.zero, i.size, i.bytes)) = some (some (.int .i32 0), 1, 4) := by kernel_rfl

/-- What comes in, kept or x. -/
def fixR (r : Int) : Int := if r < 0 ∨ 1114111 < r ∨ (55296 ≤ r ∧ r ≤ 57343) ∨ r = 13 ∨ r = 65279 then 120 else r
theorem fixR_ok (r : Int) : okR (fixR r) := by
  unfold fixR okR
  split
  · omega
  · omega
theorem fix_ways (r : Int) : (fixR r = 120 ∧ (r < 0 ∨ (decide (r < 0) = false ∧ 1114111 < r) ∨ (decide (r < 0) = false ∧ decide (1114111 < r) = false ∧ 55296 ≤ r ∧ r ≤ 57343) ∨ r = 13 ∨ r = 65279)) ∨
    (fixR r = r ∧ decide (r < 0) = false ∧ decide (1114111 < r) = false ∧ (r == 13) = false ∧ (r == 65279) = false ∧ (decide (55296 ≤ r) = false ∨ (55296 ≤ r ∧ decide (r ≤ 57343) = false))) := by
  unfold fixR
  split
  · left
    refine ⟨rfl, ?_⟩
    by_cases h1 : r < 0
    · exact .inl h1
    · by_cases h2 : 1114111 < r
      · exact .inr (.inl ⟨by simpa using h1, h2⟩)
      · by_cases h3 : 55296 ≤ r ∧ r ≤ 57343
        · exact .inr (.inr (.inl ⟨by simpa using h1, by simpa using h2, h3.1, h3.2⟩))
        · exact .inr (.inr (.inr (by omega)))
  · right
    refine ⟨rfl, by simp; omega, by simp; omega, by simp; omega, by simp; omega, ?_⟩
    by_cases h1 : 55296 ≤ r
    · exact .inr ⟨h1, by simp; omega⟩
    · exact .inl (by simpa using h1)

/-- A row of runes that came in. -/
def RowR (K : Nat → Prop) (w : World) (ao : Option Addr) (rs : List Int) : Prop :=
  rs = [] ∨ ∃ g o, ao = some ⟨g, o, none⟩ ∧ K g ∧ ∀ j (hj : j < rs.length), w.cell? ⟨g, o + j, none⟩ = some (.int .i32 rs[j])

set_option maxRecDepth 20000 in
set_option maxHeartbeats 2000000 in
theorem runes_walk (a : Option Addr) (rs : List Int) (cap : Nat) (cut : Bool) (w : World) (hcap : rs.length ≤ cap) (hcm : cap ≤ maxLen) (hrow : RowR (fun k => k < w.heap.size) w a rs) :
    Calls Try.prog 8 #[.slice a rs.length cap, .bool cut] w fun e w' => e = .returned (.bool true) ∧ Kept (fun k => k < w.heap.size) w w' := by
  have hkn := known_any (K := fun k => k < w.heap.size) (w := w) (fun _ h => h)
  have hm : rs.length ≤ 9223372036854775807 := by unfold maxLen at hcm; omega
  by_cases hlen : 500 < rs.length
  · have hl' : (500 : Int) < (rs.length : Int) := by omega
    go_enter Try.func8, Try.ntmps8
    go_wp2_with (go_at_call 9; refine hkn.mono ?_; rintro e w1 ⟨rfl, hk1⟩)
    go_ret
    exact ⟨rfl, hk1⟩
  · have hl' : ¬ (500 : Int) < (rs.length : Int) := by omega
    obtain ⟨m, hmm⟩ : ∃ m, m = rs.length := ⟨_, rfl⟩
    have HM : Hid (m = rs.length) := hmm
    have HR : Hid (RowR (fun k => k < w.heap.size) w a rs) := hrow
    obtain ⟨K, hKd⟩ : ∃ K : Nat → Prop, K = fun k => k < w.heap.size := ⟨_, rfl⟩
    have HK : Hid (∀ k, K k → k < w.heap.size) := by rw [hKd]; exact fun _ h => h
    rw [← hKd] at hkn HR ⊢
    rw [← hmm] at hlen hm hl' hcap ⊢
    obtain ⟨i0, hi, hz0, hz1, hz2⟩ := info_parts Try.info21
    have hz3 : i0.bytes ≤ 64 := by omega
    clear hmm hKd hrow
    go_enter Try.func8, Try.ntmps8
    go_wp2_with (go_at_call 9; refine hkn.mono ?_; rintro e w1 ⟨rfl, hk1⟩)
    clear hkn
    go_loopw [5, 6] (fun kv iv wr => ∃ (i : Nat) (ka : Option Addr) (kc : Nat), i ≤ m ∧ iv = .int .i64 i ∧ kv = .slice ka i kc ∧ Own K wr 21 ka i kc (((rs.take i).map fixR).map (Value.int .i32)) ∧ Kept K w wr) (fun _ iv _ => m - (intOf iv).toNat)
    case atStart => exact ⟨0, none, 0, Nat.zero_le _, rfl, rfl, Own.nil _ _ _, hk1⟩
    case round =>
      clear hk1
      obtain ⟨i, ka, kc, hin, rfl, rfl, hown, hkp⟩ := hrel
      have HKL : Hid (∀ k, K k → k < wr.heap.size) := fun k hk => Nat.lt_of_lt_of_le (HK.out k hk) hkp.size
      have hib' : i ≤ 1099511627776 := by omega
      by_cases hlt : i < m
      · have hib : i < rs.length := by rw [← HM.out]; exact hlt
        rcases HR.out with hnil | ⟨g, o, rfl, hg, hc⟩
        · rw [hnil] at hib; simp at hib
        obtain ⟨r, hr⟩ : ∃ r, r = rs[i] := ⟨_, rfl⟩
        have hcell : wr.cell? ⟨g, o + i, none⟩ = some (.int .i32 r) := by rw [hr]; exact (hkp.cell hg).trans (hc i hib)
        have HA : Hid (((rs.take (i + 1)).map fixR).map (Value.int .i32) = ((rs.take i).map fixR).map (Value.int .i32) ++ [Value.int .i32 (fixR r)]) := by
          show _ = _
          rw [List.take_succ_eq_append_getElem hib, List.map_append, List.map_append, hr]
          rfl
        obtain ⟨xs, hxs⟩ : ∃ xs, xs = ((rs.take i).map fixR).map (Value.int .i32) := ⟨_, rfl⟩
        rw [← hxs] at hown HA
        have hw := fix_ways r
        clear hr hc hxs
        obtain ⟨y, hy⟩ : ∃ y, y = fixR r := ⟨_, rfl⟩
        rw [← hy] at HA hw
        clear hy
        rcases hw with ⟨rfl, hw⟩ | ⟨rfl, b1, b2, b3, b4, b5⟩
        · rcases hw with b1 | ⟨b1, b2⟩ | ⟨b1, b2, b3, b4⟩ | rfl | rfl
          all_goals
            go_wp2_with (at_builtin; refine wpList_app1 (K := K) rfl (.tmp 49) (.tmp 51) 34 21 rfl i0 (.int .i32 0) Try.underlying34 hi hz0 hz1 rfl hz3 ka i kc xs rfl (.int .i32 120) rfl wr.heap.size rfl hib' hown HKL.out rfl ?_)
            intro ka1 kc1 w1 own1 kp1
            have hkp2 := hkp.trans kp1
            clear kp1 hkp hown hcell
            go_wp2
            go_roundw
            case rel => exact ⟨i + 1, ka1, kc1, by omega, by go_num, rfl, by rw [HA.out]; exact own1, hkp2⟩
            case measure => simp [intOf]; omega
        · rcases b5 with b5 | ⟨b5, b6⟩
          all_goals
            go_wp2_with (at_builtin; refine wpList_app1 (K := K) rfl (.tmp 49) (.tmp 51) 34 21 rfl i0 (.int .i32 0) Try.underlying34 hi hz0 hz1 rfl hz3 ka i kc xs rfl (.int .i32 y) rfl wr.heap.size rfl hib' hown HKL.out rfl ?_)
            intro ka1 kc1 w1 own1 kp1
            have hkp2 := hkp.trans kp1
            clear kp1 hkp hown hcell
            go_wp2
            go_roundw
            case rel => exact ⟨i + 1, ka1, kc1, by omega, by go_num, rfl, by rw [HA.out]; exact own1, hkp2⟩
            case measure => simp [intOf]; omega
      · obtain rfl : i = m := by omega
        obtain ⟨ns, hns⟩ : ∃ ns, ns = (rs.take i).map fixR := ⟨_, rfl⟩
        have HOK : Hid (∀ r ∈ ns, okR r) := by
          intro r hr
          rw [hns] at hr
          obtain ⟨q, _, rfl⟩ := List.mem_map.1 hr
          exact fixR_ok q
        rw [← hns] at hown
        have hnl : ns.length = i := by have := hown.1; simpa using this
        have hcv1 := run_runes_own wr hown
        have hcb := conv_bytes
        have hsl : (encL ns).length ≤ 2000 := by
          have h1 : ∀ l : List Int, (encL l).length ≤ 4 * l.length := by
            intro l
            induction l with
            | nil => simp [encL]
            | cons a l ih =>
              have h2 := encode_size_le a
              have h3 : (encB a).length = (Utf8.encode a).size := by simp [encB]
              have e : encL (a :: l) = encB a ++ encL l := by simp [encL]
              rw [e, List.length_append, List.length_cons]
              omega
          have := h1 ns
          omega
        have hdec := dec_encL ns HOK.out
        have d1 := fun X N n c hN hn => decode_str X ⟨(encL ns).toArray⟩ ⟨(encL ns).toArray⟩ N n c hN hn (by show (encL ns).toArray.size ≤ _; simp; omega) hdec
        clear hns hdec HR
        obtain ⟨sb, hsb⟩ : ∃ sb, sb = encL ns := ⟨_, rfl⟩
        have HSB : Hid (sb = encL ns) := hsb
        rw [← hsb] at hcv1 d1 hsl
        clear hsb
        go_wp2_with fail
        refine (d1 _ _ _ _ rfl (by show _ = sb.toArray.size; simp)).mono ?_
        rintro e w2 ⟨rfl, hk2⟩
        have hkp2 := hkp.trans (hk2.mono HKL.out)
        have own2 := hown.all hk2
        have HKL2 : Hid (∀ k, K k → k < w2.heap.size) := fun k hk => Nat.lt_of_lt_of_le (HK.out k hk) hkp2.size
        clear d1 hkp hown hcv1 HKL hk2
        cases cut
        · go_wp2
          go_ret
          exact ⟨rfl, hkp2⟩
        · by_cases h0 : i = 0
          · subst h0
            go_wp2
            go_ret
            exact ⟨rfl, hkp2⟩
          · obtain ⟨n, rfl⟩ : ∃ n, i = n + 1 := ⟨i - 1, by omega⟩
            obtain ⟨r, hr⟩ : ∃ r, r = ns[n] := ⟨_, rfl⟩
            have hrok := HOK.out r (by rw [hr]; exact List.getElem_mem _)
            rcases own2.cells with ⟨_, h1, _⟩ | ⟨gk, rfl, _, hgk, hcl, _⟩
            · omega
            have hcn : w2.cell? ⟨gk, n, none⟩ = some (.int .i32 r) := hcl n _ (by rw [hr]; simp [hnl])
            have hnn : ns = ns.take n ++ [r] := by
              rw [hr, ← List.take_succ_eq_append_getElem (by omega), List.take_of_length_le (by omega)]
            have e0 : (((n + 1 : Nat) : Int) == 0) = false := by simp; omega
            have q0 : ((n + 1 : Nat) : Int) - 1 = (n : Int) := by omega
            have q1 : (0 : Int) ≤ (n : Int) := by omega
            have q2 : (n : Int) < ((n + 1 : Nat) : Int) := by omega
            by_cases h128 : r < 128
            · clear hr hcl hnn hrok
              go_wp2
              go_ret
              exact ⟨rfl, hkp2⟩
            · have h128' : decide (r < 128) = false := by simpa using h128
              have hini : ∀ q ∈ ns.take n, okR q := fun q hq => HOK.out q (List.mem_of_mem_take hq)
              have hcut := dec_cut (ns.take n) hini r hrok (by omega)
              have hsbe : sb = encL (ns.take n) ++ encB r := by
                rw [HSB.out]
                conv => lhs; rw [hnn, encL_append]
                simp [encL]
              have hchr := encB_char (r := r) (by omega) hrok.2.1 hrok.2.2.1
              have hbp : 0 < (encB r).length := List.length_pos_iff.2 (char_ne hchr)
              obtain ⟨L, hL⟩ : ∃ L, sb.length = L + 1 := ⟨sb.length - 1, by rw [hsbe, List.length_append]; omega⟩
              have htk : sb.take L = encL (ns.take n) ++ (encB r).dropLast := by
                have h1 : sb.dropLast = sb.take L := by rw [List.dropLast_eq_take, hL]; rfl
                rw [← h1, hsbe, List.dropLast_append_of_ne_nil (char_ne hchr)]
              have hexd : ((⟨sb.toArray⟩ : ByteArray).extract 0 L).data.toList = sb.take L := by rw [ByteArray.extract_mk]; simp
              have hexs : ((⟨sb.toArray⟩ : ByteArray).extract 0 L).size = L := by
                have h2 : ((⟨sb.toArray⟩ : ByteArray).extract 0 L).size = ((⟨sb.toArray⟩ : ByteArray).extract 0 L).data.toList.length := (Array.length_toList).symm
                rw [h2, hexd, List.length_take, hL]
                omega
              obtain ⟨st, hst⟩ : ∃ st, st = (⟨sb.toArray⟩ : ByteArray).extract 0 L := ⟨_, rfl⟩
              obtain ⟨ini, hin'⟩ : ∃ ini, ini = encL (ns.take n) := ⟨_, rfl⟩
              rw [← hst] at hexd hexs
              rw [← hin'] at hcut htk hsbe
              have hil : ini.length ≤ 2000 := by have := congrArg List.length hsbe; rw [List.length_append] at this; omega
              have ownI : Own K w2 21 (some ⟨gk, 0, none⟩) n kc ((ns.take n).map (Value.int .i32)) := (own2.take n (by omega)).cast rfl (by rw [List.map_take])
              have cv : ∀ X, Kept (fun k => k < w2.heap.size) w2 X → (convert 34 9 (.slice (some ⟨gk, 0, none⟩) n kc)).run Try.prog X = .ok (.string ⟨ini.toArray⟩) X := fun X hX => by rw [hin']; exact run_runes_own X (ownI.all hX)
              have dD : Calls Try.prog 13 #[.slice (some ⟨w2.heap.size, 0, none⟩) L (bcap w2.drew st)] (w2.alloc (bobj w2.drew st)).drew.drew fun e w' => e = .returned (.string (⟨ini.toArray⟩ ++ ⟨#[239, 191, 189]⟩)) ∧ Kept (fun k => k < w2.heap.size) w2 w' := by
                have h1 := decode_str w2.drew st (⟨ini.toArray⟩ ++ ⟨#[239, 191, 189]⟩) w2.heap.size L (bcap w2.drew st) rfl hexs.symm (by rw [hexs]; omega) (by
                  rw [hexd, htk, hcut]
                  have := ByteArray.mk_append_mk ini [239, 191, 189]
                  have h2 : ((⟨ini.toArray⟩ : ByteArray) ++ ⟨#[239, 191, 189]⟩) = ⟨(ini ++ [239, 191, 189]).toArray⟩ := this
                  rw [h2]
                  rfl)
                exact h1.mono fun e w' ⟨a1, a2⟩ => ⟨a1, ((Kept.refl _ w2).drew).trans a2⟩
              have hst' : (⟨sb.toArray⟩ : ByteArray).extract 0 L = st := hst.symm
              have hkc : (n : Int) ≤ (kc : Int) := by have := own2.2.1; omega
              have hLI : (0 : Int) ≤ (L : Int) := by omega
              have hL1 : ((L + 1 : Nat) : Int) - 1 = (L : Int) := by omega
              have hL2 : (L : Int) ≤ ((L + 1 : Nat) : Int) := by omega
              have hw1 : IntKind.i64.wrap (L : Int) = (L : Int) := wrap_small _ (by omega) (by omega)
              have hw2 : IntKind.i64.wrap (n : Int) = (n : Int) := wrap_small _ (by omega) (by omega)
              have hL3 : (L : Int) ≤ (L : Int) + 1 := by omega
              have hL4 : ini.length + 3 ≤ 9223372036854775807 := by omega
              have kX0 : Kept (fun k => k < w2.heap.size) w2 w2.drew := (Kept.refl _ _).drew
              have kX1 : Kept (fun k => k < w2.heap.size) w2 (w2.alloc (bobj w2.drew st)).drew.drew := ((Kept.refl _ w2).alloc (fun _ h => h) _).drew.drew
              clear hr hcl hini hcut hsbe hchr hbp htk hexd hst hin' ownI hrok hnn own2 HSB HOK
              go_wp2
              go_region_with (go_at_call 13; refine dD.mono ?_; rintro e w' ⟨rfl, hkq⟩)
              all_goals
                go_wp2
                go_ret
                exact ⟨rfl, hkp2.trans (hkq.mono HKL2.out)⟩

theorem rowR_of {w : World} {a : Option Addr} {len cap : Nat} {zs : List Int}
    (h : (a = none ∧ len = 0 ∧ cap = 0 ∧ zs = []) ∨ ∃ x, a = some x ∧ len ≤ cap ∧ cap ≤ maxLen ∧ zs.length = cap ∧ (∀ i, i < zs.length → w.cell? (x.add i) = some (.int .i32 (zs.getD i 0))) ∧ ∀ n ∈ zs, (Lit.int .i32 n).wf = true) :
    ∃ rs : List Int, rs.length = len ∧ len ≤ cap ∧ cap ≤ maxLen ∧ RowR (fun k => k < w.heap.size) w a rs := by
  rcases h with ⟨rfl, rfl, rfl, rfl⟩ | ⟨⟨g, o, sp⟩, rfl, h1, h2, h3, h4, h5⟩
  · exact ⟨[], rfl, Nat.le_refl _, Nat.zero_le _, .inl rfl⟩
  · by_cases h0 : len = 0
    · subst h0
      exact ⟨[], rfl, h1, h2, .inl rfl⟩
    · have hc := h4 0 (by omega)
      have hsp : sp = none := by simpa [Addr.add] using World.cell?_spot hc
      subst hsp
      refine ⟨zs.take len, by simp; omega, h1, h2, .inr ⟨g, o, rfl, World.block_lt_of_cell? w _ hc, fun j hj => ?_⟩⟩
      simp at hj
      have hj' : j < zs.length := by omega
      have hc' := h4 j hj'
      rw [Addr.add_lit] at hc'
      rw [hc']
      simp [hj']
end Go.Proofs.Ytnfallgpnoofiaa
