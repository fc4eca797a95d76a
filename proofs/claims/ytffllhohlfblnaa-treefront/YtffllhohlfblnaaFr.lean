/-
  What the document's SameAttrs, SameFaults and Same (of items) answer of what is alike.
-/
import Derived.Test.YtffllhohlfblnaaEB
import Derived.Test.YtffllhohlfblnaaED
import Derived.Test.YtffllhohlfblnaaFp
namespace Go.Proofs.Ytffllhohlfblnaa
open Go.RowKit

set_option maxRecDepth 20000 in
set_option maxHeartbeats 1000000 in
theorem sameA_any (l : List Atr) (aa ab : Option Addr) (ca cb : Nat) (hn : l.length ≤ 100000) (w : World) (ha : AtsIn (fun k => k < w.heap.size) w aa l) (hb : AtsIn (fun k => k < w.heap.size) w ab l) :
    Calls Try.prog 25 #[.slice aa l.length ca, .slice ab l.length cb] w fun e w' => e = .returned (.bool true) ∧ ∃ m, w' = w.drewN m := by
  have HA : Hid (AtsIn (fun k => k < w.heap.size) w aa l) := ha
  have HB : Hid (AtsIn (fun k => k < w.heap.size) w ab l) := hb
  obtain ⟨n, hne⟩ : ∃ n, l.length = n := ⟨_, rfl⟩
  have HN : Hid (l.length = n) := hne
  rw [hne] at hn ⊢
  clear ha hb hne
  go_enter Try.func25, Try.ntmps25
  go_wp2_with fail
  go_loopg [5] n (fun gm i wr => ∃ k m : Nat, gm = n - k ∧ k ≤ n ∧ i = .int .i64 k ∧ wr = w.drewN m)
  case atStart => exact ⟨0, 0, rfl, Nat.zero_le _, rfl, rfl⟩
  case round =>
    obtain ⟨k, m, hgk, hk, rfl, rfl⟩ := hrel
    by_cases hlt : k < n
    · obtain ⟨g, rfl, _, c0, c1⟩ := HA.out k (by rw [HN.out]; exact hlt)
      obtain ⟨g', rfl, _, d0, d1⟩ := HB.out k (by rw [HN.out]; exact hlt)
      clear HA HB
      obtain ⟨U, hU⟩ : ∃ S : ByteArray, (⟨(l[k]'(by rw [HN.out]; exact hlt)).name.toArray⟩ : ByteArray) = S := ⟨_, rfl⟩
      obtain ⟨V, hV⟩ : ∃ S : ByteArray, (⟨(l[k]'(by rw [HN.out]; exact hlt)).value.toArray⟩ : ByteArray) = S := ⟨_, rfl⟩
      replace c0 : w.cell? ⟨g, k * 2, none⟩ = some (.string U) := by rw [← hU]; exact c0
      replace c1 : w.cell? ⟨g, k * 2 + 1, none⟩ = some (.string V) := by rw [← hV]; exact c1
      replace d0 : w.cell? ⟨g', k * 2, none⟩ = some (.string U) := by rw [← hU]; exact d0
      replace d1 : w.cell? ⟨g', k * 2 + 1, none⟩ = some (.string V) := by rw [← hV]; exact d1
      clear hU hV HN
      go_wp2_with fail
      go_quiet (fail)
      go_wp2
      go_roundg (n - (k + 1))
      case rel => exact ⟨k + 1, _, rfl, by omega, by go_num, rfl⟩
      case measure => omega
    · have hkk : k = n := by omega
      subst hkk
      go_wp2
      go_ret
      exact ⟨rfl, m, rfl⟩

set_option maxRecDepth 20000 in
set_option maxHeartbeats 1000000 in
theorem sameF_any (l : List Fl) (aa ab : Option Addr) (ca cb : Nat) (hn : l.length ≤ 1000000) (w : World) (ha : FltsIn (fun k => k < w.heap.size) w aa l) (hb : FltsIn (fun k => k < w.heap.size) w ab l) :
    Calls Try.prog 13 #[.slice aa l.length ca, .slice ab l.length cb] w fun e w' => e = .returned (.bool true) ∧ ∃ m, w' = w.drewN m := by
  have HA : Hid (FltsIn (fun k => k < w.heap.size) w aa l) := ha
  have HB : Hid (FltsIn (fun k => k < w.heap.size) w ab l) := hb
  obtain ⟨n, hne⟩ : ∃ n, l.length = n := ⟨_, rfl⟩
  have HN : Hid (l.length = n) := hne
  rw [hne] at hn ⊢
  clear ha hb hne
  go_enter Try.func13, Try.ntmps13
  go_wp2_with fail
  go_loopg [5] n (fun gm i wr => ∃ k m : Nat, gm = n - k ∧ k ≤ n ∧ i = .int .i64 k ∧ wr = w.drewN m)
  case atStart => exact ⟨0, 0, rfl, Nat.zero_le _, rfl, rfl⟩
  case round =>
    obtain ⟨k, m, hgk, hk, rfl, rfl⟩ := hrel
    by_cases hlt : k < n
    · obtain ⟨g, rfl, _, c0, c1⟩ := HA.out k (by rw [HN.out]; exact hlt)
      obtain ⟨g', rfl, _, d0, d1⟩ := HB.out k (by rw [HN.out]; exact hlt)
      clear HA HB
      obtain ⟨u, hu⟩ : ∃ u, (l[k]'(by rw [HN.out]; exact hlt)).kind = u := ⟨_, rfl⟩
      obtain ⟨v, hv⟩ : ∃ u, (l[k]'(by rw [HN.out]; exact hlt)).pl = u := ⟨_, rfl⟩
      rw [hu] at c0 d0
      rw [hv] at c1 d1
      replace c0 : w.cell? ⟨g, k * 2, none⟩ = some (.int .u8 (u : Int)) := c0
      replace c1 : w.cell? ⟨g, k * 2 + 1, none⟩ = some (.int .i64 (v : Int)) := c1
      replace d0 : w.cell? ⟨g', k * 2, none⟩ = some (.int .u8 (u : Int)) := d0
      replace d1 : w.cell? ⟨g', k * 2 + 1, none⟩ = some (.int .i64 (v : Int)) := d1
      clear hu hv HN
      go_wp2_with fail
      go_quiet (fail)
      go_wp2
      go_roundg (n - (k + 1))
      case rel => exact ⟨k + 1, _, rfl, by omega, by go_num, rfl⟩
      case measure => omega
    · have hkk : k = n := by omega
      subst hkk
      go_wp2
      go_ret
      exact ⟨rfl, m, rfl⟩

set_option maxRecDepth 20000 in
set_option maxHeartbeats 1000000 in
theorem sameI_any (l : List It) (ta tb : Option Addr) (n ca cb : Nat) (hln : l.length = n) (hn : n ≤ 1000000) (hat : ∀ t ∈ l, t.attrs.length ≤ 100000) (w : World) (ha : ItsIn w ta l) (hb : ItsIn w tb l) :
    Calls Try.prog 12 #[.slice ta n ca, .slice tb n cb] w fun e w' => e = .returned (.bool true) ∧ Kept (fun k => k < w.heap.size) w w' := by
  have HA : Hid (∀ X, Kept (fun k => k < w.heap.size) w X → ItsIn X ta l) := fun X hX => ha.kept hX
  have HB : Hid (∀ X, Kept (fun k => k < w.heap.size) w X → ItsIn X tb l) := fun X hX => hb.kept hX
  have HN : Hid (l.length = n) := hln
  have HAT : Hid (∀ t ∈ l, t.attrs.length ≤ 100000) := hat
  clear ha hb hln hat
  go_enter Try.func12, Try.ntmps12
  go_wp2_with fail
  go_loopg [5] n (fun gm i wr => ∃ k : Nat, gm = n - k ∧ k ≤ n ∧ i = .int .i64 k ∧ Kept (fun k => k < w.heap.size) w wr)
  case atStart => exact ⟨0, rfl, Nat.zero_le _, rfl, Kept.refl _ _⟩
  case round =>
    obtain ⟨k, hgk, hk, rfl, kp⟩ := hrel
    by_cases hlt : k < n
    · have hlt' : k < l.length := by rw [HN.out]; exact hlt
      obtain ⟨g, aa, ac, rfl, gl, ha, -, hc⟩ := HA.out wr kp k hlt'
      obtain ⟨g', ab, ac', rfl, gl', hb, -, hd⟩ := HB.out wr kp k hlt'
      have hal := HAT.out l[k] (List.getElem_mem hlt')
      obtain ⟨x, hx⟩ : ∃ t, l[k] = t := ⟨_, rfl⟩
      rw [hx] at ha hb hal hc hd
      clear HA HB HAT HN hx hlt'
      obtain ⟨deep, kind, name, attrs, data⟩ := x
      dsimp only at ha hb hal
      obtain ⟨U, hU⟩ : ∃ S : ByteArray, (⟨name.toArray⟩ : ByteArray) = S := ⟨_, rfl⟩
      obtain ⟨V, hV⟩ : ∃ S : ByteArray, (⟨data.toArray⟩ : ByteArray) = S := ⟨_, rfl⟩
      have c0 : wr.cell? ⟨g, k * 5, none⟩ = some (.int .i64 (deep : Int)) := hc 0 _ rfl
      have c1 : wr.cell? ⟨g, k * 5 + 1, none⟩ = some (.int .u8 (kind : Int)) := hc 1 _ rfl
      have c2 : wr.cell? ⟨g, k * 5 + 2, none⟩ = some (.string U) := by rw [← hU]; exact hc 2 _ rfl
      have c3 : wr.cell? ⟨g, k * 5 + 3, none⟩ = some (.string V) := by rw [← hV]; exact hc 3 _ rfl
      have c4 : wr.cell? ⟨g, k * 5 + 4, none⟩ = some (.slice aa attrs.length ac) := hc 4 _ rfl
      have e0 : ∀ oo i, (wr.alloc oo).cell? ⟨g', i, none⟩ = wr.cell? ⟨g', i, none⟩ := fun oo i => World.cell?_of_block (w := wr) (Below.heap_alloc _ _ _ gl')
      have x0 : ∀ oo, (wr.alloc oo).cell? ⟨g', k * 5, none⟩ = some (.int .i64 (deep : Int)) := fun oo => (e0 oo _).trans (hd 0 _ rfl)
      have x1 : ∀ oo, (wr.alloc oo).cell? ⟨g', k * 5 + 1, none⟩ = some (.int .u8 (kind : Int)) := fun oo => (e0 oo _).trans (hd 1 _ rfl)
      have x2 : ∀ oo, (wr.alloc oo).cell? ⟨g', k * 5 + 2, none⟩ = some (.string U) := fun oo => (e0 oo _).trans (by rw [← hU]; exact hd 2 _ rfl)
      have x3 : ∀ oo, (wr.alloc oo).cell? ⟨g', k * 5 + 3, none⟩ = some (.string V) := fun oo => (e0 oo _).trans (by rw [← hV]; exact hd 3 _ rfl)
      have x4 : ∀ oo, (wr.alloc oo).cell? ⟨g', k * 5 + 4, none⟩ = some (.slice ab attrs.length ac') := fun oo => (e0 oo _).trans (hd 4 _ rfl)
      have HS : Hid (∀ X, Kept (fun k => k < wr.heap.size) wr X → Calls Try.prog 25 #[.slice aa attrs.length ac, .slice ab attrs.length ac'] X fun e w' => e = .returned (.bool true) ∧ ∃ m, w' = X.drewN m) := fun X hX =>
        sameA_any attrs aa ab ac ac' hal X (ha.kept hX fun k hk => Nat.lt_of_lt_of_le hk hX.size) (hb.kept hX fun k hk => Nat.lt_of_lt_of_le hk hX.size)
      have hka : ∀ p q, Kept (fun k => k < wr.heap.size) wr ((wr.alloc p).alloc q) := fun p q => ((Kept.refl _ wr).alloc (fun _ h => h) p).alloc (fun k hk => by have : k < wr.heap.size := hk; simp; omega) q
      have hkb : ∀ p q, Kept (fun k => k < w.heap.size) w ((wr.alloc p).alloc q) := fun p q => kp.trans ((hka p q).mono fun k hk => Nat.lt_of_lt_of_le hk kp.size)
      have hs := fun p q => HS.out _ (hka p q)
      clear HS ha hb hka e0 gl gl' hc hd hU hV
      go_wp2_with fail
      refine (hs _ _).mono ?_
      rintro e w2 ⟨rfl, m, rfl⟩
      go_wp2
      go_roundg (n - (k + 1))
      case rel => exact ⟨k + 1, rfl, by omega, by go_num, (hkb _ _).drewN m⟩
      case measure => omega
    · have hkk : k = n := by omega
      subst hkk
      go_wp2
      go_ret
      exact ⟨rfl, kp⟩
end Go.Proofs.Ytffllhohlfblnaa

namespace Go.Proofs.Ytffllhohlfblnaa
open Go.RowKit Go.Sort

theorem ToksIn.take {K : Nat → Prop} {w : World} {ta : Option Addr} {l : List Tk} (h : ToksIn K w ta l) (n : Nat) : ToksIn K w ta (l.take n) := by
  intro j hj
  rw [List.length_take] at hj
  have := h j (by omega)
  simpa [List.getElem_take] using this
theorem ItsIn.front {w : World} {ia : Option Addr} {l m : List It} (h : ItsIn w ia m) (hp : l <+: m) : ItsIn w ia l := by
  obtain ⟨r, rfl⟩ := hp
  intro j hj
  have := h j (by rw [List.length_append]; omega)
  rwa [List.getElem_append_left hj] at this
theorem FltsIn.front {K : Nat → Prop} {w : World} {fa : Option Addr} {l m : List Fl} (h : FltsIn K w fa m) (hp : l <+: m) : FltsIn K w fa l := by
  obtain ⟨r, rfl⟩ := hp
  intro j hj
  have := h j (by rw [List.length_append]; omega)
  rwa [List.getElem_append_left hj] at this
theorem it_fin (b : BS) (so ba : List UInt8 → Bool) : (b.fin so ba).items = b.items := (fin_opn b so ba).2.2
theorem take_b' (b : BS) (t : Tk) : (b.take t).items.length ≤ b.items.length + 1 := by
  have item : ∀ (k : Nat) (n d : List UInt8) (l : List Atr) (c : BS), c.items = b.items → (c.item k n l d).items.length ≤ b.items.length + 1 := fun k n d l c hc => by
    show (c.items ++ [_]).length ≤ _
    rw [hc]
    simp
  unfold BS.take
  split
  · unfold BS.start
    split
    · have e : (((((b.first t.name t.pl).para t.name).flts' (t.attrs.length - (keepA [] t.attrs).length) 5 t.pl).item 1 t.name (keepA [] t.attrs) []).open1 t.name).items = ((b.first t.name t.pl).para t.name).items ++ [⟨((b.first t.name t.pl).para t.name).opn.length, 1, t.name, keepA [] t.attrs, []⟩] := by
        unfold BS.open1
        split <;> rfl
      rw [e, (para_b _ _).2.2, (first_b _ _ _).2.2]
      simp
    · exact Nat.le_succ _
  split
  · cases hq : seek (soughtBy t.name) (barredBy t.name) b.opn with
    | none =>
      rw [stop_none hq]
      split
      · exact item 1 t.name [] [] b rfl
      · exact Nat.le_succ _
    | some k =>
      rw [stop_some hq]
      split
      · rw [it_fin]; exact Nat.le_succ _
      · show (b.fin (soughtBy t.name) (barredBy t.name)).items.length ≤ _
        rw [it_fin]; exact Nat.le_succ _
  split
  · split
    · exact Nat.le_succ _
    · exact item 2 [] t.data [] b rfl
  split
  · exact item 3 [] t.data [] b rfl
  split
  · split
    · exact item 6 t.name [] [] b rfl
    · exact Nat.le_succ _
  · exact Nat.le_succ _
/-- An item of what was built has few attributes. -/
theorem items_few (s : List UInt8) (c : BS) (h : buildL (tokL s).toks = some c) : ∀ x ∈ c.items, x.attrs.length ≤ 100000 := by
  have key : ∀ (l : List Tk) (b c : BS), (∀ t ∈ l, t.attrs.length ≤ 50) → (∀ x ∈ b.items, x.attrs.length ≤ 50) → buildF b l = some c → ∀ x ∈ c.items, x.attrs.length ≤ 50 := by
    intro l
    induction l with
    | nil =>
      intro b c _ hb h
      injection h with h
      subst h
      exact hb
    | cons t r ih =>
      intro b c hl hb h
      unfold buildF at h
      split at h
      · cases h
      · rename_i hf
        refine ih _ c (fun x hx => hl x (by simp [hx])) ?_ h
        obtain ⟨m, hm⟩ := (Fro.take b t).items
        have hlen := (take_b' b t)
        intro x hx
        rw [← hm] at hx
        rcases List.mem_append.1 hx with hx | hx
        · exact hb x hx
        · have hf' : lastA (b.take t).items ≤ 50 := by
            unfold BS.full at hf
            simp only [Bool.or_eq_true, decide_eq_true_eq, not_or] at hf
            omega
          have hm1 : m.length ≤ 1 := by
            have := congrArg List.length hm
            rw [List.length_append] at this
            omega
          match m, hm1, hx, hm with
          | [y], _, hx, hm =>
            rw [List.mem_singleton.1 hx]
            rw [← hm, lastA_snoc] at hf'
            exact hf'
  intro x hx
  have := key _ BS.new c (tok_attrs s) (fun _ h => by cases h) h x hx
  omega

set_option maxRecDepth 20000 in
set_option maxHeartbeats 2000000 in
theorem front_any (a0 : ByteArray) (a1 : Int) (h1 : 0 ≤ a1 ∧ a1 ≤ 65535) (w : World) :
    Calls Try.prog 3 #[.string a0, .int .u16 a1] w fun e w' => e = .returned (.bool true) ∧ Kept (fun k => k < w.heap.size) w w' := by
  have rk := known_any w
  by_cases hz : a0.size ≤ 1000
  · have hz' : decide ((a0.size : Int) > 1000) = false := decide_eq_false (by omega)
    obtain ⟨s, hs⟩ : ∃ s : List UInt8, a0 = ⟨s.toArray⟩ := ⟨a0.data.toList, by rw [Array.toArray_toList]⟩
    have hsl : s.length ≤ 1000 := by rw [hs, sv_size] at hz; exact hz
    obtain ⟨c, hc, hci, hcf, hwt, hsz⟩ := tok_build s (by omega)
    have hcnt := tok_count s
    have hfew := items_few s c hc
    obtain ⟨N, hN⟩ : ∃ N, (tokL s).toks.length = N := ⟨_, rfl⟩
    obtain ⟨M, hM⟩ : ∃ M, (tokL s).flts.length = M := ⟨_, rfl⟩
    obtain ⟨n, hn⟩ : ∃ n : Nat, a1.tmod ((N : Int) + 1) = (n : Int) := ⟨(a1.tmod ((N : Int) + 1)).toNat, by
      rw [Int.tmod_eq_emod_of_nonneg h1.1]
      have := Int.emod_nonneg a1 (show (N : Int) + 1 ≠ 0 by omega)
      omega⟩
    have hnN : n ≤ N := by
      rw [Int.tmod_eq_emod_of_nonneg h1.1] at hn
      have := Int.emod_lt_of_pos a1 (show (0 : Int) < (N : Int) + 1 by omega)
      omega
    obtain ⟨d, hd1, hd2⟩ : ∃ d, buildF BS.new ((tokL s).toks.take n) = some d ∧ buildF d ((tokL s).toks.drop n) = some c := build_append _ _ _ _ (by rw [List.take_append_drop]; exact hc)
    have hfr := fro_build _ hd2
    have htk : ((tokL s).toks.take n).length = n := by rw [List.length_take]; omega
    have hwt2 : wtL ((tokL s).toks.take n) ≤ 208000 := by
      have := wt_few ((tokL s).toks.take n) fun t ht => tok_attrs s t (List.mem_of_mem_take ht)
      omega
    have r1 := fun X => dtokens s (by omega) (fun k => k < X.heap.size) X (fun _ h => h)
    have r2 := fun X ta tc hT => build_any (tokL s).toks ta N tc hN (by omega) (by omega) hsz X hT
    have r3 := fun X ta tc hT => build_any ((tokL s).toks.take n) ta n tc htk (by omega) (by omega) (fun t ht => hsz t (List.mem_of_mem_take ht)) X hT
    have hd1' : buildL ((tokL s).toks.take n) = some d := hd1
    simp only [hN, hM] at r1
    simp only [hc] at r2
    simp only [hd1'] at r3
    have hlI := hfr.items.length_le
    have hlF := hfr.flts.length_le
    have HFR : Hid (Fro d c) := hfr
    have HFEW : Hid (∀ x ∈ c.items, x.attrs.length ≤ 100000) := hfew
    obtain ⟨i1, hi1⟩ : ∃ n, c.items.length = n := ⟨_, rfl⟩
    obtain ⟨f1, hf1⟩ : ∃ n, c.flts.length = n := ⟨_, rfl⟩
    obtain ⟨i2, hi2⟩ : ∃ n, d.items.length = n := ⟨_, rfl⟩
    obtain ⟨f2, hf2⟩ : ∃ n, d.flts.length = n := ⟨_, rfl⟩
    have r2' : ∀ X ta tc, ToksIn (fun k => k < X.heap.size) X ta (tokL s).toks → Calls Try.prog 11 #[.slice ta N tc] X fun e w' => (∃ ia ic fa fc, e = .returned (.tuple #[.slice ia i1 ic, .slice fa f1 fc, .int .u16 0]) ∧ ItsIn w' ia c.items ∧ FltsIn (fun k => k < w'.heap.size) w' fa c.flts ∧ i1 ≤ ic ∧ f1 ≤ fc) ∧ Kept (fun k => k < X.heap.size) X w' := fun X ta tc hT => (r2 X ta tc hT).mono (by
      rintro e w' ⟨⟨ia, ic, fa, fc, q1, q2, q3, q4, q5⟩, q6⟩
      rw [hi1] at q1 q4
      rw [hf1] at q1 q5
      exact ⟨⟨ia, ic, fa, fc, q1, q2, q3, q4, q5⟩, q6⟩)
    have r3' : ∀ X ta tc, ToksIn (fun k => k < X.heap.size) X ta ((tokL s).toks.take n) → Calls Try.prog 11 #[.slice ta n tc] X fun e w' => (∃ ia ic fa fc, e = .returned (.tuple #[.slice ia i2 ic, .slice fa f2 fc, .int .u16 0]) ∧ ItsIn w' ia d.items ∧ FltsIn (fun k => k < w'.heap.size) w' fa d.flts ∧ i2 ≤ ic ∧ f2 ≤ fc) ∧ Kept (fun k => k < X.heap.size) X w' := fun X ta tc hT => (r3 X ta tc hT).mono (by
      rintro e w' ⟨⟨ia, ic, fa, fc, q1, q2, q3, q4, q5⟩, q6⟩
      rw [hi2] at q1 q4
      rw [hf2] at q1 q5
      exact ⟨⟨ia, ic, fa, fc, q1, q2, q3, q4, q5⟩, q6⟩)
    rw [hi1, hi2] at hlI
    rw [hf1, hf2] at hlF
    rw [hi1] at hci
    rw [hf1] at hcf
    have HL : Hid (d.items.length = i2 ∧ d.flts.length = f2) := ⟨hi2, hf2⟩
    have r1' : ∀ X, Calls Try.prog 10 #[.string a0] X _ := fun X => by rw [hs]; exact r1 X
    have nn : (n : Int) ≤ (N : Int) := by omega
    have hd0 : ((N : Int) + 1 == 0) = false := by
      have : (N : Int) + 1 ≠ 0 := by omega
      simpa using this
    have hd1 : ¬ ((N : Int) + 1 = 0) := by omega
    have hN4 : N ≤ 4000 := by omega
    clear r1 r2 r3 hs hc hsz hwt hwt2 hcnt hfew hd1' hd2 hfr htk hN hM hi1 hf1 hi2 hf2 hsl
    go_enter Try.func3, Try.ntmps3
    go_wp2_with fail
    refine rk.mono ?_
    rintro e w1 ⟨rfl, k1⟩
    have HK1 : Hid (Kept (fun k => k < w.heap.size) w w1) := k1
    clear rk k1
    go_wp2_with fail
    refine (r1' w1).mono ?_
    rintro e w2 ⟨ta, tc, fa, fc, rfl, hT, -, k2, hcap, -⟩
    have HT : Hid (ToksIn (fun k => k < w2.heap.size) w2 ta (tokL s).toks) := hT
    have HK2 : Hid (Kept (fun k => k < w.heap.size) w w2) := HK1.out.trans (k2.mono fun k h => Nat.lt_of_lt_of_le h HK1.out.size)
    have r4 := r2' w2 ta tc hT
    have hcap' : N ≤ tc := hcap
    have ncap : n ≤ tc := by omega
    clear r1' r2' hT k2 HK1 hcap
    go_wp2_with fail
    refine r4.mono ?_
    rintro e w3 ⟨⟨ia, ic, fa1, fc1, rfl, hI1, hF1, hic, hfc⟩, k3⟩
    have HI1 : Hid (ItsIn w3 ia c.items ∧ FltsIn (fun k => k < w3.heap.size) w3 fa1 c.flts) := ⟨hI1, hF1⟩
    have HT3 : Hid (ToksIn (fun k => k < w3.heap.size) w3 ta (tokL s).toks) := HT.out.kept k3 fun k h => Nat.lt_of_lt_of_le h k3.size
    have HK3 : Hid (Kept (fun k => k < w.heap.size) w w3) := HK2.out.trans (k3.mono fun k h => Nat.lt_of_lt_of_le h HK2.out.size)
    have r5 := r3' w3 ta tc (HT3.out.take n)
    clear r4 r3' hI1 hF1 k3 HT HK2
    go_wp2_with fail
    refine r5.mono ?_
    rintro e w4 ⟨⟨ib, id, fb, fd, rfl, hI2, hF2, hid, hfd⟩, k4⟩
    have HK4 : Hid (Kept (fun k => k < w.heap.size) w w4) := HK3.out.trans (k4.mono fun k h => Nat.lt_of_lt_of_le h HK3.out.size)
    have r6 := sameI_any d.items ia ib i2 ic id HL.out.1 (by omega) (fun x hx => HFEW.out x (HFR.out.items.subset hx)) w4 ((HI1.out.1.kept k4).front HFR.out.items) hI2
    have HF : Hid (FltsIn (fun k => k < w4.heap.size) w4 fa1 d.flts ∧ FltsIn (fun k => k < w4.heap.size) w4 fb d.flts) := ⟨(HI1.out.2.kept k4 fun k h => Nat.lt_of_lt_of_le h k4.size).front HFR.out.flts, hF2⟩
    have o1 : i2 ≤ ic := by omega
    have o2 : f2 ≤ fc1 := by omega
    have q1 : decide ((i2 : Int) > (i1 : Int)) = false := decide_eq_false (by omega)
    have q2 : decide ((f2 : Int) > (f1 : Int)) = false := decide_eq_false (by omega)
    clear r5 hI2 hF2 k4 HI1 HT3 HK3
    go_wp2_with fail
    refine r6.mono ?_
    rintro e w5 ⟨rfl, k5⟩
    have HK5 : Hid (Kept (fun k => k < w.heap.size) w w5) := HK4.out.trans (k5.mono fun k h => Nat.lt_of_lt_of_le h HK4.out.size)
    have r7 := sameF_any d.flts fa1 fb fc1 fd (by rw [HL.out.2]; omega) w5 (HF.out.1.kept k5 fun k h => Nat.lt_of_lt_of_le h k5.size) (HF.out.2.kept k5 fun k h => Nat.lt_of_lt_of_le h k5.size)
    rw [HL.out.2] at r7
    clear r6 k5 HF HK4
    go_wp2_with fail
    refine r7.mono ?_
    rintro e w6 ⟨rfl, m, rfl⟩
    clear r7
    go_wp2
    go_ret
    exact ⟨rfl, HK5.out.drewN m⟩
  · have hz' : decide ((a0.size : Int) > 1000) = true := decide_eq_true (by omega)
    go_enter Try.func3, Try.ntmps3
    go_wp2_with fail
    refine rk.mono ?_
    rintro e w1 ⟨rfl, k1⟩
    clear rk
    go_wp2
    go_ret
    exact ⟨rfl, k1⟩
end Go.Proofs.Ytffllhohlfblnaa
