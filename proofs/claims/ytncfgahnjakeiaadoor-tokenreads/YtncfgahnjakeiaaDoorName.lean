/-
  What the program's length and takeName answer.
-/
import Derived.Test.YtncfgahnjakeiaaDoorMeant
import Derived.Laws.Rows
namespace Go.Proofs.YtncfgahnjakeiaaDoor
open Go.RowKit
/-- A name's value, as the table holds it. -/
def nmB (r : Nm) : ByteArray := ⟨r.name.toArray⟩
theorem nmB_list (r : Nm) : (nmB r).data.toList = r.name := rfl
theorem nmB_size (r : Nm) : (nmB r).size = r.name.length := rfl
theorem lenN_no {r : Nm} {s : ByteArray} (h : preS (nmB r) s = false) : lenN r s.data.toList = 0 := by
  unfold lenN
  rw [if_neg]
  rw [Bool.not_eq_true]
  exact h
theorem lenN_yes {r : Nm} {s : ByteArray} (h : preS (nmB r) s = true) : lenN r s.data.toList = if preS ⟨#[59]⟩ (s.extract (nmB r).size s.size) = true then (nmB r).size + 1 else if r.bare = true then (nmB r).size else 0 := by
  unfold lenN
  rw [if_pos (show r.name.isPrefixOf s.data.toList = true from h), nmB_size]
  unfold preS semi
  rw [extract_list]
  have e1 : s.data.toList.take s.size = s.data.toList := List.take_length
  rw [e1]
theorem length_any (r : Nm) (s : ByteArray) (K : Nat → Prop) (w : World) (hK : ∀ k, K k → k < w.heap.size) (hr : r.name.length < 1000) :
    Calls Tryd.prog 98 #[.agg #[.string (nmB r), .int .i32 r.code, .bool r.bare], .string s] w fun e w' => e = .returned (.int .i64 (lenN r s.data.toList)) ∧ Kept K w w' := by
  have h1 := fun X => pre_any s (nmB r) X
  have kk : ∀ o, Kept K w (w.alloc o) := fun o => (Kept.refl K w).alloc hK o
  have hz : (nmB r).size < 1000 := hr
  by_cases hp : preS (nmB r) s = true
  · have hl := lenN_yes hp
    have hle : (nmB r).size ≤ s.size := prefix_length _ _ hp
    rw [hp] at h1
    have h2 := fun X => pre_any (s.extract (nmB r).size s.size) ⟨#[59]⟩ X
    obtain ⟨b, hb⟩ : ∃ b, preS ⟨#[59]⟩ (s.extract (nmB r).size s.size) = b := ⟨_, rfl⟩
    rw [hb] at h2 hl
    rw [hl]
    clear hl hb hp
    obtain ⟨n, hn⟩ : ∃ n, nmB r = n := ⟨_, rfl⟩
    rw [hn] at h1 h2 hz hle ⊢
    obtain ⟨ba, hba⟩ : ∃ n, r.bare = n := ⟨_, rfl⟩
    rw [hba]
    obtain ⟨co, hco⟩ : ∃ n, r.code = n := ⟨_, rfl⟩
    rw [hco]
    clear hn hba hco hr
    cases b <;> cases ba
    all_goals
      go_enter Tryd.func98, Tryd.ntmps98
      go_wp2_with fail
      refine (h1 _).mono ?_
      rintro e w1 ⟨rfl, rfl⟩
      go_wp2_with fail
      refine (h2 _).mono ?_
      rintro e w1 ⟨rfl, rfl⟩
      go_wp2
      go_ret
      exact ⟨rfl, kk _⟩
  · have hp : preS (nmB r) s = false := by simpa using hp
    have hl := lenN_no hp
    rw [hp] at h1
    rw [hl]
    clear hl hp
    go_enter Tryd.func98, Tryd.ntmps98
    go_wp2_with fail
    refine (h1 _).mono ?_
    rintro e w1 ⟨rfl, rfl⟩
    go_wp2
    go_ret
    exact ⟨rfl, kk _⟩

def rowV (r : Nm) : List Value := [.string (nmB r), .int .i32 r.code, .bool r.bare]
/-- The table's cells. -/
def refCells : List Value := names.flatMap rowV
theorem info56 : (Tryd.prog.info? 95).map (·.size) = some 66 := by kernel_rfl
theorem info55 : (Tryd.prog.info? 94).map (·.size) = some 3 := by kernel_rfl
theorem flat_at : ∀ (rs : List Nm) (k : Nat) (h : k < rs.length), ((rs.flatMap rowV).drop (k * 3)).take 3 = rowV rs[k]
  | [], k, h => by cases h
  | r :: rs, 0, _ => by simp [rowV]
  | r :: rs, k + 1, h => by
    have ih := flat_at rs k (by simpa using h)
    have e : (k + 1) * 3 = k * 3 + 3 := by omega
    rw [List.getElem_cons_succ, ← ih, e]
    simp [rowV]
theorem run_ref (k : Nat) (h : k < names.length) (W : World) : (Instr.index 95 (.agg refCells.toArray) (.int .i64 k)).run Tryd.prog W = .ok (.agg #[.string (nmB names[k]), .int .i32 (names[k].code : Nat), .bool names[k].bare]) W := by
  obtain ⟨i, hi, hz⟩ := Option.map_eq_some_iff.1 info55
  have h22 : k < 22 := h
  have hf := flat_at names k h
  have he : List.take 3 (List.drop (k * 3) refCells) = [.string (nmB names[k]), .int .i32 (names[k].code : Nat), .bool names[k].bare] := hf
  have hu := run_underlying (P := Tryd.prog) Tryd.underlying95 W
  simp [Instr.index, asIntOf, hu, part, isAgg, sizeOf, typeInfo, hi, hz, he, h22]
  exact ⟨rfl, rfl, rfl⟩

theorem tup3 {t : ByteArray} {n f : Int} {R : Ref} (h : R.text = t ∧ (R.n : Int) = n ∧ (R.fault : Int) = f) : Ending.returned (.tuple #[.string t, .int .i64 n, .int .u8 f]) = Ending.returned (.tuple #[.string R.text, .int .i64 R.n, .int .u8 R.fault]) := by
  rw [h.1, h.2.1, h.2.2]
theorem fields {R : Ref} {t : ByteArray} {n f : Nat} (h : R = ⟨t, n, f⟩) : R.text = t ∧ (R.n : Int) = (n : Int) ∧ (R.fault : Int) = (f : Int) := by
  subst h
  dsimp only
  exact ⟨rfl, rfl, rfl⟩
theorem step_no {l : List UInt8} {st : St} {r : Nm} (h : ¬ st.long < lenN r l) : stepN l st r = st := if_neg h
theorem step_yes {l : List UInt8} {st : St} {r : Nm} (h : st.long < lenN r l) : stepN l st r = ⟨r.code, lenN r l, semi (l.drop r.name.length)⟩ := if_pos h
theorem names_short : ∀ r ∈ names, r.name.length < 1000 := by decide
theorem names_code : ∀ r ∈ names, r.code < 10000 := by decide
theorem scan_code (l : List UInt8) : ∀ k, (scanN l (names.take k)).code < 10000 := by
  intro k
  have key : ∀ (rs : List Nm) (st : St), (∀ r ∈ rs, r.code < 10000) → st.code < 10000 → (rs.foldl (stepN l) st).code < 10000 := by
    intro rs
    induction rs with
    | nil => exact fun _ _ h => h
    | cons r rs ih =>
      intro st hm h
      refine ih _ (fun r hr => hm r (List.mem_cons_of_mem _ hr)) ?_
      unfold stepN
      split
      · exact hm r List.mem_cons_self
      · exact h
  exact key _ _ (fun r hr => names_code r (List.mem_of_mem_take hr)) (by show 0 < 10000; omega)
set_option maxRecDepth 20000 in
set_option maxHeartbeats 1000000 in
theorem takeName_any (s : ByteArray) (attr : Bool) (K : Nat → Prop) (w : World) (hK : ∀ k, K k → k < w.heap.size) (hs : s.size < 1000000) (tt : TypeId) (hg : w.heap[0]? = some (.cells refCells.toArray tt (0, 0))) :
    Calls Tryd.prog 80 #[.string s, .bool attr] w fun e w' => e = .returned (.tuple #[.string (nameL s.data.toList attr).text, .int .i64 (nameL s.data.toList attr).n, .int .u8 (nameL s.data.toList attr).fault]) ∧ Kept K w w' := by
  have hix := run_ref
  obtain ⟨R, hR⟩ : ∃ R, nameL s.data.toList attr = R := ⟨_, rfl⟩
  rw [hR]
  have HR : Hid (endR (scanN s.data.toList names) s.data.toList attr = R) := hR
  clear hR
  obtain ⟨cs, hcs⟩ : ∃ cs, refCells.toArray = cs := ⟨_, rfl⟩
  have hi : (Tryd.prog.info? 95).map (·.size) = some cs.size := by rw [← hcs]; exact info56
  rw [hcs] at hix hg
  clear hcs
  have HIX : Hid (∀ (k : Nat) (h : k < names.length) (W : World), (Instr.index 95 (.agg cs) (.int .i64 k)).run Tryd.prog W = .ok (.agg #[.string (nmB names[k]), .int .i32 (names[k].code : Nat), .bool names[k].bare]) W) := hix
  clear hix
  have hl0 : s.data.toList.length = s.size := rfl
  go_enter Tryd.func80, Tryd.ntmps80
  go_wp2_with (refine wpList_load_row rfl 95 _ rfl 0 rfl tt _ (0, 0) _ hg Tryd.underlying95 rfl hi ?_)
  clear hg hi
  go_loopw [7, 8, 10, 11, 13, 14, 15, 16, 17, 18, 19, 20, 21, 22, 23, 24, 25] (fun c l _ _ i _ _ _ _ _ _ _ _ _ _ _ _ wr => ∃ k : Nat, k ≤ 22 ∧ i = .int .i64 k ∧ c = .int .i32 (scanN s.data.toList (names.take k)).code ∧ l = .int .i64 (scanN s.data.toList (names.take k)).long ∧ Kept K w wr) (fun _ _ _ _ i _ _ _ _ _ _ _ _ _ _ _ _ _ => 22 - (intOf i).toNat)
  case atStart => exact ⟨0, Nat.zero_le _, rfl, rfl, rfl, Kept.refl _ _⟩
  case round =>
    obtain ⟨k, hk, rfl, rfl, rfl, hkp⟩ := hrel
    by_cases hlt : k < 22
    · have hn : k < names.length := hlt
      have hx := HIX.out k hn wr
      have HS : Hid (scanN s.data.toList (names.take (k + 1)) = stepN s.data.toList (scanN s.data.toList (names.take k)) names[k]) := by
        show scanN _ _ = _
        rw [List.take_succ_eq_append_getElem hn, scanN_snoc]
      obtain ⟨K', hK'⟩ : ∃ K' : Nat → Prop, (fun k => K k ∨ k = wr.heap.size) = K' := ⟨_, rfl⟩
      have hlen := fun X hX => length_any names[k] s K' X hX (names_short _ (List.getElem_mem hn))
      obtain ⟨r, hr⟩ : ∃ r, names[k] = r := ⟨_, rfl⟩
      rw [hr] at hx HS hlen
      obtain ⟨st, hst⟩ : ∃ st, scanN s.data.toList (names.take k) = st := ⟨_, rfl⟩
      have hsl := scanN_long s.data.toList (names.take k)
      rw [hst] at HS hsl ⊢
      have hll := lenN_le r s.data.toList
      have HSn : Hid (¬ st.long < lenN r s.data.toList → stepN s.data.toList st r = st) := step_no
      have HSy : Hid (st.long < lenN r s.data.toList → stepN s.data.toList st r = ⟨r.code, lenN r s.data.toList, semi (s.data.toList.drop r.name.length)⟩) := step_yes
      obtain ⟨n, hn'⟩ : ∃ n, lenN r s.data.toList = n := ⟨_, rfl⟩
      rw [hn'] at hlen hll HSn HSy
      clear hn hr hst hn' HIX
      have hKr : ∀ o, ∀ k, K' k → k < (wr.alloc o).heap.size := fun o k hk => by
        rw [← hK'] at hk
        rcases hk with hk | rfl
        · have := Nat.lt_of_lt_of_le (hK k hk) hkp.size
          simp
          omega
        · simp
      have hK1 : ∀ k, K k → K' k := fun k hk => by rw [← hK']; exact .inl hk
      have hK2 : K' wr.heap.size := by rw [← hK']; exact .inr rfl
      clear hK'
      have hkp1 := fun o => hkp.alloc (fun k hk => Nat.lt_of_lt_of_le (hK k hk) hkp.size) o
      by_cases hgt : st.long < n
      · go_wp2_with fail
        refine (hlen _ (hKr _)).mono ?_
        rintro e w1 ⟨rfl, hk1⟩
        have hc1 : w1.cell? ⟨wr.heap.size, 1, none⟩ = some (.int .i32 (r.code : Nat)) := by
          rw [hk1.cell (p := ⟨wr.heap.size, 1, none⟩) hK2]
          simp
        have hk2 := (hkp1 _).trans (hk1.mono hK1)
        clear hk1 hkp1 hKr hK2 hK1
        go_wp2
        go_roundw
        case rel => exact ⟨k + 1, by omega, by go_num, by rw [HS.out, HSy.out hgt], by rw [HS.out, HSy.out hgt], hk2⟩
        case measure => simp [intOf]; omega
      · go_wp2_with fail
        refine (hlen _ (hKr _)).mono ?_
        rintro e w1 ⟨rfl, hk1⟩
        go_wp2
        go_roundw
        case rel => exact ⟨k + 1, by omega, by go_num, by rw [HS.out, HSn.out hgt], by rw [HS.out, HSn.out hgt], (hkp1 _).trans (hk1.mono hK1)⟩
        case measure => simp [intOf]; omega
    · have hk22 : k = 22 := by omega
      subst hk22
      have e22 : names.take 22 = names := rfl
      rw [e22]
      have HE := fun h => scanN_end s.data.toList names names_semi h
      have HC := scan_code s.data.toList 22
      rw [e22] at HC
      have hsl := scanN_long s.data.toList names
      clear HIX hK
      obtain ⟨st, hst⟩ : ∃ st, scanN s.data.toList names = st := ⟨_, rfl⟩
      rw [hst] at HE HC hsl HR ⊢
      clear hst e22
      obtain ⟨co, lo, en⟩ := st
      dsimp only at HE HC hsl ⊢
      by_cases h0 : lo = 0
      · subst h0
        have HR2 : Hid (R = none0) := HR.out.symm.trans (if_pos rfl)
        clear HE hsl HR
        go_wp2
        go_ret3
        exact ⟨tup3 (fields HR2.out), hkp⟩
      · obtain ⟨j, rfl⟩ : ∃ j, lo = j + 1 := ⟨lo - 1, by omega⟩
        have hj : j < s.size := by omega
        have hE : (s[j] = 59) ↔ en = true := by
          rw [← HE (by omega), Nat.add_sub_cancel, List.getElem?_eq_getElem (by omega)]
          simp
          rfl
        have HR1 : Hid (R = if en = true then ⟨Utf8.encode co, 1 + (j + 1), 0⟩ else if (attr && goes (s.data.toList.drop (j + 1))) = true then none0 else ⟨Utf8.encode co, 1 + (j + 1), 1⟩) := HR.out.symm.trans (if_neg h0)
        clear HE h0 HR
        by_cases hen : en = true
        · have h59 := hE.2 hen
          have e59 : ((s[j].toNat : Int) == 59) = true := by rw [h59]; rfl
          have HR2 : Hid (R = ⟨Utf8.encode co, 1 + (j + 1), 0⟩) := HR1.out.trans (if_pos hen)
          clear HR1 h59 hE hsl
          go_wp2
          go_ret3
          exact ⟨tup3 (fields HR2.out), hkp⟩
        · have h59 : ¬ s[j] = 59 := fun h => hen (hE.1 h)
          have e59 : ((s[j].toNat : Int) == 59) = false := by
            simp
            intro h
            exact h59 (UInt8.toNat_inj.1 (by show s[j].toNat = 59; omega))
          have HR2 : Hid (R = if (attr && goes (s.data.toList.drop (j + 1))) = true then none0 else ⟨Utf8.encode co, 1 + (j + 1), 1⟩) := HR1.out.trans (if_neg hen)
          clear HR1 h59 hE
          cases attr with
          | false =>
            have HR3 : Hid (R = ⟨Utf8.encode co, 1 + (j + 1), 1⟩) := HR2.out
            clear HR2 hsl
            go_wp2
            go_ret3
            exact ⟨tup3 (fields HR3.out), hkp⟩
          | true =>
            by_cases hj1 : j + 1 < s.size
            · have hgo : goes (s.data.toList.drop (j + 1)) = goesOn s[j + 1] := by
                rw [List.drop_eq_getElem_cons (show j + 1 < s.data.toList.length from hj1)]
                rfl
              rw [hgo] at HR2
              have hc := goes_any s[j + 1] wr
              obtain ⟨b, hb⟩ : ∃ b, goesOn s[j + 1] = b := ⟨_, rfl⟩
              rw [hb] at HR2 hc
              clear hgo hb hsl
              cases b with
              | false =>
                have HR3 : Hid (R = ⟨Utf8.encode co, 1 + (j + 1), 1⟩) := HR2.out
                clear HR2
                go_wp2_with fail
                refine hc.mono ?_
                rintro e w1 ⟨rfl, rfl⟩
                go_wp2
                go_ret3
                exact ⟨tup3 (fields HR3.out), hkp⟩
              | true =>
                have HR3 : Hid (R = none0) := HR2.out
                clear HR2
                go_wp2_with fail
                refine hc.mono ?_
                rintro e w1 ⟨rfl, rfl⟩
                go_wp2
                go_ret3
                exact ⟨tup3 (fields HR3.out), hkp⟩
            · have hgo : goes (s.data.toList.drop (j + 1)) = false := by
                rw [List.drop_eq_nil_of_le (show s.data.toList.length ≤ j + 1 by omega)]
                rfl
              rw [hgo] at HR2
              have HR3 : Hid (R = ⟨Utf8.encode co, 1 + (j + 1), 1⟩) := HR2.out
              clear HR2 hgo hsl
              go_wp2
              go_ret3
              exact ⟨tup3 (fields HR3.out), hkp⟩
end Go.Proofs.YtncfgahnjakeiaaDoor
