/-
  What the document's Take answers.
-/
import Derived.Test.YtffllhohlfblnaaRCode
import Derived.Test.YtffllhohlfblnaaRNum
import Derived.Deep.LoopGhost
import Derived.Laws.Cover4
namespace Go.Proofs.Ytffllhohlfblnaa
open Go.RowKit
/-- The document's state: how long with &, the text, the fault. -/
def longR (st : St) : Nat := if st.long = 0 then 0 else st.long + 1
def textR (st : St) : ByteArray := if st.long = 0 then ⟨#[]⟩ else Utf8.encode st.code
def faultR (st : St) : Nat := if st.long = 0 then 0 else if st.ended = true then 0 else 1
theorem stepR_yes {st : St} {r : Nm} {l : List UInt8} (h : st.long < lenN r l) : longR (stepN l st r) = lenN r l + 1 ∧ textR (stepN l st r) = Utf8.encode r.code ∧ faultR (stepN l st r) = if semi (l.drop r.name.length) = true then 0 else 1 := by
  have e := step_yes h
  have h0 : ¬ (stepN l st r).long = 0 := by rw [e]; show ¬ lenN r l = 0; omega
  unfold longR textR faultR
  rw [if_neg h0, if_neg h0, if_neg h0, e]
  exact ⟨rfl, rfl, rfl⟩
theorem gtR {st : St} {n : Nat} (h : 0 < n) : longR st < n + 1 ↔ st.long < n := by
  unfold longR
  split <;> omega
theorem names_pos : ∀ r ∈ names, 0 < r.name.length := by decide

set_option maxRecDepth 20000 in
set_option maxHeartbeats 4000000 in
theorem rtake_any (s : ByteArray) (i : Int) (attr : Bool) (K : Nat → Prop) (w : World) (hK : ∀ k, K k → k < w.heap.size) (hs : s.size < 1000000) :
    Calls Try.prog 20 #[.string s, .int .i64 i, .bool attr] w fun e w' => e = .returned (refV (takeS s i attr)) ∧ Kept K w w' := by
  obtain ⟨R, hR⟩ : ∃ R, takeS s i attr = R := ⟨_, rfl⟩
  rw [hR]
  by_cases h0 : i < 0
  · have e0 : decide (i < 0) = true := by simpa using h0
    have HR : Hid (R = none0) := hR.symm.trans (if_neg (by omega))
    clear hR
    go_enter Try.func20, Try.ntmps20
    go_wp2
    go_ret3
    exact ⟨tup3 (fields HR.out), Kept.refl _ _⟩
  · have e0 : decide (i < 0) = false := by simpa using h0
    obtain ⟨k, rfl⟩ : ∃ k : Nat, i = (k : Int) := ⟨i.toNat, by omega⟩
    by_cases h1 : k < s.size
    · have e1 : decide ((k : Int) ≥ (s.size : Int)) = false := by simp; omega
      have hR1 : takeL (s.data.toList.drop k) attr = R := by
        rw [← hR]
        unfold takeS
        rw [if_pos (by omega), Int.toNat_natCast]
      rw [drop_cons h1] at hR1
      by_cases h2 : s[k] = 38
      · have e2 : ((s[k].toNat : Int) == 38) = true := by rw [h2]; rfl
        have e2' : ((s[k].toNat : Int) != 38) = false := by rw [h2]; rfl
        have hR2 : refL (s.data.toList.drop (k + 1)) attr = R := by
          rw [← hR1]
          unfold takeL
          rw [if_pos (by rw [h2]; rfl)]
          rfl
        unfold refL at hR2
        by_cases hh : ∃ h : k + 1 < s.size, s[k + 1] = 35
        · obtain ⟨h3, h35⟩ := hh
          have hb : hash (s.data.toList.drop (k + 1)) = true := by rw [drop_cons h3, h35]; rfl
          rw [if_pos hb, List.drop_drop] at hR2
          have hnum := fun X hX => numeric_any s k h3 K X hX hs
          rw [hR2] at hnum
          have e3 : decide ((k : Int) + 1 < (s.size : Int)) = true := by simp; omega
          have e4 : ((s[k + 1].toNat : Int) == 35) = true := by rw [h35]; rfl
          clear hR hR1 hR2 hb h2 h35
          go_enter Try.func20, Try.ntmps20
          go_wp2_with fail
          refine (hnum _ hK).mono ?_
          rintro e w1 ⟨rfl, hk1⟩
          go_wp2
          go_ret3
          exact ⟨rfl, hk1⟩
        · have hb : ¬ hash (s.data.toList.drop (k + 1)) = true := by
            by_cases h3 : k + 1 < s.size
            · rw [drop_cons h3]
              show ¬ decide (s[k + 1] = 35) = true
              simpa using fun h => hh ⟨h3, h⟩
            · rw [List.drop_eq_nil_of_le (show s.data.toList.length ≤ k + 1 from Nat.le_of_not_lt h3)]
              decide
          rw [if_neg hb] at hR2
          have HR : Hid (nameL (s.data.toList.drop (k + 1)) attr = R) := hR2
          clear hR hR1 hR2 hb h2
          go_enter Try.func20, Try.ntmps20
          go_upto_region 3 with fail
          go_cut [44] (fun s44 wc => s44 = .bool false ∧ wc = w)
          case first =>
            clear HR hK
            by_cases h3 : k + 1 < s.size
            · have e3 : decide ((k : Int) + 1 < (s.size : Int)) = true := by simp; omega
              have e4 : ((s[k + 1].toNat : Int) == 35) = false := by
                simp
                intro h
                exact hh ⟨h3, UInt8.toNat_inj.1 (by show s[k + 1].toNat = 35; omega)⟩
              clear hh
              go_wp2
              go_meet
              case rel => exact ⟨rfl, rfl⟩
            · have e3 : decide ((k : Int) + 1 < (s.size : Int)) = false := by simp; omega
              clear hh
              go_wp2
              go_meet
              case rel => exact ⟨rfl, rfl⟩
          case rest =>
            obtain ⟨rfl, rfl⟩ := hcut
            go_wp2_with fail
            obtain ⟨l, hl⟩ : ∃ l, s.data.toList.drop (k + 1) = l := ⟨_, rfl⟩
            have hll : l.length = s.size - (k + 1) := by rw [← hl, List.length_drop]; rfl
            have HL : Hid (s.data.toList.drop (k + 1) = l) := hl
            rw [hl] at HR
            clear hl hh
            go_loopg [9, 10, 11, 12] 22 (fun g lo tx fl i wr => ∃ j : Nat, g = 22 - j ∧ j ≤ 22 ∧ i = .int .i64 j ∧ lo = .int .i64 (longR (scanN l (names.take j))) ∧ tx = .string (textR (scanN l (names.take j))) ∧ fl = .int .u8 (faultR (scanN l (names.take j))) ∧ Kept K wc wr)
            case atStart => exact ⟨0, rfl, Nat.zero_le _, rfl, rfl, rfl, rfl, Kept.refl _ _⟩
            case round =>
              obtain ⟨j, hgk, hj, rfl, rfl, rfl, rfl, hkp⟩ := hrel
              have hKr : ∀ k, K k → k < wr.heap.size := fun k hk => Nat.lt_of_lt_of_le (hK k hk) hkp.size
              by_cases hlt : j < 22
              · have hn : j < names.length := hlt
                have hcode := rcode_any j hlt K wr hKr
                have hmem := List.getElem_mem hn
                have HS : Hid (scanN l (names.take (j + 1)) = stepN l (scanN l (names.take j)) (names[j]'hn)) := by
                  show scanN _ _ = _
                  rw [List.take_succ_eq_append_getElem hn, scanN_snoc]
                obtain ⟨r, hr⟩ : ∃ r, names[j]'hn = r := ⟨_, rfl⟩
                have hr' : names[j]'hlt = r := hr
                rw [hr'] at hcode
                rw [hr] at HS hmem
                have hn0 := names_pos r hmem
                have hn1 := names_short r hmem
                have hsl := scanN_long l (names.take j)
                obtain ⟨st, hst⟩ : ∃ st, scanN l (names.take j) = st := ⟨_, rfl⟩
                rw [hst] at HS hsl ⊢
                clear hst hr hr' hmem hn
                have hsz : (nmB r).size = r.name.length := rfl
                have h1s := fun X => starts_any s (nmB r) (k + 1) (by omega) hs (by omega) X
                have hp1 : preD (nmB r) s (k + 1) = r.name.isPrefixOf l := by
                  unfold preD
                  rw [HL.out]
                  rfl
                rw [hp1] at h1s
                clear hp1
                have hlo : longR st ≤ s.size + 1 := by unfold longR; split <;> omega
                by_cases hpf : r.name.isPrefixOf l = true
                · have hple := prefix_length _ _ hpf
                  rw [hpf] at h1s
                  have h2s := fun X => starts_any s ⟨#[59]⟩ (k + (1 + r.name.length)) (by omega) hs (by decide) X
                  have hp2 : preD ⟨#[59]⟩ s (k + (1 + r.name.length)) = semi (l.drop r.name.length) := by
                    unfold preD semi
                    rw [← HL.out, List.drop_drop, Nat.add_assoc]
                  rw [hp2] at h2s
                  clear hp2
                  have HLn : Hid (lenN r l = if semi (l.drop r.name.length) = true then r.name.length + 1 else if r.bare = true then r.name.length else 0) := if_pos hpf
                  have HY : Hid (st.long < lenN r l → longR (stepN l st r) = lenN r l + 1 ∧ textR (stepN l st r) = Utf8.encode r.code ∧ faultR (stepN l st r) = if semi (l.drop r.name.length) = true then 0 else 1) := stepR_yes
                  have HN : Hid (¬ st.long < lenN r l → stepN l st r = st) := step_no
                  have hsm : semi (l.drop r.name.length) = true → r.name.length + 1 ≤ l.length := by
                    intro h
                    have := semi_length h
                    rw [List.length_drop] at this
                    omega
                  obtain ⟨se, hse⟩ : ∃ se, semi (l.drop r.name.length) = se := ⟨_, rfl⟩
                  rw [hse] at h2s HLn HY hsm
                  obtain ⟨m, hm⟩ : ∃ m, r.name.length = m := ⟨_, rfl⟩
                  rw [hm] at hn0 hn1 hple h2s HLn hsm hsz
                  have hgt := fun n (h : 0 < n) => @gtR st n h
                  obtain ⟨L, hL⟩ : ∃ L, longR st = L := ⟨_, rfl⟩
                  rw [hL] at hlo hgt ⊢
                  have HL1 : Hid (longR st = L) := hL
                  clear hpf hse hm hL
                  have hcv : ∀ X : World, (convert 74 9 (.slice (some ⟨X.heap.size, 0, none⟩) 1 1)).run Try.prog (X.alloc (.cells #[.int .i32 (r.code : Int)] 21)) = .ok (.string (Utf8.encode (r.code : Int))) (X.alloc (.cells #[.int .i32 (r.code : Int)] 21)) := fun X =>
                    conv_one _ _ 1 _ (by rw [cell_block (heap_alloc_new X _)]; rfl)
                  obtain ⟨rb, hrb⟩ : ∃ rb, r.bare = rb := ⟨_, rfl⟩
                  rw [hrb] at hcode HLn
                  clear hrb
                  cases se with
                  | true =>
                    have hsm := hsm rfl
                    have hln : lenN r l = m + 1 := HLn.out
                    rw [hln] at HY HN
                    clear hln HLn
                    have hg := hgt (m + 1) (by omega)
                    clear hgt
                    by_cases hlong : st.long < m + 1
                    · have hy := HY.out hlong
                      have e9 : decide ((1 : Int) + (m : Int) + 1 > (L : Int)) = true := by simp; have := hg.2 hlong; omega
                      have HY2 : Hid (longR (stepN l st r) = m + 1 + 1 ∧ textR (stepN l st r) = Utf8.encode r.code ∧ faultR (stepN l st r) = 0) := hy
                      clear HY HN hy hg
                      go_wp2_with fail
                      refine hcode.mono ?_
                      rintro e w1 ⟨rfl, hk1⟩
                      go_wp2_with fail
                      refine (h1s _).mono ?_
                      rintro e w2 ⟨rfl, rfl⟩
                      go_wp2_with fail
                      refine (h2s _).mono ?_
                      rintro e w2 ⟨rfl, rfl⟩
                      have hk2 := hkp.trans hk1
                      have hcw := hcv w2
                      have hkk : ∀ o, Kept K wc (w2.alloc o) := fun o => hk2.alloc (fun k hk => Nat.lt_of_lt_of_le (hK k hk) hk2.size) o
                      clear hcv
                      go_wp2
                      go_roundg (22 - (j + 1))
                      case rel => exact ⟨j + 1, rfl, by omega, by go_num, by rw [HS.out, HY2.out.1]; go_num, by rw [HS.out, HY2.out.2.1], by rw [HS.out, HY2.out.2.2]; rfl, hkk _⟩
                      case measure => omega
                    · have hno := HN.out hlong
                      have e9 : decide ((1 : Int) + (m : Int) + 1 > (L : Int)) = false := by simp; have := mt hg.1 hlong; omega
                      have HN2 : Hid (stepN l st r = st) := hno
                      clear HY HN hno hg hcv
                      go_wp2_with fail
                      refine hcode.mono ?_
                      rintro e w1 ⟨rfl, hk1⟩
                      go_wp2_with fail
                      refine (h1s _).mono ?_
                      rintro e w2 ⟨rfl, rfl⟩
                      go_wp2_with fail
                      refine (h2s _).mono ?_
                      rintro e w2 ⟨rfl, rfl⟩
                      go_wp2
                      go_roundg (22 - (j + 1))
                      case rel => exact ⟨j + 1, rfl, by omega, by go_num, by rw [HS.out, HN2.out, HL1.out], by rw [HS.out, HN2.out], by rw [HS.out, HN2.out], hkp.trans hk1⟩
                      case measure => omega
                  | false =>
                    clear hsm
                    cases rb with
                    | true =>
                      have hln : lenN r l = m := HLn.out
                      rw [hln] at HY HN
                      clear hln HLn
                      have hg := hgt m hn0
                      clear hgt
                      by_cases hlong : st.long < m
                      · have hy := HY.out hlong
                        have e9 : decide ((1 : Int) + (m : Int) > (L : Int)) = true := by simp; have := hg.2 hlong; omega
                        have HY2 : Hid (longR (stepN l st r) = m + 1 ∧ textR (stepN l st r) = Utf8.encode r.code ∧ faultR (stepN l st r) = 1) := hy
                        clear HY HN hy hg
                        go_wp2_with fail
                        refine hcode.mono ?_
                        rintro e w1 ⟨rfl, hk1⟩
                        go_wp2_with fail
                        refine (h1s _).mono ?_
                        rintro e w2 ⟨rfl, rfl⟩
                        go_wp2_with fail
                        refine (h2s _).mono ?_
                        rintro e w2 ⟨rfl, rfl⟩
                        have hk2 := hkp.trans hk1
                        have hcw := hcv w2
                        have hkk : ∀ o, Kept K wc (w2.alloc o) := fun o => hk2.alloc (fun k hk => Nat.lt_of_lt_of_le (hK k hk) hk2.size) o
                        clear hcv
                        go_wp2
                        go_roundg (22 - (j + 1))
                        case rel => exact ⟨j + 1, rfl, by omega, by go_num, by rw [HS.out, HY2.out.1]; go_num, by rw [HS.out, HY2.out.2.1], by rw [HS.out, HY2.out.2.2]; rfl, hkk _⟩
                        case measure => omega
                      · have hno := HN.out hlong
                        have e9 : decide ((1 : Int) + (m : Int) > (L : Int)) = false := by simp; have := mt hg.1 hlong; omega
                        have HN2 : Hid (stepN l st r = st) := hno
                        clear HY HN hno hg hcv
                        go_wp2_with fail
                        refine hcode.mono ?_
                        rintro e w1 ⟨rfl, hk1⟩
                        go_wp2_with fail
                        refine (h1s _).mono ?_
                        rintro e w2 ⟨rfl, rfl⟩
                        go_wp2_with fail
                        refine (h2s _).mono ?_
                        rintro e w2 ⟨rfl, rfl⟩
                        go_wp2
                        go_roundg (22 - (j + 1))
                        case rel => exact ⟨j + 1, rfl, by omega, by go_num, by rw [HS.out, HN2.out, HL1.out], by rw [HS.out, HN2.out], by rw [HS.out, HN2.out], hkp.trans hk1⟩
                        case measure => omega
                    | false =>
                      have hln : lenN r l = 0 := HLn.out
                      rw [hln] at HN
                      have HN2 : Hid (stepN l st r = st) := HN.out (by omega)
                      clear hln HLn HY HN hgt hcv
                      by_cases hlong : L < 1 + m
                      · have e9 : decide ((1 : Int) + (m : Int) > (L : Int)) = true := by simp; omega
                        go_wp2_with fail
                        refine hcode.mono ?_
                        rintro e w1 ⟨rfl, hk1⟩
                        go_wp2_with fail
                        refine (h1s _).mono ?_
                        rintro e w2 ⟨rfl, rfl⟩
                        go_wp2_with fail
                        refine (h2s _).mono ?_
                        rintro e w2 ⟨rfl, rfl⟩
                        go_wp2
                        go_roundg (22 - (j + 1))
                        case rel => exact ⟨j + 1, rfl, by omega, by go_num, by rw [HS.out, HN2.out, HL1.out], by rw [HS.out, HN2.out], by rw [HS.out, HN2.out], hkp.trans hk1⟩
                        case measure => omega
                      · have e9 : decide ((1 : Int) + (m : Int) > (L : Int)) = false := by simp; omega
                        go_wp2_with fail
                        refine hcode.mono ?_
                        rintro e w1 ⟨rfl, hk1⟩
                        go_wp2_with fail
                        refine (h1s _).mono ?_
                        rintro e w2 ⟨rfl, rfl⟩
                        go_wp2_with fail
                        refine (h2s _).mono ?_
                        rintro e w2 ⟨rfl, rfl⟩
                        go_wp2
                        go_roundg (22 - (j + 1))
                        case rel => exact ⟨j + 1, rfl, by omega, by go_num, by rw [HS.out, HN2.out, HL1.out], by rw [HS.out, HN2.out], by rw [HS.out, HN2.out], hkp.trans hk1⟩
                        case measure => omega
                · have HN2 : Hid (stepN l st r = st) := by
                    refine step_no ?_
                    unfold lenN
                    rw [if_neg hpf]
                    omega
                  have hpf : r.name.isPrefixOf l = false := (Bool.not_eq_true _).mp hpf
                  rw [hpf] at h1s
                  clear hpf
                  go_wp2_with fail
                  refine hcode.mono ?_
                  rintro e w1 ⟨rfl, hk1⟩
                  go_wp2_with fail
                  refine (h1s _).mono ?_
                  rintro e w2 ⟨rfl, rfl⟩
                  go_wp2
                  go_roundg (22 - (j + 1))
                  case rel => exact ⟨j + 1, rfl, by omega, by go_num, by rw [HS.out, HN2.out], by rw [HS.out, HN2.out], by rw [HS.out, HN2.out], hkp.trans hk1⟩
                  case measure => omega
              · have hj22 : j = 22 := by omega
                subst hj22
                have e22 : names.take 22 = names := rfl
                rw [e22]
                have HC := scan_code l 22
                rw [e22] at HC
                have hsl := scanN_long l names
                have HR1 : Hid (endR (scanN l names) l attr = R) := HR.out
                clear HR
                obtain ⟨st, hst⟩ : ∃ st, scanN l names = st := ⟨_, rfl⟩
                rw [hst] at HC hsl HR1 ⊢
                clear hst e22
                obtain ⟨co, lo, en⟩ := st
                unfold longR textR faultR
                dsimp only at HC hsl ⊢
                by_cases h0' : lo = 0
                · subst h0'
                  have HR2 : Hid (R = none0) := HR1.out.symm.trans (if_pos rfl)
                  clear HR1
                  rw [if_pos rfl, if_pos rfl, if_pos rfl]
                  go_wp2
                  go_ret3
                  exact ⟨tup3 (fields HR2.out), hkp⟩
                · have HR2 : Hid (R = if en = true then ⟨Utf8.encode co, 1 + lo, 0⟩ else if (attr && goes (l.drop lo)) = true then none0 else ⟨Utf8.encode co, 1 + lo, 1⟩) := HR1.out.symm.trans (if_neg h0')
                  rw [if_neg h0', if_neg h0', if_neg h0']
                  clear HR1
                  cases en with
                  | true =>
                    have HR3 := fields HR2.out
                    have HR4 : Hid (R.text = Utf8.encode (co : Int) ∧ (R.n : Int) = (lo : Int) + 1 ∧ (R.fault : Int) = 0) := ⟨HR3.1, HR3.2.1.trans (by omega), HR3.2.2⟩
                    clear HR2 HR3
                    rw [if_pos rfl]
                    go_wp2
                    go_ret3
                    exact ⟨tup3 HR4.out, hkp⟩
                  | false =>
                    rw [if_neg (by decide)]
                    have HR3 : Hid (R = if (attr && goes (l.drop lo)) = true then none0 else ⟨Utf8.encode co, 1 + lo, 1⟩) := HR2.out
                    clear HR2
                    cases attr with
                    | false =>
                      have HR4 := fields (R := R) (t := Utf8.encode co) (n := 1 + lo) (f := 1) HR3.out
                      have HR5 : Hid (R.text = Utf8.encode (co : Int) ∧ (R.n : Int) = (lo : Int) + 1 ∧ (R.fault : Int) = 1) := ⟨HR4.1, HR4.2.1.trans (by omega), HR4.2.2⟩
                      clear HR3 HR4
                      go_wp2
                      go_ret3
                      exact ⟨tup3 HR5.out, hkp⟩
                    | true =>
                      by_cases hlt2 : k + (lo + 1) < s.size
                      · have e5 : decide ((k : Int) + ((lo : Int) + 1) < (s.size : Int)) = true := by simp; omega
                        obtain ⟨c, hc⟩ : ∃ c, s[k + (lo + 1)] = c := ⟨_, rfl⟩
                        have hgo : goes (l.drop lo) = goesOn c := by
                          rw [← HL.out, List.drop_drop, show k + 1 + lo = k + (lo + 1) by omega, drop_cons hlt2, hc]
                          rfl
                        rw [hgo] at HR3
                        clear hgo
                        go_upto_region 25 with fail
                        go_cut [135] (fun s135 wx => s135 = .bool (goesOn c) ∧ wx = wr)
                        case first =>
                          have h256 : c.toNat < 256 := c.toNat_lt
                          clear HR3 hc HL hll hK e5
                          have cls : c.toNat ≤ 47 ∨ (48 ≤ c.toNat ∧ c.toNat ≤ 57) ∨ (58 ≤ c.toNat ∧ c.toNat ≤ 60) ∨ c.toNat = 61 ∨ (62 ≤ c.toNat ∧ c.toNat ≤ 64) ∨ (65 ≤ c.toNat ∧ c.toNat ≤ 90) ∨ (91 ≤ c.toNat ∧ c.toNat ≤ 96) ∨ (97 ≤ c.toNat ∧ c.toNat ≤ 122) ∨ 123 ≤ c.toNat := by omega
                          rcases cls with g | g | g | g | g | g | g | g | g
                          · have e0 : ((c.toNat : Int) == 61) = false := by simp; omega
                            have e1 : decide ((c.toNat : Int) ≥ 97) = false := by simp; omega
                            have e2 : decide ((c.toNat : Int) ≤ 122) = true := by simp; omega
                            have e3 : decide ((c.toNat : Int) ≥ 65) = false := by simp; omega
                            have e4 : decide ((c.toNat : Int) ≤ 90) = true := by simp; omega
                            have e5 : decide ((c.toNat : Int) ≥ 48) = false := by simp; omega
                            have e6 : decide ((c.toNat : Int) ≤ 57) = true := by simp; omega
                            have hd : goesOn c = false := by unfold goesOn; simp; omega
                            have HD : Hid (goesOn c = false) := hd
                            clear hd
                            go_wp2
                            go_meet
                            case rel => exact ⟨by rw [HD.out], rfl⟩
                          · have e0 : ((c.toNat : Int) == 61) = false := by simp; omega
                            have e1 : decide ((c.toNat : Int) ≥ 97) = false := by simp; omega
                            have e2 : decide ((c.toNat : Int) ≤ 122) = true := by simp; omega
                            have e3 : decide ((c.toNat : Int) ≥ 65) = false := by simp; omega
                            have e4 : decide ((c.toNat : Int) ≤ 90) = true := by simp; omega
                            have e5 : decide ((c.toNat : Int) ≥ 48) = true := by simp; omega
                            have e6 : decide ((c.toNat : Int) ≤ 57) = true := by simp; omega
                            have hd : goesOn c = true := by unfold goesOn; simp; omega
                            have HD : Hid (goesOn c = true) := hd
                            clear hd
                            go_wp2
                            go_meet
                            case rel => exact ⟨by rw [HD.out], rfl⟩
                          · have e0 : ((c.toNat : Int) == 61) = false := by simp; omega
                            have e1 : decide ((c.toNat : Int) ≥ 97) = false := by simp; omega
                            have e2 : decide ((c.toNat : Int) ≤ 122) = true := by simp; omega
                            have e3 : decide ((c.toNat : Int) ≥ 65) = false := by simp; omega
                            have e4 : decide ((c.toNat : Int) ≤ 90) = true := by simp; omega
                            have e5 : decide ((c.toNat : Int) ≥ 48) = true := by simp; omega
                            have e6 : decide ((c.toNat : Int) ≤ 57) = false := by simp; omega
                            have hd : goesOn c = false := by unfold goesOn; simp; omega
                            have HD : Hid (goesOn c = false) := hd
                            clear hd
                            go_wp2
                            go_meet
                            case rel => exact ⟨by rw [HD.out], rfl⟩
                          · have e0 : ((c.toNat : Int) == 61) = true := by simp; omega
                            have e1 : decide ((c.toNat : Int) ≥ 97) = false := by simp; omega
                            have e2 : decide ((c.toNat : Int) ≤ 122) = true := by simp; omega
                            have e3 : decide ((c.toNat : Int) ≥ 65) = false := by simp; omega
                            have e4 : decide ((c.toNat : Int) ≤ 90) = true := by simp; omega
                            have e5 : decide ((c.toNat : Int) ≥ 48) = true := by simp; omega
                            have e6 : decide ((c.toNat : Int) ≤ 57) = false := by simp; omega
                            have hd : goesOn c = true := by unfold goesOn; simp; omega
                            have HD : Hid (goesOn c = true) := hd
                            clear hd
                            go_wp2
                            go_meet
                            case rel => exact ⟨by rw [HD.out], rfl⟩
                          · have e0 : ((c.toNat : Int) == 61) = false := by simp; omega
                            have e1 : decide ((c.toNat : Int) ≥ 97) = false := by simp; omega
                            have e2 : decide ((c.toNat : Int) ≤ 122) = true := by simp; omega
                            have e3 : decide ((c.toNat : Int) ≥ 65) = false := by simp; omega
                            have e4 : decide ((c.toNat : Int) ≤ 90) = true := by simp; omega
                            have e5 : decide ((c.toNat : Int) ≥ 48) = true := by simp; omega
                            have e6 : decide ((c.toNat : Int) ≤ 57) = false := by simp; omega
                            have hd : goesOn c = false := by unfold goesOn; simp; omega
                            have HD : Hid (goesOn c = false) := hd
                            clear hd
                            go_wp2
                            go_meet
                            case rel => exact ⟨by rw [HD.out], rfl⟩
                          · have e0 : ((c.toNat : Int) == 61) = false := by simp; omega
                            have e1 : decide ((c.toNat : Int) ≥ 97) = false := by simp; omega
                            have e2 : decide ((c.toNat : Int) ≤ 122) = true := by simp; omega
                            have e3 : decide ((c.toNat : Int) ≥ 65) = true := by simp; omega
                            have e4 : decide ((c.toNat : Int) ≤ 90) = true := by simp; omega
                            have e5 : decide ((c.toNat : Int) ≥ 48) = true := by simp; omega
                            have e6 : decide ((c.toNat : Int) ≤ 57) = false := by simp; omega
                            have hd : goesOn c = true := by unfold goesOn; simp; omega
                            have HD : Hid (goesOn c = true) := hd
                            clear hd
                            go_wp2
                            go_meet
                            case rel => exact ⟨by rw [HD.out], rfl⟩
                          · have e0 : ((c.toNat : Int) == 61) = false := by simp; omega
                            have e1 : decide ((c.toNat : Int) ≥ 97) = false := by simp; omega
                            have e2 : decide ((c.toNat : Int) ≤ 122) = true := by simp; omega
                            have e3 : decide ((c.toNat : Int) ≥ 65) = true := by simp; omega
                            have e4 : decide ((c.toNat : Int) ≤ 90) = false := by simp; omega
                            have e5 : decide ((c.toNat : Int) ≥ 48) = true := by simp; omega
                            have e6 : decide ((c.toNat : Int) ≤ 57) = false := by simp; omega
                            have hd : goesOn c = false := by unfold goesOn; simp; omega
                            have HD : Hid (goesOn c = false) := hd
                            clear hd
                            go_wp2
                            go_meet
                            case rel => exact ⟨by rw [HD.out], rfl⟩
                          · have e0 : ((c.toNat : Int) == 61) = false := by simp; omega
                            have e1 : decide ((c.toNat : Int) ≥ 97) = true := by simp; omega
                            have e2 : decide ((c.toNat : Int) ≤ 122) = true := by simp; omega
                            have e3 : decide ((c.toNat : Int) ≥ 65) = true := by simp; omega
                            have e4 : decide ((c.toNat : Int) ≤ 90) = false := by simp; omega
                            have e5 : decide ((c.toNat : Int) ≥ 48) = true := by simp; omega
                            have e6 : decide ((c.toNat : Int) ≤ 57) = false := by simp; omega
                            have hd : goesOn c = true := by unfold goesOn; simp; omega
                            have HD : Hid (goesOn c = true) := hd
                            clear hd
                            go_wp2
                            go_meet
                            case rel => exact ⟨by rw [HD.out], rfl⟩
                          · have e0 : ((c.toNat : Int) == 61) = false := by simp; omega
                            have e1 : decide ((c.toNat : Int) ≥ 97) = true := by simp; omega
                            have e2 : decide ((c.toNat : Int) ≤ 122) = false := by simp; omega
                            have e3 : decide ((c.toNat : Int) ≥ 65) = true := by simp; omega
                            have e4 : decide ((c.toNat : Int) ≤ 90) = false := by simp; omega
                            have e5 : decide ((c.toNat : Int) ≥ 48) = true := by simp; omega
                            have e6 : decide ((c.toNat : Int) ≤ 57) = false := by simp; omega
                            have hd : goesOn c = false := by unfold goesOn; simp; omega
                            have HD : Hid (goesOn c = false) := hd
                            clear hd
                            go_wp2
                            go_meet
                            case rel => exact ⟨by rw [HD.out], rfl⟩
                        case rest =>
                          obtain ⟨rfl, rfl⟩ := hcut
                          obtain ⟨g, hg⟩ : ∃ g, goesOn c = g := ⟨_, rfl⟩
                          rw [hg] at HR3 ⊢
                          clear hg
                          cases g with
                          | true =>
                            have HR4 : Hid (R = none0) := HR3.out
                            clear HR3
                            go_wp2
                            go_ret3
                            exact ⟨tup3 (fields HR4.out), hkp⟩
                          | false =>
                            have HR4 := fields (R := R) (t := Utf8.encode co) (n := 1 + lo) (f := 1) HR3.out
                            have HR5 : Hid (R.text = Utf8.encode (co : Int) ∧ (R.n : Int) = (lo : Int) + 1 ∧ (R.fault : Int) = 1) := ⟨HR4.1, HR4.2.1.trans (by omega), HR4.2.2⟩
                            clear HR3 HR4
                            go_wp2
                            go_ret3
                            exact ⟨tup3 HR5.out, hkp⟩
                      · have e5 : decide ((k : Int) + ((lo : Int) + 1) < (s.size : Int)) = false := by simp; omega
                        have hgo : goes (l.drop lo) = false := by
                          rw [List.drop_eq_nil_of_le (by omega)]
                          rfl
                        rw [hgo] at HR3
                        have HR4 := fields (R := R) (t := Utf8.encode co) (n := 1 + lo) (f := 1) HR3.out
                        have HR5 : Hid (R.text = Utf8.encode (co : Int) ∧ (R.n : Int) = (lo : Int) + 1 ∧ (R.fault : Int) = 1) := ⟨HR4.1, HR4.2.1.trans (by omega), HR4.2.2⟩
                        clear HR3 HR4 hgo
                        go_wp2
                        go_ret3
                        exact ⟨tup3 HR5.out, hkp⟩
      · have e2 : ((s[k].toNat : Int) == 38) = false := by
          simp
          intro h
          exact h2 (UInt8.toNat_inj.1 (by show s[k].toNat = 38; omega))
        have e2' : ((s[k].toNat : Int) != 38) = true := by
          simp only [bne, e2]
          rfl
        have HR : Hid (R = none0) := by
          show R = none0
          rw [← hR1]
          unfold takeL
          rw [if_neg]
          show ¬ decide (s[k] = 38) = true
          simpa using h2
        clear hR hR1 h2
        go_enter Try.func20, Try.ntmps20
        go_wp2
        go_ret3
        exact ⟨tup3 (fields HR.out), Kept.refl _ _⟩
    · have e1 : decide ((k : Int) ≥ (s.size : Int)) = true := by simp; omega
      have HR : Hid (R = none0) := hR.symm.trans (if_neg (by omega))
      clear hR
      go_enter Try.func20, Try.ntmps20
      go_wp2
      go_ret3
      exact ⟨tup3 (fields HR.out), Kept.refl _ _⟩
end Go.Proofs.Ytffllhohlfblnaa
