/-
  What the document's reader does in an element that has text alone.
-/
import Derived.Test.YtffllhohlfblnaaDF
import Derived.Deep.DeepCutAuto
import Derived.Deep.CutBlock
namespace Go.Proofs.Ytffllhohlfblnaa
open Go.RowKit Go.Sort

/-- What is told of such a text. -/
def rawD (name : List UInt8) (x : TS) : List UInt8 := if softP name = true then allL false (cleanL (x.front (endOfP name))) else cleanL (x.front (endOfP name))
theorem inside_end {x : TS} (h0 : x.text = []) {name : List UInt8} (hk : softP name = true ∨ rawP name = true) :
    (x.inside name).endT = if rawD name x = [] then x.cutTo (endOfP name) else { x.cutTo (endOfP name) with toks := x.toks ++ [⟨3, [], [], false, rawD name x, x.pl⟩], tat := x.pl } := by
  have e : x.inside name = (x.cutTo (endOfP name)).addT (rawD name x) x.pl := by
    unfold TS.inside rawD
    by_cases hs : softP name = true
    · rw [if_pos hs, if_pos hs]
    · rw [if_neg hs, if_neg hs, if_pos (by rcases hk with h | h; exact absurd h hs; exact h)]
  rw [e]
  by_cases hd : rawD name x = []
  · rw [if_pos hd, hd, addT_nil]
    unfold TS.endT
    exact if_pos h0
  · rw [if_neg hd, addT_endT (s := x.cutTo (endOfP name)) h0 hd]
    have h0' : (x.cutTo (endOfP name)).text = [] := h0
    rw [← h0']
    rfl
theorem endOf_eq (name l : List UInt8) : endOfP name l = (lkL (60 :: 47 :: name) l && (decide (name.length + 2 < l.length) && hdIn [9, 10, 12, 32, 47, 62] (l.drop (name.length + 2)))) := by
  unfold endOfP
  rw [lk_any (by decide)]

set_option maxRecDepth 20000 in
set_option maxHeartbeats 20000000 in
theorem draw (s : List UInt8) (K : Nat → Prop) (p : Nat) (x : TS) (w : World) (h : DX s K w p x) (hs : s.length < 100000) (hp : pot x ≤ 900000000) (h0 : x.text = []) (name : List UInt8) (hk : softP name = true ∨ rawP name = true) :
    Calls Try.prog 51 #[.pointer (some ⟨p, 0, none⟩), sv name, .bool (softP name)] w fun e w' => e = .returned (.tuple #[]) ∧ DX s K w' p (x.inside name).endT ∧ Kept K w w' := by
  have hn9 := kind_short hk
  have HZ : Hid ((x.inside name).endT = if rawD name x = [] then x.cutTo (endOfP name) else { x.cutTo (endOfP name) with toks := x.toks ++ [⟨3, [], [], false, rawD name x, x.pl⟩], tat := x.pl }) := inside_end h0 hk
  obtain ⟨Z, hZ⟩ : ∃ Z, (x.inside name).endT = Z := ⟨_, rfl⟩
  rw [hZ] at HZ ⊢
  obtain ⟨R, hR⟩ : ∃ R, x.cutTo (endOfP name) = R := ⟨_, rfl⟩
  rw [hR] at HZ
  obtain ⟨S, hS⟩ : ∃ S : ByteArray, (⟨s.toArray⟩ : ByteArray) = S := ⟨_, rfl⟩
  have sS : S.size = s.length := by rw [← hS]; exact sv_size _
  have hzS : S.size < 100000 := by omega
  obtain ⟨b, hb⟩ : ∃ b, x.pl = b := ⟨_, rfl⟩
  have c1 := h.cells.2.1
  rw [hb] at c1
  have hlen := h.len
  have hex := front_extract h (endOfP name)
  rw [hR, hS, hb] at hex
  obtain ⟨D, hD⟩ : ∃ D, x.front (endOfP name) = D := ⟨_, rfl⟩
  rw [hD] at hex
  have hDl : D.length < 100000 := by rw [← hD]; unfold TS.front; rw [List.length_take]; omega
  have hRD : rawD name x = if softP name = true then allL false (cleanL D) else cleanL D := by unfold rawD; rw [hD]
  have hRb : pot R ≤ 900000000 ∧ R.text = [] ∧ b ≤ R.pl ∧ R.pl ≤ S.size ∧ R.toks = x.toks := by
    rw [← hR]
    refine ⟨?_, h0, ?_, ?_, rfl⟩
    · unfold pot at hp ⊢
      show x.toks.length + x.flts.length + x.text.length + 16 * (x.rest.drop _).length ≤ _
      rw [List.length_drop]
      omega
    · rw [← hb]
      exact Nat.le_add_right _ _
    · have := upTo_le (endOfP name) x.rest
      show x.pl + upTo _ _ ≤ _
      omega
  obtain ⟨RD, hRDe⟩ : ∃ y, rawD name x = y := ⟨_, rfl⟩
  rw [hRDe] at HZ hRD
  rw [hb] at HZ
  obtain ⟨soft, hsoft⟩ : ∃ q, softP name = q := ⟨_, rfl⟩
  rw [hsoft] at hRD ⊢
  have HS : Hid ((⟨s.toArray⟩ : ByteArray) = S) := hS
  have HSS : Hid (S.size = s.length) := sS
  have HR : Hid (pot R ≤ 900000000 ∧ R.text = [] ∧ b ≤ R.pl ∧ R.pl ≤ S.size ∧ R.toks = x.toks) := hRb
  have HX : Hid (DX s K w p x ∧ x.cutTo (endOfP name) = R) := ⟨h, hR⟩
  have HRD : Hid (RD = if soft = true then allL false (cleanL D) else cleanL D) := by show RD = _; rw [← hRD]
  have HEX : Hid (S.extract b R.pl = ⟨D.toArray⟩) := hex
  have hlx : x.rest.length < 100000 := by omega
  have yN : (⟨#[60, 47]⟩ : ByteArray) ++ ⟨name.toArray⟩ = ⟨(60 :: 47 :: name).toArray⟩ := by
    apply ByteArray.ext
    rw [ByteArray.data_append]
    simp
  have hzN : (⟨name.toArray⟩ : ByteArray).size = name.length := sv_size name
  have htk : x.toks.length ≤ 900000000 := by unfold pot at hp; omega
  clear h hp h0 hk hZ hR hS sS hb hlen hex hD hRD hRb hRDe hsoft
  go_enter Try.func51, Try.ntmps51
  go_upto_block 0 with fail
  go_cut [6] (fun s6 wx => s6 = .int .i64 (b : Int) ∧ DX s K wx p R ∧ Kept K w wx)
  case first =>
    clear HZ HRD HEX hDl htk
    go_wp2_with fail
    go_loopg [13] x.rest.length (fun gm v wr => ∃ st' : TS, gm = st'.rest.length ∧ st'.cutTo (endOfP name) = R ∧ DX s K wr p st' ∧ Kept K w wr)
    case atStart => exact ⟨x, rfl, HX.out.2, HX.out.1, Kept.refl _ _⟩
    case round =>
      clear HX c1
      obtain ⟨st', hgm, hR, hX, kp⟩ := hrel
      obtain ⟨c0, c1, fz⟩ := hX.cells
      clear fz
      replace c0 : wr.cell? ⟨p, 0, none⟩ = some (.string S) := by rw [← HS.out]; exact c0
      have hlen := hX.len
      rw [← HSS.out] at hlen
      by_cases hE : st'.rest = []
      · have e1 : decide ((st'.pl : Int) < (S.size : Int)) = false := decide_eq_false (by rw [hE] at hlen; simp only [List.length_nil] at hlen; omega)
        have n1 : ¬ st'.pl < S.size := by rw [hE] at hlen; simp only [List.length_nil] at hlen; omega
        rw [cutTo_here (.inl hE)] at hR
        have HO : Hid (∀ m, DX s K (wr.drewN m) p R ∧ Kept K w (wr.drewN m)) := fun m => by rw [← hR]; exact ⟨hX.drewN m, kp.drewN m⟩
        obtain ⟨a, ha⟩ : ∃ a, st'.pl = a := ⟨_, rfl⟩
        rw [ha] at c1 e1 n1
        clear hX hR hE hlen ha hgm HS HSS HR kp
        go_wp2_with fail
        go_quiet (fail)
        go_wp2
        go_meet
        case rel => exact ⟨rfl, (HO.out _).1, (HO.out _).2⟩
      · obtain ⟨c, r, hcr⟩ : ∃ c r, st'.rest = c :: r := by cases hh : st'.rest with | nil => exact absurd hh hE | cons c r => exact ⟨c, r, rfl⟩
        have hpS : st'.pl < S.size := by rw [hcr] at hlen; simp only [List.length_cons] at hlen; omega
        have e1 : decide ((st'.pl : Int) < (S.size : Int)) = true := decide_eq_true (by omega)
        have l1 := fun X hX => dlooks s K p st' X hX (by have := HSS.out; omega) (60 :: 47 :: name) (by simp only [List.length_cons]; omega)
        obtain ⟨a, ha⟩ : ∃ a, st'.pl = a := ⟨_, rfl⟩
        obtain ⟨m, hm⟩ : ∃ m, a + 2 + name.length = m := ⟨_, rfl⟩
        have ham : (a : Int) + 2 + (name.length : Int) = (m : Int) := by omega
        have hend := endOf_eq name st'.rest
        obtain ⟨lk, hlk⟩ : ∃ q, lkL (60 :: 47 :: name) st'.rest = q := ⟨_, rfl⟩
        rw [hlk] at hend
        simp only [hlk] at l1
        have hdm : decide (name.length + 2 < st'.rest.length) = decide (m < S.size) := by
          by_cases hh : m < S.size
          · rw [decide_eq_true hh, decide_eq_true (by omega)]
          · rw [decide_eq_false hh, decide_eq_false (by omega)]
        rw [hdm] at hend
        have hdr : st'.rest.drop (name.length + 2) = s.drop m := by
          rw [← hX.near (name.length + 2), ha]
          congr 1
          omega
        rw [hdr] at hend
        have hgm2 : (st'.cut 1).rest.length + 1 = gk := by rw [hgm, hcr]; show (st'.rest.drop 1).length + 1 = _; rw [hcr]; rfl
        have HC : Hid (∀ X, DX s K X p st' → X.cell? ⟨p, 0, none⟩ = some (.string S) ∧ X.cell? ⟨p, 1, none⟩ = some (.int .i64 (a : Int)) ∧ X.frozen? ⟨p, 1, none⟩ = false ∧ DX s K (X.setCell ⟨p, 1, none⟩ (.int .i64 ((a : Int) + 1))) p (st'.cut 1) ∧ Kept K X (X.setCell ⟨p, 1, none⟩ (.int .i64 ((a : Int) + 1)))) := by
          intro X hX
          obtain ⟨q1, q2⟩ := hX.cutAt (m := 1) (by rw [hcr]; simp) (n := (a : Int) + 1) (by rw [ha]; omega)
          exact ⟨by rw [← HS.out]; exact hX.cells.1, by rw [← ha]; exact hX.cells.2.1, hX.cells.2.2 1, q1, q2⟩
        have HON : Hid (endOfP name st'.rest = false → (st'.cut 1).cutTo (endOfP name) = R) := fun hno => by rw [← hR, ← cutTo_on hE hno]
        have HOFF : Hid (endOfP name st'.rest = true → st' = R) := fun hy => by rw [← hR, cutTo_here (.inr hy)]
        have HEND : Hid (endOfP name st'.rest = (lk && (decide (m < S.size) && hdIn [9, 10, 12, 32, 47, 62] (s.drop m)))) := hend
        have HX : Hid (DX s K wr p st' ∧ Kept K w wr) := ⟨hX, kp⟩
        rw [ha] at c1 e1 hpS
        obtain ⟨s2, hs2⟩ : ∃ x, st'.cut 1 = x := ⟨_, rfl⟩
        rw [hs2] at HC HON hgm2
        clear hX kp hR hE hlen ha hgm hcr hm hend hlk hdm hdr hs2 HR
        go_wp2_with fail
        go_quiet (fail)
        go_wp2_with fail
        refine Calls.mono (l1 _ (by repeat (first | exact HX.out.1 | refine DX.drewN ?_ _))) ?_
        rintro e w2 ⟨rfl, x2, k2⟩
        replace k2 := Kept.trans (show Kept K w _ by repeat (first | exact HX.out.2 | refine Kept.drewN ?_ _)) k2
        obtain ⟨d0, d1, g1, x3, k3⟩ := HC.out w2 x2
        have HN : Hid (DX s K (w2.setCell ⟨p, 1, none⟩ (.int .i64 ((a : Int) + 1))) p s2 ∧ Kept K w (w2.setCell ⟨p, 1, none⟩ (.int .i64 ((a : Int) + 1)))) := ⟨x3, k2.trans k3⟩
        have HX2 : Hid (DX s K w2 p st' ∧ Kept K w w2) := ⟨x2, k2⟩
        clear l1 HX HC x2 k2 x3 k3 c0 c1
        cases lk with
        | false =>
          have HRR : Hid (s2.cutTo (endOfP name) = R) := HON.out (by rw [HEND.out]; rfl)
          clear HON HOFF HEND HX2
          go_wp2
          go_roundg s2.rest.length
          case rel => exact ⟨s2, rfl, HRR.out, HN.out.1, HN.out.2⟩
          case measure => omega
        | true =>
          by_cases hmS : m < S.size
          · have e2 : decide ((m : Int) < (S.size : Int)) = true := decide_eq_true (by omega)
            have hms : m < s.length := by rw [← HSS.out]; exact hmS
            have hdS : S[m]'hmS = s[m] := by
              have hS := HS.out
              subst hS
              rfl
            have hbl := fun X => dblank (S[m]'hmS) X
            have hcon : endOfP name st'.rest = [9, 10, 12, 32, 47, 62].contains (S[m]'hmS) := by
              rw [HEND.out, decide_eq_true hmS, List.drop_eq_getElem_cons hms, hdS]
              rfl
            have hcon2 : ([9, 10, 12, 32, 47, 62] : List UInt8).contains (S[m]'hmS) = (blankP (S[m]'hmS) || (S[m]'hmS == 47 || S[m]'hmS == 62)) := by
              unfold blankP blk
              simp only [List.contains_cons, List.contains_nil, Bool.or_false, Bool.or_assoc]
            rw [hcon2] at hcon
            obtain ⟨q1, hq1⟩ : ∃ q, blankP (S[m]'hmS) = q := ⟨_, rfl⟩
            rw [hq1] at hcon
            simp only [hq1] at hbl
            clear hcon2 hdS hms hq1 HEND
            cases q1 with
            | true =>
              have HO : Hid (DX s K w2 p R ∧ Kept K w w2) := by rw [← HOFF.out (by rw [hcon]; rfl)]; exact HX2.out
              clear HON HOFF HX2 HN hcon
              go_wp2_with fail
              refine (hbl _).mono ?_
              rintro e w3 ⟨rfl, rfl⟩
              clear hbl
              go_wp2
              go_meet
              case rel => exact ⟨rfl, HO.out.1, HO.out.2⟩
            | false =>
              by_cases h47 : S[m]'hmS = 47
              · have e3 : (((S[m]'hmS).toNat : Int) == 47) = true := by rw [h47]; rfl
                have HO : Hid (DX s K w2 p R ∧ Kept K w w2) := by rw [← HOFF.out (by rw [hcon, h47]; rfl)]; exact HX2.out
                clear HON HOFF HX2 HN hcon h47
                go_wp2_with fail
                refine (hbl _).mono ?_
                rintro e w3 ⟨rfl, rfl⟩
                clear hbl
                go_wp2
                go_meet
                case rel => exact ⟨rfl, HO.out.1, HO.out.2⟩
              · have e3 : (((S[m]'hmS).toNat : Int) == 47) = false := u8_ne (d := 47) h47
                by_cases h62 : S[m]'hmS = 62
                · have e4 : (((S[m]'hmS).toNat : Int) == 62) = true := by rw [h62]; rfl
                  have HO : Hid (DX s K w2 p R ∧ Kept K w w2) := by rw [← HOFF.out (by rw [hcon, h62]; rfl)]; exact HX2.out
                  clear HON HOFF HX2 HN hcon h47 h62
                  go_wp2_with fail
                  refine (hbl _).mono ?_
                  rintro e w3 ⟨rfl, rfl⟩
                  clear hbl
                  go_wp2
                  go_meet
                  case rel => exact ⟨rfl, HO.out.1, HO.out.2⟩
                · have e4 : (((S[m]'hmS).toNat : Int) == 62) = false := u8_ne (d := 62) h62
                  have HRR : Hid (s2.cutTo (endOfP name) = R) := HON.out (by
                    rw [hcon]
                    have q3 : (S[m]'hmS == 47) = false := by simpa using h47
                    have q4 : (S[m]'hmS == 62) = false := by simpa using h62
                    rw [q3, q4]
                    rfl)
                  clear HON HOFF HX2 hcon h47 h62
                  go_wp2_with fail
                  refine (hbl _).mono ?_
                  rintro e w3 ⟨rfl, rfl⟩
                  clear hbl
                  go_wp2
                  go_roundg s2.rest.length
                  case rel => exact ⟨s2, rfl, HRR.out, HN.out.1, HN.out.2⟩
                  case measure => omega
          · have e2 : decide ((m : Int) < (S.size : Int)) = false := decide_eq_false (by omega)
            have HRR : Hid (s2.cutTo (endOfP name) = R) := HON.out (by rw [HEND.out, decide_eq_false hmS]; rfl)
            clear HON HOFF HEND HX2
            go_wp2
            go_roundg s2.rest.length
            case rel => exact ⟨s2, rfl, HRR.out, HN.out.1, HN.out.2⟩
            case measure => omega
  case rest =>
    obtain ⟨rfl, xr, kr⟩ := hcut
    have c0 : wc.cell? ⟨p, 0, none⟩ = some (.string S) := by rw [← HS.out]; exact xr.cells.1
    have c1 := xr.cells.2.1
    have z1 := HR.out.2.2.1
    have z2 := HR.out.2.2.2.1
    have hex := HEX.out
    have r4 := fun X => rclean_any ⟨D.toArray⟩ (by rw [sv_size]; exact hDl) X
    have r5 := fun X hX => drall s K p R X hX (cleanL D) false (by have := cleanL_length D; omega)
    obtain ⟨a, ha⟩ : ∃ a, R.pl = a := ⟨_, rfl⟩
    rw [ha] at c1 z1 z2 hex
    have HXr : Hid (DX s K wc p R ∧ Kept K w wc) := ⟨xr, kr⟩
    clear xr kr ha HEX HX yN hDl
    cases soft with
    | true =>
      rw [if_pos rfl] at HRD
      rw [← HRD.out] at r5
      go_wp2_with fail
      go_quiet ((go_at_call 54; exact Calls.quiet_of_same (r4 _)))
      go_wp2_with fail
      refine Calls.mono (r5 _ (by repeat (first | exact HXr.out.1 | refine DX.drewN ?_ _))) ?_
      rintro e w2 ⟨rfl, XX, k2⟩
      have KK := Kept.trans (show Kept K w _ by repeat (first | exact HXr.out.2 | refine Kept.drewN ?_ _)) k2
      clear r4 r5 c0 c1 z1 z2 hex k2 HXr
      by_cases hRDn : RD = []
      · rw [if_pos hRDn] at HZ
        subst hRDn
        go_wp2
        go_end0
        exact ⟨rfl, by rw [HZ.out]; exact XX, KK⟩
      · obtain ⟨ta, tc, c2, -, ta', tc', w', hr, q2, g2, hY, kY⟩ := XX.app3 (by rw [HR.out.2.2.2.2]; omega) RD b
        have HF : Hid (DX s K (w'.setCell ⟨p, 2, none⟩ (.slice ta' (x.toks.length + 1) tc')) p Z ∧ Kept K w (w'.setCell ⟨p, 2, none⟩ (.slice ta' (x.toks.length + 1) tc'))) := by
          rw [HR.out.2.2.2.2] at hY kY
          refine ⟨?_, KK.trans kY⟩
          rw [HZ.out, if_neg hRDn]
          exact hY.tat HR.out.2.1 b
        rw [HR.out.2.2.2.2] at c2 hr q2
        obtain ⟨k, hk⟩ : ∃ k, x.toks.length = k := ⟨_, rfl⟩
        rw [hk] at c2 hr q2 HF
        have n1 : RD.isEmpty = false := by cases RD with | nil => exact absurd rfl hRDn | cons => rfl
        have n2 : (RD == []) = false := by cases RD with | nil => exact absurd rfl hRDn | cons => rfl
        have n3 : (RD != []) = true := by show (!_) = _; rw [n2]; rfl
        clear HZ HRD HR XX KK hY kY hRDn hk htk
        go_wp2_with (at_builtin; refine wpList_appR (w' := w') rfl (.tmp 98) (.tmp 102) 24 24 rfl _ _ (.slice ta' (k + 1) tc') rfl rfl hr ?_)
        go_wp2
        go_end0
        exact ⟨rfl, HF.out.1, HF.out.2⟩
    | false =>
      rw [if_neg (by decide)] at HRD
      rw [← HRD.out] at r4
      clear r5
      go_wp2_with fail
      go_quiet ((go_at_call 54; exact Calls.quiet_of_same (r4 _)))
      have XX := HXr.out.1.drewN nq
      have KK := HXr.out.2.drewN nq
      clear r4 c0 c1 z1 z2 hex HXr
      by_cases hRDn : RD = []
      · rw [if_pos hRDn] at HZ
        subst hRDn
        go_wp2
        go_end0
        exact ⟨rfl, by rw [HZ.out]; exact XX, KK⟩
      · obtain ⟨ta, tc, c2, -, ta', tc', w', hr, q2, g2, hY, kY⟩ := XX.app3 (by rw [HR.out.2.2.2.2]; omega) RD b
        have HF : Hid (DX s K (w'.setCell ⟨p, 2, none⟩ (.slice ta' (x.toks.length + 1) tc')) p Z ∧ Kept K w (w'.setCell ⟨p, 2, none⟩ (.slice ta' (x.toks.length + 1) tc'))) := by
          rw [HR.out.2.2.2.2] at hY kY
          refine ⟨?_, KK.trans kY⟩
          rw [HZ.out, if_neg hRDn]
          exact hY.tat HR.out.2.1 b
        rw [HR.out.2.2.2.2] at c2 hr q2
        obtain ⟨k, hk⟩ : ∃ k, x.toks.length = k := ⟨_, rfl⟩
        rw [hk] at c2 hr q2 HF
        have n1 : RD.isEmpty = false := by cases RD with | nil => exact absurd rfl hRDn | cons => rfl
        have n2 : (RD == []) = false := by cases RD with | nil => exact absurd rfl hRDn | cons => rfl
        have n3 : (RD != []) = true := by show (!_) = _; rw [n2]; rfl
        clear HZ HRD HR XX KK hY kY hRDn hk htk
        go_wp2_with (at_builtin; refine wpList_appR (w' := w') rfl (.tmp 98) (.tmp 102) 24 24 rfl _ _ (.slice ta' (k + 1) tc') rfl rfl hr ?_)
        go_wp2
        go_end0
        exact ⟨rfl, HF.out.1, HF.out.2⟩
end Go.Proofs.Ytffllhohlfblnaa
