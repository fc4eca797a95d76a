/-
  Doc.within and Doc.fits: what is within what.
-/
import Derived.Test.YtmplhphcdgpigaaCH
namespace Go.Proofs.Ytmplhphcdgpigaa
open Go.RowKit
set_option linter.unusedVariables false

/-- One step upwards: by Up, else by Host. -/
def parI (S : Dm) (k : Nat) : Int := if (S.pl k).up = -1 then (S.nd k).host else (S.pl k).up
/-- i is met from k on upwards. -/
inductive Wi (S : Dm) (i : Nat) : Nat → Prop
  | here : Wi S i i
  | up {k m : Nat} : parI S k = (m : Int) → Wi S i m → Wi S i k
/-- No way upwards comes round. -/
def Acy (S : Dm) (rk : Nat → Nat) : Prop := ∀ k, k < S.n → parI S k = -1 ∨ ∃ m : Nat, m < S.n ∧ parI S k = (m : Int) ∧ rk m < rk k
theorem Wi.step {S : Dm} {i k m : Nat} (hki : k ≠ i) (hp : parI S k = (m : Int)) : Wi S i k ↔ Wi S i m := by
  constructor
  · intro h
    cases h with
    | here => exact absurd rfl hki
    | up e h =>
      have : m = _ := Int.ofNat.inj (hp.symm.trans e)
      rw [this]; exact h
  · exact Wi.up hp
theorem Wi.none {S : Dm} {i k : Nat} (hki : k ≠ i) (hp : parI S k = -1) : ¬ Wi S i k := by
  intro h
  cases h with
  | here => exact hki rfl
  | up e h => omega
/-- The way upwards, step by step. -/
theorem Wi.comp {S : Dm} {i j k : Nat} (h1 : Wi S i j) (h2 : Wi S j k) : Wi S i k := by
  induction h2 with
  | here => exact h1
  | up e _ ih => exact .up e ih

set_option maxRecDepth 20000 in
set_option maxHeartbeats 1000000 in
theorem within_any (K : Nat → Prop) (p g cap at_ i : Nat) (S : Dm) (rk : Nat → Nat) (w : World) (h : DY K w p S (some ⟨g, 0, none⟩) cap) (ha : Acy S rk) (hat : at_ < S.n) (hi : i < S.n) (hn : S.n ≤ 1000000000) :
    Calls Try.prog 34 #[.pointer (some ⟨p, 0, none⟩), .int .i64 (at_ : Int), .int .i64 (i : Int)] w fun e w' => ∃ b : Bool, e = .returned (.bool b) ∧ (b = true ↔ Wi S i at_) ∧ w' = w := by
  have c1 := h.c1
  have hcell : ∀ k, k < S.n → w.cell? ⟨g, k * 22 + 12, none⟩ = some (.int .i64 (S.pl k).up) ∧ w.cell? ⟨g, k * 22 + 10, none⟩ = some (.int .i64 (S.nd k).host) := fun k hk => by
    obtain ⟨aa, ac, hc, -⟩ := h.cell hk
    exact ⟨hc 12 _ rfl, hc 10 _ rfl⟩
  obtain ⟨n, hne⟩ : ∃ n, S.n = n := ⟨_, rfl⟩
  have HA : Hid (∀ k, k < n → parI S k = -1 ∨ ∃ m : Nat, m < n ∧ parI S k = (m : Int) ∧ rk m < rk k) := by rw [← hne]; exact ha
  have HC : Hid (∀ k, k < n → w.cell? ⟨g, k * 22 + 12, none⟩ = some (.int .i64 (S.pl k).up) ∧ w.cell? ⟨g, k * 22 + 10, none⟩ = some (.int .i64 (S.nd k).host)) := by rw [← hne]; exact hcell
  rw [hne] at c1 hat hi hn
  clear h ha hcell hne
  go_enter Try.func34, Try.ntmps34
  go_wp2
  go_step3
  go_wp2
  go_step3
  go_wp2_with fail
  go_loopg [1] (rk at_) (fun gh v wr => ∃ k : Nat, gh = rk k ∧ k < n ∧ v = .int .i64 (k : Int) ∧ (Wi S i at_ ↔ Wi S i k) ∧ wr = w)
  case atStart => exact ⟨at_, rfl, hat, rfl, Iff.rfl, rfl⟩
  case round =>
    obtain ⟨k, hgk, hk, rfl, hiff, rfl⟩ := hrel
    have HI : Hid (Wi S i at_ ↔ Wi S i k) := hiff
    clear hiff
    by_cases cki : k = i
    · subst cki
      go_wp2
      try rw [Exit.noGoto_ret]
      go_ret
      exact ⟨true, by simp, by rw [HI.out]; exact ⟨fun _ => .here, fun _ => rfl⟩, rfl⟩
    · have e1 : ((k : Int) == (i : Int)) = false := by simp; omega
      have e2 : ((k : Int) != (i : Int)) = true := by simp; omega
      obtain ⟨d0, d1⟩ := HC.out k hk
      have hpar := HA.out k hk
      by_cases cu : (S.pl k).up = -1
      · rw [cu] at d0
        have hpe : parI S k = (S.nd k).host := if_pos cu
        by_cases ch : (S.nd k).host = -1
        · rw [ch] at d1
          have hno : ¬ Wi S i k := Wi.none cki (hpe.trans ch)
          have HNO : Hid (¬ Wi S i k) := hno
          clear hpar hno hpe cu ch
          go_wp2
          try rw [Exit.noGoto_ret]
          go_ret
          exact ⟨false, by simp, by rw [HI.out]; exact ⟨fun h => (by cases h), fun h => absurd h HNO.out⟩, rfl⟩
        · rcases hpar with h0 | ⟨m, hm, hpm, hrk⟩
          · exact absurd (hpe.symm.trans h0) ch
          have hm' : (S.nd k).host = (m : Int) := hpe.symm.trans hpm
          rw [hm'] at d1
          have e3 : ((m : Int) == -1) = false := by simp
          have e4 : ((m : Int) != -1) = true := by simp
          have HI2 : Hid (Wi S i at_ ↔ Wi S i m) := HI.out.trans (Wi.step cki hpm)
          clear hpm hpe cu ch hm' HI
          go_wp2
          go_roundg (rk m)
          case rel => exact ⟨m, rfl, hm, rfl, HI2.out, rfl⟩
          case measure => rw [hgk]; exact hrk
      · have hpe : parI S k = (S.pl k).up := if_neg cu
        rcases hpar with h0 | ⟨m, hm, hpm, hrk⟩
        · exact absurd (hpe.symm.trans h0) cu
        have hm' : (S.pl k).up = (m : Int) := hpe.symm.trans hpm
        rw [hm'] at d0
        have e3 : ((m : Int) == -1) = false := by simp
        have e4 : ((m : Int) != -1) = true := by simp
        have HI2 : Hid (Wi S i at_ ↔ Wi S i m) := HI.out.trans (Wi.step cki hpm)
        clear hpm hpe cu hm' HI
        go_wp2
        go_roundg (rk m)
        case rel => exact ⟨m, rfl, hm, rfl, HI2.out, rfl⟩
        case measure => rw [hgk]; exact hrk

/-- May i be put into up, ahead of bef? -/
def Fits (S : Dm) (up i : Nat) (bef : Int) : Prop := holdB (S.nd up) = true ∧ moveB S i = true ∧ ¬ Wi S i up ∧ (bef = -1 ∨ ∃ m : Nat, m < S.n ∧ bef = (m : Int) ∧ (S.pl m).up = (up : Int))

set_option maxRecDepth 20000 in
set_option maxHeartbeats 2000000 in
theorem fits_any (K : Nat → Prop) (p g cap up i : Nat) (bef : Int) (S : Dm) (rk : Nat → Nat) (w : World) (h : DY K w p S (some ⟨g, 0, none⟩) cap) (ha : Acy S rk) (hu : up < S.n) (hi : i < S.n) (hb : bef = -1 ∨ ∃ m : Nat, m < S.n ∧ bef = (m : Int)) (hn : S.n ≤ 1000000000) :
    Calls Try.prog 23 #[.pointer (some ⟨p, 0, none⟩), .int .i64 (up : Int), .int .i64 (i : Int), .int .i64 bef] w fun e w' => ∃ b : Bool, e = .returned (.bool b) ∧ (b = true ↔ Fits S up i bef) ∧ Kept (fun k => k < w.heap.size) w w' := by
  obtain ⟨aa, ac, hc, -⟩ := h.cell hu
  have c0 : w.cell? ⟨g, up * 22, none⟩ = some (.int .u8 ((S.nd up).kind : Int)) := hc 0 _ rfl
  have c1' : w.cell? ⟨g, up * 22 + 1, none⟩ = some (sv (S.nd up).name) := hc 1 _ rfl
  have rh := mayHold_any g (up * 22) (S.nd up) w c0 c1'
  have rm := fun X (hX : Kept (fun k => k < w.heap.size) w X) => mayMove_any K p g cap i S X (h.kept hX) hi hn
  have rw' := fun X (hX : Kept (fun k => k < w.heap.size) w X) => within_any K p g cap up i S rk X (h.kept hX) ha hu hi hn
  have HY : Hid (DY K w p S (some ⟨g, 0, none⟩) cap) := h
  have c1 := h.c1
  obtain ⟨n, hne⟩ : ∃ n, S.n = n := ⟨_, rfl⟩
  have HNE : Hid (S.n = n) := hne
  have HB : Hid (bef = -1 ∨ ∃ m : Nat, m < n ∧ bef = (m : Int)) := by rw [← hne]; exact hb
  rw [hne] at c1 hu hi hn
  have HR : Hid (∀ X, Kept (fun k => k < w.heap.size) w X → Calls Try.prog 34 #[.pointer (some ⟨p, 0, none⟩), .int .i64 (up : Int), .int .i64 (i : Int)] X fun e w' => ∃ b : Bool, e = .returned (.bool b) ∧ (b = true ↔ Wi S i up) ∧ w' = X) := rw'
  have HM : Hid (∀ X, Kept (fun k => k < w.heap.size) w X → Calls Try.prog 33 #[.pointer (some ⟨p, 0, none⟩), .int .i64 (i : Int)] X fun e w' => e = .returned (.bool (moveB S i)) ∧ w' = X) := rm
  obtain ⟨v, hv⟩ : ∃ v, holdB (S.nd up) = v := ⟨_, rfl⟩
  have HV : Hid (holdB (S.nd up) = v) := hv
  rw [hv] at rh
  clear h ha hc c0 c1' hne hb rm rw' hv
  go_enter Try.func23, Try.ntmps23
  go_wp2_with fail
  refine rh.mono ?_
  rintro e w1 ⟨rfl, k1⟩
  have HK1 : Hid (Kept (fun k => k < w.heap.size) w w1) := k1
  clear rh c1
  cases v with
  | false =>
    go_wp2
    go_ret
    exact ⟨false, by simp, ⟨fun h => (by cases h), fun h => (by have := h.1; rw [HV.out] at this; cases this)⟩, HK1.out⟩
  | true =>
    obtain ⟨mv, hmv⟩ : ∃ v, moveB S i = v := ⟨_, rfl⟩
    have r1 := HM.out w1 HK1.out
    rw [hmv] at r1
    have HMV : Hid (moveB S i = mv) := hmv
    have r2 := HR.out w1 HK1.out
    clear hmv
    go_wp2_with fail
    refine r1.mono ?_
    rintro e w2 ⟨rfl, hw2⟩
    subst hw2
    clear r1
    cases mv with
    | false =>
      go_wp2
      go_ret
      exact ⟨false, by simp, ⟨fun h => (by cases h), fun h => (by have := h.2.1; rw [HMV.out] at this; cases this)⟩, HK1.out⟩
    | true =>
      go_wp2_with fail
      refine r2.mono ?_
      rintro e w3 ⟨b, rfl, hbw, hw3⟩
      subst hw3
      have HBW : Hid (b = true ↔ Wi S i up) := hbw
      clear r2 hbw
      cases b with
      | true =>
        go_wp2
        go_ret
        exact ⟨false, by simp, ⟨fun h => (by cases h), fun h => absurd (HBW.out.1 (by simp)) h.2.2.1⟩, HK1.out⟩
      | false =>
        have hnw : ¬ Wi S i up := fun hh => by have := HBW.out.2 hh; simp at this
        have HNW : Hid (¬ Wi S i up) := hnw
        clear hnw
        by_cases cb : bef = -1
        · subst cb
          go_wp2
          go_ret
          exact ⟨true, by simp, ⟨fun _ => ⟨HV.out, HMV.out, HNW.out, .inl rfl⟩, fun _ => rfl⟩, HK1.out⟩
        · rcases HB.out with h0 | ⟨m, hm, hbm⟩
          · exact absurd h0 cb
          subst hbm
          have e3 : ((m : Int) == -1) = false := by simp
          have hY := HY.out.kept HK1.out
          have c1 : w3.cell? ⟨p, 1, none⟩ = some (.slice (some ⟨g, 0, none⟩) n cap) := by have := hY.c1; rw [HNE.out] at this; exact this
          obtain ⟨d0, -, -, -, -⟩ := hY.pcell (i := m) (by rw [HNE.out]; exact hm)
          by_cases cu : (S.pl m).up = (up : Int)
          · rw [cu] at d0
            have HCU : Hid ((S.pl m).up = (up : Int)) := cu
            clear cb hY cu
            go_wp2
            go_ret
            exact ⟨true, by simp, ⟨fun _ => ⟨HV.out, HMV.out, HNW.out, .inr ⟨m, by rw [HNE.out]; exact hm, rfl, HCU.out⟩⟩, fun _ => rfl⟩, HK1.out⟩
          · obtain ⟨z, hz⟩ : ∃ z, (S.pl m).up = z := ⟨_, rfl⟩
            rw [hz] at d0 cu
            have e4 : (z == (up : Int)) = false := by simpa using cu
            have HZ : Hid ((S.pl m).up = z ∧ z ≠ (up : Int)) := ⟨hz, cu⟩
            clear cb hY cu hz
            go_wp2
            go_ret
            refine ⟨false, by simp, ⟨fun h => (by cases h), fun h => ?_⟩, HK1.out⟩
            rcases h.2.2.2 with h1 | ⟨q, hq, hmq, hqu⟩
            · exact absurd h1 (by omega)
            · have : m = q := by omega
              subst this
              exact absurd (HZ.out.1.symm.trans hqu) HZ.out.2
end Go.Proofs.Ytmplhphcdgpigaa
