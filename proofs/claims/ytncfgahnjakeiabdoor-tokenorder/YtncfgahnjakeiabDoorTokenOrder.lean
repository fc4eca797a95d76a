/-
  For every text the Go function portierelaw06.TokenOrder returns true, and its argument reads afterwards as before; the two tables of the program are tied to its text.
-/
import Derived.Test.YtncfgahnjakeiabDoorRows
import Derived.Test.YtncfgahnjakeiabDoorLaid
import Derived.Test.YtncfgahnjakeiabDoorOrd
import Derived.Test.YtncfgahnjakeiabDoorFew
import Derived.Test.YtncfgahnjakeiabDoorKnown
import Derived.Test.YtncfgahnjakeiabDoorCards
import Derived.Test.YtncfgahnjakeiabDoorTie
import Derived.SevenTiedAt
import Derived.BigQuiet
import Derived.Lib.QuietBelow
import Derived.WalkKit
import Derived.ProofKit
import Derived.OpenShut
import Derived.ShutString
namespace Go.Proofs.YtncfgahnjakeiabDoor.tokenOrder
open Go.ChangeShapes Go.WideShapes Go.ChangeAt Go.RowKit
open Go.ChangeMaps (open_string shut_string)
set_option linter.unusedVariables false

set_option maxRecDepth 20000 in
set_option maxHeartbeats 4000000 in
theorem walk (a0 : ByteArray) (w0 : a0.size ≤ maxLen) (w : World) (hT : Tab w) (h2 : 1 < w.heap.size) :
    Calls Tryd.prog 4 #[.string a0] w fun e w' => e = .returned (.bool true) ∧ Below w.heap.size w w' := by
  obtain ⟨K, hKe⟩ : ∃ K : Nat → Prop, (fun k => k < w.heap.size) = K := ⟨_, rfl⟩
  have hK : ∀ k, K k → k < w.heap.size := by
    rw [← hKe]
    exact fun k h => h
  have hfin : ∀ X, Kept K w X → Below w.heap.size w X := by
    rw [← hKe]
    exact fun _ h => h.below
  have k0 : K 0 := by
    rw [← hKe]
    show 0 < w.heap.size
    omega
  have k1 : K 1 := by
    rw [← hKe]
    exact h2
  clear hKe
  have hkn := fun X hX hXT => known_any K X hX hXT k0 k1
  have hl0 : a0.data.toList.length = a0.size := rfl
  by_cases hz : a0.size ≤ 1500
  · have e0 : decide ((a0.size : Int) > 1500) = false := decide_eq_false (by omega)
    have r1 : ∀ X, (∀ k, K k → k < X.heap.size) → Tab X → Calls Tryd.prog 13 #[.string a0] X fun e w' => ∃ ta tc fa fc, e = .returned (.tuple #[.slice ta (tokL a0.data.toList).toks.length tc, .slice fa (tokL a0.data.toList).flts.length fc]) ∧ ToksIn (fun k => k < w'.heap.size) w' ta (tokL a0.data.toList).toks ∧ FltsIn (fun k => k < w'.heap.size) w' fa (tokL a0.data.toList).flts ∧ Kept K X w' := fun X hX hXT => by
      have := tokens_any a0.data.toList (by omega) K X hX hXT k0 k1
      rwa [sv_back] at this
    obtain ⟨hgd, hasc, hgf⟩ := tok_ord a0.data.toList
    have hfew := tok_few (l := a0.data.toList) (by omega)
    rw [hl0] at hgd hgf
    obtain ⟨R, eR⟩ : ∃ R, tokL a0.data.toList = R := ⟨_, rfl⟩
    rw [eR] at hgd hgf hasc hfew
    simp only [eR] at r1
    obtain ⟨n, en⟩ : ∃ n, R.toks.length = n := ⟨_, rfl⟩
    obtain ⟨m, em⟩ : ∃ m, R.flts.length = m := ⟨_, rfl⟩
    simp only [en, em] at r1
    rw [en, em] at hfew
    have HG : Hid (∀ t ∈ R.toks, 1 ≤ t.kind ∧ t.kind ≤ 5 ∧ (t.kind = 3 → t.data ≠ []) ∧ t.pl < a0.size) := hgd
    have HGF : Hid (∀ f ∈ R.flts, 1 ≤ f.kind ∧ f.kind ≤ 7 ∧ f.pl ≤ a0.size) := hgf
    have HAS : Hid (Asc R.toks) := hasc
    have HEN : Hid (R.toks.length = n) := en
    have HEM : Hid (R.flts.length = m) := em
    clear w0 eR hgd hgf hasc en em
    go_enter Tryd.func4, Tryd.ntmps4
    go_wp2_with fail
    refine (hkn w hK hT).mono ?_
    rintro e w1 ⟨rfl, p1⟩
    have hT1 := hT.kept p1 k0 k1
    have hK1 : ∀ k, K k → k < w1.heap.size := fun k hk => Nat.lt_of_lt_of_le (hK k hk) p1.size
    replace r1 := r1 w1 hK1 hT1
    clear hkn
    go_wp2_with fail
    refine r1.mono ?_
    rintro e w2 ⟨ta, tc, fa, fc, rfl, hta, hfa, p2⟩
    have HTA : Hid (ToksIn (fun k => k < w2.heap.size) w2 ta R.toks) := hta
    have HFA : Hid (FltsIn (fun k => k < w2.heap.size) w2 fa R.flts) := hfa
    have HKP : Hid (Kept K w w2) := p1.trans p2
    clear hta hfa p1 p2 r1 hT1 hK1 hT
    go_wp2_with fail
    go_loopg [5] n (fun gm i wr => ∃ k q : Nat, gm = n - k ∧ k ≤ n ∧ i = .int .i64 k ∧ wr = w2.drewN q)
    case atStart => exact ⟨0, 0, rfl, Nat.zero_le _, rfl, rfl⟩
    case round =>
      obtain ⟨k, q, hgk, hk, rfl, rfl⟩ := hrel
      by_cases hlt : k < n
      · have hlt' : k < R.toks.length := by rw [HEN.out]; exact hlt
        obtain ⟨g, aa, ac, eta, -, -, c0, -, -, -, c4, c5⟩ := HTA.out k hlt'
        obtain ⟨g1, g2, g3, g4⟩ := HG.out R.toks[k] (List.getElem_mem hlt')
        by_cases hk0 : k = 0
        · subst hk0
          subst eta
          obtain ⟨kd, ekd⟩ : ∃ x, R.toks[0].kind = x := ⟨_, rfl⟩
          obtain ⟨pl, epl⟩ : ∃ x, R.toks[0].pl = x := ⟨_, rfl⟩
          obtain ⟨dt, edt⟩ : ∃ x, R.toks[0].data = x := ⟨_, rfl⟩
          rw [ekd] at c0 g1 g2 g3
          rw [epl] at c5 g4
          rw [edt] at c4 g3
          have t1 : decide ((pl : Int) < 0) = false := decide_eq_false (by omega)
          have t2 : decide ((pl : Int) ≥ (a0.size : Int)) = false := decide_eq_false (by omega)
          have t3 : decide ((kd : Int) < 1) = false := decide_eq_false (by omega)
          have t4 : decide ((kd : Int) > 5) = false := decide_eq_false (by omega)
          have u2 : decide (a0.size ≤ pl) = false := decide_eq_false (by omega)
          have u3 : decide (kd = 0) = false := decide_eq_false (by omega)
          have u4 : decide (5 < kd) = false := decide_eq_false (by omega)
          rw [Nat.zero_mul] at c0 c4 c5
          rw [Nat.zero_add] at c4 c5
          clear HTA HG HAS HEN ekd epl edt HFA HGF hlt' HEM
          by_cases h3 : kd = 3
          · have t5 : ((kd : Int) == 3) = true := by rw [h3]; rfl
            have t6 : dt.isEmpty = false := by
              have := g3 h3
              cases dt with | nil => exact absurd rfl this | cons => rfl
            clear g3 h3
            go_wp2_with fail
            go_big_quiet (fail)
            go_wp2
            go_roundg (n - (0 + 1))
            case rel => exact ⟨0 + 1, _, rfl, by omega, by go_num, rfl⟩
            case measure => omega
          · have t5 : ((kd : Int) == 3) = false := by simp; omega
            clear g3
            go_wp2_with fail
            go_big_quiet (fail)
            go_wp2
            go_roundg (n - (0 + 1))
            case rel => exact ⟨0 + 1, _, rfl, by omega, by go_num, rfl⟩
            case measure => omega
        · obtain ⟨j, rfl⟩ : ∃ j, k = j + 1 := ⟨k - 1, by omega⟩
          obtain ⟨g', aa', ac', eta', -, -, d0, -, -, -, -, d5⟩ := HTA.out j (by omega)
          have has := HAS.out j hlt'
          rw [eta] at eta'
          injection eta' with eta'
          injection eta' with eta'
          subst eta'
          subst eta
          unfold Nxt at has
          obtain ⟨kd, ekd⟩ : ∃ x, (R.toks[j + 1]'hlt').kind = x := ⟨_, rfl⟩
          obtain ⟨pl, epl⟩ : ∃ x, (R.toks[j + 1]'hlt').pl = x := ⟨_, rfl⟩
          obtain ⟨dt, edt⟩ : ∃ x, (R.toks[j + 1]'hlt').data = x := ⟨_, rfl⟩
          obtain ⟨kd', ekd'⟩ : ∃ x, (R.toks[j]'(by omega)).kind = x := ⟨_, rfl⟩
          obtain ⟨pl', epl'⟩ : ∃ x, (R.toks[j]'(by omega)).pl = x := ⟨_, rfl⟩
          rw [ekd] at c0 g1 g2 g3
          rw [epl] at c5 g4
          rw [edt] at c4 g3
          rw [ekd'] at d0
          rw [epl'] at d5
          rw [ekd, epl, ekd', epl'] at has
          obtain ⟨has1, has2⟩ := has
          have t1 : decide ((pl : Int) < 0) = false := decide_eq_false (by omega)
          have t2 : decide ((pl : Int) ≥ (a0.size : Int)) = false := decide_eq_false (by omega)
          have t3 : decide ((kd : Int) < 1) = false := decide_eq_false (by omega)
          have t4 : decide ((kd : Int) > 5) = false := decide_eq_false (by omega)
          have u2 : decide (a0.size ≤ pl) = false := decide_eq_false (by omega)
          have u3 : decide (kd = 0) = false := decide_eq_false (by omega)
          have u4 : decide (5 < kd) = false := decide_eq_false (by omega)
          have t7 : decide ((((j + 1 : Nat)) : Int) > 0) = true := decide_eq_true (by omega)
          have u8 : decide (pl ≤ pl') = false := decide_eq_false (by omega)
          have t8 : decide ((pl : Int) ≤ (pl' : Int)) = false := decide_eq_false (by omega)
          clear HTA HG HAS HEN ekd epl edt ekd' epl' HFA HGF hlt' HEM hk0
          have t9 : decide ((j : Int) + 1 > 0) = true := decide_eq_true (by omega)
          by_cases h3 : kd = 3
          · have t5 : ((kd : Int) == 3) = true := by rw [h3]; rfl
            have t6 : dt.isEmpty = false := by
              have := g3 h3
              cases dt with | nil => exact absurd rfl this | cons => rfl
            have t10 : ((kd' : Int) == 3) = false := by
              have : kd' ≠ 3 := fun e => has2 ⟨e, h3⟩
              simp
              omega
            clear g3 h3 has2
            go_wp2_with fail
            go_big_quiet (fail)
            go_wp2
            go_roundg (n - (j + 1 + 1))
            case rel => exact ⟨j + 1 + 1, _, rfl, by omega, by go_num, rfl⟩
            case measure => omega
          · have t5 : ((kd : Int) == 3) = false := by simp; omega
            clear g3 has2
            go_wp2_with fail
            go_big_quiet (fail)
            go_wp2
            go_roundg (n - (j + 1 + 1))
            case rel => exact ⟨j + 1 + 1, _, rfl, by omega, by go_num, rfl⟩
            case measure => omega
      · clear HTA HG HAS HEN hgk
        obtain ⟨W3, hW3⟩ : ∃ W, w2.drewN q = W := ⟨_, rfl⟩
        have HFA3 : Hid (FltsIn (fun k => k < w2.heap.size) W3 fa R.flts) := by rw [← hW3]; exact HFA.out.kept ((Kept.refl _ w2).drewN q) (fun _ h => h)
        have HKP3 : Hid (Kept K w W3) := by rw [← hW3]; exact HKP.out.drewN q
        rw [hW3]
        clear hW3 HFA HKP
        go_wp2_with fail
        go_loopg [6] m (fun gm i wr => ∃ k : Nat, gm = m - k ∧ k ≤ m ∧ i = .int .i64 k ∧ wr = W3)
        case atStart => exact ⟨0, rfl, Nat.zero_le _, rfl, rfl⟩
        case round =>
          obtain ⟨k, hgk, hk, rfl, rfl⟩ := hrel
          by_cases hlt : k < m
          · have hlt' : k < R.flts.length := by rw [HEM.out]; exact hlt
            obtain ⟨g, efa, -, c0, c1⟩ := HFA3.out k hlt'
            obtain ⟨g1, g2, g3⟩ := HGF.out R.flts[k] (List.getElem_mem hlt')
            subst efa
            obtain ⟨kd, ekd⟩ : ∃ x, (R.flts[k]'hlt').kind = x := ⟨_, rfl⟩
            obtain ⟨pl, epl⟩ : ∃ x, (R.flts[k]'hlt').pl = x := ⟨_, rfl⟩
            rw [ekd] at c0 g1 g2
            rw [epl] at c1 g3
            have t1 : decide ((pl : Int) < 0) = false := decide_eq_false (by omega)
            have t2 : decide ((pl : Int) > (a0.size : Int)) = false := decide_eq_false (by omega)
            have t3 : decide ((kd : Int) < 1) = false := decide_eq_false (by omega)
            have t4 : decide ((kd : Int) > 7) = false := decide_eq_false (by omega)
            clear HFA3 HGF ekd epl hlt' HEM
            go_wp2
            go_roundg (m - (k + 1))
            case rel => exact ⟨k + 1, rfl, by omega, by go_num, rfl⟩
            case measure => omega
          · clear HFA3 HGF HEM
            go_wp2
            go_ret
            exact ⟨rfl, hfin _ HKP3.out⟩
  · have e0 : decide ((a0.size : Int) > 1500) = true := decide_eq_true (by omega)
    go_enter Tryd.func4, Tryd.ntmps4
    go_wp2_with fail
    refine (hkn w hK hT).mono ?_
    rintro e w1 ⟨rfl, p1⟩
    have q1 := p1
    clear p1
    go_wp2
    go_ret
    exact ⟨rfl, hfin _ q1⟩

set_option maxRecDepth 100000 in
theorem lifted (os : Os) (started : os.Started) (H : Type) (enc : TypeId × Value → H) :
    ReturnsInHanded {} Tryd.checked os 4 .any (fun w args => (Rows.tokenOrderSpec.pre enc Tryd.prog Tryd.f4 [] false w args ∧ laidMetH Tryd.prog laidL w) ∧ sizedMet enc Tryd.prog Tryd.f4 (OpenSpec.ofChange Rows.tokenOrderSpec) false w args)
      (Rows.tokenOrderSpec.post enc Tryd.prog Tryd.f4 false true false false) := by
  refine returnsInHanded_of_change_and (C := Tryd.checked) (X := fun w _ => laidMetH Tryd.prog laidL w) (fun _ _ _ hh h => h.of_heap hh) own started (by kernel_rfl) Tryd.func4
    (ChangeSpec.witness_shaped (enc := enc) (C := Tryd.checked) (os := os) (X := fun w _ => laidMetH Tryd.prog laidL w) false (World.doorLaid Tryd.prog 41 os) #[.string ByteArray.empty] 8 rfl (World.shaped_of_RefB (by kernel_rfl) (by kernel_rfl)) (by kernel_rfl) (by kernel_rfl) (by kernel_rfl) (door_met os _)) ?_
  intro W base args ds gs before hval0 hW _ _ hL _
  have hval : ∀ (j : Nat) t v, Tryd.f4.params[j]? = some t → args[j]? = some v → Value.okWide Tryd.prog W .any base t v := hval0
  have hW' := hW
  obtain ⟨p, q, hA0, hV, rfl, hfz, hnd⟩ := hW
  have hA : DataW.TrodAll enc Tryd.prog W 0 (fun _ => true) true Tryd.f4.params.toList args.toList ds p := hA0
  rw [Tryd.params4] at hA hval
  obtain ⟨v0, vs0, d0, ds0, p0, q0, hargs, rfl, rfl, h0, r0⟩ := trodAll_cons hA
  obtain ⟨rfl, rfl, rfl⟩ := trodAll_nil r0
  obtain rfl : args = #[v0] := by cases args; simp_all
  obtain ⟨rfl, rfl⟩ := trodVars_none hV
  obtain ⟨a0, rfl, rfl, rfl, w0⟩ := open_string Tryd.underlying9 (hval 0 9 v0 rfl rfl) h0
  clear hA0 hval0
  obtain ⟨hT, h2⟩ := of_laid hL
  refine (walk a0 w0 W hT h2).mono fun e W' ⟨he, bel⟩ => ?_
  subst he
  exact ⟨_, rfl, _, _, _, [], _, [], hW', trodAll_mk1 (shut_bool Tryd.underlying4 _), (trodAll_cons_mk (shut_string Tryd.underlying9 w0) trodAll_mk0), rfl, bel.frame _, fun h => by cases h⟩

theorem over : Rows.tokenOrderRow.holds Tryd.pinned (OpenSpec.ofChange Rows.tokenOrderSpec) :=
  OpenClaim.holds_of_wide 4 Tryd.f4 rfl rfl rfl rfl rfl rfl rfl ⟨rfl, rfl, rfl, rfl, rfl⟩ rfl rfl rfl rfl rfl (by kernel_rfl) Tryd.func4 (by kernel_rfl)
    (of_decide_eq_true (by kernel_rfl)) (by unfold Func.isWrapper; first | (rw [if_pos (by decide +kernel)]; kernel_rfl) | (rw [if_neg (by decide +kernel)]; exact ⟨rfl, rfl⟩))
    (fun os started H enc _ => lifted os started H enc)

theorem proved : Rows.TokenOrderSaid :=
  over
#print axioms proved
end Go.Proofs.YtncfgahnjakeiabDoor.tokenOrder

namespace Go.Proofs.YtncfgahnjakeiabDoor
open Go
theorem tokenOrder_holds : Rows.TokenOrderCardSaid :=
  Claim7.holds_tied_plain_at .later [] [.data, .data] true (true, "9e3a1078f65f500ba5f6ac718d6380108282357cfe7ca44dd65ae951406170ae") false
    tokenOrder.proved (fun _ h => by cases h) (by kernel_rfl) (fun _ h => by cases h) tokenOrder_row_tie rfl ⟨rfl, rfl⟩ (by kernel_rfl) rfl
    (fun f fn hf hfn => by
      obtain rfl : f = 4 := Option.some.inj ((show Tryd.prog.funcNamed Rows.tokenOrderRow.func = some 4 by kernel_rfl).symm.trans hf) |>.symm
      obtain rfl : fn = Tryd.f4 := (Option.some.inj (Tryd.func4.symm.trans hfn)).symm
      exact ⟨by kernel_rfl, fun j t ht => by
        rw [Tryd.params4] at ht
        have hm : t ∈ [9] := by simpa using Array.mem_of_getElem? ht
        have hall : ([9].all fun u => !Tryd.prog.wantsStandIn u) = true := by kernel_rfl
        exact (show Tryd.prog.wantsStandIn t = false by simpa using List.all_eq_true.1 hall t hm)⟩)
    (by kernel_rfl)
#print axioms tokenOrder_holds
end Go.Proofs.YtncfgahnjakeiabDoor
