/-
  For every text the Go function portierelaw06.TokenParts returns true, and its argument reads afterwards as before; the two tables of the program are tied to its text.
-/
import Derived.Test.YtncfgahnjakeiaaDoorRows
import Derived.Test.YtncfgahnjakeiaaDoorLaid
import Derived.Test.YtncfgahnjakeiaaDoorSame
import Derived.Test.YtncfgahnjakeiaaDoorFew
import Derived.Test.YtncfgahnjakeiaaDoorLet
import Derived.Test.YtncfgahnjakeiaaDoorOrd
import Derived.Test.YtncfgahnjakeiaaDoorCap
import Derived.Test.YtncfgahnjakeiaaDoorCards
import Derived.Test.YtncfgahnjakeiaaDoorTie
import Derived.SevenTiedAt
import Derived.WalkKit
import Derived.ProofKit
import Derived.OpenShut
import Derived.ShutString
namespace Go.Proofs.YtncfgahnjakeiaaDoor.tokenParts
open Go.ChangeShapes Go.WideShapes Go.ChangeAt Go.RowKit
open Go.ChangeMaps (open_string shut_string)
set_option linter.unusedVariables false

set_option maxRecDepth 20000 in
set_option maxHeartbeats 4000000 in
theorem walk (a0 : ByteArray) (w0 : a0.size ≤ maxLen) (w : World) (hT : Tab w) (h2 : 1 < w.heap.size) :
    Calls Tryd.prog 3 #[.string a0] w fun e w' => e = .returned (.bool true) ∧ Below w.heap.size w w' := by
  obtain ⟨K, hKe⟩ : ∃ K : Nat → Prop, (fun k => k < w.heap.size) = K := ⟨_, rfl⟩
  have hK : ∀ k, K k → k < w.heap.size := by
    rw [← hKe]
    exact fun k h => h
  have hfin : ∀ X, Kept K w X → Below w.heap.size w X := by
    rw [← hKe]
    exact fun _ h => h.below
  have k0 : K 0 := by
    rw [← hKe]
    show 0 < w.heap.size
    omega
  have k1 : K 1 := by
    rw [← hKe]
    exact h2
  clear hKe
  have hkn := fun X hX hXT => known_any K X hX hXT k0 k1
  have hl0 : a0.data.toList.length = a0.size := rfl
  by_cases hz : a0.size ≤ 1500
  · have e0 : decide ((a0.size : Int) > 1500) = false := decide_eq_false (by omega)
    have r1 : ∀ X, (∀ k, K k → k < X.heap.size) → Tab X → Calls Tryd.prog 10 #[.string a0] X fun e w' => ∃ ta tc fa fc, e = .returned (.tuple #[.slice ta (tokL a0.data.toList).toks.length tc, .slice fa (tokL a0.data.toList).flts.length fc]) ∧ ToksIn (fun k => k < w'.heap.size) w' ta (tokL a0.data.toList).toks ∧ FltsIn (fun k => k < w'.heap.size) w' fa (tokL a0.data.toList).flts ∧ Kept K X w' := fun X hX hXT => by
      have := tokens_any a0.data.toList (by omega) K X hX hXT k0 k1
      rwa [sv_back] at this
    obtain ⟨q1, q2⟩ := tok_behind a0.data.toList
    have x1 : (⟨#[60, 33, 45, 45, 99, 45, 45, 62]⟩ : ByteArray) ++ a0 = ⟨(60 :: 33 :: 45 :: 45 :: 99 :: 45 :: 45 :: 62 :: a0.data.toList).toArray⟩ := mk_app _ a0
    have r2 := fun (X : World) (hX : ∀ k, K k → k < X.heap.size) (hXT : Tab X) (hKX : ∀ k, k < X.heap.size → k < X.heap.size) => tokens_cap q1 q2 (by simp only [List.length_cons]; omega) (fun k => k < X.heap.size) X hKX hXT (hX 0 k0) (hX 1 k1)
    have hat := tok_attrs a0.data.toList
    obtain ⟨hgd, _, hgf⟩ := tok_ord a0.data.toList
    rw [hl0] at hgd hgf
    have hfew := tok_few (l := a0.data.toList) (by omega)
    obtain ⟨R, eR⟩ : ∃ R, tokL a0.data.toList = R := ⟨_, rfl⟩
    rw [eR] at hat hfew hgd hgf
    simp only [eR] at r1 r2
    obtain ⟨n, en⟩ : ∃ n, R.toks.length = n := ⟨_, rfl⟩
    obtain ⟨m, em⟩ : ∃ m, R.flts.length = m := ⟨_, rfl⟩
    simp only [List.length_cons, List.length_map, en, em] at r1 r2
    rw [en, em] at hfew
    clear w0 q1 q2 eR
    go_enter Tryd.func3, Tryd.ntmps3
    go_wp2_with fail
    refine (hkn w hK hT).mono ?_
    rintro e w1 ⟨rfl, p1⟩
    have hT1 := hT.kept p1 k0 k1
    have hK1 : ∀ k, K k → k < w1.heap.size := fun k hk => Nat.lt_of_lt_of_le (hK k hk) p1.size
    replace r1 := r1 w1 hK1 hT1
    clear hkn
    go_wp2_with fail
    refine r1.mono ?_
    rintro e w2 ⟨ta, tc, fa, fc, rfl, hta, hfa, p2⟩
    have hT2 := hT1.kept p2 k0 k1
    have hK2 : ∀ k, K k → k < w2.heap.size := fun k hk => Nat.lt_of_lt_of_le (hK1 k hk) p2.size
    replace r2 := r2 w2 hK2 hT2 (fun _ h => h)
    clear r1
    go_wp2_with fail
    refine r2.mono ?_
    rintro e w3 ⟨tb, tcb, fb, fcb, rfl, htb, hfb, hcap, p3⟩
    have kp3 : Kept K w w3 := (p1.trans p2).trans (p3.mono hK2)
    replace hcap : n + 1 ≤ tcb := by simpa [en] using hcap
    have HTA : Hid (∀ X, Kept (fun k => k < w3.heap.size) w3 X → ToksAt X ta R.toks) := fun X hX => (hta.at_.kept p3).kept hX
    have HTB : Hid (∀ X, Kept (fun k => k < w3.heap.size) w3 X → ToksAt X tb (⟨4, [], [], false, [99], 0⟩ :: R.toks.map (shT 8))) := fun X hX => htb.at_.kept hX
    have HFA : Hid (∀ X, Kept (fun k => k < w3.heap.size) w3 X → FltsIn (fun k => k < w3.heap.size) X fa R.flts) := fun X hX => (hfa.kept p3 (fun k hk => Nat.lt_of_lt_of_le hk p3.size)).kept hX (fun _ h => h)
    have HFB : Hid (∀ X, Kept (fun k => k < w3.heap.size) w3 X → FltsIn (fun k => k < w3.heap.size) X fb (R.flts.map (shF 8))) := fun X hX => hfb.kept hX (fun _ h => h)
    have HKP : Hid (∀ X, Kept (fun k => k < w3.heap.size) w3 X → Kept K w X) := fun X hX => kp3.trans (hX.mono fun k hk => Nat.lt_of_lt_of_le (hK k hk) kp3.size)
    obtain ⟨B, hB⟩ : ∃ B : Nat → Prop, (fun k => k < w3.heap.size) = B := ⟨_, rfl⟩
    have hBl : ∀ k, B k → k < w3.heap.size := fun k hk => by rw [← hB] at hk; exact hk
    rw [hB] at HTA HTB HFA HFB HKP
    have HEN : Hid (R.toks.length = n) := en
    have HEM : Hid (R.flts.length = m) := em
    have HAT : Hid (∀ t ∈ R.toks, t.attrs.length ≤ 50 ∧ t.pl < a0.size) := fun t ht => ⟨hat t ht, (hgd t ht).2.2.2⟩
    have HFT : Hid (∀ f ∈ R.flts, f.pl ≤ a0.size) := fun f hf => (hgf f hf).2.2
    clear hta htb hfa hfb p1 p2 p3 kp3 hB r2 hT1 hT2 hK1 hK2 en em hat x1 hT hgd hgf
    go_wp2_with fail
    go_loopg [7] n (fun gm i wr => ∃ k : Nat, gm = n - k ∧ k ≤ n ∧ i = .int .i64 k ∧ Kept B w3 wr)
    case atStart => exact ⟨0, rfl, Nat.zero_le _, rfl, Kept.refl _ _⟩
    case round =>
      obtain ⟨k, hgk, hk, rfl, kp⟩ := hrel
      by_cases hlt : k < n
      · have hlt' : k < R.toks.length := by rw [HEN.out]; exact hlt
        obtain ⟨g, o, aa, ac, rfl, gl, ha, c0, c1, c2, c3, c4, c5⟩ := HTA.out wr kp k hlt'
        obtain ⟨g', o', ab, ac', rfl, gl', hb, d0, d1, d2, d3, d4, d5⟩ := HTB.out wr kp (k + 1) (by simp; exact hlt')
        simp only [List.getElem_cons_succ, List.getElem_map] at hb d0 d1 d2 d3 d4 d5
        obtain ⟨hal, hpl⟩ := HAT.out R.toks[k] (List.getElem_mem hlt')
        obtain ⟨tk, htk⟩ : ∃ t, R.toks[k] = t := ⟨_, rfl⟩
        rw [htk] at ha hb hal hpl c0 c1 c2 c3 c4 c5 d0 d1 d2 d3 d4 d5
        clear HTA HTB HAT HEN htk hlt'
        obtain ⟨kind, name, attrs, self, data, pl⟩ := tk
        dsimp only [shT] at ha hb hal hpl c0 c1 c2 c3 c4 c5 d0 d1 d2 d3 d4 d5
        obtain ⟨U, hU⟩ : ∃ S : ByteArray, (⟨name.toArray⟩ : ByteArray) = S := ⟨_, rfl⟩
        obtain ⟨V, hV⟩ : ∃ S : ByteArray, (⟨data.toArray⟩ : ByteArray) = S := ⟨_, rfl⟩
        have HU : Hid ((⟨name.toArray⟩ : ByteArray) = U) := hU
        have HV : Hid ((⟨data.toArray⟩ : ByteArray) = V) := hV
        replace c1 : wr.cell? ⟨g, o + k * 6 + 1, none⟩ = some (.string U) := by rw [← hU]; exact c1
        replace c4 : wr.cell? ⟨g, o + k * 6 + 4, none⟩ = some (.string V) := by rw [← hV]; exact c4
        have hs : ∀ cap, Calls Tryd.prog 11 #[.slice (some ⟨wr.heap.size + 1, 0, none⟩) 1 1, .slice (some ⟨g', o' + (k + 1) * 6, none⟩) 1 cap] ((wr.alloc (.cells #[.int .u8 (kind : Int), .string U, .slice aa attrs.length ac, .bool self, .string V, .int .i64 ((pl : Int) + 8)] 29)).drew.alloc (.cells #[.int .u8 (kind : Int), .string U, .slice aa attrs.length ac, .bool self, .string V, .int .i64 ((pl : Int) + 8)] 29)) fun e w' => e = .returned (.bool true) ∧ Kept B w3 w' := by
          intro cap
          obtain ⟨P0, hP0⟩ : ∃ P0, wr.alloc (.cells #[.int .u8 (kind : Int), .string U, .slice aa attrs.length ac, .bool self, .string V, .int .i64 ((pl : Int) + 8)] 29) = P0 := ⟨_, rfl⟩
          have hkP : Kept (fun k => k < wr.heap.size) wr P0 := by rw [← hP0]; exact (Kept.refl _ wr).alloc (fun _ h => h) _
          have hzP : P0.heap.size = wr.heap.size + 1 := by rw [← hP0]; simp
          rw [hP0]
          obtain ⟨X, hX⟩ : ∃ X, P0.drew.alloc (.cells #[.int .u8 (kind : Int), .string U, .slice aa attrs.length ac, .bool self, .string V, .int .i64 ((pl : Int) + 8)] 29) = X := ⟨_, rfl⟩
          have hkX : Kept (fun k => k < wr.heap.size) wr X := by rw [← hX]; exact (hkP.drew).alloc (fun k hk => by have : k < wr.heap.size := hk; show k < P0.heap.size; omega) _
          have hbX : X.heap[wr.heap.size + 1]? = some (.cells #[.int .u8 (kind : Int), .string U, .slice aa attrs.length ac, .bool self, .string V, .int .i64 ((pl : Int) + 8)] 29 (0, 0)) := by rw [← hX, ← hzP]; exact heap_alloc_new P0.drew _
          rw [hX]
          have hkB : Kept B w3 X := kp.trans (hkX.mono fun k hk => Nat.lt_of_lt_of_le (hBl k hk) kp.size)
          have hes : ∀ i, X.cell? ⟨g', i, none⟩ = wr.cell? ⟨g', i, none⟩ := fun i => hkX.cell (p := ⟨g', i, none⟩) gl'
          refine (same_any [⟨kind, name, attrs, self, data, pl + 8⟩] (some ⟨wr.heap.size + 1, 0, none⟩) (some ⟨g', o' + (k + 1) * 6, none⟩) 1 cap (by show 1 ≤ 1000000; omega) (by intro t ht; rw [List.mem_singleton.1 ht]; show attrs.length ≤ 100000; omega) B X (fun k hk => Nat.lt_of_lt_of_le (hBl k hk) hkB.size) ?_ ?_).mono fun e w' ⟨h1, h2⟩ => ⟨h1, hkB.trans h2⟩
          · intro j hj
            have hj0 : j = 0 := by simpa using hj
            subst hj0
            refine ⟨wr.heap.size + 1, 0, aa, ac, rfl, lt_block hbX, ha.kept hkX (fun k hk => Nat.lt_of_lt_of_le hk hkX.size), ?_, ?_, ?_, ?_, ?_, ?_⟩
            · rw [cell_block hbX]; rfl
            · rw [cell_block hbX]; exact congrArg (fun x => some (Value.string x)) HU.out.symm
            · rw [cell_block hbX]; rfl
            · rw [cell_block hbX]; rfl
            · rw [cell_block hbX]; exact congrArg (fun x => some (Value.string x)) HV.out.symm
            · rw [cell_block hbX]; rfl
          · intro j hj
            have hj0 : j = 0 := by simpa using hj
            subst hj0
            exact ⟨g', o' + (k + 1) * 6, ab, ac', rfl, Nat.lt_of_lt_of_le gl' hkX.size, hb.kept hkX (fun k hk => Nat.lt_of_lt_of_le hk hkX.size), by rw [hes]; exact d0, by rw [hes]; exact d1, by rw [hes]; exact d2, by rw [hes]; exact d3, by rw [hes]; exact d4, by rw [hes]; exact d5⟩
        have b1 : (0 : Int) ≤ (k : Int) + 1 := by omega
        have b2 : (k : Int) + 1 ≤ (k : Int) + 2 := by omega
        have b3 : (k : Int) + 2 ≤ (tcb : Int) := by omega
        have hw1 : IntKind.i64.wrap ((k : Int) + 1) = (k : Int) + 1 := by rw [IntKind.wrap_i64]; omega
        have hw2 : IntKind.i64.wrap ((k : Int) + 2) = (k : Int) + 2 := by rw [IntKind.wrap_i64]; omega
        have nn1 : ((k : Int) + 1).toNat = k + 1 := by omega
        have nn2 : ((k : Int) + 2).toNat = k + 2 := by omega
        have mx : max ((k : Int) + 2) 0 = (k : Int) + 2 := by omega
        have b0 : (0 : Int) ≤ (k : Int) + 2 := by omega
        have nt : ¬ tcb = k + 1 := by omega
        have b4 : k + 2 - (k + 1) = 1 := by omega
        clear hU hV d0 d1 d2 d3 d4 d5 ha hb HFA HFB HKP HFT
        go_wp2_with fail
        go_region_with (refine (hs _).mono ?_; rintro e w4 ⟨rfl, k4⟩)
        all_goals
          go_wp2
          go_roundg (n - (k + 1))
          case rel => exact ⟨k + 1, rfl, by omega, by go_num, k4⟩
          case measure => omega
      · clear HTA HAT
        obtain ⟨g0, o0, ab0, ac0, etb, gl0, _, s0, _, _, _, s4, _⟩ := HTB.out wr kp 0 (by simp)
        have HS0 : Hid (∀ X, Kept B w3 X → ∃ g0 o0, tb = some ⟨g0, o0, none⟩ ∧ X.cell? ⟨g0, o0 + 0 * 6, none⟩ = some (.int .u8 4) ∧ X.cell? ⟨g0, o0 + 0 * 6 + 4, none⟩ = some (sv [99])) := fun X hX => by
          obtain ⟨g0, o0, ab0, ac0, etb, gl0, _, s0, _, _, _, s4, _⟩ := HTB.out X hX 0 (by simp)
          exact ⟨g0, o0, etb, s0, s4⟩
        clear HTB etb s0 s4 gl0 hgk
        obtain ⟨WR, hWR⟩ : ∃ W, wr = W := ⟨_, rfl⟩
        rw [hWR] at kp ⊢
        clear hWR
        go_wp2_with fail
        go_loopg [9] m (fun gm i wr => ∃ k : Nat, gm = m - k ∧ k ≤ m ∧ i = .int .i64 k ∧ Kept B w3 wr)
        case atStart => exact ⟨0, rfl, Nat.zero_le _, rfl, kp⟩
        case round =>
          clear kp
          obtain ⟨k, hgk, hk, rfl, kp⟩ := hrel
          by_cases hlt : k < m
          · have hlt' : k < R.flts.length := by rw [HEM.out]; exact hlt
            obtain ⟨g, rfl, _, c0, c1⟩ := HFA.out wr kp k hlt'
            obtain ⟨g', rfl, _, d0, d1⟩ := HFB.out wr kp k (by simp; exact hlt')
            simp only [List.getElem_map] at d0 d1
            have hpl := HFT.out R.flts[k] (List.getElem_mem hlt')
            obtain ⟨fl, hfl⟩ : ∃ f, R.flts[k] = f := ⟨_, rfl⟩
            rw [hfl] at hpl c0 c1 d0 d1
            obtain ⟨kind, pl⟩ := fl
            dsimp only [shF] at hpl c0 c1 d0 d1
            replace d1 : wr.cell? ⟨g', k * 2 + 1, none⟩ = some (.int .i64 ((pl : Int) + 8)) := d1
            clear HFA HFB HFT hfl hlt' HEM HS0 HKP
            go_wp2_with fail
            go_quiet (fail)
            go_wp2
            go_roundg (m - (k + 1))
            case rel => exact ⟨k + 1, rfl, by omega, by go_num, kp.drewN _⟩
            case measure => omega
          · have hkk : k = m := by omega
            subst hkk
            have hf := HKP.out wr kp
            obtain ⟨g0, o0, rfl, s0, s4⟩ := HS0.out wr kp
            rw [Nat.zero_mul, Nat.add_zero] at s0 s4
            clear HFA HFB HFT HEM HS0 HKP
            go_wp2
            go_ret
            exact ⟨rfl, hfin _ hf⟩
  · have e0 : decide ((a0.size : Int) > 1500) = true := decide_eq_true (by omega)
    go_enter Tryd.func3, Tryd.ntmps3
    go_wp2_with fail
    refine (hkn w hK hT).mono ?_
    rintro e w1 ⟨rfl, p1⟩
    have q1 := p1
    clear p1
    go_wp2
    go_ret
    exact ⟨rfl, hfin _ q1⟩

set_option maxRecDepth 100000 in
theorem lifted (os : Os) (started : os.Started) (H : Type) (enc : TypeId × Value → H) :
    ReturnsInHanded {} Tryd.checked os 3 .any (fun w args => (Rows.tokenPartsSpec.pre enc Tryd.prog Tryd.f3 [] false w args ∧ laidMetH Tryd.prog laidL w) ∧ sizedMet enc Tryd.prog Tryd.f3 (OpenSpec.ofChange Rows.tokenPartsSpec) false w args)
      (Rows.tokenPartsSpec.post enc Tryd.prog Tryd.f3 false true false false) := by
  refine returnsInHanded_of_change_and (C := Tryd.checked) (X := fun w _ => laidMetH Tryd.prog laidL w) (fun _ _ _ hh h => h.of_heap hh) own started (by kernel_rfl) Tryd.func3
    (ChangeSpec.witness_shaped (enc := enc) (C := Tryd.checked) (os := os) (X := fun w _ => laidMetH Tryd.prog laidL w) false (World.doorLaid Tryd.prog 41 os) #[.string ByteArray.empty] 8 rfl (World.shaped_of_RefB (by kernel_rfl) (by kernel_rfl)) (by kernel_rfl) (by kernel_rfl) (by kernel_rfl) (door_met os _)) ?_
  intro W base args ds gs before hval0 hW _ _ hL _
  have hval : ∀ (j : Nat) t v, Tryd.f3.params[j]? = some t → args[j]? = some v → Value.okWide Tryd.prog W .any base t v := hval0
  have hW' := hW
  obtain ⟨p, q, hA0, hV, rfl, hfz, hnd⟩ := hW
  have hA : DataW.TrodAll enc Tryd.prog W 0 (fun _ => true) true Tryd.f3.params.toList args.toList ds p := hA0
  rw [Tryd.params3] at hA hval
  obtain ⟨v0, vs0, d0, ds0, p0, q0, hargs, rfl, rfl, h0, r0⟩ := trodAll_cons hA
  obtain ⟨rfl, rfl, rfl⟩ := trodAll_nil r0
  obtain rfl : args = #[v0] := by cases args; simp_all
  obtain ⟨rfl, rfl⟩ := trodVars_none hV
  obtain ⟨a0, rfl, rfl, rfl, w0⟩ := open_string Tryd.underlying9 (hval 0 9 v0 rfl rfl) h0
  clear hA0 hval0
  obtain ⟨hT, h2⟩ := of_laid hL
  refine (walk a0 w0 W hT h2).mono fun e W' ⟨he, bel⟩ => ?_
  subst he
  exact ⟨_, rfl, _, _, _, [], _, [], hW', trodAll_mk1 (shut_bool Tryd.underlying4 _), (trodAll_cons_mk (shut_string Tryd.underlying9 w0) trodAll_mk0), rfl, bel.frame _, fun h => by cases h⟩

theorem over : Rows.tokenPartsRow.holds Tryd.pinned (OpenSpec.ofChange Rows.tokenPartsSpec) :=
  OpenClaim.holds_of_wide 3 Tryd.f3 rfl rfl rfl rfl rfl rfl rfl ⟨rfl, rfl, rfl, rfl, rfl⟩ rfl rfl rfl rfl rfl (by kernel_rfl) Tryd.func3 (by kernel_rfl)
    (of_decide_eq_true (by kernel_rfl)) (by unfold Func.isWrapper; first | (rw [if_pos (by decide +kernel)]; kernel_rfl) | (rw [if_neg (by decide +kernel)]; exact ⟨rfl, rfl⟩))
    (fun os started H enc _ => lifted os started H enc)

theorem proved : Rows.TokenPartsSaid :=
  over
#print axioms proved
end Go.Proofs.YtncfgahnjakeiaaDoor.tokenParts

namespace Go.Proofs.YtncfgahnjakeiaaDoor
open Go
theorem tokenParts_holds : Rows.TokenPartsCardSaid :=
  Claim7.holds_tied_plain_at .later [] [.data, .data] true (true, "3c7e9032ef8428b911c7510e218772c615fe61de81a5870c0a59a545b938d509") false
    tokenParts.proved (fun _ h => by cases h) (by kernel_rfl) (fun _ h => by cases h) tokenParts_row_tie rfl ⟨rfl, rfl⟩ (by kernel_rfl) rfl
    (fun f fn hf hfn => by
      obtain rfl : f = 3 := Option.some.inj ((show Tryd.prog.funcNamed Rows.tokenPartsRow.func = some 3 by kernel_rfl).symm.trans hf) |>.symm
      obtain rfl : fn = Tryd.f3 := (Option.some.inj (Tryd.func3.symm.trans hfn)).symm
      exact ⟨by kernel_rfl, fun j t ht => by
        rw [Tryd.params3] at ht
        have hm : t ∈ [9] := by simpa using Array.mem_of_getElem? ht
        have hall : ([9].all fun u => !Tryd.prog.wantsStandIn u) = true := by kernel_rfl
        exact (show Tryd.prog.wantsStandIn t = false by simpa using List.all_eq_true.1 hall t hm)⟩)
    (by kernel_rfl)
#print axioms tokenParts_holds
end Go.Proofs.YtncfgahnjakeiaaDoor
