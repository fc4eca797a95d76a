/-
  For every number and every text the Go function portierelaw04.CharrefEnds returns true, and its arguments read afterwards as before; the two tables of the program are tied to its text.
-/
import Derived.Test.YtndlififfofcmabDoorRows
import Derived.Test.YtndlififfofcmabDoorLaid
import Derived.Test.YtndlififfofcmabDoorKnown
import Derived.Test.YtndlififfofcmabDoorEnds
import Derived.Test.YtndlififfofcmabDoorCards
import Derived.Test.YtndlififfofcmabDoorTie
import Derived.SevenTiedAt
import Derived.WalkKit
import Derived.ProofKit
import Derived.OpenShut
import Derived.ShutString
namespace Go.Proofs.YtndlififfofcmabDoor.charrefEnds
open Go.ChangeShapes Go.WideShapes Go.ChangeAt Go.RowKit
open Go.ChangeMaps (open_string shut_string)
set_option linter.unusedVariables false

set_option maxRecDepth 20000 in
set_option maxHeartbeats 4000000 in
theorem walk (a0 : Int) (a1 : ByteArray) (w0 : (Lit.int .u8 a0).wf = true) (w1 : a1.size ≤ maxLen) (w : World) (hT : Tab w) (h2 : 1 < w.heap.size) :
    Calls Tryd.prog 3 #[.int .u8 a0, .string a1] w fun e w' => e = .returned (.bool true) ∧ Below w.heap.size w w' := by
  obtain ⟨K, hKe⟩ : ∃ K : Nat → Prop, (fun k => k < w.heap.size) = K := ⟨_, rfl⟩
  have hK : ∀ k, K k → k < w.heap.size := by
    rw [← hKe]
    exact fun k h => h
  have hfin : ∀ X, Kept K w X → Below w.heap.size w X := by
    rw [← hKe]
    exact fun _ h => h.below
  have k0 : K 0 := by
    rw [← hKe]
    show 0 < w.heap.size
    omega
  have k1 : K 1 := by
    rw [← hKe]
    exact h2
  clear hKe
  have hkn := fun X hX hXT => known_any K X hX hXT k0 k1
  obtain ⟨z, hz, hz8⟩ : ∃ z : Nat, a0 = (z : Int) ∧ z < 256 := by
    have h1 : IntKind.min .u8 ≤ a0 ∧ a0 ≤ IntKind.max .u8 := by simpa [Lit.wf] using w0
    have h2 : 0 ≤ a0 ∧ a0 ≤ 255 := h1
    exact ⟨a0.toNat, by omega, by omega⟩
  subst hz
  clear w0
  obtain ⟨j, hj⟩ : ∃ j, z % 22 = j := ⟨_, rfl⟩
  have hmod : ((z : Int) % 22) = (j : Int) := by omega
  have hj22 : j < 22 := by omega
  have hjn : j < names.length := hj22
  have hmodt : ((z : Int).tmod 22) = (j : Int) := by rw [Int.tmod_eq_emod_of_nonneg (by omega)]; exact hmod
  clear hj
  have kk : ∀ o, Kept K w (w.alloc o) := fun o => (Kept.refl K w).alloc hK o
  go_enter Tryd.func3, Tryd.ntmps3
  go_upto_region 2 with fail
  go_cut [6] (fun s6 wc => s6 = .string (nmB names[j]) ∧ Kept K w wc)
  case first =>
    clear hkn hT hfin
    go_wp2
    go_meet
    case rel => exact ⟨name_at j hjn, kk _⟩
  case rest =>
    obtain ⟨rfl, q0⟩ := hcut
    clear hmod hmodt kk
    have hmem := List.getElem_mem hjn
    obtain ⟨r, hr⟩ : ∃ r, names[j] = r := ⟨_, rfl⟩
    rw [hr] at hmem ⊢
    clear hr
    obtain ⟨_, _, hl10, hc4⟩ := names_35 r hmem
    have hsz : (nmB r).size = r.name.length := rfl
    have hTc := hT.kept q0 k0 k1
    have hKc : ∀ k, K k → k < wc.heap.size := fun k hk => Nat.lt_of_lt_of_le (hK k hk) q0.size
    by_cases hz1 : a1.size ≤ 100
    · have e0 : decide ((a1.size : Int) > 100) = false := by simp; omega
      have t1 : ∀ attr, takeS (⟨#[38]⟩ ++ nmB r ++ ⟨#[59]⟩ ++ a1) 0 attr = ⟨Utf8.encode r.code, r.name.length + 2, 0⟩ := by
        intro attr
        have hs : (⟨#[38]⟩ ++ nmB r ++ ⟨#[59]⟩ ++ a1 : ByteArray).data.toList = 38 :: (r.name ++ 59 :: a1.data.toList) := by
          simp [ByteArray.data_append, nmB]
        rw [takeS_zero (by rw [hs]; simp), hs]
        exact take_ends hmem _ _
      have z1 : (⟨#[38]⟩ ++ nmB r ++ ⟨#[59]⟩ ++ a1 : ByteArray).size < 1000000 := by
        rw [ByteArray.size_append, ByteArray.size_append, ByteArray.size_append]
        show 1 + _ + 1 + _ < _
        omega
      have h1 := fun attr X hX hXT => take_any (⟨#[38]⟩ ++ nmB r ++ ⟨#[59]⟩ ++ a1) 0 attr K X hX z1 hXT
      have h3 := h1 true
      have h4 := h1 false
      rw [t1 true] at h3
      rw [t1 false] at h4
      have hen := enc_some r hmem
      obtain ⟨t, ht⟩ : ∃ t, Utf8.encode (r.code : Int) = t := ⟨_, rfl⟩
      rw [ht] at h3 h4 hen
      rw [← hsz] at h3 h4
      obtain ⟨s, hs⟩ : ∃ s, nmB r = s := ⟨_, rfl⟩
      rw [hs] at h3 h4 hsz ⊢
      have hs10 : s.size < 10 := by omega
      clear ht hs t1 z1 h1 hmem
      go_wp2_with fail
      refine (hkn _ (fun k hk => Nat.lt_of_lt_of_le (hK k hk) q0.size) (hT.kept q0 k0 k1)).mono ?_
      rintro e w1 ⟨rfl, p1⟩
      have q1 := q0.trans p1
      clear p1
      go_wp2_with fail
      refine (h4 _ (fun k hk => Nat.lt_of_lt_of_le (hK k hk) q1.size) (hT.kept q1 k0 k1)).mono ?_
      rintro e w2 ⟨rfl, p2⟩
      have q2 := q1.trans p2
      clear p2
      go_wp2_with fail
      refine (h3 _ (fun k hk => Nat.lt_of_lt_of_le (hK k hk) q2.size) (hT.kept q2 k0 k1)).mono ?_
      rintro e w3 ⟨rfl, p3⟩
      have q3 := q2.trans p3
      clear p3
      go_wp2
      go_ret
      exact ⟨rfl, hfin _ q3⟩
    · have e0 : decide ((a1.size : Int) > 100) = true := by simp; omega
      go_wp2_with fail
      refine (hkn _ (fun k hk => Nat.lt_of_lt_of_le (hK k hk) q0.size) (hT.kept q0 k0 k1)).mono ?_
      rintro e w1 ⟨rfl, p1⟩
      have q1 := q0.trans p1
      clear p1
      go_wp2
      go_ret
      exact ⟨rfl, hfin _ q1⟩

set_option maxRecDepth 100000 in
theorem lifted (os : Os) (started : os.Started) (H : Type) (enc : TypeId × Value → H) :
    ReturnsInHanded {} Tryd.checked os 3 .any (fun w args => (Rows.charrefEndsSpec.pre enc Tryd.prog Tryd.f3 [] false w args ∧ laidMetH Tryd.prog laidL w) ∧ sizedMet enc Tryd.prog Tryd.f3 (OpenSpec.ofChange Rows.charrefEndsSpec) false w args)
      (Rows.charrefEndsSpec.post enc Tryd.prog Tryd.f3 false true false false) := by
  refine returnsInHanded_of_change_and (C := Tryd.checked) (X := fun w _ => laidMetH Tryd.prog laidL w) (fun _ _ _ hh h => h.of_heap hh) own started (by kernel_rfl) Tryd.func3
    (ChangeSpec.witness_shaped (enc := enc) (C := Tryd.checked) (os := os) (X := fun w _ => laidMetH Tryd.prog laidL w) false (World.doorLaid Tryd.prog 41 os) #[.int .u8 0, .string ByteArray.empty] 8 rfl (World.shaped_of_RefB (by kernel_rfl) (by kernel_rfl)) (by kernel_rfl) (by kernel_rfl) (by kernel_rfl) (door_met os _)) ?_
  intro W base args ds gs before hval0 hW _ _ hL _
  have hval : ∀ (j : Nat) t v, Tryd.f3.params[j]? = some t → args[j]? = some v → Value.okWide Tryd.prog W .any base t v := hval0
  have hW' := hW
  obtain ⟨p, q, hA0, hV, rfl, hfz, hnd⟩ := hW
  have hA : DataW.TrodAll enc Tryd.prog W 0 (fun _ => true) true Tryd.f3.params.toList args.toList ds p := hA0
  rw [Tryd.params3] at hA hval
  obtain ⟨v0, vs0, d0, ds0, p0, q0, hargs, rfl, rfl, h0, r0⟩ := trodAll_cons hA
  obtain ⟨v1, vs1, d1, ds1, p1, q1, rfl, rfl, rfl, h1, r1⟩ := trodAll_cons r0
  obtain ⟨rfl, rfl, rfl⟩ := trodAll_nil r1
  obtain rfl : args = #[v0, v1] := by cases args; simp_all
  obtain ⟨rfl, rfl⟩ := trodVars_none hV
  obtain ⟨a0, rfl, rfl, rfl, w0⟩ := open_int Tryd.underlying5 (hval 0 5 v0 rfl rfl) h0
  obtain ⟨a1, rfl, rfl, rfl, w1⟩ := open_string Tryd.underlying9 (hval 1 9 v1 rfl rfl) h1
  clear hA0 hval0
  obtain ⟨hT, h2⟩ := of_laid hL
  refine (walk a0 a1 w0 w1 W hT h2).mono fun e W' ⟨he, bel⟩ => ?_
  subst he
  exact ⟨_, rfl, _, _, _, [], _, [], hW', trodAll_mk1 (shut_bool Tryd.underlying4 _), (trodAll_cons_mk (shut_int Tryd.underlying5 w0) (trodAll_cons_mk (shut_string Tryd.underlying9 w1) trodAll_mk0)), rfl, bel.frame _, fun h => by cases h⟩

theorem over : Rows.charrefEndsRow.holds Tryd.pinned (OpenSpec.ofChange Rows.charrefEndsSpec) :=
  OpenClaim.holds_of_wide 3 Tryd.f3 rfl rfl rfl rfl rfl rfl rfl ⟨rfl, rfl, rfl, rfl, rfl⟩ rfl rfl rfl rfl rfl (by kernel_rfl) Tryd.func3 (by kernel_rfl)
    (of_decide_eq_true (by kernel_rfl)) (by unfold Func.isWrapper; first | (rw [if_pos (by decide +kernel)]; kernel_rfl) | (rw [if_neg (by decide +kernel)]; exact ⟨rfl, rfl⟩))
    (fun os started H enc _ => lifted os started H enc)

theorem proved : Rows.CharrefEndsSaid :=
  over
#print axioms proved
end Go.Proofs.YtndlififfofcmabDoor.charrefEnds

namespace Go.Proofs.YtndlififfofcmabDoor
open Go
theorem charrefEnds_holds : Rows.CharrefEndsCardSaid :=
  Claim7.holds_tied_plain_at .later [] [.data, .data] true (true, "19bd045a7a7eeb36e015d4d35dcf40cf1da799c124f101e22cee8f015f6b41a0") false
    charrefEnds.proved (fun _ h => by cases h) (by kernel_rfl) (fun _ h => by cases h) charrefEnds_row_tie rfl ⟨rfl, rfl⟩ (by kernel_rfl) rfl
    (fun f fn hf hfn => by
      obtain rfl : f = 3 := Option.some.inj ((show Tryd.prog.funcNamed Rows.charrefEndsRow.func = some 3 by kernel_rfl).symm.trans hf) |>.symm
      obtain rfl : fn = Tryd.f3 := (Option.some.inj (Tryd.func3.symm.trans hfn)).symm
      exact ⟨by kernel_rfl, fun j t ht => by
        rw [Tryd.params3] at ht
        have hm : t ∈ [5, 9] := by simpa using Array.mem_of_getElem? ht
        have hall : ([5, 9].all fun u => !Tryd.prog.wantsStandIn u) = true := by kernel_rfl
        exact (show Tryd.prog.wantsStandIn t = false by simpa using List.all_eq_true.1 hall t hm)⟩)
    (by kernel_rfl)
#print axioms charrefEnds_holds
end Go.Proofs.YtndlififfofcmabDoor
