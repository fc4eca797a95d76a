/-
  The walk of ShadowHosts.
-/
import Derived.Test.YtmplhphcdgpigaaSk
import Derived.Test.YtmplhphcdgpigaaNs
namespace Go.Proofs.Ytmplhphcdgpigaa
open Go.RowKit
set_option linter.unusedVariables false

def nm9 : Nat → List UInt8
  | 0 => [100, 105, 118]
  | 1 => [97]
  | 2 => [115, 112, 97, 110]
  | 3 => [120, 45, 113]
  | 4 => [98, 114]
  | 5 => [112]
  | 6 => [98]
  | 7 => [115, 108, 111, 116]
  | _ => [104, 49]
def may9 : Nat → Bool
  | 1 => false
  | 4 => false
  | 6 => false
  | 7 => false
  | _ => true
/-- A name that is among them. -/
structure Nm9 (nm : List UInt8) (b : Bool) : Prop where
  snd : soundN ⟨1, nm, [], []⟩ = true
  tpl : ¬ (1 = 1 ∧ nm = [116, 101, 109, 112, 108, 97, 116, 101])
  host : hostP nm = b
theorem nm9_ok : ∀ x, x < 9 → Nm9 (nm9 x) (may9 x)
  | 0, _ => ⟨by kernel_rfl, by decide, by kernel_rfl⟩
  | 1, _ => ⟨by kernel_rfl, by decide, by kernel_rfl⟩
  | 2, _ => ⟨by kernel_rfl, by decide, by kernel_rfl⟩
  | 3, _ => ⟨by kernel_rfl, by decide, by kernel_rfl⟩
  | 4, _ => ⟨by kernel_rfl, by decide, by kernel_rfl⟩
  | 5, _ => ⟨by kernel_rfl, by decide, by kernel_rfl⟩
  | 6, _ => ⟨by kernel_rfl, by decide, by kernel_rfl⟩
  | 7, _ => ⟨by kernel_rfl, by decide, by kernel_rfl⟩
  | 8, _ => ⟨by kernel_rfl, by decide, by kernel_rfl⟩

set_option maxRecDepth 20000 in
set_option maxHeartbeats 4000000 in
theorem hosts_go (a : Option Addr) (len cap : Nat) (z : Nat → Int) (f : Fg) (h60 : len ≤ 60) (w : World) (hl : ∀ j, j < len → ∃ b o, a = some ⟨b, o, none⟩ ∧ b < w.heap.size ∧ 0 ≤ z j ∧ z j ≤ 255 ∧ w.cell? ⟨b, o + j, none⟩ = some (.int .u8 (z j))) :
    Calls Try.prog 3 #[.slice a len cap, fgV f] w fun e w' => e = .returned (.bool true) ∧ Kept (fun k => k < w.heap.size) w w' := by
  obtain ⟨W, hW⟩ : ∃ W, w.alloc (.cells #[.bool f.a, .bool f.b, .bool f.c, .bool f.d, .bool f.e] 24) = W := ⟨_, rfl⟩
  obtain ⟨N, hN⟩ : ∃ N, w.heap.size = N := ⟨_, rfl⟩
  have kW : Kept (fun k => k < w.heap.size) w W := by rw [← hW]; exact (Kept.refl _ w).alloc (fun _ h => h) _
  have hfb : W.heap[N]? = some (.cells #[.bool f.a, .bool f.b, .bool f.c, .bool f.d, .bool f.e] 24 (0, 0)) := by rw [← hW, ← hN]; exact heap_alloc_new w _
  have rk := sknown_any W
  have HW : Hid (w.alloc (.cells #[.bool f.a, .bool f.b, .bool f.c, .bool f.d, .bool f.e] 24) = W) := hW
  have HN : Hid (w.heap.size = N) := hN
  have HKW : Hid (Kept (fun k => k < w.heap.size) w W) := kW
  have HFB : Hid (W.heap[N]? = some (.cells #[.bool f.a, .bool f.b, .bool f.c, .bool f.d, .bool f.e] 24 (0, 0))) := hfb
  have HL : Hid (∀ j, j < len → ∃ b o, a = some ⟨b, o, none⟩ ∧ b < w.heap.size ∧ 0 ≤ z j ∧ z j ≤ 255 ∧ w.cell? ⟨b, o + j, none⟩ = some (.int .u8 (z j))) := hl
  have e0 : decide ((len : Int) > 60) = false := decide_eq_false (by omega)
  clear hW hN kW hfb hl
  go_enter Try.func3, Try.ntmps3
  go_upto_region 1 with fail
  rw [HW.out, HN.out]
  go_upto_region 3 with (go_at_call 5; refine rk.mono ?_; rintro e w1 ⟨rfl, hk1⟩)
  have r0 := new_yes 300 w1 (by decide) (by decide)
  have HK1 : Hid (Kept (fun k => k < W.heap.size) W w1) := hk1
  clear rk hk1 HW
  go_wp2_with fail
  refine r0.mono ?_
  rintro e w2 ⟨p, rfl, hp, hX, hK⟩
  have hNW : N < W.heap.size := lt_block HFB.out
  have hsz := HK1.out.size
  have HX0 : Hid (DX (fun k => k < W.heap.size) w2 p (Dm.new 300)) := hX.more (Kept.refl _ _) (fun k hk => .inl (Nat.lt_of_lt_of_le hk hsz)) (fun k hk => Nat.lt_of_lt_of_le hk (Nat.le_trans hsz hK.size))
  have HK0 : Hid (Kept (fun k => k < W.heap.size) W w2) := HK1.out.trans (hK.mono fun k h => Nat.lt_of_lt_of_le h hsz)
  clear r0 hX hK HK1 hsz
  go_upto_region 7 with fail
  go_loopg [6] len (fun gh v wr => ∃ (j : Nat) (M : Dm) (R : Nat → List Nat) (rk : Nat → Nat), gh = len - j ∧ j ≤ len ∧ v = .int .i64 (j : Int) ∧ DX (fun k => k < W.heap.size) wr p M ∧ Good M R rk ∧ M.n ≤ 1 + 2 * j ∧ M.limit = 300 ∧ Kept (fun k => k < W.heap.size) W wr)
  case atStart => exact ⟨0, Dm.new 300, fun _ => [], fun _ => 0, rfl, Nat.zero_le _, rfl, HX0.out, Good.new 300, by decide, rfl, HK0.out⟩
  case round =>
    clear HX0 HK0
    obtain ⟨j, M, R, rk, hgj, hj, rfl, hX, hG, hMn, hML, hK⟩ := hrel
    have HX : Hid (DX (fun k => k < W.heap.size) wr p M) := hX
    have HG : Hid (Good M R rk) := hG
    have HK : Hid (Kept (fun k => k < W.heap.size) W wr) := hK
    by_cases hlt : j < len
    · obtain ⟨b, o, rfl, hb, hz0, hz1, hc⟩ := HL.out j hlt
      have hc2 : wr.cell? ⟨b, o + j, none⟩ = some (.int .u8 (z j)) := ((hK.cell (p := ⟨b, o + j, none⟩) (Nat.lt_of_lt_of_le hb HKW.out.size)).trans (HKW.out.cell (p := ⟨b, o + j, none⟩) hb)).trans hc
      obtain ⟨x, hx⟩ : ∃ x : Nat, (z j).tmod 9 = (x : Int) := ⟨((z j).tmod 9).toNat, by rw [Int.tmod_eq_emod_of_nonneg hz0]; omega⟩
      have hx9 : x < 9 := by rw [Int.tmod_eq_emod_of_nonneg hz0] at hx; omega
      obtain ⟨y, hy⟩ : ∃ y, z j = y := ⟨_, rfl⟩
      rw [hy] at hc2 hx hz0 hz1
      have hblt : b < wr.heap.size := Nat.lt_of_lt_of_le (Nat.lt_of_lt_of_le hb HKW.out.size) hK.size
      have hcA : ∀ ob, (wr.alloc ob).cell? ⟨b, o + j, none⟩ = some (.int .u8 y) := fun ob => (((Kept.refl (fun k => k < wr.heap.size) wr).alloc (fun _ h => h) ob).cell (p := ⟨b, o + j, none⟩) hblt).trans hc2
      clear hX hG hK hc hy
      go_upto_region 9 with fail
      go_cut [7] from 30 to 37 (fun v wx => v = .string ⟨(nm9 x).toArray⟩ ∧ Kept (fun k => k < wr.heap.size) wr wx)
      case first =>
        have hkA : ∀ ob, Kept (fun k => k < wr.heap.size) wr (wr.alloc ob) := fun ob => (Kept.refl (fun k => k < wr.heap.size) wr).alloc (fun _ h => h) ob
        rcases (show x = 0 ∨ x = 1 ∨ x = 2 ∨ x = 3 ∨ x = 4 ∨ x = 5 ∨ x = 6 ∨ x = 7 ∨ x = 8 by omega) with rfl | rfl | rfl | rfl | rfl | rfl | rfl | rfl | rfl
        all_goals
          go_wp2
          go_meet
          exact ⟨rfl, hkA _⟩
      case rest =>
        obtain ⟨rfl, hKc⟩ := hcut
        have HKc : Hid (Kept (fun k => k < wr.heap.size) wr wc) := hKc
        obtain ⟨WC, hWC⟩ : ∃ WC, wc = WC := ⟨_, rfl⟩
        subst hWC
        clear hcA hc2 hKc
        go_upto_region 10 with fail
        go_cut [8] from 38 to 51 (fun v wx => v = .bool (may9 x) ∧ wx = wc)
        case first =>
          rcases (show x = 0 ∨ x = 1 ∨ x = 2 ∨ x = 3 ∨ x = 4 ∨ x = 5 ∨ x = 6 ∨ x = 7 ∨ x = 8 by omega) with rfl | rfl | rfl | rfl | rfl | rfl | rfl | rfl | rfl
          all_goals
            go_wp2
            go_meet
            exact ⟨rfl, rfl⟩
        case rest =>
          obtain ⟨rfl, hcw⟩ := hcut
          subst hcw
          have hN9 := nm9_ok x hx9
          obtain ⟨nm, hnm⟩ : ∃ nm, nm9 x = nm := ⟨_, rfl⟩
          obtain ⟨q, hq⟩ : ∃ q, may9 x = q := ⟨_, rfl⟩
          rw [hnm, hq] at hN9
          rw [hnm, hq]
          clear hnm hq hx hx9
          have hXc : DX (fun k => k < W.heap.size) wc p M := HX.out.kept HKc.out
          have KK : Hid (Kept (fun k => k < W.heap.size) W wc) := HK.out.trans (HKc.out.mono fun k h => Nat.lt_of_lt_of_le h HK.out.size)
          have rm := make1 (fun k => k < W.heap.size) p M wc 1 1 ⟨nm.toArray⟩ ⟨#[]⟩ nm [] rfl (by rw [ByteArray.toList_eq]) empB_list hXc (by omega) (by omega) hN9.snd hN9.tpl (by omega)
          have HG1 : Hid (Good (M.add (Mk.nd ⟨1, nm, [], []⟩)) (updR R M.n []) rk) := HG.out.add _ (Nat.zero_le _)
          have HN9 : Hid (Nm9 nm q) := hN9
          obtain ⟨n0, hn0⟩ : ∃ n0, M.n = n0 := ⟨_, rfl⟩
          have HN0 : Hid (M.n = n0) := hn0
          rw [hn0] at rm
          have hn0l : n0 ≤ 1 + 2 * j := by omega
          have HMN : Hid (M.n ≤ 1 + 2 * j) := hMn
          clear hXc hN9 hn0 HX HG hMn
          go_wp2_with fail
          refine rm.mono ?_
          rintro e w3 ⟨rfl, hX3, hK3⟩
          have ra := attach_in (fun k => k < W.heap.size) p n0 (M.add (Mk.nd ⟨1, nm, [], []⟩)) _ rk f w3 hX3 HG1.out (by show n0 < M.n + 1; rw [HN0.out]; omega) (by show M.n + 1 ≤ _; rw [HN0.out]; omega) (by show M.limit ≤ _; omega)
          have hnd : (M.add (Mk.nd ⟨1, nm, [], []⟩)).nd n0 = (Mk.nd ⟨1, nm, [], []⟩).new := by rw [← HN0.out]; exact add_nd_new
          have HND : Hid ((M.add (Mk.nd ⟨1, nm, [], []⟩)).nd n0 = (Mk.nd ⟨1, nm, [], []⟩).new) := hnd
          have hfb3 : w3.heap[N]? = some (.cells #[.bool f.a, .bool f.b, .bool f.c, .bool f.d, .bool f.e] 24 (0, 0)) := by rw [hK3.block N hNW, KK.out.block N hNW]; exact HFB.out
          have b0 : w3.cell? ⟨N, 0, none⟩ = some (.bool f.a) := by rw [cell_block hfb3]; rfl
          have b1 : w3.cell? ⟨N, 1, none⟩ = some (.bool f.b) := by rw [cell_block hfb3]; rfl
          have b2 : w3.cell? ⟨N, 2, none⟩ = some (.bool f.c) := by rw [cell_block hfb3]; rfl
          have b3 : w3.cell? ⟨N, 3, none⟩ = some (.bool f.d) := by rw [cell_block hfb3]; rfl
          have b4 : w3.cell? ⟨N, 4, none⟩ = some (.bool f.e) := by rw [cell_block hfb3]; rfl
          have HK3 : Hid (Kept (fun k => k < W.heap.size) W w3) := KK.out.trans hK3
          have HX3 : Hid (DX (fun k => k < W.heap.size) w3 p (M.add (Mk.nd ⟨1, nm, [], []⟩))) := hX3
          clear rm hX3 hK3 hfb3 hnd
          cases q with
          | true =>
            have ra' : Calls Try.prog 8 #[.pointer (some ⟨p, 0, none⟩), .int .i64 (n0 : Int), fgV f] w3 fun e w' => e = .returned (.tuple #[.int .i64 ((n0 + 1 : Nat) : Int), .int .u16 0]) ∧ DX (fun k => k < W.heap.size) w' p ((M.add (Mk.nd ⟨1, nm, [], []⟩)).addR n0 f) ∧ Kept (fun k => k < W.heap.size) w3 w' := ra.mono fun e w' hh => by
              rcases hh with ⟨h1, h2⟩
              cases h2 with
              | host q1 _ _ => exact absurd ⟨by rw [HND.out]; rfl, by rw [HND.out]; exact HN9.out.host⟩ q1
              | root _ _ q =>
                cases q with
                | host q1 _ _ => exact absurd (by rw [HND.out]; rfl) q1
                | twice _ q2 _ _ => exact absurd (by rw [HND.out]; rfl) q2
                | full _ _ q3 _ _ =>
                  have q3' : M.limit < M.n + 1 + 1 := q3
                  have := HN0.out
                  omega
                | made _ _ _ q4 q5 =>
                  have e1 : (M.add (Mk.nd ⟨1, nm, [], []⟩)).n = n0 + 1 := by show M.n + 1 = _; rw [HN0.out]
                  rw [e1] at q4
                  exact ⟨q4, q5, h1⟩
            clear ra
            go_wp2_with fail
            refine ra'.mono ?_
            rintro e w4 ⟨rfl, hX4, hK4⟩
            have e1 : (M.add (Mk.nd ⟨1, nm, [], []⟩)).n = n0 + 1 := by show M.n + 1 = _; rw [HN0.out]
            have hG4 := HG1.out.addR n0 f (by omega)
            have rof := of_any (fun k => k < W.heap.size) p (n0 + 1) _ _ _ w4 hX4 hG4 (by rw [addR_n, e1]; omega) (by rw [addR_n, e1]; omega)
            have hO : OfOf ((M.add (Mk.nd ⟨1, nm, [], []⟩)).addR n0 f) (n0 + 1) ((n0 + 1 : Nat) : Int) := by
              refine .yes (.here ?_) ?_
              · rw [addR_pl, ← e1, updL_same]; rfl
              · rw [← e1, addR_new _ _ _ (by omega)]; rfl
            have rof' : Calls Try.prog 9 #[.pointer (some ⟨p, 0, none⟩), .int .i64 ((n0 + 1 : Nat) : Int)] w4 fun e w' => e = .returned (.int .i64 ((n0 + 1 : Nat) : Int)) ∧ Kept (fun k => k < w4.heap.size) w4 w' := rof.mono fun e w' hh => by
              obtain ⟨z, h1, h2, h3⟩ := hh
              rw [h1.one hO] at h2
              exact ⟨h2, h3⟩
            have HX4 : Hid (DX (fun k => k < W.heap.size) w4 p ((M.add (Mk.nd ⟨1, nm, [], []⟩)).addR n0 f)) := hX4
            have HG4 : Hid (∃ R4 rk4, Good ((M.add (Mk.nd ⟨1, nm, [], []⟩)).addR n0 f) R4 rk4) := ⟨_, _, hG4⟩
            have HK4 : Hid (Kept (fun k => k < W.heap.size) W w4) := HK3.out.trans hK4
            have HE1 : Hid ((M.add (Mk.nd ⟨1, nm, [], []⟩)).n = n0 + 1) := e1
            clear ra' rof hX4 hK4 hG4 hO e1 b0 b1 b2 b3 b4
            go_wp2_with (go_at_call 9; refine rof'.mono ?_; rintro e w5 ⟨rfl, hk5⟩)
            obtain ⟨R4, rk4, hG4⟩ := HG4.out
            go_roundg (len - (j + 1))
            case rel => exact ⟨j + 1, _, R4, rk4, rfl, by omega, by go_num, HX4.out.kept hk5, hG4, by rw [addR_n, HE1.out]; omega, hML, HK4.out.trans (hk5.mono fun k h => Nat.lt_of_lt_of_le h HK4.out.size)⟩
            case measure => omega
          | false =>
            have ra' : Calls Try.prog 8 #[.pointer (some ⟨p, 0, none⟩), .int .i64 (n0 : Int), fgV f] w3 fun e w' => e = .returned (.tuple #[.int .i64 0, .int .u16 100]) ∧ DX (fun k => k < W.heap.size) w' p (M.add (Mk.nd ⟨1, nm, [], []⟩)) ∧ Kept (fun k => k < W.heap.size) w3 w' := ra.mono fun e w' hh => by
              rcases hh with ⟨h1, h2⟩
              cases h2 with
              | host _ q2 q3 => exact ⟨q2, q3, h1⟩
              | root q1 _ _ =>
                rw [HND.out] at q1
                have := HN9.out.host
                exact absurd (q1.symm.trans this) (by decide)
            clear ra
            go_wp2_with fail
            refine ra'.mono ?_
            rintro e w4 ⟨rfl, hX4, hK4⟩
            have HX4 : Hid (DX (fun k => k < W.heap.size) w4 p (M.add (Mk.nd ⟨1, nm, [], []⟩))) := hX4
            have HK4 : Hid (Kept (fun k => k < W.heap.size) W w4) := HK3.out.trans hK4
            clear ra' hX4 hK4 b0 b1 b2 b3 b4
            go_wp2
            go_roundg (len - (j + 1))
            case rel => exact ⟨j + 1, _, _, rk, rfl, by omega, by go_num, HX4.out, HG1.out, by show M.n + 1 ≤ _; rw [HN0.out]; omega, hML, HK4.out⟩
            case measure => omega
    · have hjN : len = j := by omega
      subst hjN
      clear hX hG hK
      go_wp2
      go_ret
      exact ⟨rfl, HKW.out.trans (HK.out.mono fun k h => Nat.lt_of_lt_of_le h HKW.out.size)⟩
end Go.Proofs.Ytmplhphcdgpigaa
