/-
  The walk of QueryClosest.
-/
import Derived.Test.YtojbjiopilkbgaaQz
import Derived.Deep.LoopGhost
namespace Go.Proofs.Ytojbjiopilkbgaa
open Go.RowKit
set_option linter.unusedVariables false
set_option maxRecDepth 100000
set_option maxHeartbeats 4000000
theorem mod3 (c : UInt8) : (c.toNat : Int).tmod 3 = (cl3 c : Int) := by
  rw [Int.tmod_eq_emod_of_nonneg (by omega)]
  unfold cl3
  omega
theorem clo_long (a0 : Option Addr) (cap0 len0 : Nat) (y : Int) (h60 : 60 < len0) (w : World) :
    Calls Try.prog 4 #[.slice a0 len0 cap0, .int .u8 y] w fun e w' => e = .returned (.bool true) ∧ Kept (fun k => k < w.heap.size) w w' := by
  have e0 : decide ((len0 : Int) > 60) = true := decide_eq_true (by omega)
  have r0 := new_yes 300 w (by decide) (by decide)
  go_enter Try.func4, Try.ntmps4
  go_wp2_with fail
  refine r0.mono ?_
  rintro e w1 ⟨p, rfl, hp, -, hK1⟩
  have rk := known18_any w1
  have HK1 : Hid (Kept (fun k => k < w.heap.size) w w1) := hK1
  clear r0 hp hK1
  go_wp2_with fail
  refine rk.mono ?_
  rintro e w2 ⟨rfl, hk2⟩
  have HK2 : Hid (Kept (fun k => k < w.heap.size) w w2) := HK1.out.trans (hk2.mono fun k h => Nat.lt_of_lt_of_le h HK1.out.size)
  clear rk hk2
  go_wp2
  go_ret
  exact ⟨rfl, HK2.out⟩
/-- One more element is made and put in. -/
theorem chain_both {K : Nat → Prop} {w : World} {p : Nat} {S : List UInt8} {j : Nat} (hj : j < S.length) (hl : S.length ≤ 60) (h : Dq 300 K w p (xsC (S.take j)) (QC j)) :
    Calls Try.prog 7 #[.pointer (some ⟨p, 0, none⟩), nodeV 1 (nm3B (cl3 S[j])) ⟨#[]⟩ none 0 0 rest0] w fun e w' => e = .returned (.tuple #[.int .i64 ((j + 1 : Nat) : Int), .int .u16 0]) ∧ Kept K w w' ∧
      Calls Try.prog 8 #[.pointer (some ⟨p, 0, none⟩), .int .i64 (j : Int), .int .i64 ((j + 1 : Nat) : Int), .int .i64 (-1)] w' fun e w'' => e = .returned (.int .u16 0) ∧ Dq 300 K w'' p (xsC (S.take (j + 1))) (QC (j + 1)) ∧ Kept K w' w'' := by
  have hlen : (S.take j).length = j := by rw [List.length_take]; omega
  have h' : Dq 300 K w p (xsC (S.take j)) (QC (S.take j).length) := by rw [hlen]; exact h
  refine (chain_make h' (cl3 S[j]) (cl3_lt _) (by omega)).mono ?_
  rintro e w' ⟨rfl, h2, hk⟩
  refine ⟨by rw [hlen], hk, ?_⟩
  have r := chain_ins S[j] h2
  rw [hlen, ← List.take_succ_eq_append_getElem hj] at r
  exact r
theorem clo_end {K : Nat → Prop} {w : World} {p : Nat} {S : List UInt8} (hl : S.length ≤ 60) (h : Dq 300 K w p (xsC S) (QC S.length)) (t : Nat) (ht : t < 4) (nm : ByteArray) (hnm : nm.toList = if t = 3 then [113] else nm3 t) :
    Calls Try.prog 14 #[.pointer (some ⟨p, 0, none⟩), .int .i64 (S.length : Int), .string nm] w fun e w' => e = .returned (.int .i64 (wan t S)) ∧ Kept (fun k => k < w.heap.size) w w' := by
  obtain ⟨M, R, G, hK, hd⟩ := h
  obtain ⟨rk, hI⟩ := hK.inv
  have hn : M.n ≤ 100000 := Nat.le_trans hK.le hK.lim
  have hc := wan_clo hd hI nm.toList t ht hnm S.length (Nat.le_refl _)
  rw [List.take_length] at hc
  exact closest_any hK.d hI.good hn nm S.length (wan t S) hc
theorem clo_go (a0 : Option Addr) (cap0 len0 : Nat) (S : List UInt8) (c1 : UInt8) (hS : S.length = len0) (h60 : len0 ≤ 60) (w : World) (r0 : RowB w a0 S) :
    Calls Try.prog 4 #[.slice a0 len0 cap0, .int .u8 (c1.toNat : Int)] w fun e w' => e = .returned (.bool true) ∧ Kept (fun k => k < w.heap.size) w w' := by
  have e0 : decide ((len0 : Int) > 60) = false := decide_eq_false (by omega)
  have rn := new_yes 300 w (by decide) (by decide)
  have HR0 : Hid (RowB w a0 S) := r0
  have HLS : Hid (S.length = len0) := hS
  have hm1 := mod3 c1
  have hb1 := c1.toNat_lt
  obtain ⟨y1, hy1⟩ : ∃ y : Int, (c1.toNat : Int) = y := ⟨_, rfl⟩
  have hy0 : 0 ≤ y1 ∧ y1 ≤ 255 := by omega
  obtain ⟨hy0, hyb⟩ := hy0
  rw [hy1] at hm1 ⊢
  obtain ⟨t, ht⟩ : ∃ t, cl3 c1 = t := ⟨_, rfl⟩
  have ht3 : t < 3 := by rw [← ht]; exact cl3_lt _
  rw [ht] at hm1
  clear r0 hS hb1 hy1 ht
  have h3 : t = 0 ∨ t = 1 ∨ t = 2 := by omega
  clear ht3
  rcases h3 with h3 | h3 | h3
  all_goals
    have HT := (show Hid _ from h3)
    rw [h3] at hm1
    simp only [Int.cast_ofNat_Int] at hm1
    clear h3
    go_enter Try.func4, Try.ntmps4
    go_wp2_with fail
    refine rn.mono ?_
    rintro e w1 ⟨p, rfl, hp, hX1, hK1⟩
    have s1 := Dq.start (by decide) (by decide) hX1
    have HS1 : Hid (∀ o, Dq 300 (fun k => k < w.heap.size) (w1.alloc o) p (xsC (S.take 0)) (QC 0) ∧ Kept (fun k => k < w.heap.size) w (w1.alloc o)) := fun o => by
      have k1 : Kept (fun k => k < w1.heap.size) w1 (w1.alloc o) := (Kept.refl _ w1).alloc (fun _ h => h) _
      exact ⟨s1.kept k1, hK1.alloc (fun k h => Nat.lt_of_lt_of_le h hK1.size) o⟩
    clear rn hp hX1 hK1 s1
    go_upto_region 8 with fail
    go_loopg [6, 7, 9] len0 (fun gh v6 v7 v9 wr => ∃ j : Nat, gh = len0 - j ∧ j ≤ len0 ∧ v9 = .int .i64 (j : Int) ∧ v6 = .int .i64 (j : Int) ∧ v7 = .int .i64 (wan t (S.take j)) ∧ Dq 300 (fun k => k < w.heap.size) wr p (xsC (S.take j)) (QC j) ∧ Kept (fun k => k < w.heap.size) w wr)
    case atStart => exact ⟨0, rfl, Nat.zero_le _, rfl, rfl, rfl, (HS1.out _).1, (HS1.out _).2⟩
    case round =>
      clear HS1
      obtain ⟨j, hgj, hj, rfl, rfl, rfl, hD, hK⟩ := hrel
      by_cases hlt : j < len0
      · have hjl : j < S.length := by rw [HLS.out]; exact hlt
        obtain ⟨g, o, rfl, hg, d⟩ := HR0.out j hjl
        have d' : wr.cell? ⟨g, o + j, none⟩ = some (.int .u8 (S[j].toNat : Int)) := (hK.cell (p := ⟨g, o + j, none⟩) hg).trans d
        have hws : wan t (S.take (j + 1)) = if cl3 S[j] = t then ((j + 1 : Nat) : Int) else wan t (S.take j) := by
          rw [List.take_succ_eq_append_getElem hjl, wan_snoc, List.length_take, Nat.min_eq_left (by omega)]
        have HWS : Hid (wan t (S.take (j + 1)) = if cl3 S[j] = t then ((j + 1 : Nat) : Int) else wan t (S.take j)) := hws
        obtain ⟨V, N, hV, hN, hb, hkV, hz⟩ := alloc_bw wr #[.string ⟨#[100, 105, 118]⟩, .string ⟨#[98]⟩, .string ⟨#[120, 45, 97]⟩] 9
        have hwV := hK.trans (hkV.mono fun k h => Nat.lt_of_lt_of_le h hK.size)
        have r1 := chain_both hjl (by rw [HLS.out]; exact h60) (hD.kept hkV)
        have d2 : ∀ X, Kept (fun k => k < w.heap.size) w X → X.cell? ⟨g, o + j, none⟩ = some (.int .u8 (S[j].toNat : Int)) := fun X hX => (hX.cell (p := ⟨g, o + j, none⟩) hg).trans d
        have z0 : V.cell? ⟨N, 0, none⟩ = some (.string ⟨#[100, 105, 118]⟩) := by rw [cell_block hb]; rfl
        have z1 : V.cell? ⟨N, 1, none⟩ = some (.string ⟨#[98]⟩) := by rw [cell_block hb]; rfl
        have z2 : V.cell? ⟨N, 2, none⟩ = some (.string ⟨#[120, 45, 97]⟩) := by rw [cell_block hb]; rfl
        have dV := d2 V hwV
        have hm := mod3 S[j]
        have hbd := S[j].toNat_lt
        obtain ⟨y, hy⟩ : ∃ y : Int, (S[j].toNat : Int) = y := ⟨_, rfl⟩
        have hyy : 0 ≤ y ∧ y ≤ 255 := by omega
        obtain ⟨hyy, hyb2⟩ := hyy
        rw [hy] at hm d' d2 dV
        have HD2 : Hid (∀ X, Kept (fun k => k < w.heap.size) w X → X.cell? ⟨g, o + j, none⟩ = some (.int .u8 y)) := d2
        have HV : Hid (wr.alloc (.cells #[.string ⟨#[100, 105, 118]⟩, .string ⟨#[98]⟩, .string ⟨#[120, 45, 97]⟩] 9) = V) := hV
        have HN : Hid (wr.heap.size = N) := hN
        have HWV : Hid (Kept (fun k => k < w.heap.size) w V) := hwV
        have hs3 := cl3_lt S[j]
        obtain ⟨s, hs⟩ : ∃ s, cl3 S[j] = s := ⟨_, rfl⟩
        rw [hs] at hm r1 HWS hs3
        have h3 : s = 0 ∨ s = 1 ∨ s = 2 := by omega
        clear hK hD d hws hV hN hkV hz hwV d2 hbd hy hs hs3 hb d'
        rcases h3 with h3 | h3 | h3
        all_goals
          have HS3 := (show Hid _ from h3)
          rw [h3] at hm r1
          simp only [Int.cast_ofNat_Int] at hm
          clear h3
          go_upto_region 10 with fail
          go_wp2_with (rw [HV.out, HN.out])
          refine r1.mono ?_
          rintro e w2 ⟨rfl, hk2, r2⟩
          have d3 := HD2.out w2 (HWV.out.trans hk2)
          have HW2 : Hid (Kept (fun k => k < w.heap.size) w w2) := HWV.out.trans hk2
          clear r1 hk2 z0 z1 z2 dV
          go_wp2_with fail
          refine r2.mono ?_
          rintro e w3 ⟨rfl, hD3, hk3⟩
          have d4 := HD2.out w3 (HW2.out.trans hk3)
          have H3 : Hid (Dq 300 (fun k => k < w.heap.size) w3 p (xsC (S.take (j + 1))) (QC (j + 1)) ∧ Kept (fun k => k < w.heap.size) w w3) := ⟨hD3, HW2.out.trans hk3⟩
          clear r2 hD3 hk3 d3
          go_wp2
          go_roundg (len0 - (j + 1))
          case rel =>
            refine ⟨j + 1, rfl, by omega, by go_num, by go_num, ?_, H3.out.1, H3.out.2⟩
            have e1 := HWS.out
            have e2 := HS3.out
            have e3 := HT.out
            subst e2
            subst e3
            rw [e1]
            first | rfl | (rw [if_neg (by decide)])
          case measure => omega
      · have hjn : len0 = j := by omega
        subst hjn
        have hall : S.take len0 = S := List.take_of_length_le (by rw [HLS.out]; exact Nat.le_refl _)
        rw [hall] at hD ⊢
        have hl60 : S.length ≤ 60 := by rw [HLS.out]; exact h60
        have HC : Hid (∀ X, Kept (fun k => k < wr.heap.size) wr X →
            Calls Try.prog 14 #[.pointer (some ⟨p, 0, none⟩), .int .i64 (len0 : Int), .string (nm3B t)] X (fun e w' => e = .returned (.int .i64 (wan t S)) ∧ Kept (fun k => k < X.heap.size) X w') ∧
            Calls Try.prog 14 #[.pointer (some ⟨p, 0, none⟩), .int .i64 (len0 : Int), .string ⟨#[113]⟩] X (fun e w' => e = .returned (.int .i64 (-1)) ∧ Kept (fun k => k < X.heap.size) X w')) := fun X hX => by
          have hDX := hD.kept hX
          rw [← HLS.out] at hDX
          have b1 := clo_end hl60 hDX t (by have := HT.out; omega) (nm3B t) (by rw [nm3B_list, if_neg (by have := HT.out; omega)])
          have b2 := clo_end hl60 hDX 3 (by decide) ⟨#[113]⟩ (by rw [lisQ [113]]; rfl)
          rw [HLS.out] at b1 b2
          rw [wan_no] at b2
          exact ⟨b1, b2⟩
        have HK : Hid (Kept (fun k => k < w.heap.size) w wr) := hK
        have rk := known18_any wr
        obtain ⟨v, hv⟩ : ∃ v, wan t S = v := ⟨_, rfl⟩
        rw [hv] at HC ⊢
        rw [show nm3B t = nm3B _ from congrArg nm3B HT.out] at HC
        clear hD hall hK hv
        go_wp2_with fail
        refine rk.mono ?_
        rintro e w2 ⟨rfl, hk2⟩
        have r1 := (HC.out w2 hk2).1
        have HK2 : Hid (Kept (fun k => k < wr.heap.size) wr w2) := hk2
        clear rk hk2
        go_wp2_with fail
        refine r1.mono ?_
        rintro e w3 ⟨rfl, hk3⟩
        have HK3 : Hid (Kept (fun k => k < wr.heap.size) wr w3) := HK2.out.trans (hk3.mono fun k h => Nat.lt_of_lt_of_le h HK2.out.size)
        have r2 := (HC.out w3 HK3.out).2
        clear r1 hk3
        go_wp2_with fail
        refine r2.mono ?_
        rintro e w4 ⟨rfl, hk4⟩
        have HK4 : Hid (Kept (fun k => k < wr.heap.size) wr w4) := HK3.out.trans (hk4.mono fun k h => Nat.lt_of_lt_of_le h HK3.out.size)
        clear r2 hk4
        go_wp2
        go_ret
        exact ⟨rfl, HK.out.trans (HK4.out.mono fun k h => Nat.lt_of_lt_of_le h HK.out.size)⟩
end Go.Proofs.Ytojbjiopilkbgaa
