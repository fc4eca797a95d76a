/-
  The walk of QueryFirst.
-/
import Derived.Test.YtojbjiopilkbgaaQw
import Derived.Deep.LoopGhost
namespace Go.Proofs.Ytojbjiopilkbgaa
open Go.RowKit
set_option linter.unusedVariables false
set_option maxRecDepth 100000
set_option maxHeartbeats 4000000
abbrev fl0 : Fg := ⟨false, false, false, false, false⟩
def upB (b : Bool) (m : Nat) : Nat := if b = true then m + 1 else 0
def QY (b : Bool) (m : Nat) : Nat → List Nat := updR (QF m) (upB b m) (QF m (upB b m) ++ [m + 2])
section
variable {K : Nat → Prop} {w : World} {p m f : Nat}
theorem first_root (hm : 1 ≤ m) (hm3 : m ≤ 30) (h : Dq 300 K w p (xF m f (m + 1)) (QF m)) :
    Calls Try.prog 10 #[.pointer (some ⟨p, 0, none⟩), .int .i64 1, fgV fl0] w fun e w' => e = .returned (.tuple #[.int .i64 ((m + 1 : Nat) : Int), .int .u16 0]) ∧ Dq 300 K w' p ((xF m f (m + 1)).set 1 { (if f ≤ 1 then dq else dv) with shadow := ((m + 1 : Nat) : Int) } ++ [rtN fl0 1]) (QF m) ∧ Kept K w w' := by
  have hl := xF_len m f (m + 1)
  have e : ∀ hh, (xF m f (m + 1))[1]'hh = if f ≤ 1 then dq else dv := fun hh => by
    rw [xF_at m f (m + 1) 0 (by omega)]
    by_cases c : f ≤ 1
    · rw [if_pos c, if_pos ⟨c, by omega⟩]
    · rw [if_neg c, if_neg (fun h => c h.1)]
  have r := h.root 1 fl0 (by omega) (by rw [e]; split <;> rfl) (by rw [e]; split <;> rfl) (by unfold QF; rw [hl, if_neg (by omega)]) (by omega)
  rw [e, hl] at r
  exact r
theorem first_b {N : Nat} (hm3 : m ≤ 30) (hb : w.heap[N]? = some (.cells #[sv idL, sv [114]] 39 (0, 0))) (h : Dq 300 K w p ((xF m f (m + 1)).set 1 { (if f ≤ 1 then dq else dv) with shadow := ((m + 1 : Nat) : Int) } ++ [rtN fl0 1]) (QF m)) :
    Calls Try.prog 7 #[.pointer (some ⟨p, 0, none⟩), nodeV 1 ⟨#[98]⟩ ⟨#[]⟩ (some ⟨N, 0, none⟩) 1 1 rest0] w fun e w' => e = .returned (.tuple #[.int .i64 ((m + 2 : Nat) : Int), .int .u16 0]) ∧ Dq 300 K w' p (yF m f) (QF m) ∧ Kept K w w' := by
  have hl : ((xF m f (m + 1)).set 1 { (if f ≤ 1 then dq else dv) with shadow := ((m + 1 : Nat) : Int) } ++ [rtN fl0 1]).length = m + 2 := by rw [List.length_append, List.length_set, xF_len]; rfl
  have r := h.makeA 1 ⟨#[98]⟩ ⟨#[]⟩ [⟨idL, [114]⟩] (some ⟨N, 0, none⟩) 1 1 rest0 [98] [] (lisQ [98]) (by rw [ByteArray.toList_eq]) rfl (by decide) (AtsAt.oneQ hb) (by decide) sound_dv.2.2 (by decide) (by unfold QF; rw [hl, if_neg (by omega)]) (by rw [hl]; omega) (fun h => absurd h (by decide))
  rw [hl] at r
  exact r
theorem first_put (b : Bool) (hm : 1 ≤ m) (h : Dq 300 K w p (yF m f) (QF m)) :
    Calls Try.prog 8 #[.pointer (some ⟨p, 0, none⟩), .int .i64 (upB b m : Int), .int .i64 ((m + 2 : Nat) : Int), .int .i64 (-1)] w fun e w' => e = .returned (.int .u16 0) ∧ Dq 300 K w' p (yF m f) (QY b m) ∧ Kept K w w' := by
  have hl := yF_len m f
  have hub : upB b m ≤ m + 1 := by unfold upB; split <;> omega
  have hh : ∀ hh, holdB ((yF m f)[upB b m]'hh) = true := fun hh => by
    cases b with
    | true =>
      have : (yF m f)[upB true m]'hh = (yF m f)[m + 1]'(by omega) := rfl
      rw [this, yF_root]; decide +kernel
    | false =>
      have : (yF m f)[upB false m]'hh = frag0.new := rfl
      rw [this]; decide +kernel
  exact h.ins (upB b m) (m + 2) (by omega) (by omega) (by omega) (hh _) (by omega) (by rw [yF_b]; show (1 : Nat) ≠ 5; decide) (by rw [yF_b]; show (1 : Nat) ≠ 4; decide) (fun u hu hm => by have := QF_mem hm; omega) (by unfold QF; rw [if_neg (by omega)]) (fun k hk => by
    rcases (by omega : k = 0 ∨ (1 ≤ k ∧ k ≤ m) ∨ k = m + 1 ∨ k = m + 2) with rfl | ⟨h1, h2⟩ | rfl | rfl
    · rw [yF_0]; show (-1 : Int) ≠ _; omega
    · rw [(yF_at m f k h1 h2 hk).2.2]; omega
    · rw [yF_root]; show (1 : Int) ≠ _; omega
    · rw [yF_b]; show (-1 : Int) ≠ _; omega)
theorem first_end (b : Bool) (h1 : 1 ≤ f) (hf : f ≤ m) (hm3 : m ≤ 30) (h : Dq 300 K w p (yF m f) (QY b m)) (X : World) (hX : Kept (fun k => k < w.heap.size) w X) :
    Calls Try.prog 11 #[.pointer (some ⟨p, 0, none⟩), .int .i64 0, .string ⟨#[113]⟩] X (fun e w' => e = .returned (.int .i64 (f : Int)) ∧ Kept (fun k => k < X.heap.size) X w') ∧
    Calls Try.prog 11 #[.pointer (some ⟨p, 0, none⟩), .int .i64 0, .string ⟨#[114]⟩] X (fun e w' => e = .returned (.int .i64 (if b = true then -1 else ((m + 2 : Nat) : Int))) ∧ Kept (fun k => k < X.heap.size) X w') ∧
    Calls Try.prog 11 #[.pointer (some ⟨p, 0, none⟩), .int .i64 ((m + 1 : Nat) : Int), .string ⟨#[114]⟩] X (fun e w' => e = .returned (.int .i64 (if b = true then ((m + 2 : Nat) : Int) else -1)) ∧ Kept (fun k => k < X.heap.size) X w') ∧
    Calls Try.prog 13 #[.pointer (some ⟨p, 0, none⟩), .int .i64 0, .string ⟨#[105, 100]⟩, .string ⟨#[113]⟩] X (Lst X (List.range' f (m + 1 - f))) := by
  obtain ⟨M, R, G, hK, hd⟩ := h
  obtain ⟨rk, hI⟩ := hK.inv
  have hn : M.n ≤ 100000 := Nat.le_trans hK.le hK.lim
  have hD := hK.d.kept hX
  have hl := yF_len m f
  have hMn : M.n = m + 3 := by rw [hd.n, hl]
  have nat : ∀ k, 1 ≤ k → k ≤ m → (M.nd k).kind = 1 ∧ (M.nd k).attrs = (if f ≤ k then [⟨idL, [113]⟩] else []) := fun k a c => by
    rw [hd.nd k (by omega)]
    exact ⟨(yF_at m f k a c (by omega)).1, (yF_at m f k a c (by omega)).2.1⟩
  have nb : M.nd (m + 2) = bq := by rw [hd.nd (m + 2) (by omega), yF_b]
  have pq : ∀ k, 1 ≤ k → k ≤ m → havB idL [113] (M.nd k) = decide (f ≤ k) := fun k a c => by
    obtain ⟨e1, e2⟩ := nat k a c
    unfold havB
    rw [e1, e2]
    by_cases d : f ≤ k
    · rw [if_pos d, decide_eq_true d]; decide
    · rw [if_neg d, decide_eq_false d]; decide
  have pr : ∀ k, 1 ≤ k → k ≤ m → havB idL [114] (M.nd k) = false := fun k a c => by
    obtain ⟨e1, e2⟩ := nat k a c
    unfold havB
    rw [e1, e2]
    by_cases d : f ≤ k
    · rw [if_pos d]; decide
    · rw [if_neg d]; decide
  have pbq : havB idL [113] (M.nd (m + 2)) = false := by rw [nb]; decide
  have pbr : havB idL [114] (M.nd (m + 2)) = true := by rw [nb]; decide
  have hrq := rng_split m f h1 hf (fun k => havB idL [113] (M.nd k)) pq
  have hrr : (List.range' 1 m).filter (fun k => havB idL [114] (M.nd k)) = [] := List.filter_eq_nil_iff.2 fun k hk => by
    rw [List.mem_range'_1] at hk
    rw [pr k (by omega) (by omega)]; decide
  have leaf : ∀ k, 1 ≤ k → k ≠ m + 1 → R k = [] := fun k a c => by
    rw [hd.r]
    unfold QY updR QF upB
    cases b with
    | true => rw [if_neg (by simp; omega), if_neg (by omega)]
    | false => rw [if_neg (by simp; omega), if_neg (by omega)]
  have hfst : List.range' f (m + 1 - f) = f :: List.range' (f + 1) (m - f) := by
    rw [show m + 1 - f = (m - f) + 1 by omega, List.range'_succ]
  have key : qL M R (havB idL [113]) 0 = List.range' f (m + 1 - f) ∧ qL M R (havB idL [114]) 0 = (if b = true then [] else [m + 2]) ∧ qL M R (havB idL [114]) ((m + 1 : Nat) : Int) = (if b = true then [m + 2] else []) := by
    cases b with
    | true =>
      have r0 : R 0 = List.range' 1 m := by rw [hd.r]; unfold QY updR QF upB; rw [if_neg (by simp), if_pos rfl]
      have r1 : R (m + 1) = [m + 2] := by rw [hd.r]; unfold QY updR QF upB; rw [if_pos (by simp), if_neg (by simp)]; rfl
      have q0 := fun P => qL_leafs hI (u := 0) (by omega) _ r0 (fun k hk => by rw [List.mem_range'_1] at hk; exact leaf k (by omega) (by omega)) P
      have q1 := fun P => qL_leafs hI (u := m + 1) (by omega) _ r1 (fun k hk => by rw [List.mem_singleton] at hk; exact leaf k (by omega) (by omega)) P
      refine ⟨(q0 _).trans hrq, (q0 _).trans hrr, (q1 _).trans ?_⟩
      simp [pbr]
    | false =>
      have r0 : R 0 = List.range' 1 m ++ [m + 2] := by rw [hd.r]; unfold QY updR QF upB; rw [if_pos (by simp)]; simp
      have r1 : R (m + 1) = [] := by rw [hd.r]; unfold QY updR QF upB; rw [if_neg (by simp), if_neg (by omega)]
      have q0 := fun P => qL_leafs hI (u := 0) (by omega) _ r0 (fun k hk => by
        rcases List.mem_append.1 hk with hk | hk
        · rw [List.mem_range'_1] at hk; exact leaf k (by omega) (by omega)
        · rw [List.mem_singleton] at hk; exact leaf k (by omega) (by omega)) P
      have q1 := fun P => qL_leafs hI (u := m + 1) (by omega) _ r1 (fun k hk => by cases hk) P
      refine ⟨(q0 _).trans ?_, (q0 _).trans ?_, q1 _⟩
      · rw [List.filter_append, hrq]; simp [pbq]
      · rw [List.filter_append, hrr]; simp [pbr]
  obtain ⟨k1, k2, k3⟩ := key
  have b1 := byID_any hD hI.good hn ⟨#[113]⟩ 0 (List.range' f (m + 1 - f)) (by rw [lisQ [113]]; exact k1)
  have b2 := byID_any hD hI.good hn ⟨#[114]⟩ 0 (if b = true then [] else [m + 2]) (by rw [lisQ [114]]; exact k2)
  have b3 := byID_any hD hI.good hn ⟨#[114]⟩ ((m + 1 : Nat) : Int) (if b = true then [m + 2] else []) (by rw [lisQ [114]]; exact k3)
  have b4 := byAttr_any hD hI.good hn ⟨#[105, 100]⟩ ⟨#[113]⟩ 0
  rw [lisQ [105, 100], lisQ [113], k1] at b4
  rw [lisQ [113], hfst] at b1
  rw [lisQ [114]] at b2 b3
  refine ⟨b1, ?_, ?_, b4⟩
  · cases b <;> exact b2
  · cases b <;> exact b3
end
theorem map1_any (b : Bool) (k : Int) (w : World) : Calls Try.prog 12 #[.bool b, .int .i64 k] w fun e w' => e = .returned (.int .i64 (if b = true then k else -1)) ∧ w' = w := by
  cases b
  · go_enter Try.func12, Try.ntmps12
    go_wp2
    go_ret
    exact ⟨rfl, rfl⟩
  · go_enter Try.func12, Try.ntmps12
    go_wp2
    go_ret
    exact ⟨rfl, rfl⟩
theorem first_go (c0 c1 : UInt8) (b : Bool) (w : World) :
    Calls Try.prog 3 #[.int .u8 (c0.toNat : Int), .int .u8 (c1.toNat : Int), .bool b] w fun e w' => e = .returned (.bool true) ∧ Kept (fun k => k < w.heap.size) w w' := by
  have rn := new_yes 300 w (by decide) (by decide)
  obtain ⟨q, hq⟩ : ∃ q, c0.toNat % 30 = q := ⟨_, rfl⟩
  obtain ⟨m, hm⟩ : ∃ m, 1 + q = m := ⟨_, rfl⟩
  have hm0 : (c0.toNat : Int).tmod 30 = (q : Int) := by rw [Int.tmod_eq_emod_of_nonneg (by omega)]; omega
  have hm1 : (1 : Int) + (q : Int) = (m : Int) := by omega
  have hmb : 1 ≤ m ∧ m ≤ 30 := by omega
  obtain ⟨hmb, hmc⟩ := hmb
  obtain ⟨g, hg⟩ : ∃ g, c1.toNat % m = g := ⟨_, rfl⟩
  obtain ⟨f, hf⟩ : ∃ f, 1 + g = f := ⟨_, rfl⟩
  have hgm : g < m := by rw [← hg]; exact Nat.mod_lt _ (by omega)
  have hm2 : (c1.toNat : Int).tmod (m : Int) = (g : Int) := by rw [← hg]; rfl
  have hm3 : (1 : Int) + (g : Int) = (f : Int) := by omega
  have hf1 : 1 ≤ f ∧ f ≤ m := by omega
  obtain ⟨hf1, hfm⟩ := hf1
  have hb0 := c0.toNat_lt
  have hb1 := c1.toNat_lt
  obtain ⟨y0, hy0⟩ : ∃ y : Int, (c0.toNat : Int) = y := ⟨_, rfl⟩
  obtain ⟨y1, hy1⟩ : ∃ y : Int, (c1.toNat : Int) = y := ⟨_, rfl⟩
  have ha0 : 0 ≤ y0 := by omega
  have ha1 : y0 ≤ 255 := by omega
  have ha2 : 0 ≤ y1 := by omega
  have ha3 : y1 ≤ 255 := by omega
  rw [hy0] at hm0 ⊢
  rw [hy1] at hm2 ⊢
  clear hq hm hg hf hb0 hb1 hy0 hy1
  go_enter Try.func3, Try.ntmps3
  go_wp2_with fail
  refine rn.mono ?_
  rintro e w1 ⟨p, rfl, hp, hX1, hK1⟩
  have s1 : Dq 300 (fun k => k < w.heap.size) w1 p (xF 0 f 0) (QF 0) := by
    have hQ0 : QF 0 = fun _ => [] := by funext u; unfold QF; split <;> rfl
    have hx0 : xF 0 f 0 = [frag0.new] := rfl
    rw [hQ0, hx0]
    exact Dq.start (by decide) (by decide) hX1
  have rk := known18_any w1
  have HS1 : Hid (Dq 300 (fun k => k < w.heap.size) w1 p (xF 0 f 0) (QF 0) ∧ Kept (fun k => k < w.heap.size) w w1) := ⟨s1, hK1⟩
  clear rn hp hX1 hK1 s1
  go_wp2_with fail
  refine rk.mono ?_
  rintro e w2 ⟨rfl, hk2⟩
  have HS2 : Hid (Dq 300 (fun k => k < w.heap.size) w2 p (xF 0 f 0) (QF 0) ∧ Kept (fun k => k < w.heap.size) w w2) := ⟨HS1.out.1.kept hk2, HS1.out.2.trans (hk2.mono fun k h => Nat.lt_of_lt_of_le h HS1.out.2.size)⟩
  clear rk hk2 HS1
  go_upto_region 6 with fail
  go_loopg [9] m (fun gh v wr => ∃ j : Nat, gh = m - j ∧ j ≤ m ∧ v = .int .i64 (j : Int) ∧ Dq 300 (fun k => k < w.heap.size) wr p (xF j f 0) (QF j) ∧ Kept (fun k => k < w.heap.size) w wr)
  case atStart => exact ⟨0, rfl, Nat.zero_le _, rfl, HS2.out.1, HS2.out.2⟩
  case round =>
    clear HS2
    obtain ⟨j, hgj, hj, rfl, hD, hK⟩ := hrel
    by_cases hlt : j < m
    · have r1 := first_make hD (by omega)
      have HK : Hid (Kept (fun k => k < w.heap.size) w wr) := hK
      clear hD hK
      go_wp2_with fail
      refine r1.mono ?_
      rintro e w3 ⟨rfl, h3, k3⟩
      have r2 := first_ins h3
      have HK3 : Hid (Kept (fun k => k < w.heap.size) w w3) := HK.out.trans k3
      clear r1 h3 k3 HK
      go_wp2_with fail
      refine r2.mono ?_
      rintro e w4 ⟨rfl, h4, k4⟩
      have H4 : Hid (Dq 300 (fun k => k < w.heap.size) w4 p (xF (j + 1) f 0) (QF (j + 1)) ∧ Kept (fun k => k < w.heap.size) w w4) := ⟨h4, HK3.out.trans k4⟩
      clear r2 h4 k4 HK3
      go_wp2
      go_roundg (m - (j + 1))
      case rel => exact ⟨j + 1, rfl, by omega, by go_num, H4.out.1, H4.out.2⟩
      case measure => omega
    · have hjm : m = j := by omega
      subst hjm
      have e0 : xF m f 0 = xF m f f := by
        unfold xF
        congr 1
        refine List.map_congr_left fun k _ => ?_
        rw [if_neg (by omega), if_neg (by omega)]
      rw [e0] at hD
      have H4 : Hid (Dq 300 (fun k => k < w.heap.size) wr p (xF m f f) (QF m) ∧ Kept (fun k => k < w.heap.size) w wr) := ⟨hD, hK⟩
      clear hD hK e0
      go_upto_region 12 with fail
      go_loopg [13] (m + 1 - f) (fun gh v wi => ∃ i : Nat, gh = m + 1 - i ∧ f ≤ i ∧ i ≤ m + 1 ∧ v = .int .i64 (i : Int) ∧ Dq 300 (fun k => k < w.heap.size) wi p (xF m f i) (QF m) ∧ Kept (fun k => k < w.heap.size) w wi)
      case atStart => exact ⟨f, rfl, Nat.le_refl _, by omega, rfl, H4.out.1, H4.out.2⟩
      case round =>
        clear H4
        obtain ⟨i, hgi, hif, him, rfl, hD, hK⟩ := hrel
        by_cases hlt2 : i ≤ m
        · have i1 : decide ((i : Int) ≤ (m : Int)) = true := decide_eq_true (by omega)
          have r1 := first_set hif (by omega) hlt2 hD
          have HK : Hid (Kept (fun k => k < w.heap.size) w wr) := hK
          clear hD hK
          go_wp2_with fail
          refine r1.mono ?_
          rintro e w3 ⟨rfl, h3, k3⟩
          have H3 : Hid (Dq 300 (fun k => k < w.heap.size) w3 p (xF m f (i + 1)) (QF m) ∧ Kept (fun k => k < w.heap.size) w w3) := ⟨h3, HK.out.trans k3⟩
          clear r1 h3 k3 HK
          go_wp2
          go_roundg (m + 1 - (i + 1))
          case rel => exact ⟨i + 1, rfl, by omega, by omega, by go_num, H3.out.1, H3.out.2⟩
          case measure => omega
        · have i1 : decide ((i : Int) ≤ (m : Int)) = false := decide_eq_false (by omega)
          have hie : i = m + 1 := by omega
          subst hie
          have r1 := first_root hmb hmc hD
          have HK : Hid (Kept (fun k => k < w.heap.size) w wr) := hK
          clear hD hK
          go_wp2_with fail
          refine r1.mono ?_
          rintro e w3 ⟨rfl, h3, k3⟩
          obtain ⟨V, N, hV, hN, hb, hkV, hz⟩ := alloc_bw w3 #[sv idL, sv [114]] 39
          have r2 := first_b hmc hb (h3.kept hkV)
          have HK3 : Hid (Kept (fun k => k < w.heap.size) w V) := (HK.out.trans k3).trans (hkV.mono fun k h => Nat.lt_of_lt_of_le h (HK.out.trans k3).size)
          have HV : Hid (w3.alloc (.cells #[sv idL, sv [114]] 39) = V) := hV
          have HN : Hid (w3.heap.size = N) := hN
          clear r1 h3 k3 hV hN hb hkV hz HK
          go_upto_region 16 with fail
          go_wp2_with (rw [HV.out, HN.out])
          refine r2.mono ?_
          rintro e w4 ⟨rfl, h4, k4⟩
          have HK4 : Hid (Kept (fun k => k < w.heap.size) w w4) := HK3.out.trans k4
          clear r2 k4 HV HN HK3
          cases b
          · have r3 := first_put false hmb h4
            rw [show ((upB false m : Nat) : Int) = (0 : Int) from rfl] at r3
            clear h4
            go_wp2_with fail
            refine r3.mono ?_
            rintro e w5 ⟨rfl, h5, k5⟩
            have HE := first_end false hf1 hfm hmc h5
            have HH : Hid (∀ X, Kept (fun k => k < w5.heap.size) w5 X →
              Calls Try.prog 11 #[.pointer (some ⟨p, 0, none⟩), .int .i64 0, .string ⟨#[113]⟩] X (fun e w' => e = .returned (.int .i64 (f : Int)) ∧ Kept (fun k => k < X.heap.size) X w') ∧
              Calls Try.prog 11 #[.pointer (some ⟨p, 0, none⟩), .int .i64 0, .string ⟨#[114]⟩] X (fun e w' => e = .returned (.int .i64 ((m + 2 : Nat) : Int)) ∧ Kept (fun k => k < X.heap.size) X w') ∧
              Calls Try.prog 11 #[.pointer (some ⟨p, 0, none⟩), .int .i64 ((m + 1 : Nat) : Int), .string ⟨#[114]⟩] X (fun e w' => e = .returned (.int .i64 (-1)) ∧ Kept (fun k => k < X.heap.size) X w') ∧
              Calls Try.prog 13 #[.pointer (some ⟨p, 0, none⟩), .int .i64 0, .string ⟨#[105, 100]⟩, .string ⟨#[113]⟩] X (Lst X (List.range' f (m + 1 - f)))) := HE
            have HK5 : Hid (Kept (fun k => k < w.heap.size) w w5) := HK4.out.trans k5
            have r1 := (HH.out w5 (Kept.refl _ _)).1
            clear r3 h5 k5 HE HK4
            go_wp2_with fail
            refine r1.mono ?_
            rintro e u1 ⟨rfl, q1⟩
            have Q1 : Hid (Kept (fun k => k < w5.heap.size) w5 u1) := q1
            have r2 := (HH.out u1 q1).2.1
            clear r1 q1
            go_wp2_with fail
            refine r2.mono ?_
            rintro e u2 ⟨rfl, q1⟩
            have Q2 : Hid (Kept (fun k => k < w5.heap.size) w5 u2) := Q1.out.trans (q1.mono fun k h => Nat.lt_of_lt_of_le h Q1.out.size)
            have r3 := (HH.out u2 Q2.out).2.2.1
            clear r2 q1 Q1
            go_wp2_with fail
            refine r3.mono ?_
            rintro e u3 ⟨rfl, q1⟩
            have Q3 : Hid (Kept (fun k => k < w5.heap.size) w5 u3) := Q2.out.trans (q1.mono fun k h => Nat.lt_of_lt_of_le h Q2.out.size)
            have rm := map1_any false ((m + 2 : Nat) : Int) u3
            rw [show (if false = true then ((m + 2 : Nat) : Int) else -1) = (-1) from rfl] at rm
            have r4 := (HH.out u3 Q3.out).2.2.2
            obtain ⟨ll, hll⟩ : ∃ ll, (List.range' f (m + 1 - f)).length = ll := ⟨_, rfl⟩
            have hl2 : ll = m + 1 - f := by rw [← hll, List.length_range']
            obtain ⟨dd, hdd⟩ : ∃ dd, m - f = dd := ⟨_, rfl⟩
            have d1 : (m : Int) - (f : Int) = (dd : Int) := by omega
            have d2 : IntKind.i64.wrap (dd : Int) = (dd : Int) := by rw [IntKind.wrap_i64]; omega
            have d3 : (dd : Int) + 1 = (ll : Int) := by omega
            have d4 : IntKind.i64.wrap (ll : Int) = (ll : Int) := by rw [IntKind.wrap_i64]; omega
            have HLL : Hid ((List.range' f (m + 1 - f)).length = ll) := hll
            clear r3 q1 Q2 hll hl2 hdd
            go_wp2_with fail
            refine rm.mono ?_
            rintro e1 u9 ⟨rfl, hu9⟩
            replace hu9 := hu9.symm
            subst hu9
            clear rm
            go_wp2_with fail
            refine r4.mono ?_
            rintro e u4 ⟨ao, c, rfl, hO, q1⟩
            have Q4 : Hid (Kept (fun k => k < w5.heap.size) w5 u4) := Q3.out.trans (q1.mono fun k h => Nat.lt_of_lt_of_le h Q3.out.size)
            rw [HLL.out]
            clear r4 hO q1 Q3
            go_wp2
            go_ret
            exact ⟨rfl, HK5.out.trans (Q4.out.mono fun k h => Nat.lt_of_lt_of_le h HK5.out.size)⟩
          · have r3 := first_put true hmb h4
            rw [show ((upB true m : Nat) : Int) = ((m + 1 : Nat) : Int) from rfl] at r3
            clear h4
            go_wp2_with fail
            refine r3.mono ?_
            rintro e w5 ⟨rfl, h5, k5⟩
            have HE := first_end true hf1 hfm hmc h5
            have HH : Hid (∀ X, Kept (fun k => k < w5.heap.size) w5 X →
              Calls Try.prog 11 #[.pointer (some ⟨p, 0, none⟩), .int .i64 0, .string ⟨#[113]⟩] X (fun e w' => e = .returned (.int .i64 (f : Int)) ∧ Kept (fun k => k < X.heap.size) X w') ∧
              Calls Try.prog 11 #[.pointer (some ⟨p, 0, none⟩), .int .i64 0, .string ⟨#[114]⟩] X (fun e w' => e = .returned (.int .i64 (-1)) ∧ Kept (fun k => k < X.heap.size) X w') ∧
              Calls Try.prog 11 #[.pointer (some ⟨p, 0, none⟩), .int .i64 ((m + 1 : Nat) : Int), .string ⟨#[114]⟩] X (fun e w' => e = .returned (.int .i64 ((m + 2 : Nat) : Int)) ∧ Kept (fun k => k < X.heap.size) X w') ∧
              Calls Try.prog 13 #[.pointer (some ⟨p, 0, none⟩), .int .i64 0, .string ⟨#[105, 100]⟩, .string ⟨#[113]⟩] X (Lst X (List.range' f (m + 1 - f)))) := HE
            have HK5 : Hid (Kept (fun k => k < w.heap.size) w w5) := HK4.out.trans k5
            have r1 := (HH.out w5 (Kept.refl _ _)).1
            clear r3 h5 k5 HE HK4
            go_wp2_with fail
            refine r1.mono ?_
            rintro e u1 ⟨rfl, q1⟩
            have Q1 : Hid (Kept (fun k => k < w5.heap.size) w5 u1) := q1
            have r2 := (HH.out u1 q1).2.1
            clear r1 q1
            go_wp2_with fail
            refine r2.mono ?_
            rintro e u2 ⟨rfl, q1⟩
            have Q2 : Hid (Kept (fun k => k < w5.heap.size) w5 u2) := Q1.out.trans (q1.mono fun k h => Nat.lt_of_lt_of_le h Q1.out.size)
            have r3 := (HH.out u2 Q2.out).2.2.1
            clear r2 q1 Q1
            go_wp2_with fail
            refine r3.mono ?_
            rintro e u3 ⟨rfl, q1⟩
            have Q3 : Hid (Kept (fun k => k < w5.heap.size) w5 u3) := Q2.out.trans (q1.mono fun k h => Nat.lt_of_lt_of_le h Q2.out.size)
            have rm := map1_any true ((m + 2 : Nat) : Int) u3
            rw [show (if true = true then ((m + 2 : Nat) : Int) else -1) = ((m + 2 : Nat) : Int) from rfl] at rm
            have r4 := (HH.out u3 Q3.out).2.2.2
            obtain ⟨ll, hll⟩ : ∃ ll, (List.range' f (m + 1 - f)).length = ll := ⟨_, rfl⟩
            have hl2 : ll = m + 1 - f := by rw [← hll, List.length_range']
            obtain ⟨dd, hdd⟩ : ∃ dd, m - f = dd := ⟨_, rfl⟩
            have d1 : (m : Int) - (f : Int) = (dd : Int) := by omega
            have d2 : IntKind.i64.wrap (dd : Int) = (dd : Int) := by rw [IntKind.wrap_i64]; omega
            have d3 : (dd : Int) + 1 = (ll : Int) := by omega
            have d4 : IntKind.i64.wrap (ll : Int) = (ll : Int) := by rw [IntKind.wrap_i64]; omega
            have HLL : Hid ((List.range' f (m + 1 - f)).length = ll) := hll
            clear r3 q1 Q2 hll hl2 hdd
            go_wp2_with fail
            refine rm.mono ?_
            rintro e1 u9 ⟨rfl, hu9⟩
            replace hu9 := hu9.symm
            subst hu9
            clear rm
            go_wp2_with fail
            refine r4.mono ?_
            rintro e u4 ⟨ao, c, rfl, hO, q1⟩
            have Q4 : Hid (Kept (fun k => k < w5.heap.size) w5 u4) := Q3.out.trans (q1.mono fun k h => Nat.lt_of_lt_of_le h Q3.out.size)
            rw [HLL.out]
            clear r4 hO q1 Q3
            go_wp2
            go_ret
            exact ⟨rfl, HK5.out.trans (Q4.out.mono fun k h => Nat.lt_of_lt_of_le h HK5.out.size)⟩
end Go.Proofs.Ytojbjiopilkbgaa
