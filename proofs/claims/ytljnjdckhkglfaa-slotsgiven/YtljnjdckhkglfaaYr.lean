/-
  The walk of SlotsGiven.
-/
import Derived.Test.YtljnjdckhkglfaaYq
import Derived.Test.YtljnjdckhkglfaaP26
namespace Go.Proofs.Ytljnjdckhkglfaa
open Go.RowKit Go.Sort
set_option linter.unusedVariables false
abbrev Ka (B : Nat) (ao : Option Addr) (k : Nat) : Prop := k < B ∨ blkOf ao k
abbrev K2 (B : Nat) (ao a1 : Option Addr) (k : Nat) : Prop := k < B ∨ blkOf ao k ∨ blkOf a1 k
/-- Two rows of integers beside a document. -/
structure Rows2 (B : Nat) (w : World) (p : Nat) (xs : List Nd) (Q : Nat → List Nat) (al : Option Addr) (n c : Nat) (l : List Nat) (aw : Option Addr) (m d : Nat) (wl : List Nat) : Prop where
  dst : Dst (K2 B al aw) w p xs Q
  ol : OwnZ (Ka B aw) w 3 1 al n c (ivs l)
  ow : OwnZ (Ka B al) w 3 1 aw m d (ivs wl)
section
variable {B : Nat} {w : World} {p : Nat} {xs : List Nd} {Q : Nat → List Nat} {al aw : Option Addr} {n c m d : Nat} {l wl : List Nat}
theorem Dst.mono' {K K' : Nat → Prop} (h : Dst K w p xs Q) (hs : ∀ k, K' k → K k) : Dst K' w p xs Q := h.more (Kept.refl _ _) (fun k hk => .inl (hs k hk)) (fun k hk => h.lt k (hs k hk))
theorem Rows2.appL (h : Rows2 B w p xs Q al n c l aw m d wl) (hn : n ≤ 1000000) (x : Nat) :
    ∃ al' c' w', (Builtin.append_ #[34, 34] 34 #[.slice al n c, .slice (some ⟨w.heap.size, 0, none⟩) 1 1]).run Try.prog (w.alloc (.cells #[.int .i64 (x : Int)] 3)) = .ok (.slice al' (n + 1) c') w' ∧ Rows2 B w' p xs Q al' (n + 1) c' (l ++ [x]) aw m d wl ∧ Kept (fun k => k < B) w w' := by
  obtain ⟨al', c', w', h1, h2, h3, h4⟩ := Dst.app (K := Ka B aw) (ao := al) (h.dst.mono' (fun k hk => by
    rcases hk with (hk | hk) | hk
    · exact .inl hk
    · exact .inr (.inr hk)
    · exact .inr (.inl hk))) (fun k hk => h.dst.lt k (by rcases hk with hk | hk; exact .inl hk; exact .inr (.inr hk))) h.ol hn x
  refine ⟨al', c', w', h1, ⟨h3.mono' (fun k hk => ?_), h2, h.ow.to (fun g hg hh => ?_) (fun g hg => h4.block g (.inr hg))⟩, h4.mono fun k hk => .inl hk⟩
  · rcases hk with hk | hk | hk
    · exact .inl (.inl hk)
    · exact .inr hk
    · exact .inl (.inr hk)
  · rcases hh with hh | hh
    · exact (h.ow.out hg).1 (.inl hh)
    · exact (h2.out hh).1 (.inr hg)
theorem Rows2.swap (h : Rows2 B w p xs Q al n c l aw m d wl) : Rows2 B w p xs Q aw m d wl al n c l :=
  ⟨h.dst.mono' (fun k hk => by rcases hk with hk | hk | hk; exact .inl hk; exact .inr (.inr hk); exact .inr (.inl hk)), h.ow, h.ol⟩
theorem Rows2.kept {w' : World} (h : Rows2 B w p xs Q al n c l aw m d wl) (hk : Kept (fun k => k < w.heap.size) w w') : Rows2 B w' p xs Q al n c l aw m d wl :=
  ⟨h.dst.kept hk, h.ol.to (fun g hg => (h.ol.out hg).1) (fun g hg => hk.block g (h.ol.out hg).2), h.ow.to (fun g hg => (h.ow.out hg).1) (fun g hg => hk.block g (h.ow.out hg).2)⟩
end
theorem stRootM {K : Nat → Prop} {w : World} {p : Nat} (h : Dst K w p [frag0.new, elD [100, 105, 118]] (fun _ => [])) : Calls Try.prog 22 #[.pointer (some ⟨p, 0, none⟩), .int .i64 1, .agg #[.bool false, .bool true, .bool false, .bool false, .bool false]] w fun e w' => e = .returned (.tuple #[.int .i64 2, .int .u16 0]) ∧ Dst K w' p [frag0.new, divS, rtN fgM 1] (fun _ => []) ∧ Kept K w w' := stRoot h fgM
/-- What came in, as places. -/
def pl4 (N : Nat) (c : UInt8) : Nat := 4 + c.toNat % N
set_option maxRecDepth 20000 in
set_option maxHeartbeats 4000000 in
theorem given_long (a1 : Option Addr) (cap1 len1 : Nat) (z0 z2 : Int) (hl : 60 < len1) (w : World) :
    Calls Try.prog 6 #[.int .u8 z0, .slice a1 len1 cap1, .int .u8 z2] w fun e w' => e = .returned (.bool true) ∧ Kept (fun k => k < w.heap.size) w w' := by
  have r0 := new_yes 300 w (by decide) (by decide)
  have e0 : decide ((len1 : Int) > 60) = true := decide_eq_true (by omega)
  go_enter Try.func6, Try.ntmps6
  go_wp2_with fail
  refine r0.mono ?_
  rintro e w1 ⟨p, rfl, hp, hX1, hK1⟩
  have rk := sknown_any w1
  have HK1 : Hid (Kept (fun k => k < w.heap.size) w w1) := hK1
  clear r0 hX1 hK1
  go_wp2_with fail
  refine rk.mono ?_
  rintro e w2 ⟨rfl, hk2⟩
  have HK2 : Hid (Kept (fun k => k < w.heap.size) w w2) := HK1.out.trans (hk2.mono fun k h => Nat.lt_of_lt_of_le h HK1.out.size)
  clear rk hk2
  go_wp2
  go_ret
  exact ⟨rfl, HK2.out⟩
set_option maxRecDepth 20000 in
set_option maxHeartbeats 4000000 in
theorem given_go (a1 : Option Addr) (cap1 len1 : Nat) (T : List UInt8) (n : Nat) (c2 : UInt8) (hn : n < 256) (hT : T.length = len1) (h60 : len1 ≤ 60) (w : World) (r1 : RowB w a1 T) :
    Calls Try.prog 6 #[.int .u8 (n : Int), .slice a1 len1 cap1, .int .u8 (c2.toNat : Int)] w fun e w' => e = .returned (.bool true) ∧ Kept (fun k => k < w.heap.size) w w' := by
  have r0 := new_yes 300 w (by decide) (by decide)
  have HR1 : Hid (RowB w a1 T) := r1
  have HLT : Hid (T.length = len1) := hT
  have e0 : decide ((len1 : Int) > 60) = false := decide_eq_false (by omega)
  have b2 := c2.toNat_lt
  obtain ⟨z, hz⟩ : ∃ z, n % 20 = z := ⟨_, rfl⟩
  have hz9 : z < 20 := by omega
  obtain ⟨N, hN⟩ : ∃ N, 1 + z = N := ⟨_, rfl⟩
  have hNz : (1 : Int) + (z : Int) = (N : Int) := by omega
  have HNZ : Hid ((1 : Int) + (n : Int) % 20 = (N : Int)) := by
    have h : (1 : Int) + (n : Int) % 20 = (N : Int) := by omega
    exact h
  have hN0 : 0 < N := by omega
  have hN20 : N ≤ 20 := by omega
  obtain ⟨q, hq⟩ : ∃ q, c2.toNat % N = q := ⟨_, rfl⟩
  have hqN : q < N := by rw [← hq]; exact Nat.mod_lt _ hN0
  obtain ⟨y2, hy2⟩ : ∃ y2 : Nat, c2.toNat = y2 := ⟨_, rfl⟩
  rw [hy2] at hq b2 ⊢
  have hqt : (y2 : Int).tmod (N : Int) = (q : Int) := by rw [Int.tmod_eq_emod_of_nonneg (by omega), ← hq]; exact (Int.natCast_emod ..).symm
  have hqe : (y2 : Int) % (N : Int) = (q : Int) := by rw [← hq]; exact (Int.natCast_emod ..).symm
  obtain ⟨go, hgo⟩ : ∃ go, 4 + q = go := ⟨_, rfl⟩
  have hgoz : (4 : Int) + (q : Int) = (go : Int) := by omega
  have hgw : IntKind.i64.wrap (go : Int) = (go : Int) := by rw [IntKind.wrap_i64]; omega
  have HGO : Hid (4 ≤ go ∧ go < 4 + N) := ⟨by omega, by omega⟩
  clear r1 hT hN hy2 hgo
  go_enter Try.func6, Try.ntmps6
  go_wp2_with fail
  refine r0.mono ?_
  rintro e w1 ⟨p, rfl, hp, hX1, hK1⟩
  have rk := sknown_any w1
  have HS1 : Hid (Dst (fun k => k < w.heap.size) w1 p [frag0.new] (fun _ => [])) := Dst.start hX1
  have HK1 : Hid (Kept (fun k => k < w.heap.size) w w1) := hK1
  clear r0 hX1 hK1 hp
  go_wp2_with fail
  refine rk.mono ?_
  rintro e w2 ⟨rfl, hk2⟩
  have ra := stDiv (HS1.out.kept hk2)
  have HK2 : Hid (Kept (fun k => k < w.heap.size) w w2) := HK1.out.trans (hk2.mono fun k h => Nat.lt_of_lt_of_le h HK1.out.size)
  clear rk hk2 HS1 HK1
  go_wp2_with fail
  refine ra.mono ?_
  rintro e w3 ⟨rfl, s3, hK3⟩
  have rb := stRootM s3
  have HK3 : Hid (Kept (fun k => k < w.heap.size) w w3) := HK2.out.trans hK3
  clear ra s3 hK3 HK2
  go_wp2_with fail
  refine rb.mono ?_
  rintro e w4 ⟨rfl, s4, hK4⟩
  have rc := stSlot s4
  have HK4 : Hid (Kept (fun k => k < w.heap.size) w w4) := HK3.out.trans hK4
  clear rb s4 hK4 HK3
  go_wp2_with fail
  refine rc.mono ?_
  rintro e w5 ⟨rfl, s5, hK5⟩
  have rd := stIn s5
  have HK5 : Hid (Kept (fun k => k < w.heap.size) w w5) := HK4.out.trans hK5
  clear rc s5 hK5 HK4
  go_wp2_with fail
  refine rd.mono ?_
  rintro e w6 ⟨rfl, s6, hK6⟩
  have HS6 : Hid (Dst (fun k => k < w.heap.size) w6 p (xsR fgM [] 0 0) (rw4 [] (List.range' 4 0))) := by rw [xsR_00]; exact s6
  have HK6 : Hid (Kept (fun k => k < w.heap.size) w w6) := HK5.out.trans hK6
  have rl := HS6.out.len
  rw [show (xsR fgM [] 0 0).length = 4 by rw [xsR_len]] at rl
  clear rd s6 hK6 HK5
  go_wp2_with fail
  refine rl.mono ?_
  rintro e w7 ⟨rfl, hw7⟩
  replace hw7 := hw7.symm
  subst hw7
  clear rl
  go_upto_region 11 with fail
  rw [HNZ.out]
  clear hz hNz
  go_loopg [14] N (fun gh v wr => ∃ i : Nat, gh = N - i ∧ i ≤ N ∧ v = .int .i64 (i : Int) ∧ Dst (fun k => k < w.heap.size) wr p (xsR fgM [] i 0) (rw4 [] (List.range' 4 i)) ∧ Kept (fun k => k < w.heap.size) w wr)
  case atStart => exact ⟨0, rfl, Nat.zero_le _, rfl, HS6.out, HK6.out⟩
  case round =>
    clear HS6 HK6
    obtain ⟨i, hgi, hi, rfl, hs, hK⟩ := hrel
    have HS : Hid (Dst (fun k => k < w.heap.size) wr p (xsR fgM [] i 0) (rw4 [] (List.range' 4 i))) := hs
    have HK : Hid (Kept (fun k => k < w.heap.size) w wr) := hK
    clear hs hK
    by_cases hlt : i < N
    · have rm := stG_make HS.out (by omega)
      obtain ⟨x, hx⟩ : ∃ x, 4 + i = x := ⟨_, rfl⟩
      have HX : Hid (4 + i = x) := hx
      rw [hx] at rm
      clear hx
      go_wp2_with fail
      refine rm.mono ?_
      rintro e v1 ⟨rfl, s1, k1⟩
      have ri := stG_in s1 (by omega)
      rw [HX.out] at ri
      have HV1 : Hid (Kept (fun k => k < w.heap.size) w v1) := HK.out.trans k1
      clear rm s1 k1 HS HK
      go_wp2_with fail
      refine ri.mono ?_
      rintro e v2 ⟨rfl, s2, k2⟩
      have HS2 : Hid (Dst (fun k => k < w.heap.size) v2 p (xsR fgM [] (i + 1) 0) (rw4 [] (List.range' 4 (i + 1)))) := s2
      have HV2 : Hid (Kept (fun k => k < w.heap.size) w v2) := HV1.out.trans k2
      clear ri s2 k2 HV1
      go_wp2
      go_roundg (N - (i + 1))
      case rel => exact ⟨i + 1, rfl, by omega, by go_num, HS2.out, HV2.out⟩
      case measure => omega
    · have hin : i = N := by omega
      have ro := stG_out (go := go) (N := N) (by rw [← hin]; exact HS.out) HGO.out.1 HGO.out.2
      clear hgi hi hin HS
      go_wp2_with fail
      refine ro.mono ?_
      rintro e w8 ⟨rfl, s8, k8⟩
      have HS8 : Hid (Dst (fun k => k < w.heap.size) w8 p (xsR fgM [] N 0) (rw4 [] ((List.range' 4 N).erase go))) := s8
      have HK8 : Hid (Kept (fun k => k < w.heap.size) w w8) := HK.out.trans k8
      clear ro s8 k8 HK
      go_upto_region 19 with fail
      go_loopg [17, 18, 20] len1 (fun gh v17 v18 v20 wr => ∃ (j c m d : Nat) (al aw : Option Addr), gh = len1 - j ∧ j ≤ len1 ∧ v20 = .int .i64 (j : Int) ∧ v17 = .slice al j c ∧ v18 = .slice aw m d ∧ (wntA go [] ((T.take j).map (pl4 N))).length = m ∧ Rows2 w.heap.size wr p (xsR fgM [] N 0) (rw4 [] ((List.range' 4 N).erase go)) al j c ((T.take j).map (pl4 N)) aw m d (wntA go [] ((T.take j).map (pl4 N))) ∧ Kept (fun k => k < w.heap.size) w wr)
      case atStart =>
        exact ⟨0, 0, 0, 0, none, none, rfl, Nat.zero_le _, rfl, rfl, rfl, rfl, ⟨HS8.out.mono' (fun k hk => by
          rcases hk with h | h | h
          · exact h
          · exact absurd h (blk_none k)
          · exact absurd h (blk_none k)), OwnZ.nil _ _ _ _, OwnZ.nil _ _ _ _⟩, HK8.out⟩
      case round =>
        clear HS8 HK8 hlt
        obtain ⟨j, c, m, d, al, aw, hgj, hj, rfl, rfl, rfl, hm, hrw, hK⟩ := hrel
        obtain ⟨l, hll⟩ : ∃ l, (T.take j).map (pl4 N) = l := ⟨_, rfl⟩
        rw [hll] at hm hrw
        have hmb : m ≤ 60 := by
          have := wntA_len go l []
          rw [← hll, List.length_map, List.length_take, List.length_nil] at this
          rw [hll, hm] at this; omega
        obtain ⟨wl, hwl⟩ : ∃ wl, wntA go [] l = wl := ⟨_, rfl⟩
        rw [hwl] at hm hrw
        have HLL : Hid ((T.take j).map (pl4 N) = l) := hll
        have HWL : Hid (wntA go [] l = wl) := hwl
        have HM : Hid (wl.length = m) := hm
        have HRW : Hid (Rows2 w.heap.size wr p (xsR fgM [] N 0) (rw4 [] ((List.range' 4 N).erase go)) al j c l aw m d wl) := hrw
        have HK : Hid (Kept (fun k => k < w.heap.size) w wr) := hK
        clear hll hwl hm hrw
        by_cases hjt : j < len1
        · have hjT : j < T.length := by rw [HLT.out]; exact hjt
          obtain ⟨b, o, rfl, hb, hc⟩ := (HR1.out.kept hK) j hjT
          obtain ⟨cc, hcc⟩ : ∃ cc, T[j] = cc := ⟨_, rfl⟩
          rw [hcc] at hc
          have hy := cc.toNat_lt
          have HTS : Hid ((T.take (j + 1)).map (pl4 N) = l ++ [pl4 N cc]) := by
            rw [List.take_succ_eq_append_getElem hjT, List.map_append, HLL.out, hcc]; rfl
          obtain ⟨qc, hqc⟩ : ∃ qc, cc.toNat % N = qc := ⟨_, rfl⟩
          have hqcN : qc < N := by rw [← hqc]; exact Nat.mod_lt _ hN0
          obtain ⟨yc, hyc⟩ : ∃ yc : Nat, cc.toNat = yc := ⟨_, rfl⟩
          rw [hyc] at hc hy hqc
          have hqct : (yc : Int).tmod (N : Int) = (qc : Int) := by rw [Int.tmod_eq_emod_of_nonneg (by omega), ← hqc]; exact (Int.natCast_emod ..).symm
          have hqce : (yc : Int) % (N : Int) = (qc : Int) := by rw [← hqc]; exact (Int.natCast_emod ..).symm
          obtain ⟨x, hx⟩ : ∃ x, 4 + qc = x := ⟨_, rfl⟩
          have hxz : (4 : Int) + (qc : Int) = (x : Int) := by omega
          have hxw : IntKind.i64.wrap (x : Int) = (x : Int) := by rw [IntKind.wrap_i64]; omega
          have hpx : pl4 N cc = x := by unfold pl4; rw [hyc, hqc, hx]
          rw [hpx] at HTS
          have HXB : Hid (4 ≤ x ∧ x < 4 + N) := ⟨by omega, by omega⟩
          obtain ⟨b0, hb0⟩ : ∃ b0, ((x : Int) == (go : Int)) = b0 := ⟨_, rfl⟩
          have hb0' : b0 = decide (x = go ∨ x ∈ wl.take 0) := by
            rw [← hb0, List.take_zero]
            by_cases h : x = go
            · rw [decide_eq_true (.inl h), h]; simp
            · rw [decide_eq_false (by simp [h])]
              rw [beq_eq_false_iff_ne]; omega
          have HB0 : Hid (b0 = decide (x = go ∨ x ∈ wl.take 0)) := hb0'
          clear hK hcc hyc hqc hx hpx hb0'
          obtain ⟨wo, rfl⟩ : ∃ wo, wo = wr := ⟨_, rfl⟩
          go_upto_region 24 with fail
          go_loopg [22, 23] m (fun gh v22 v23 wr => ∃ (k : Nat) (b1 : Bool), gh = m - k ∧ k ≤ m ∧ v23 = .int .i64 (k : Int) ∧ v22 = .bool b1 ∧ b1 = decide (x = go ∨ x ∈ wl.take k) ∧ wr = wo)
          case atStart => exact ⟨0, b0, rfl, Nat.zero_le _, rfl, rfl, HB0.out, rfl⟩
          case round =>
            obtain ⟨k, b1, hgk, hk, rfl, rfl, hb1, rfl⟩ := hrel
            have HB1 : Hid (b1 = decide (x = go ∨ x ∈ wl.take k)) := hb1
            clear hb1
            by_cases hkm : k < m
            · have hkl : k < wl.length := by rw [HM.out]; exact hkm
              obtain ⟨g, rfl, hck⟩ := HRW.out.ow.cell (j := k) (u := .int .i64 ((wl[k] : Nat) : Int)) (by rw [ivs, List.getElem?_map, List.getElem?_eq_getElem hkl]; rfl)
              obtain ⟨v, hv⟩ : ∃ v, wl[k] = v := ⟨_, rfl⟩
              rw [hv] at hck
              have HT1 : Hid (wl.take (k + 1) = wl.take k ++ [v]) := by rw [List.take_succ_eq_append_getElem hkl, hv]; exact rfl
              clear hv
              cases b1 with
              | true =>
                have HB2 : Hid (true = decide (x = go ∨ x ∈ wl.take (k + 1))) := by
                  have := of_decide_eq_true HB1.out.symm
                  rw [HT1.out]
                  exact (decide_eq_true (by rcases this with h | h; exact .inl h; exact .inr (List.mem_append.2 (.inl h)))).symm
                go_wp2
                go_roundg (m - (k + 1))
                case rel => exact ⟨k + 1, true, rfl, by omega, by go_num, rfl, HB2.out, rfl⟩
                case measure => omega
              | false =>
                have hno := of_decide_eq_false HB1.out.symm
                by_cases hvx : v = x
                · have HB2 : Hid (true = decide (x = go ∨ x ∈ wl.take (k + 1))) := by
                    rw [HT1.out, hvx]
                    exact (decide_eq_true (.inr (List.mem_append.2 (.inr (List.mem_singleton.2 rfl))))).symm
                  subst hvx
                  clear hno
                  go_wp2
                  go_roundg (m - (k + 1))
                  case rel => exact ⟨k + 1, true, rfl, by omega, by go_num, rfl, HB2.out, rfl⟩
                  case measure => omega
                · have HB2 : Hid (false = decide (x = go ∨ x ∈ wl.take (k + 1))) := by
                    rw [HT1.out]
                    refine (decide_eq_false fun h => ?_).symm
                    rcases h with h | h
                    · exact hno (.inl h)
                    · rcases List.mem_append.1 h with h | h
                      · exact hno (.inr h)
                      · exact hvx (List.mem_singleton.1 h).symm
                  have hvi : ((v : Int) == (x : Int)) = false := by rw [beq_eq_false_iff_ne]; omega
                  have hvn : (v == x) = false := by rw [beq_eq_false_iff_ne]; exact hvx
                  clear hno
                  go_wp2
                  go_roundg (m - (k + 1))
                  case rel => exact ⟨k + 1, false, rfl, by omega, by go_num, rfl, HB2.out, rfl⟩
                  case measure => omega
            · have HBE : Hid (b1 = decide (x = go ∨ x ∈ wl)) := by
                have := HB1.out
                rw [List.take_of_length_le (by rw [HM.out]; omega)] at this
                exact this
              clear HB1 hb0
              obtain ⟨al', c', v1, hrun, hrw1, kv1⟩ := HRW.out.appL (by omega) x
              have HW1 : Hid (Kept (fun k => k < w.heap.size) w v1) := HK.out.trans kv1
              have HRW1 : Hid (Rows2 w.heap.size v1 p (xsR fgM [] N 0) (rw4 [] ((List.range' 4 N).erase go)) al' (j + 1) c' (l ++ [x]) aw m d wl) := hrw1
              clear hrw1 kv1
              cases b1 with
              | true =>
                have HWS : Hid (wntA go [] (l ++ [x]) = wl) := by
                  rw [wntA_snoc, HWL.out, if_pos (of_decide_eq_true HBE.out.symm)]; exact rfl
                go_wp2_with (at_builtin; refine wpList_appR (w' := v1) rfl (.tmp 119) (.tmp 121) 34 34 rfl _ _ (.slice al' (j + 1) c') rfl rfl hrun ?_)
                go_roundg (len1 - (j + 1))
                case rel => exact ⟨j + 1, c', m, d, al', aw, rfl, by omega, by go_num, rfl, rfl, by rw [HTS.out, HWS.out]; exact HM.out, by rw [HTS.out, HWS.out]; exact HRW1.out, HW1.out⟩
                case measure => omega
              | false =>
                obtain ⟨aw', d', v2, hrun2, hrw2, kv2⟩ := HRW1.out.swap.appL (by omega) x
                have HWS : Hid (wntA go [] (l ++ [x]) = wl ++ [x]) := by
                  rw [wntA_snoc, HWL.out, if_neg (of_decide_eq_false HBE.out.symm)]; exact rfl
                have HM2 : Hid ((wl ++ [x]).length = m + 1) := by
                  have := HM.out
                  rw [List.length_append, this]; rfl
                have HW2 : Hid (Kept (fun k => k < w.heap.size) w v2) := HW1.out.trans kv2
                have HRW2 : Hid (Rows2 w.heap.size v2 p (xsR fgM [] N 0) (rw4 [] ((List.range' 4 N).erase go)) al' (j + 1) c' (l ++ [x]) aw' (m + 1) d' (wl ++ [x])) := hrw2.swap
                clear hrw2 kv2
                go_wp2_with (at_builtin; first | refine wpList_appR (w' := v1) rfl (.tmp 119) (.tmp 121) 34 34 rfl _ _ (.slice al' (j + 1) c') rfl rfl hrun ?_ | refine wpList_appR (w' := v2) rfl (.tmp 125) (.tmp 127) 34 34 rfl _ _ (.slice aw' (m + 1) d') rfl rfl hrun2 ?_)
                go_roundg (len1 - (j + 1))
                case rel => exact ⟨j + 1, c', m + 1, d', al', aw', rfl, by omega, by go_num, rfl, rfl, by rw [HTS.out, HWS.out]; exact HM2.out, by rw [HTS.out, HWS.out]; exact HRW2.out, HW2.out⟩
                case measure => omega
        · have hjn : j = len1 := by omega
          have HAL : Hid (∀ x ∈ l, 4 ≤ x ∧ x < 4 + N) := fun x hx => by
            rw [← HLL.out] at hx
            obtain ⟨c, _, rfl⟩ := List.mem_map.1 hx
            have := Nat.mod_lt c.toNat hN0
            unfold pl4
            omega
          have hlj : l.length = j := by
            rw [← HLL.out, List.length_map, List.length_take, HLT.out]; omega
          have rg := stG_give HRW.out.dst HGO.out.1 HGO.out.2 l HAL.out (by omega) al j c hlj (fun t ht => by
            obtain ⟨g, e, hc⟩ := HRW.out.ol.cell (j := t) (u := .int .i64 ((l[t] : Nat) : Int)) (by rw [ivs, List.getElem?_map, List.getElem?_eq_getElem ht]; rfl)
            exact ⟨g, 0, e, by rw [Nat.zero_add]; exact hc⟩) (fun g o e hne => by
            obtain ⟨g', e', _⟩ := HRW.out.ol.cell (j := 0) (u := .int .i64 ((l[0]'(List.length_pos_iff.2 hne) : Nat) : Int)) (by rw [ivs, List.getElem?_map, List.getElem?_eq_getElem (List.length_pos_iff.2 hne)]; rfl)
            rw [e] at e'
            injection e' with e'
            injection e' with e1 e2
            subst e1 e2
            exact .inr (.inl e))
          clear hK hgj hj hjn hlj
          go_wp2_with fail
          refine rg.mono ?_
          rintro e w9 ⟨rfl, ⟨M, R, G, rk, hR, easg, efind⟩, k9⟩
          have ra := hR.assigned 3
          rw [easg, HWL.out] at ra
          have RF : Hid (∀ X, Kept (fun k => k < w9.heap.size) w9 X → Calls Try.prog 12 #[.pointer (some ⟨p, 0, none⟩), .int .i64 (go : Int)] X fun e w' => e = .returned (.int .i64 (-1)) ∧ Kept (fun k => k < X.heap.size) X w') := fun X hX => by
            have := (hR.kept hX).find (go : Int)
            rw [efind] at this
            exact this
          have HO9 : Hid (OwnZ (Ka w.heap.size al) w9 3 1 aw m d (ivs wl)) := HRW.out.ow.to (fun g hg => (HRW.out.ow.out hg).1) (fun g hg => k9.block g (.inr (.inr hg)))
          have HK9 : Hid (Kept (fun k => k < w.heap.size) w w9) := HK.out.trans (k9.mono fun k h => .inl h)
          clear rg hR easg efind k9 HRW
          go_wp2_with fail
          refine ra.mono ?_
          rintro e wA ⟨ab, ac, rfl, hOb, kA⟩
          rw [HM.out] at hOb ⊢
          have OA : OwnZ (Ka w.heap.size al) wA 3 1 aw m d (ivs wl) := HO9.out.to (fun g hg => (HO9.out.out hg).1) (fun g hg => kA.block g (HO9.out.out hg).2)
          have rs := rsameInts_any wl wl ab aw m m ac d HM.out HM.out (by omega) (by omega) wA (hOb.intsAt fun g hg => (hOb.out hg).2) (OA.intsAt fun g hg => (OA.out hg).2)
          rw [decide_eq_true rfl] at rs
          have HKA : Hid (Kept (fun k => k < w9.heap.size) w9 wA) := kA
          clear ra hOb OA kA
          go_wp2_with fail
          refine rs.mono ?_
          rintro e wB ⟨rfl, kB⟩
          have kB9 : Kept (fun k => k < w9.heap.size) w9 wB := HKA.out.trans (kB.mono fun k h => Nat.lt_of_lt_of_le h HKA.out.size)
          have rf := RF.out wB kB9
          have HKB : Hid (Kept (fun k => k < w9.heap.size) w9 wB) := kB9
          clear rs kB kB9
          go_wp2_with fail
          refine rf.mono ?_
          rintro e wC ⟨rfl, kC⟩
          have HKC : Hid (Kept (fun k => k < w.heap.size) w wC) := HK9.out.trans ((HKB.out.mono fun k h => Nat.lt_of_lt_of_le h HK9.out.size).trans (kC.mono fun k h => Nat.lt_of_lt_of_le h (Nat.le_trans HK9.out.size HKB.out.size)))
          clear rf kC
          go_wp2
          go_ret
          exact ⟨rfl, HKC.out⟩
end Go.Proofs.Ytljnjdckhkglfaa
