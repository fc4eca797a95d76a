/-
  The walk of SignalMoves, where the kid goes.
-/
import Derived.Test.YtljnjdckhkglfaaZh
namespace Go.Proofs.Ytljnjdckhkglfaa
open Go.RowKit Go.Sort
set_option linter.unusedVariables false
set_option maxRecDepth 20000 in
set_option maxHeartbeats 4000000 in
theorem moves_false (n y2 : Nat) (hn : n < 256) (hy2 : y2 < 256) (w : World) : Calls Try.prog 7 #[.int .u8 (n : Int), .int .u8 (y2 : Int), .bool false] w fun e w' => e = .returned (.bool true) ∧ Kept (fun k => k < w.heap.size) w w' := by
  have r0 := new_yes 300 w (by decide) (by decide)
  obtain ⟨z, hz⟩ : ∃ z, n % 20 = z := ⟨_, rfl⟩
  have hz9 : z < 20 := by omega
  obtain ⟨N, hN⟩ : ∃ N, 1 + z = N := ⟨_, rfl⟩
  have hNZ : (1 : Int) + (n : Int) % 20 = (N : Int) := by omega
  have HNZ : Hid ((1 : Int) + (n : Int) % 20 = (N : Int)) := hNZ
  have hN0 : 0 < N := by omega
  have hN20 : N ≤ 20 := by omega
  obtain ⟨q, hq⟩ : ∃ q, y2 % N = q := ⟨_, rfl⟩
  have hqN : q < N := by rw [← hq]; exact Nat.mod_lt _ hN0
  have hqe : (y2 : Int) % (N : Int) = (q : Int) := by rw [← hq]; exact (Int.natCast_emod ..).symm
  have hqt : (y2 : Int).tmod (N : Int) = (q : Int) := by rw [Int.tmod_eq_emod_of_nonneg (by omega)]; exact hqe
  obtain ⟨x, hx⟩ : ∃ x, 5 + q = x := ⟨_, rfl⟩
  have hxz : (5 : Int) + (q : Int) = (x : Int) := by omega
  have hxw : IntKind.i64.wrap (x : Int) = (x : Int) := by rw [IntKind.wrap_i64]; omega
  have HX : Hid (5 + q = x) := hx
  clear hz hN hNZ hq hx
  go_enter Try.func7, Try.ntmps7
  go_wp2_with fail
  refine r0.mono ?_
  rintro e w1 ⟨p, rfl, hp, hX1, hK1⟩
  have rb := bnew_any w1
  have H1 : Hid (Dst (fun k => k < w.heap.size) w1 p [frag0.new] (fun _ => [])) := Dst.start hX1
  have HK1 : Hid (Kept (fun k => k < w.heap.size) w w1) := hK1
  clear r0 hX1 hK1 hp
  go_wp2_with fail
  refine rb.mono ?_
  rintro e w2 ⟨b, rfl, hb, hk2⟩
  obtain ⟨E, hE⟩ : ∃ E : Nat → Prop, E = fun k => k = w1.heap.size ∨ k = w1.heap.size + 1 := ⟨_, rfl⟩
  rw [← hE] at hb
  have hEn : ∀ k, E k → w1.heap.size ≤ k := fun k hk => by rw [hE] at hk; rcases hk with h | h <;> omega
  have H2 : Hid (Dst (KE w.heap.size E) w2 p [frag0.new] (fun _ => [])) := H1.out.grow (hk2.mono fun k h => h.1) (fun k hk => by
    rcases hk with h | h
    · exact .inl h
    · exact .inr (hEn k h)) (fun k hk => by
    rcases hk with h | h
    · exact Nat.lt_of_lt_of_le h (Nat.le_trans HK1.out.size hk2.size)
    · exact hb.lt k h)
  have HB2 : Hid (Bo E w2 b 0 (fun _ => []) []) := hb
  have HEN : Hid (∀ k, E k → w.heap.size ≤ k) := fun k hk => Nat.le_trans HK1.out.size (hEn k hk)
  have HK2 : Hid (Kept (fun k => k < w.heap.size) w w2) := HK1.out.trans (hk2.mono fun k h => Nat.lt_of_lt_of_le h HK1.out.size)
  have rk := gknown_any w2
  clear rb hb hk2 hE hEn H1 HK1
  go_wp2_with fail
  refine rk.mono ?_
  rintro e w3 ⟨rfl, hk3⟩
  have ra := stDiv (H2.out.kept hk3)
  have HB3 : Hid (Bo E w3 b 0 (fun _ => []) []) := HB2.out.keptA hk3
  have HK3 : Hid (Kept (fun k => k < w.heap.size) w w3) := HK2.out.trans (hk3.mono fun k h => Nat.lt_of_lt_of_le h HK2.out.size)
  clear rk hk3 H2 HB2 HK2
  go_wp2_with fail
  refine ra.mono ?_
  rintro e w4 ⟨rfl, s4, hK4⟩
  have rr := stRoot s4 fg0
  have HB4 : Hid (Bo E w4 b 0 (fun _ => []) []) := HB3.out.kept (hK4.mono fun k h => .inr h)
  have HK4 : Hid (Kept (fun k => k < w.heap.size) w w4) := HK3.out.trans (hK4.mono fun k h => .inl h)
  clear ra s4 hK4 HB3 HK3
  go_wp2_with fail
  refine rr.mono ?_
  rintro e w5 ⟨rfl, s5, hK5⟩
  have HS5 : Hid (Dst (KE w.heap.size E) w5 p (xsH (AB.take 0) []) (QH (List.range' 3 0) [])) := by
    have e : (QH (List.range' 3 0) [] : Nat → List Nat) = fun _ => [] := by funext k; unfold QH; split; rfl; split <;> rfl
    rw [e]; exact s5
  have HB5 : Hid (Bo E w5 b 0 (fun _ => []) []) := HB4.out.kept (hK5.mono fun k h => .inr h)
  have HK5 : Hid (Kept (fun k => k < w.heap.size) w w5) := HK4.out.trans (hK5.mono fun k h => .inl h)
  clear rr s5 hK5 HB4 HK4
  go_upto_region 8 with fail
  go_loopg [11] 2 (fun gh v wr => ∃ i : Nat, gh = 2 - i ∧ i ≤ 2 ∧ v = .int .i64 (i : Int) ∧ Dst (KE w.heap.size E) wr p (xsH (AB.take i) []) (QH (List.range' 3 i) []) ∧ Bo E wr b 0 (fun _ => []) [] ∧ Kept (fun k => k < w.heap.size) w wr)
  case atStart => exact ⟨0, rfl, Nat.zero_le _, rfl, HS5.out, HB5.out, HK5.out⟩
  case round =>
    clear HS5 HB5 HK5
    obtain ⟨i, hgi, hi, rfl, hs, hb, hK⟩ := hrel
    have HB : Hid (Bo E wr b 0 (fun _ => []) []) := hb
    have HK : Hid (Kept (fun k => k < w.heap.size) w wr) := hK
    clear hb hK
    rcases (show i = 0 ∨ i = 1 ∨ i = 2 by omega) with rfl | rfl | rfl
    · have rm := stH_slot (A := AB.take 0) hs (by decide)
      have rm' : Calls Try.prog 16 #[.pointer (some ⟨p, 0, none⟩), plainV 1 slotBB ⟨#[]⟩] wr fun e w' => e = .returned (.tuple #[.int .i64 3, .int .u16 0]) ∧ Dst (KE w.heap.size E) w' p (xsH (AB.take 0) [] ++ [elD slotN]) (QH (List.range' 3 0) []) ∧ Kept (KE w.heap.size E) wr w' := rm
      clear hs rm
      go_wp2_with fail
      refine rm'.mono ?_
      rintro e v1 ⟨rfl, s1, k1⟩
      have rs : ∀ ob, Calls Try.prog 14 #[.pointer (some ⟨p, 0, none⟩), .int .i64 3, .string nameBB, .string ⟨#[97]⟩] (v1.alloc ob) fun e w' => e = .returned (.int .u16 0) ∧ Dst (KE w.heap.size E) w' p (xsH (AB.take 0) [] ++ [slN1 (nmQ 1)]) (QH (List.range' 3 0) []) ∧ Kept (KE w.heap.size E) (v1.alloc ob) w' := fun ob => stH_name (t := 1) (s1.kept ((Kept.refl _ v1).alloc (fun _ h => h) ob)) (by decide) (k := 3) rfl
      have HB1 : Hid (∀ ob, Bo E (v1.alloc ob) b 0 (fun _ => []) [] ∧ Kept (fun k => k < w.heap.size) w (v1.alloc ob)) := fun ob => by
        have hB1 : Bo E v1 b 0 (fun _ => []) [] := HB.out.kept (k1.mono fun k h => .inr h)
        have hk1 : Kept (fun k => k < w.heap.size) w v1 := HK.out.trans (k1.mono fun k h => .inl h)
        have ka : Kept (fun k => k < v1.heap.size) v1 (v1.alloc ob) := (Kept.refl _ v1).alloc (fun _ h => h) ob
        exact ⟨hB1.keptA ka, hk1.trans (ka.mono fun k h => Nat.lt_of_lt_of_le h hk1.size)⟩
      clear rm' s1 k1 HB HK
      go_wp2_with fail
      refine (rs _).mono ?_
      rintro e v2 ⟨rfl, s2, k2⟩
      have ri := stH_in (nmQ 1) (A := AB.take 0) (by rw [xsH_snoc] at s2; exact s2)
      have ri' : Calls Try.prog 17 #[.pointer (some ⟨p, 0, none⟩), .int .i64 2, .int .i64 3, .int .i64 (-1)] v2 fun e w' => e = .returned (.int .u16 0) ∧ Dst (KE w.heap.size E) w' p (xsH (AB.take 1) []) (QH (List.range' 3 1) []) ∧ Kept (KE w.heap.size E) v2 w' := ri
      have HB2 : Hid (Bo E v2 b 0 (fun _ => []) []) := (HB1.out _).1.kept (k2.mono fun k h => .inr h)
      have HV2 : Hid (Kept (fun k => k < w.heap.size) w v2) := (HB1.out _).2.trans (k2.mono fun k h => .inl h)
      clear rs s2 k2 HB1 ri
      go_wp2_with fail
      refine ri'.mono ?_
      rintro e v3 ⟨rfl, s3, k3⟩
      have HS3 : Hid (Dst (KE w.heap.size E) v3 p (xsH (AB.take 1) []) (QH (List.range' 3 1) [])) := s3
      have HB3 : Hid (Bo E v3 b 0 (fun _ => []) []) := HB2.out.kept (k3.mono fun k h => .inr h)
      have HV3 : Hid (Kept (fun k => k < w.heap.size) w v3) := HV2.out.trans (k3.mono fun k h => .inl h)
      clear ri' s3 k3 HB2 HV2
      go_wp2
      go_roundg 1
      case rel => exact ⟨1, rfl, by decide, by go_num, HS3.out, HB3.out, HV3.out⟩
      case measure => omega
    · have rm := stH_slot (A := AB.take 1) hs (by decide)
      have rm' : Calls Try.prog 16 #[.pointer (some ⟨p, 0, none⟩), plainV 1 slotBB ⟨#[]⟩] wr fun e w' => e = .returned (.tuple #[.int .i64 4, .int .u16 0]) ∧ Dst (KE w.heap.size E) w' p (xsH (AB.take 1) [] ++ [elD slotN]) (QH (List.range' 3 1) []) ∧ Kept (KE w.heap.size E) wr w' := rm
      clear hs rm
      go_wp2_with fail
      refine rm'.mono ?_
      rintro e v1 ⟨rfl, s1, k1⟩
      have rs : ∀ ob, Calls Try.prog 14 #[.pointer (some ⟨p, 0, none⟩), .int .i64 4, .string nameBB, .string ⟨#[98]⟩] (v1.alloc ob) fun e w' => e = .returned (.int .u16 0) ∧ Dst (KE w.heap.size E) w' p (xsH (AB.take 1) [] ++ [slN1 (nmQ 2)]) (QH (List.range' 3 1) []) ∧ Kept (KE w.heap.size E) (v1.alloc ob) w' := fun ob => stH_name (t := 2) (s1.kept ((Kept.refl _ v1).alloc (fun _ h => h) ob)) (by decide) (k := 4) rfl
      have HB1 : Hid (∀ ob, Bo E (v1.alloc ob) b 0 (fun _ => []) [] ∧ Kept (fun k => k < w.heap.size) w (v1.alloc ob)) := fun ob => by
        have hB1 : Bo E v1 b 0 (fun _ => []) [] := HB.out.kept (k1.mono fun k h => .inr h)
        have hk1 : Kept (fun k => k < w.heap.size) w v1 := HK.out.trans (k1.mono fun k h => .inl h)
        have ka : Kept (fun k => k < v1.heap.size) v1 (v1.alloc ob) := (Kept.refl _ v1).alloc (fun _ h => h) ob
        exact ⟨hB1.keptA ka, hk1.trans (ka.mono fun k h => Nat.lt_of_lt_of_le h hk1.size)⟩
      clear rm' s1 k1 HB HK
      go_wp2_with fail
      refine (rs _).mono ?_
      rintro e v2 ⟨rfl, s2, k2⟩
      have ri := stH_in (nmQ 2) (A := AB.take 1) (by rw [xsH_snoc] at s2; exact s2)
      have ri' : Calls Try.prog 17 #[.pointer (some ⟨p, 0, none⟩), .int .i64 2, .int .i64 4, .int .i64 (-1)] v2 fun e w' => e = .returned (.int .u16 0) ∧ Dst (KE w.heap.size E) w' p (xsH (AB.take 2) []) (QH (List.range' 3 2) []) ∧ Kept (KE w.heap.size E) v2 w' := ri
      have HB2 : Hid (Bo E v2 b 0 (fun _ => []) []) := (HB1.out _).1.kept (k2.mono fun k h => .inr h)
      have HV2 : Hid (Kept (fun k => k < w.heap.size) w v2) := (HB1.out _).2.trans (k2.mono fun k h => .inl h)
      clear rs s2 k2 HB1 ri
      go_wp2_with fail
      refine ri'.mono ?_
      rintro e v3 ⟨rfl, s3, k3⟩
      have HS3 : Hid (Dst (KE w.heap.size E) v3 p (xsH (AB.take 2) []) (QH (List.range' 3 2) [])) := s3
      have HB3 : Hid (Bo E v3 b 0 (fun _ => []) []) := HB2.out.kept (k3.mono fun k h => .inr h)
      have HV3 : Hid (Kept (fun k => k < w.heap.size) w v3) := HV2.out.trans (k3.mono fun k h => .inl h)
      clear ri' s3 k3 HB2 HV2
      go_wp2
      go_roundg 0
      case rel => exact ⟨2, rfl, by decide, by go_num, HS3.out, HB3.out, HV3.out⟩
      case measure => omega
    · have HS0 : Hid (Dst (KE w.heap.size E) wr p (xsH AB (reB 0)) (QH [3, 4] (List.range' 5 0))) := hs
      obtain ⟨wo, rfl⟩ : ∃ wo, wo = wr := ⟨_, rfl⟩
      clear hs hgi hi
      go_upto_region 15 with fail
      rw [HNZ.out]
      go_loopg [15] N (fun gh v wr => ∃ i : Nat, gh = N - i ∧ i ≤ N ∧ v = .int .i64 (i : Int) ∧ Dst (KE w.heap.size E) wr p (xsH AB (reB i)) (QH [3, 4] (List.range' 5 i)) ∧ Bo E wr b 0 (fun _ => []) [] ∧ Kept (fun k => k < w.heap.size) w wr)
      case atStart => exact ⟨0, rfl, Nat.zero_le _, rfl, HS0.out, HB.out, HK.out⟩
      case round =>
        clear HS0 HB HK
        obtain ⟨i, hgi, hi, rfl, hs, hb, hK⟩ := hrel
        have HB : Hid (Bo E wr b 0 (fun _ => []) []) := hb
        have HK : Hid (Kept (fun k => k < w.heap.size) w wr) := hK
        have hrl : (reB i).length = i := List.length_replicate ..
        clear hb hK
        by_cases hlt : i < N
        · have rm := stH_el (A := AB) (B := reB i) (by rw [hrl]; exact hs) (by rw [hrl]; show 2 + i < 200; omega)
          rw [hrl] at rm
          obtain ⟨m, hm⟩ : ∃ m, 5 + i = m := ⟨_, rfl⟩
          have rm' : Calls Try.prog 16 #[.pointer (some ⟨p, 0, none⟩), plainV 1 ⟨#[98]⟩ ⟨#[]⟩] wr fun e w' => e = .returned (.tuple #[.int .i64 (m : Int), .int .u16 0]) ∧ Dst (KE w.heap.size E) w' p (xsH AB (reB i) ++ [elD [98]]) (QH [3, 4] (List.range' 5 i)) ∧ Kept (KE w.heap.size E) wr w' := by rw [← hm]; exact rm
          have HM : Hid (5 + i = m) := hm
          have HRL : Hid ((reB i).length = i) := hrl
          clear hs rm hm hrl
          go_wp2_with fail
          refine rm'.mono ?_
          rintro e v1 ⟨rfl, s1, k1⟩
          have rs := stH_ask (t := 1) s1 (by decide) (k := m) (by rw [mv_len, HRL.out]; exact HM.out)
          have rs' : Calls Try.prog 14 #[.pointer (some ⟨p, 0, none⟩), .int .i64 (m : Int), .string slotBB, .string ⟨#[97]⟩] v1 fun e w' => e = .returned (.int .u16 0) ∧ Dst (KE w.heap.size E) w' p (xsH AB (reB i) ++ [kdE (nmQ 1)]) (QH [3, 4] (List.range' 5 i)) ∧ Kept (KE w.heap.size E) v1 w' := rs
          have HB1 : Hid (Bo E v1 b 0 (fun _ => []) []) := HB.out.kept (k1.mono fun k h => .inr h)
          have HV1 : Hid (Kept (fun k => k < w.heap.size) w v1) := HK.out.trans (k1.mono fun k h => .inl h)
          clear rm' s1 k1 rs HB HK
          go_wp2_with fail
          refine rs'.mono ?_
          rintro e v2 ⟨rfl, s2, k2⟩
          have ri := stH_kin (A := AB) (B := reB i) (fun y hy => by rw [(List.mem_replicate.1 hy).2]; exact .e _) (x := kdE (nmQ 1)) (.e _) (K := KE w.heap.size E) (w := v2) (p := p) (by rw [HRL.out, ← xsH_more]; exact s2)
          have ri' : Calls Try.prog 17 #[.pointer (some ⟨p, 0, none⟩), .int .i64 1, .int .i64 (m : Int), .int .i64 (-1)] v2 fun e w' => e = .returned (.int .u16 0) ∧ Dst (KE w.heap.size E) w' p (xsH AB (reB (i + 1))) (QH [3, 4] (List.range' 5 (i + 1))) ∧ Kept (KE w.heap.size E) v2 w' := by
            have e2 : reB i ++ [kdE (nmQ 1)] = reB (i + 1) := List.replicate_succ'.symm
            rw [e2, HRL.out, show (reB (i + 1)).length = i + 1 from List.length_replicate ..] at ri
            rw [← HM.out]
            exact ri
          have HB2 : Hid (Bo E v2 b 0 (fun _ => []) []) := HB1.out.kept (k2.mono fun k h => .inr h)
          have HV2 : Hid (Kept (fun k => k < w.heap.size) w v2) := HV1.out.trans (k2.mono fun k h => .inl h)
          clear rs' s2 k2 ri HB1 HV1
          go_wp2_with fail
          refine ri'.mono ?_
          rintro e v3 ⟨rfl, s3, k3⟩
          have HS3 : Hid (Dst (KE w.heap.size E) v3 p (xsH AB (reB (i + 1))) (QH [3, 4] (List.range' 5 (i + 1)))) := s3
          have HB3 : Hid (Bo E v3 b 0 (fun _ => []) []) := HB2.out.kept (k3.mono fun k h => .inr h)
          have HV3 : Hid (Kept (fun k => k < w.heap.size) w v3) := HV2.out.trans (k3.mono fun k h => .inl h)
          clear ri' s3 k3 HB2 HV2
          go_wp2
          go_roundg (N - (i + 1))
          case rel => exact ⟨i + 1, rfl, by omega, by go_num, HS3.out, HB3.out, HV3.out⟩
          case measure => omega
        · have hin : i = N := by omega
          have s6 : Dst (KE w.heap.size E) wr p (xsH AB (reB N)) (QH [3, 4] (List.range' 5 N)) := by rw [← hin]; exact hs
          obtain ⟨M, R, G, rk, hR, hD⟩ := s6.rd
          have hMn : M.n = 5 + N := by rw [hD.n, mv_len]; simp
          have rs := see_any HB.out hR (fun k h => .inr h) (by omega) (by rw [hMn]; show 0 + (5 + N) ≤ 90000; omega) (fun _ => Nat.zero_le _)
          rw [hMn, (one_see hD hR.inv hN0).1, (one_see hD hR.inv hN0).2] at rs
          have H6 : Hid (Dst (KE w.heap.size E) wr p (xsH AB (reB N)) (QH [3, 4] (List.range' 5 N))) := s6
          clear hs hgi hi hin s6 hR hD hMn hrl
          go_wp2_with fail
          refine rs.mono ?_
          rintro e w7 ⟨rfl, E7, n7, hb7, hn7, hg7⟩
          have rt := take_any hb7 (by decide)
          have H7 : Hid (Dst (KE w.heap.size E7) w7 p (xsH AB (reB N)) (QH [3, 4] (List.range' 5 N))) := H6.out.grow (hg7.kept.mono fun k hk => ⟨hk.1, fun he => hk.2 (.inr he)⟩) (fun k hk => by
            rcases hk with h | h
            · exact .inl (.inl h)
            · rcases hg7.new k h with h | h
              · exact .inl (.inr h)
              · exact .inr h) (fun k hk => by
            rcases hk with h | h
            · exact Nat.lt_of_lt_of_le h (Nat.le_trans HK.out.size hg7.kept.size)
            · exact hb7.lt k h)
          have HK7 : Hid (Kept (fun k => k < w.heap.size) w w7) := HK.out.trans (hg7.kept.mono fun k h => ⟨Nat.lt_of_lt_of_le h HK.out.size, fun he => by have := HEN.out k he; omega⟩)
          have HE7 : Hid (∀ k, E7 k → w.heap.size ≤ k) := fun k hk => by
            rcases hg7.new k hk with h | h
            · exact HEN.out k h
            · exact Nat.le_trans HK.out.size h
          have HN7 : Hid (n7 ≤ 25) := by
            have h : n7 ≤ 25 := by omega
            exact h
          have HL7 : Hid (∀ k, E7 k → k < w7.heap.size) := hb7.lt
          clear rs hb7 hn7 hg7 H6 HK HB HEN
          go_wp2_with fail
          refine rt.mono ?_
          rintro e w8 ⟨oa, oc, rfl, hO8, hb8, hk8⟩
          have HO8 : Hid (OwnZ (fun k => k < w7.heap.size) w8 3 1 oa 1 oc (ivs [3])) := hO8
          have s8 : Dst (KE w.heap.size fun k => E7 k ∨ blkOf oa k) w8 p (xsH AB (reB N)) (QH [3, 4] (List.range' 5 N)) := H7.out.grow (hk8.mono fun k hk => ⟨hk.1, fun he => hk.2 (.inr he)⟩) (fun k hk => by
            rcases hk with h | h | h
            · exact .inl (.inl h)
            · exact .inl (.inr h)
            · exact .inr (Nat.le_of_not_lt (hO8.out h).1)) (fun k hk => by
            rcases hk with h | h | h
            · exact Nat.lt_of_lt_of_le h (Nat.le_trans HK7.out.size hk8.size)
            · exact hb8.lt k h
            · exact (hO8.out h).2)
          have HB8 : Hid (Bo E7 w8 b n7 (knE N) []) := hb8
          have HK8 : Hid (Kept (fun k => k < w.heap.size) w w8) := HK7.out.trans (hk8.mono fun k h => ⟨Nat.lt_of_lt_of_le h HK7.out.size, fun he => by have := HE7.out k he; omega⟩)
          have s9 := s8
          have rset := stM_set (j := q) s9 hqN slotBB ⟨#[98]⟩ [⟨slotN, [98]⟩] (kdE (nmQ 2)) rfl (by rw [slotBB_list, ByteArray.toList_eq]; rfl) (by kernel_rfl) (by kernel_rfl) (by decide) (by decide) (k := x) HX.out
          clear rt hO8 hb8 hk8 s8 s9 H7 HK7
          go_wp2_with fail
          refine rset.mono ?_
          rintro e w9 ⟨rfl, s9, k9⟩
          obtain ⟨M, R, G, rk, hR, hD⟩ := s9.rd
          have hMn : M.n = 5 + N := by rw [hD.n, mv_len, List.length_set]; simp
          have hb9 : Bo E7 w9 b n7 (knE N) [] := HB8.out.kept (k9.mono fun k h => .inr (.inl h))
          have rs := see_any hb9 hR (fun k h => .inr (.inl h)) (by have := HN7.out; omega) (by rw [hMn]; show 0 + (5 + N) ≤ 90000; omega) (fun i => by
            unfold knE; split
            · rw [List.length_range']; omega
            · exact Nat.zero_le _)
          rw [hMn, two_move hqN hD hR.inv] at rs
          have HK9 : Hid (Kept (fun k => k < w.heap.size) w w9) := HK8.out.trans (k9.mono fun k h => .inl h)
          have HO9 : Hid (OwnZ (fun k => k < w7.heap.size) w9 3 1 oa 1 oc (ivs [3])) := HO8.out.to (fun g hg => (HO8.out.out hg).1) (fun g hg => k9.block g (.inr (.inr hg)))
          clear rset s9 k9 hR hD hMn hb9 HB8 HK8 HO8
          go_wp2_with fail
          refine rs.mono ?_
          rintro e wA ⟨rfl, EA, nA, hbA, hnA, hgA⟩
          have rt := take_any hbA (by decide)
          have HOA : Hid (OwnZ (fun k => k < w7.heap.size) wA 3 1 oa 1 oc (ivs [3])) := HO9.out.to (fun g hg => (HO9.out.out hg).1) (fun g hg => hgA.kept.block g ⟨(HO9.out.out hg).2, fun he => (HO9.out.out hg).1 (HL7.out g he)⟩)
          have HEA : Hid (∀ k, EA k → w.heap.size ≤ k ∧ ¬ blkOf oa k) := fun k hk => by
            rcases hgA.new k hk with h | h
            · exact ⟨HE7.out k h, fun hh => (HO9.out.out hh).1 (HL7.out k h)⟩
            · exact ⟨Nat.le_trans HK9.out.size h, fun hh => by have := (HO9.out.out hh).2; omega⟩
          have HKA : Hid (Kept (fun k => k < w.heap.size) w wA) := HK9.out.trans (hgA.kept.mono fun k h => ⟨Nat.lt_of_lt_of_le h HK9.out.size, fun he => by have := HE7.out k he; omega⟩)
          clear rs hbA hnA hgA HO9 HK9 HE7 HL7
          go_wp2_with fail
          refine rt.mono ?_
          rintro e wB ⟨ta, tc, rfl, hOt, -, hkB⟩
          have HOB : Hid (OwnZ (fun k => k < w7.heap.size) wB 3 1 oa 1 oc (ivs [3])) := HOA.out.to (fun g hg => (HOA.out.out hg).1) (fun g hg => hkB.block g ⟨(HOA.out.out hg).2, fun he => (HEA.out g he).2 hg⟩)
          have HTB : Hid (OwnZ (fun k => k < wA.heap.size) wB 3 1 ta 2 tc (ivs [3, 4])) := hOt
          have HKB : Hid (Kept (fun k => k < w.heap.size) w wB) := HKA.out.trans (hkB.mono fun k h => ⟨Nat.lt_of_lt_of_le h HKA.out.size, fun he => by have := (HEA.out k he).1; omega⟩)
          clear rt hOt hkB HOA HKA HEA
          have rc : ∀ ob, ob = Obj.cells #[.int .i64 3] 3 → Calls Try.prog 19 #[.slice oa 1 oc, .slice (some ⟨wB.heap.size, 0, none⟩) 1 1] (wB.alloc ob) fun e w' => e = .returned (.bool true) ∧ Kept (fun k => k < (wB.alloc ob).heap.size) (wB.alloc ob) w' := fun ob hob => by
            have ka : Kept (fun k => k < wB.heap.size) wB (wB.alloc ob) := (Kept.refl _ wB).alloc (fun _ h => h) ob
            have hn := heap_alloc_new wB ob
            rw [hob] at hn
            have := rsameInts_any [3] [3] oa (some ⟨wB.heap.size, 0, none⟩) 1 1 oc 1 rfl rfl (by decide) (by decide) (wB.alloc ob) ((HOB.out.intsAt fun g hg => (HOB.out.out hg).2).to (fun g hg => Nat.lt_of_lt_of_le hg ka.size) (fun g hg => ka.block g hg)) (fun j hj => by
              have hj0 : j = 0 := by simp at hj; omega
              subst hj0
              rw [hob]
              exact ⟨wB.heap.size, 0, rfl, by have := lt_block hn; exact this, by rw [cell_block hn]; rfl⟩)
            rw [decide_eq_true rfl] at this
            exact this
          have HA : Hid (∀ ob, Kept (fun k => k < wB.heap.size) wB (wB.alloc ob)) := fun ob => (Kept.refl _ wB).alloc (fun _ h => h) ob
          go_wp2_with fail
          refine (rc _ rfl).mono ?_
          rintro e wC ⟨rfl, kC⟩
          have kC' : Kept (fun k => k < wB.heap.size) wB wC := (HA.out _).trans (kC.mono fun k h => Nat.lt_of_lt_of_le h (HA.out _).size)
          have HKC : Hid (Kept (fun k => k < w.heap.size) w wC) := HKB.out.trans (kC'.mono fun k h => Nat.lt_of_lt_of_le h HKB.out.size)

          have HTC : Hid (OwnZ (fun k => k < wA.heap.size) wC 3 1 ta 2 tc (ivs [3, 4])) := HTB.out.to (fun g hg => (HTB.out.out hg).1) (fun g hg => kC'.block g (HTB.out.out hg).2)
          have rd : ∀ ob, ob = Obj.cells #[.int .i64 3, .int .i64 4] 3 → Calls Try.prog 19 #[.slice ta 2 tc, .slice (some ⟨wC.heap.size, 0, none⟩) 2 2] (wC.alloc ob) fun e w' => e = .returned (.bool true) ∧ Kept (fun k => k < (wC.alloc ob).heap.size) (wC.alloc ob) w' := fun ob hob => by
            have ka : Kept (fun k => k < wC.heap.size) wC (wC.alloc ob) := (Kept.refl _ wC).alloc (fun _ h => h) ob
            have hn := heap_alloc_new wC ob
            rw [hob] at hn
            have := rsameInts_any [3, 4] [3, 4] ta (some ⟨wC.heap.size, 0, none⟩) 2 2 tc 2 rfl rfl (by decide) (by decide) (wC.alloc ob) ((HTC.out.intsAt fun g hg => (HTC.out.out hg).2).to (fun g hg => Nat.lt_of_lt_of_le hg ka.size) (fun g hg => ka.block g hg)) (fun j hj => by
              have hj0 : j = 0 ∨ j = 1 := by simp at hj; omega
              rw [hob]
              rcases hj0 with rfl | rfl
              · exact ⟨wC.heap.size, 0, rfl, by have := lt_block hn; exact this, by rw [cell_block hn]; rfl⟩
              · exact ⟨wC.heap.size, 0, rfl, by have := lt_block hn; exact this, by rw [cell_block hn]; rfl⟩)
            rw [decide_eq_true rfl] at this
            exact this
          have HA2 : Hid (∀ ob, Kept (fun k => k < wC.heap.size) wC (wC.alloc ob)) := fun ob => (Kept.refl _ wC).alloc (fun _ h => h) ob
          clear rc kC kC' HA
          go_wp2_with fail
          refine (rd _ rfl).mono ?_
          rintro e wD ⟨rfl, kD⟩
          have kD' : Kept (fun k => k < wC.heap.size) wC wD := (HA2.out _).trans (kD.mono fun k h => Nat.lt_of_lt_of_le h (HA2.out _).size)
          have HKD : Hid (Kept (fun k => k < w.heap.size) w wD) := HKC.out.trans (kD'.mono fun k h => Nat.lt_of_lt_of_le h HKC.out.size)
          clear rd kD kD' HA2
          go_wp2
          go_ret
          exact ⟨rfl, HKD.out⟩
end Go.Proofs.Ytljnjdckhkglfaa
