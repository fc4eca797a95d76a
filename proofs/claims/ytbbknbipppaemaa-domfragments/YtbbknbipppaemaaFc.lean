/-
  The walk of DomFragments.
-/
import Derived.Test.YtbbknbipppaemaaFb
namespace Go.Proofs.Ytbbknbipppaemaa
open Go.RowKit
set_option linter.unusedVariables false

set_option maxRecDepth 20000 in
set_option maxHeartbeats 4000000 in
theorem frags_go (n m at_ : Nat) (hn : n < 20) (hm : m < 20) (hat : at_ ≤ 255) (a0 a1 : Int) (h0 : a0.tmod 20 = (n : Int)) (h1 : a1.tmod 20 = (m : Int)) (w : World) :
    Calls Try.prog 4 #[.int .u8 a0, .int .u8 a1, .int .u8 (at_ : Int)] w fun e w' => e = .returned (.bool true) ∧ Kept (fun k => k < w.heap.size) w w' := by
  obtain ⟨B, hB⟩ : ∃ B, w.heap.size = B := ⟨_, rfl⟩
  have rp := plain_any n (by omega) w
  rw [hB] at rp ⊢
  have HBB : Hid (w.heap.size = B) := hB
  clear hB
  go_enter Try.func4, Try.ntmps4
  go_wp2_with fail
  refine rp.mono ?_
  rintro e w1 ⟨p, M0, R0, rk0, rfl, hp, hX0, hG0, hD0, hS0, hK0⟩
  have rf := make1 (fun k => k < B) p M0 w1 4 4 ⟨#[]⟩ ⟨#[]⟩ [] [] rfl empB_list empB_list hX0 (by rw [hD0.len]; omega) (by rw [hD0.lim]; omega) sound_frag (by decide) (by rw [hD0.len, hD0.lim]; omega)
  rw [frag_mk] at rf
  have hl0 := hD0.len
  rw [hl0] at rf
  have HF0 : Hid (FrD (M0.add frag0) (updR R0 M0.n []) n 0) := FrD.start hD0 hS0
  have HG0 : Hid (Good (M0.add frag0) (updR R0 M0.n []) rk0) := hG0.add frag0 (Nat.zero_le _)
  have HK0 : Hid (Kept (fun k => k < B) w w1) := hK0
  have HRF : Hid (Calls Try.prog 13 #[.pointer (some ⟨p, 0, none⟩), plainV 4 ⟨#[]⟩ ⟨#[]⟩] w1 fun e w' => e = .returned (.tuple #[.int .i64 ((n + 1 : Nat) : Int), .int .u16 0]) ∧ DX (fun k => k < B) w' p (M0.add frag0) ∧ Kept (fun k => k < B) w1 w') := rf
  clear rp rf hX0 hG0 hD0 hS0 hK0 hl0
  go_wp2_with fail
  refine HRF.out.mono ?_
  rintro e w2 ⟨rfl, hX2, hK2⟩
  have HX2 : Hid (DX (fun k => k < B) w2 p (M0.add frag0)) := hX2
  have HK2 : Hid (Kept (fun k => k < B) w w2) := HK0.out.trans hK2
  clear HRF hX2 hK2
  go_upto_region 7 with fail
  go_loopg [11, 10] m (fun gh v o wr => ∃ (j : Nat) (M : Dm) (R : Nat → List Nat) (rk : Nat → Nat) (ao : Option Addr) (cap : Nat), gh = m - j ∧ j ≤ m ∧ v = .int .i64 (j : Int) ∧ o = .slice ao j cap ∧ DX (fun k => k < B ∨ blkOf ao k) wr p M ∧ Good M R rk ∧ FrD M R n j ∧ OwnZ (fun k => k < B) wr 3 1 ao j cap (ivs (ownL n j)) ∧ Kept (fun k => k < B) w wr)
  case atStart => exact ⟨0, M0.add frag0, updR R0 M0.n [], rk0, none, 0, rfl, Nat.zero_le _, rfl, rfl, HX2.out.more (Kept.refl _ _) (fun k hk => by rcases hk with h | h; exact .inl h; cases h) (fun k hk => by rcases hk with h | h; exact HX2.out.lt k h; cases h), HG0.out, HF0.out, OwnZ.nil _ _ _ _, HK2.out⟩
  case round =>
    clear HX2 HG0 HF0 HK2
    obtain ⟨j, M, R, rk, ao, cap, hgj, hj, rfl, rfl, hX, hG, hF, hO, hK⟩ := hrel
    have HK : Hid (Kept (fun k => k < B) w wr) := hK
    have HF : Hid (FrD M R n j) := hF
    have HG : Hid (Good M R rk) := hG
    by_cases hlt : j < m
    · have rm := make1 (fun k => k < B ∨ blkOf ao k) p M wr 2 2 ⟨#[]⟩ ⟨#[120]⟩ [] [120] rfl empB_list xB_list hX (by rw [hF.len]; omega) (by rw [hF.lim]; omega) sound_txt (by decide) (by rw [hF.len, hF.lim]; omega)
      rw [hF.len] at rm
      have HRM : Hid (Calls Try.prog 13 #[.pointer (some ⟨p, 0, none⟩), plainV 2 ⟨#[]⟩ ⟨#[120]⟩] wr fun e w' => e = .returned (.tuple #[.int .i64 ((n + 2 + j : Nat) : Int), .int .u16 0]) ∧ DX (fun k => k < B ∨ blkOf ao k) w' p (M.add txtN) ∧ Kept (fun k => k < B ∨ blkOf ao k) wr w') := rm
      have HO : Hid (OwnZ (fun k => k < B) wr 3 1 ao j cap (ivs (ownL n j))) := hO
      have HG' : Hid (Good (M.add txtN) (updR R M.n []) rk) := hG.add txtN (Nat.zero_le _)
      have HFT : Hid (Fits (M.add txtN) (n + 1) (n + 2 + j) (-1)) := hF.fits
      have HPT : Hid (putD (M.add txtN) (updR R M.n []) (n + 1) (n + 2 + j) (-1) = putL (M.add txtN).pl (n + 1) (n + 2 + j) (-1)) := hF.put.1
      obtain ⟨rk2, hG2⟩ := HG'.out.ins (up := n + 1) (i := n + 2 + j) (bef := -1) (by show n + 1 < M.n + 1; rw [hF.len]; omega) (by show n + 2 + j < M.n + 1; rw [hF.len]; omega) HFT.out
      rw [hF.put.1, hF.put.2] at hG2
      have HG2 : Hid (Good ((M.add txtN).setP (putL (M.add txtN).pl (n + 1) (n + 2 + j) (-1))) (putR (M.add txtN).pl (updR R M.n []) (n + 1) (n + 2 + j) (-1)) rk2) := hG2
      clear rm hX hG hF hO hK hG2
      go_wp2_with fail
      refine HRM.out.mono ?_
      rintro e w3 ⟨rfl, hX3, hK3⟩
      have hML : (M.add txtN).n = n + 3 + j := by show M.n + 1 = _; rw [HF.out.len]; omega
      have ri := insert_in (fun k => k < B ∨ blkOf ao k) p (n + 1) (n + 2 + j) (-1) (M.add txtN) (updR R M.n []) rk w3 hX3 HG'.out.wf HG'.out.acy (by rw [hML]; omega) (by rw [hML]; omega) (.inl rfl) (by rw [hML]; omega)
      have HRI : Hid (Calls Try.prog 14 #[.pointer (some ⟨p, 0, none⟩), .int .i64 ((n + 1 : Nat) : Int), .int .i64 ((n + 2 + j : Nat) : Int), .int .i64 (-1)] w3 fun e w' => e = .returned (.int .u16 0) ∧ DX (fun k => k < B ∨ blkOf ao k) w' p ((M.add txtN).setP (putL (M.add txtN).pl (n + 1) (n + 2 + j) (-1))) ∧ Kept (fun k => k < B ∨ blkOf ao k) w3 w') := ri.mono fun e w' h => by
        rcases h with ⟨hK, ⟨_, h, _⟩ | ⟨h1, _, h2⟩⟩
        · exact absurd HFT.out h
        · rw [HPT.out] at h2
          exact ⟨h1, h2, hK⟩
      have HK3 : Hid (Kept (fun k => k < B ∨ blkOf ao k) wr w3) := hK3
      clear ri hX3 hK3 HRM hML
      go_wp2_with fail
      refine HRI.out.mono ?_
      rintro e w4 ⟨rfl, hX4, hK4⟩
      have hKK := HK3.out.trans hK4
      have hO4 : OwnZ (fun k => k < B) w4 3 1 ao j cap (ivs (ownL n j)) := OwnZ.to HO.out (fun g hg => (OwnZ.out HO.out hg).1) (fun g hg => hKK.block g (.inr hg))
      have hB4 : B ≤ w4.heap.size := by rw [← HBB.out]; exact Nat.le_trans HK.out.size hKK.size
      obtain ⟨ao', cap', w5, hr, hO5, hX5, hK5⟩ := own_app hX4 hB4 hO4 (by omega) ((n + 2 + j : Nat) : Int)
      have HO5 : Hid (OwnZ (fun k => k < B) w5 3 1 ao' (j + 1) cap' (ivs (ownL n (j + 1)))) := by
        have e : ivs (ownL n (j + 1)) = ivs (ownL n j) ++ [.int .i64 ((n + 2 + j : Nat) : Int)] := by
          rw [ownL_succ, ivs, List.map_append, show j + (n + 2) = n + 2 + j from by omega]
          rfl
        rw [e]; exact hO5
      have HX5 : Hid (DX (fun k => k < B ∨ blkOf ao' k) w5 p ((M.add txtN).setP (putL (M.add txtN).pl (n + 1) (n + 2 + j) (-1)))) := hX5
      have HK5 : Hid (Kept (fun k => k < B) w w5) := HK.out.trans ((hKK.mono fun k h => .inl h).trans hK5)
      clear HRI hX4 hK4 hKK hO4 hB4 hO5 hX5 hK5
      go_wp2_with (at_builtin; refine wpList_appR (w' := w5) rfl (.tmp 53) (.tmp 55) 32 32 rfl _ _ (.slice ao' (j + 1) cap') rfl rfl hr ?_)
      go_roundg (m - (j + 1))
      case rel => exact ⟨j + 1, _, _, rk2, ao', cap', rfl, by omega, by go_num, rfl, HX5.out, HG2.out, HF.out.next, HO5.out, HK5.out⟩
      case measure => omega
    · have hjm : j = m := by omega
      subst hjm
      obtain ⟨W0, rfl⟩ : ∃ W0, W0 = wr := ⟨_, rfl⟩
      have hMn : M.n = n + 2 + j := hF.len
      have rn := node_any (fun k => k < B ∨ blkOf ao k) p 0 M R W0 hX hG.wf (by omega) (by omega) hG.few
      have HX : Hid (DX (fun k => k < B ∨ blkOf ao k) W0 p M) := hX
      have HO : Hid (OwnZ (fun k => k < B) W0 3 1 ao j cap (ivs (ownL n j))) := hO
      have hBr : B ≤ W0.heap.size := by rw [← HBB.out]; exact hK.size
      clear hX hG hF hO hK
      go_wp2_with fail
      refine rn.mono ?_
      rintro e v3 ⟨ao3, ac3, ko3, kc3, rfl, -, hQ3, hK3⟩
      rw [HF.out.row0, kidL_len] at hQ3 ⊢
      obtain ⟨V, hV⟩ : ∃ V, v3.alloc (.cells (outC (M.nd 0).kind ⟨(M.nd 0).name.toArray⟩ ⟨(M.nd 0).data.toArray⟩ ao3 (M.nd 0).attrs.length ac3 (M.pl 0).up ko3 n kc3 (M.nd 0).shadow (M.nd 0).host (M.nd 0).content (M.nd 0).fl) 36) = V := ⟨_, rfl⟩
      have hQ3' : OwnZ (fun k => k < W0.heap.size) v3 3 1 ko3 (kidL n).length kc3 (ivs (kidL n)) := by rw [kidL_len]; exact hQ3
      obtain ⟨-, kV, hbV, hsV, hsV', hcV⟩ := told_next HX.out hQ3' hK3 _ V hV
      obtain ⟨N3, hN3⟩ : ∃ N, v3.heap.size = N := ⟨_, rfl⟩
      rw [hN3] at hbV hsV hsV'
      have a5 : V.cell? ⟨N3, 5, none⟩ = some (.slice ko3 n kc3) := by rw [cell_block hbV]; rfl
      have HV : Hid (v3.alloc (.cells (outC (M.nd 0).kind ⟨(M.nd 0).name.toArray⟩ ⟨(M.nd 0).data.toArray⟩ ao3 (M.nd 0).attrs.length ac3 (M.pl 0).up ko3 n kc3 (M.nd 0).shadow (M.nd 0).host (M.nd 0).content (M.nd 0).fl) 36) = V) := hV
      have HN3 : Hid (v3.heap.size = N3) := hN3
      have HA5 : Hid (V.cell? ⟨N3, 5, none⟩ = some (.slice ko3 n kc3) ∧ N3 < V.heap.size) := ⟨a5, hsV'⟩
      have HCV : Hid (∀ q (h : q < (kidL n).length), ∃ g, ko3 = some ⟨g, 0, none⟩ ∧ W0.heap.size ≤ g ∧ g < V.heap.size ∧ V.cell? ⟨g, q, none⟩ = some (.int .i64 ((kidL n)[q] : Int))) := hcV
      have HKV : Hid (Kept (fun k => k < W0.heap.size) W0 V) := kV
      have hOV : OwnZ (fun k => k < B) V 3 1 ao j cap (ivs (ownL n j)) := OwnZ.to HO.out (fun g hg => (OwnZ.out HO.out hg).1) (fun g hg => kV.block g (OwnZ.out HO.out hg).2)
      have HOV : Hid (OwnZ (fun k => k < B) V 3 1 ao j cap (ivs (ownL n j))) := hOV
      clear rn hQ3 hQ3' hK3 hV kV hbV hsV hsV' hcV hN3 a5 hOV
      go_upto_region 16 with fail
      rw [HV.out, HN3.out]
      clear HV HN3
      go_loopg [18, 16, 17] n (fun gh2 s18 s16 s17 wy => ∃ (i : Nat) (wa : Option Addr) (wc : Nat), gh2 = n - i ∧ i ≤ n ∧ s18 = .int .i64 (i : Int) ∧ s16 = .int .i64 (befI n at_ i) ∧ s17 = .slice wa (wantI n j at_ i).length wc ∧ OwnZ (fun k => k < V.heap.size) wy 3 1 wa (wantI n j at_ i).length wc (ivs (wantI n j at_ i)) ∧ Kept (fun k => k < V.heap.size) V wy)
      case atStart => exact ⟨0, none, 0, rfl, Nat.zero_le _, rfl, rfl, rfl, OwnZ.nil _ _ _ _, Kept.refl _ _⟩
      case round =>
        obtain ⟨i, wa, wc, hgi, hi, rfl, rfl, rfl, hW, hKW⟩ := hrel
        have hOw : OwnZ (fun k => k < B) wr 3 1 ao j cap (ivs (ownL n j)) := OwnZ.to HOV.out (fun g hg => (OwnZ.out HOV.out hg).1) (fun g hg => hKW.block g (OwnZ.out HOV.out hg).2)
        have hKl : ∀ k, k < V.heap.size → k < wr.heap.size := fun k h => Nat.lt_of_lt_of_le h hKW.size
        have hwl := wantI_len (n := n) (m := j) (at_ := at_) (i := i) hi (by omega) (by omega)
        have a5 : wr.cell? ⟨N3, 5, none⟩ = some (.slice ko3 n kc3) := (hKW.cell (p := ⟨N3, 5, none⟩) HA5.out.2).trans HA5.out.1
        by_cases hin : i < n
        · obtain ⟨g3, rfl, -, hg3, hc3⟩ := HCV.out i (by rw [kidL_len]; exact hin)
          rw [kidL_get n i hin] at hc3
          have k3 : wr.cell? ⟨g3, i, none⟩ = some (.int .i64 ((i + 1 : Nat) : Int)) := (hKW.cell (p := ⟨g3, i, none⟩) hg3).trans hc3
          have hcap3 : True := trivial
          by_cases hia : i = at_
          · subst hia
            obtain ⟨wa5, wc5, w5, hr5, hO5, hK5⟩ := appRow hW hOw (by intro u hu; obtain ⟨c, _, rfl⟩ := List.mem_map.1 hu; rfl) hKl (by omega)
            have k5 : w5.cell? ⟨g3, i, none⟩ = some (.int .i64 ((i + 1 : Nat) : Int)) := (hK5.cell (p := ⟨g3, i, none⟩) hg3).trans k3
            have a55 : w5.cell? ⟨N3, 5, none⟩ = some (.slice (some ⟨g3, 0, none⟩) n kc3) := (hK5.cell (p := ⟨N3, 5, none⟩) HA5.out.2).trans a5
            obtain ⟨wa6, wc6, w6, hr6, hO6, hK6⟩ := appI hO5 (fun k hk => Nat.lt_of_lt_of_le (hKl k hk) hK5.size) (by omega) ((i + 1 : Nat) : Int)
            obtain ⟨lw, hlw⟩ : ∃ z, (wantI n j i i).length = z := ⟨_, rfl⟩
            rw [hlw] at hr5 hr6 hO6 hwl ⊢
            have HW6 : Hid (OwnZ (fun k => k < V.heap.size) w6 3 1 wa6 (wantI n j i (i + 1)).length wc6 (ivs (wantI n j i (i + 1)))) := by
              have e1 : (wantI n j i (i + 1)).length = lw + j + 1 := by rw [wantI_at hin, List.length_append, List.length_append, hlw, ownL_len]; rfl
              have e2 : ivs (wantI n j i (i + 1)) = ivs (wantI n j i i) ++ ivs (ownL n j) ++ [.int .i64 ((i + 1 : Nat) : Int)] := by rw [wantI_at hin, ivs, List.map_append, List.map_append]; rfl
              rw [e1, e2]; exact hO6
            have HL6 : Hid ((wantI n j i (i + 1)).length = lw + j + 1) := by rw [wantI_at hin, List.length_append, List.length_append, hlw, ownL_len]; rfl
            have HK6 : Hid (Kept (fun k => k < V.heap.size) V w6) := hKW.trans (hK5.trans hK6)
            have hbef : befI n i i = -1 := by unfold befI; rw [if_neg (Nat.lt_irrefl _)]
            clear hW hKW hOw hO5 hK5 hO6 hK6 hlw
            go_wp2_with (first | (at_builtin; refine wpList_appR (w' := w5) rfl (.tmp 78) (.tmp 79) 32 32 rfl _ _ (.slice wa5 (lw + j) wc5) rfl rfl hr5 ?_) | (at_builtin; refine wpList_appR (w' := w6) rfl (.tmp 81) (.tmp 87) 32 32 rfl _ _ (.slice wa6 (lw + j + 1) wc6) rfl rfl hr6 ?_))
            go_roundg (n - (i + 1))
            case rel => exact ⟨i + 1, wa6, wc6, rfl, by omega, by go_num, by unfold befI; rw [if_pos (by omega)]; first | rfl | go_num, by rw [HL6.out], HW6.out, HK6.out⟩
            case measure => omega
          · have hne : ((i : Int) == (at_ : Int)) = false := by simp; omega
            obtain ⟨wa6, wc6, w6, hr6, hO6, hK6⟩ := appI hW hKl (by omega) ((i + 1 : Nat) : Int)
            obtain ⟨lw, hlw⟩ : ∃ z, (wantI n j at_ i).length = z := ⟨_, rfl⟩
            rw [hlw] at hr6 hO6 hwl ⊢
            have HL6 : Hid ((wantI n j at_ (i + 1)).length = lw + 1) := by rw [wantI_ne hin hia, List.length_append, hlw]; rfl
            have HW6 : Hid (OwnZ (fun k => k < V.heap.size) w6 3 1 wa6 (wantI n j at_ (i + 1)).length wc6 (ivs (wantI n j at_ (i + 1)))) := by
              have e2 : ivs (wantI n j at_ (i + 1)) = ivs (wantI n j at_ i) ++ [.int .i64 ((i + 1 : Nat) : Int)] := by rw [wantI_ne hin hia, ivs, List.map_append]; rfl
              rw [HL6.out, e2]; exact hO6
            have HK6 : Hid (Kept (fun k => k < V.heap.size) V w6) := hKW.trans hK6
            have hbef : befI n at_ (i + 1) = befI n at_ i := by unfold befI; by_cases c : at_ < i; rw [if_pos (by omega), if_pos c]; rw [if_neg (by omega), if_neg c]
            have HBEF : Hid (befI n at_ (i + 1) = befI n at_ i) := hbef
            clear hW hKW hOw hO6 hK6 hlw hbef
            go_wp2_with (at_builtin; refine wpList_appR (w' := w6) rfl (.tmp 81) (.tmp 87) 32 32 rfl _ _ (.slice wa6 (lw + 1) wc6) rfl rfl hr6 ?_)
            go_roundg (n - (i + 1))
            case rel => exact ⟨i + 1, wa6, wc6, rfl, by omega, by go_num, by rw [HBEF.out], by rw [HL6.out], HW6.out, HK6.out⟩
            case measure => omega
        · have hiN : i = n := by omega
          subst hiN
          have HW : Hid (OwnZ (fun k => k < V.heap.size) wr 3 1 wa (wantI i j at_ i).length wc (ivs (wantI i j at_ i))) := hW
          have HOW : Hid (OwnZ (fun k => k < B) wr 3 1 ao j cap (ivs (ownL i j))) := hOw
          have HKW : Hid (Kept (fun k => k < V.heap.size) V wr) := hKW
          have HBF : Hid (befI i at_ i = befF i at_) := by unfold befI befF; rfl
          clear hW hOw hKW HCV
          go_upto_if 90 with fail
          go_cut [17] (fun s17 wx => ∃ (wa7 : Option Addr) (wc7 : Nat), s17 = .slice wa7 (wantF i j at_).length wc7 ∧ OwnZ (fun k => k < V.heap.size) wx 3 1 wa7 (wantF i j at_).length wc7 (ivs (wantF i j at_)) ∧ Kept (fun k => k < V.heap.size) V wx)
          case first =>
            by_cases c : at_ < i
            · have hb1 : befI i at_ i = ((at_ + 1 : Nat) : Int) := by unfold befI; rw [if_pos c]
              have e : wantI i j at_ i = wantF i j at_ := by rw [← wantI_end, if_pos c]
              have hd : decide (befI i at_ i < 0) = false := decide_eq_false (by rw [hb1]; omega)
              have hd2 : 0 ≤ befI i at_ i := by rw [hb1]; omega
              have HE : Hid (wantI i j at_ i = wantF i j at_) := e
              clear e hb1
              go_wp2
              go_meet
              case rel => exact ⟨wa, wc, by rw [HE.out], by rw [← HE.out]; exact HW.out, HKW.out⟩
            · have hb1 : befI i at_ i = -1 := by unfold befI; rw [if_neg c]
              have e : wantI i j at_ i ++ ownL i j = wantF i j at_ := by rw [← wantI_end, if_neg c]
              have hd : decide (befI i at_ i < 0) = true := decide_eq_true (by rw [hb1]; decide)
              have hd2 : befI i at_ i < 0 := by rw [hb1]; decide
              obtain ⟨wa5, wc5, w5, hr5, hO5, hK5⟩ := appRow HW.out HOW.out (by intro u hu; obtain ⟨c, _, rfl⟩ := List.mem_map.1 hu; rfl) hKl (by omega)
              obtain ⟨lw, hlw⟩ : ∃ z, (wantI i j at_ i).length = z := ⟨_, rfl⟩
              rw [hlw] at hr5 ⊢
              have HL : Hid ((wantF i j at_).length = lw + j) := by show (wantF i j at_).length = lw + j; rw [← e, List.length_append, hlw, ownL_len]
              have HO5 : Hid (OwnZ (fun k => k < V.heap.size) w5 3 1 wa5 (wantF i j at_).length wc5 (ivs (wantF i j at_))) := by
                have e2 : ivs (wantF i j at_) = ivs (wantI i j at_ i) ++ ivs (ownL i j) := by rw [← e, ivs, List.map_append]
                rw [HL.out, e2, ← hlw]; exact hO5
              have HK5 : Hid (Kept (fun k => k < V.heap.size) V w5) := HKW.out.trans hK5
              clear e hb1 hO5 hK5 hlw
              go_wp2_with (at_builtin; refine wpList_appR (w' := w5) rfl (.tmp 91) (.tmp 92) 32 32 rfl _ _ (.slice wa5 (lw + j) wc5) rfl rfl hr5 ?_)
              go_meet
              case rel => exact ⟨wa5, wc5, by rw [HL.out], HO5.out, HK5.out⟩
          case rest =>
            obtain ⟨wa7, wc7, rfl, hO7, hK7⟩ := hcut
            clear HW HOW HKW a5 hKl hwl
            have hKW7 : Kept (fun k => k < W0.heap.size) W0 wc := HKV.out.trans (hK7.mono fun k h => Nat.lt_of_lt_of_le h HKV.out.size)
            have hX7 : DX (fun k => k < B ∨ blkOf wa7 k) wc p M := HX.out.more hKW7 (fun k hk => by
              rcases hk with h | h
              · exact .inl (.inl h)
              · exact .inr (Nat.le_trans HKV.out.size (Nat.le_of_not_lt (OwnZ.out hO7 h).1))) (fun k hk => by
              rcases hk with h | h
              · exact Nat.lt_of_lt_of_le h (Nat.le_trans hBr hKW7.size)
              · exact (OwnZ.out hO7 h).2)
            have HK7 : Hid (Kept (fun k => k < B) w wc) := HK.out.trans (hKW7.mono fun k h => Nat.lt_of_lt_of_le h hBr)
            have hO7' : OwnZ (fun k => k < B) wc 3 1 wa7 (wantF i j at_).length wc7 (ivs (wantF i j at_)) := OwnZ.to hO7 (fun g hg hh => (OwnZ.out hO7 hg).1 (Nat.lt_of_lt_of_le hh (Nat.le_trans hBr HKV.out.size))) (fun _ _ => rfl)
            have HO7 : Hid (OwnZ (fun k => k < B) wc 3 1 wa7 (wantF i j at_).length wc7 (ivs (wantF i j at_))) := hO7'
            have hFt := HF.out.fitsF (at_ := at_) HG.out
            have hbo : befF i at_ = -1 ∨ ∃ q : Nat, q < M.n ∧ befF i at_ = (q : Int) := by
              unfold befF
              by_cases c : at_ < i
              · rw [if_pos c]; exact .inr ⟨at_ + 1, by rw [hMn]; omega, rfl⟩
              · rw [if_neg c]; exact .inl rfl
            have ri := insert_in (fun k => k < B ∨ blkOf wa7 k) p 0 (i + 1) (befF i at_) M R rk wc hX7 HG.out.wf HG.out.acy (by rw [hMn]; omega) (by rw [hMn]; omega) hbo (by rw [hMn]; omega)
            obtain ⟨M2, hM2⟩ : ∃ M2, M.setP (putD M R 0 (i + 1) (befF i at_)) = M2 := ⟨_, rfl⟩
            obtain ⟨R2, hR2⟩ : ∃ R2, putDR M R 0 (i + 1) (befF i at_) = R2 := ⟨_, rfl⟩
            obtain ⟨rk2, hG2⟩ := HG.out.ins (up := 0) (i := i + 1) (bef := befF i at_) (by rw [hMn]; omega) (by rw [hMn]; omega) hFt
            obtain ⟨q1, q2, q3⟩ := HF.out.endF (at_ := at_) HG.out
            have hM2n : M2.n = i + 2 + j := by rw [← hM2]; exact hMn
            have HU2 : Hid ((M2.pl (i + 1)).up = -1) := by show (M2.pl (i + 1)).up = -1; rw [← hM2]; exact q3
            rw [hM2, hR2] at hG2
            rw [hR2] at q1 q2
            rw [hM2] at ri
            have HRI : Hid (Calls Try.prog 14 #[.pointer (some ⟨p, 0, none⟩), .int .i64 0, .int .i64 ((i + 1 : Nat) : Int), .int .i64 (befF i at_)] wc fun e w' => e = .returned (.int .u16 0) ∧ DX (fun k => k < B ∨ blkOf wa7 k) w' p M2 ∧ Kept (fun k => k < B ∨ blkOf wa7 k) wc w') := ri.mono fun e w' h => by
              rcases h with ⟨hK, ⟨_, h, _⟩ | ⟨h1, _, h2⟩⟩
              · exact absurd hFt h
              · exact ⟨h1, h2, hK⟩
            have HG2 : Hid (Good M2 R2 rk2) := hG2
            have HQ1 : Hid (R2 0 = wantF i j at_) := q1
            have HQ2 : Hid (R2 (i + 1) = []) := q2
            have hFl : (wantF i j at_).length ≤ 300 := by
              unfold wantF
              simp [kidL_len, ownL_len]
              omega
            clear ri hFt hbo hM2 hR2 hG2 q1 q2 q3 hX7 hO7 hO7' hK7 hKW7 HF HG HX HO HOV HKV HA5 HK
            have hbfe := HBF.out
            rw [hbfe]
            clear hbfe HBF
            go_wp2_with fail
            refine HRI.out.mono ?_
            rintro e w8 ⟨rfl, hX8, hK8⟩
            have hO8 : OwnZ (fun k => k < B) w8 3 1 wa7 (wantF i j at_).length wc7 (ivs (wantF i j at_)) := OwnZ.to HO7.out (fun g hg => (OwnZ.out HO7.out hg).1) (fun g hg => hK8.block g (.inr hg))
            have HK8 : Hid (Kept (fun k => k < B) w w8) := HK7.out.trans (hK8.mono fun k h => .inl h)
            have rn := node_any (fun k => k < B ∨ blkOf wa7 k) p 0 M2 R2 w8 hX8 HG2.out.wf (by rw [hM2n]; omega) (by rw [hM2n]; omega) HG2.out.few
            have HX8 : Hid (DX (fun k => k < B ∨ blkOf wa7 k) w8 p M2) := hX8
            have HO8 : Hid (OwnZ (fun k => k < B) w8 3 1 wa7 (wantF i j at_).length wc7 (ivs (wantF i j at_))) := hO8
            clear HRI hX8 hK8 hO8 HO7 HK7
            go_wp2_with fail
            refine rn.mono ?_
            rintro e v9 ⟨ao9, ac9, ko9, kc9, rfl, -, hQ9, hK9⟩
            rw [HQ1.out] at hQ9 ⊢
            obtain ⟨V9, hV9⟩ : ∃ V, v9.alloc (.cells (outC (M2.nd 0).kind ⟨(M2.nd 0).name.toArray⟩ ⟨(M2.nd 0).data.toArray⟩ ao9 (M2.nd 0).attrs.length ac9 (M2.pl 0).up ko9 (wantF i j at_).length kc9 (M2.nd 0).shadow (M2.nd 0).host (M2.nd 0).content (M2.nd 0).fl) 36) = V := ⟨_, rfl⟩
            obtain ⟨-, kV9, hb9, hs9, hs9', hc9⟩ := told_next HX8.out hQ9 hK9 _ V9 hV9
            obtain ⟨N9, hN9⟩ : ∃ N, v9.heap.size = N := ⟨_, rfl⟩
            rw [hN9] at hb9 hs9 hs9'
            obtain ⟨lf, hlf⟩ : ∃ z, (wantF i j at_).length = z := ⟨_, rfl⟩
            have b5 : V9.cell? ⟨N9, 5, none⟩ = some (.slice ko9 lf kc9) := by rw [cell_block hb9, ← hlf]; rfl
            have HV9 : Hid (v9.alloc (.cells (outC (M2.nd 0).kind ⟨(M2.nd 0).name.toArray⟩ ⟨(M2.nd 0).data.toArray⟩ ao9 (M2.nd 0).attrs.length ac9 (M2.pl 0).up ko9 (wantF i j at_).length kc9 (M2.nd 0).shadow (M2.nd 0).host (M2.nd 0).content (M2.nd 0).fl) 36) = V9) := hV9
            have HN9 : Hid (v9.heap.size = N9) := hN9
            have HX9 : Hid (DX (fun k => k < B ∨ blkOf wa7 k) V9 p M2) := HX8.out.kept kV9
            have HO9 : Hid (OwnZ (fun k => k < B) V9 3 1 wa7 (wantF i j at_).length wc7 (ivs (wantF i j at_))) := OwnZ.to HO8.out (fun g hg => (OwnZ.out HO8.out hg).1) (fun g hg => kV9.block g (OwnZ.out HO8.out hg).2)
            have hBw8 : B ≤ w8.heap.size := by rw [← HBB.out]; exact HK8.out.size
            have HK9 : Hid (Kept (fun k => k < B) w V9) := HK8.out.trans (kV9.mono fun k h => Nat.lt_of_lt_of_le h hBw8)
            have HC9 : Hid (∀ q (h : q < (wantF i j at_).length), ∃ g, ko9 = some ⟨g, 0, none⟩ ∧ w8.heap.size ≤ g ∧ g < V9.heap.size ∧ V9.cell? ⟨g, q, none⟩ = some (.int .i64 ((wantF i j at_)[q] : Int))) := hc9
            have HLF : Hid ((wantF i j at_).length = lf) := hlf
            have rn2 := node_any (fun k => k < B ∨ blkOf wa7 k) p (i + 1) M2 R2 V9 HX9.out HG2.out.wf (by rw [hM2n]; omega) (by rw [hM2n]; omega) HG2.out.few
            clear rn hQ9 hK9 hV9 kV9 hb9 hs9 hN9 hc9 HX8 HO8 hlf
            go_upto_region 26 with fail
            rw [HV9.out, HN9.out]
            clear HV9 HN9
            go_wp2_with fail
            refine rn2.mono ?_
            rintro e v10 ⟨ao10, ac10, ko10, kc10, rfl, -, hQ10, hK10⟩
            rw [HQ2.out, HU2.out, show ([] : List Nat).length = 0 from rfl] at *
            obtain ⟨V10, hV10⟩ : ∃ V, v10.alloc (.cells (outC (M2.nd (i + 1)).kind ⟨(M2.nd (i + 1)).name.toArray⟩ ⟨(M2.nd (i + 1)).data.toArray⟩ ao10 (M2.nd (i + 1)).attrs.length ac10 (-1) ko10 0 kc10 (M2.nd (i + 1)).shadow (M2.nd (i + 1)).host (M2.nd (i + 1)).content (M2.nd (i + 1)).fl) 36) = V := ⟨_, rfl⟩
            have hQ10' : OwnZ (fun k => k < V9.heap.size) v10 3 1 ko10 ([] : List Nat).length kc10 (ivs []) := hQ10
            obtain ⟨-, kV10, hb10, hs10, hs10', -⟩ := told_next HX9.out hQ10' hK10 _ V10 hV10
            obtain ⟨N10, hN10⟩ : ∃ N, v10.heap.size = N := ⟨_, rfl⟩
            rw [hN10] at hb10 hs10 hs10'
            have c4 : V10.cell? ⟨N10, 4, none⟩ = some (.int .i64 (-1)) := by rw [cell_block hb10]; rfl
            have c5 : V10.cell? ⟨N10, 5, none⟩ = some (.slice ko10 0 kc10) := by rw [cell_block hb10]; rfl
            have b5' : V10.cell? ⟨N9, 5, none⟩ = some (.slice ko9 lf kc9) := (kV10.cell (p := ⟨N9, 5, none⟩) hs9').trans b5
            have HV10 : Hid (v10.alloc (.cells (outC (M2.nd (i + 1)).kind ⟨(M2.nd (i + 1)).name.toArray⟩ ⟨(M2.nd (i + 1)).data.toArray⟩ ao10 (M2.nd (i + 1)).attrs.length ac10 (-1) ko10 0 kc10 (M2.nd (i + 1)).shadow (M2.nd (i + 1)).host (M2.nd (i + 1)).content (M2.nd (i + 1)).fl) 36) = V10) := hV10
            have HN10 : Hid (v10.heap.size = N10) := hN10
            have hBV9 : B ≤ V9.heap.size := by rw [← HBB.out]; exact HK9.out.size
            have HK10 : Hid (Kept (fun k => k < B) w V10) := HK9.out.trans (kV10.mono fun k h => Nat.lt_of_lt_of_le h hBV9)
            have rk9 := known_any V10
            have HKV10 : Hid (Kept (fun k => k < V9.heap.size) V9 V10) := kV10
            have hN9l : N9 < V10.heap.size := Nat.lt_of_lt_of_le hs9' kV10.size
            have hBV10 : B ≤ V10.heap.size := by rw [← HBB.out]; exact HK10.out.size
            clear rn2 hQ10 hQ10' hK10 hV10 kV10 hb10 hs10 hN10 b5
            go_upto_region 27 with fail
            rw [HV10.out, HN10.out]
            clear HV10 HN10
            go_wp2_with fail
            refine rk9.mono ?_
            rintro e wk ⟨rfl, kk⟩
            have d4 : wk.cell? ⟨N10, 4, none⟩ = some (.int .i64 (-1)) := (kk.cell (p := ⟨N10, 4, none⟩) hs10').trans c4
            have d5 : wk.cell? ⟨N10, 5, none⟩ = some (.slice ko10 0 kc10) := (kk.cell (p := ⟨N10, 5, none⟩) hs10').trans c5
            have d9 : wk.cell? ⟨N9, 5, none⟩ = some (.slice ko9 lf kc9) := (kk.cell (p := ⟨N9, 5, none⟩) hN9l).trans b5'
            have rs := same_yes (wantF i j at_) lf HLF.out ko9 wa7 kc9 wc7 wk (by rw [← HLF.out]; omega) (fun q hq => by
              obtain ⟨g, e, _, hg, hc⟩ := HC9.out q hq
              refine ⟨g, e, ?_⟩
              rw [kk.cell (p := ⟨g, q, none⟩) (Nat.lt_of_lt_of_le hg HKV10.out.size), HKV10.out.cell (p := ⟨g, q, none⟩) hg]
              exact hc) (fun q hq => by
              obtain ⟨g, e, hc⟩ := HO9.out.cell (j := q) (u := iv (wantF i j at_)[q]) (by simp [ivs, hq])
              have hg := (OwnZ.out HO9.out (g := g) e).2
              refine ⟨g, e, ?_⟩
              rw [kk.cell (p := ⟨g, q, none⟩) (Nat.lt_of_lt_of_le hg HKV10.out.size), HKV10.out.cell (p := ⟨g, q, none⟩) hg]
              exact hc)
            have HKK : Hid (Kept (fun k => k < B) w wk) := HK10.out.trans (kk.mono fun k h => Nat.lt_of_lt_of_le h hBV10)
            have hN10k : N10 < wk.heap.size := Nat.lt_of_lt_of_le hs10' kk.size
            have hBwk : B ≤ wk.heap.size := Nat.le_trans hBV10 kk.size
            have HLW : Hid ((wantF i j at_).length = lf) := HLF.out
            rw [HLF.out]
            clear rk9 kk c4 c5 b5' HC9 HO9 HKV10
            go_wp2_with fail
            refine rs.mono ?_
            rintro e wz ⟨rfl, kz⟩
            have z4 : wz.cell? ⟨N10, 4, none⟩ = some (.int .i64 (-1)) := (kz.cell (p := ⟨N10, 4, none⟩) hN10k).trans d4
            have z5 : wz.cell? ⟨N10, 5, none⟩ = some (.slice ko10 0 kc10) := (kz.cell (p := ⟨N10, 5, none⟩) hN10k).trans d5
            have HKZ : Hid (Kept (fun k => k < B) w wz) := HKK.out.trans (kz.mono fun k h => Nat.lt_of_lt_of_le h hBwk)
            clear rs kz d4 d5 d9
            go_wp2
            go_ret
            exact ⟨rfl, HKZ.out⟩
end Go.Proofs.Ytbbknbipppaemaa
