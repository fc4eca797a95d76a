/-
  A document of elements side by side (plain).
-/
import Derived.Test.YtbbknbipppaemaaCQ
namespace Go.Proofs.Ytbbknbipppaemaa
open Go.RowKit
set_option linter.unusedVariables false

theorem insB_end (l : List Nat) (i : Nat) : insB l i (-1) = l ++ [i] := by
  unfold insB
  have : ∀ l : List Nat, l.takeWhile (fun k : Nat => decide ((k : Int) ≠ -1)) = l ∧ l.dropWhile (fun k : Nat => decide ((k : Int) ≠ -1)) = [] := by
    intro l
    induction l with
    | nil => exact ⟨rfl, rfl⟩
    | cons x r ih =>
      have e : decide ((x : Int) ≠ -1) = true := decide_eq_true (by omega)
      rw [List.takeWhile_cons, List.dropWhile_cons, e, if_pos rfl, if_pos rfl, ih.1]
      exact ⟨rfl, ih.2⟩
  rw [(this l).1, (this l).2]
theorem putR_free {L : Nat → Lk} {R : Nat → List Nat} {up i : Nat} (h : (L i).up = -1) : putR L R up i (-1) = updR R up (R up ++ [i]) := by
  unfold Ytbbknbipppaemaa.putR outR
  rw [if_pos h, insB_end]
/-- Nodes: the Fragment 0, and elements. -/
structure Divs (M : Dm) (n : Nat) : Prop where
  len : M.n = n + 1
  lim : M.limit = 300
  zero : M.nd 0 = frag0.new
  divs : ∀ k, 0 < k → k < n + 1 → M.nd k = divN.new
theorem Divs.setP {M : Dm} {n : Nat} (h : Divs M n) (L : Nat → Lk) : Divs (M.setP L) n := ⟨h.len, h.lim, h.zero, h.divs⟩
theorem Divs.add {M : Dm} {n : Nat} (h : Divs M n) : Divs (M.add divN) (n + 1) := by
  refine ⟨by show M.n + 1 = _; rw [h.len], h.lim, ?_, fun k h0 hk => ?_⟩
  · show (if 0 = M.n then divN.new else M.nd 0) = _
    rw [if_neg (by rw [h.len]; omega)]; exact h.zero
  · show (if k = M.n then divN.new else M.nd k) = _
    by_cases c : k = M.n
    · rw [if_pos c]
    · rw [if_neg c]; exact h.divs k h0 (by rw [h.len] at c; omega)
theorem Divs.new : Divs (Dm.new 300) 0 := ⟨rfl, rfl, rfl, fun k h0 hk => by omega⟩
theorem hold_div : holdB divN.new = true := by kernel_rfl
theorem hold_frag : holdB frag0.new = true := by kernel_rfl
theorem Divs.hold {M : Dm} {n : Nat} (h : Divs M n) {k : Nat} (hk : k < n + 1) : holdB (M.nd k) = true := by
  by_cases c : k = 0
  · subst c; rw [h.zero]; exact hold_frag
  · rw [h.divs k (by omega) hk]; exact hold_div
theorem Divs.move {M : Dm} {n : Nat} (h : Divs M n) {k : Nat} (h0 : 0 < k) (hk : k < n + 1) : moveB M k = true := by
  unfold moveB
  rw [h.divs k h0 hk, decide_eq_true (show k ≠ 0 by omega)]
  rfl
theorem Divs.kind {M : Dm} {n : Nat} (h : Divs M n) {k : Nat} (h0 : 0 < k) (hk : k < n + 1) : (M.nd k).kind ≠ 4 := by
  rw [h.divs k h0 hk]
  show (1 : Nat) ≠ 4
  decide
/-- The rows: so many in the Fragment, none in them. -/
structure Side (M : Dm) (R : Nat → List Nat) (n : Nat) : Prop where
  row : R 0 = (List.range n).map (· + 1)
  none : ∀ k, 0 < k → R k = []
  top : (M.pl 0).up = -1
theorem Side.next {M : Dm} {R : Nat → List Nat} {n : Nat} (hD : Divs M n) (hS : Side M R n) (x : Nd) :
    Side ((M.add x).setP (putL (M.add x).pl 0 (n + 1) (-1))) (putR (M.add x).pl (updR R M.n []) 0 (n + 1) (-1)) (n + 1) := by
  have hfree : ((M.add x).pl (n + 1)).up = -1 := by
    show (updL M.pl M.n Lk.nil (n + 1)).up = -1
    rw [hD.len, updL_same]; rfl
  rw [putR_free hfree]
  refine ⟨?_, fun k hk => ?_, ?_⟩
  · rw [updR_same, updR_ne _ _ (by rw [hD.len]; omega), hS.row, List.range_succ, List.map_append]
    rfl
  · rw [updR_ne _ _ (by omega)]
    by_cases c : k = M.n
    · rw [c, updR_same]
    · rw [updR_ne _ _ c]; exact hS.none k hk
  · show (putL (M.add x).pl 0 (n + 1) (-1) 0).up = -1
    rw [put_up (by omega)]
    show (updL M.pl M.n Lk.nil 0).up = -1
    rw [updL_ne _ _ (by rw [hD.len]; omega)]
    exact hS.top

set_option maxRecDepth 20000 in
set_option maxHeartbeats 1000000 in
theorem plain_any (N : Nat) (hN : N ≤ 100) (w : World) :
    Calls Try.prog 9 #[.int .i64 (N : Int)] w fun e w' => ∃ p M R rk, e = .returned (.pointer (some ⟨p, 0, none⟩)) ∧ w.heap.size ≤ p ∧ DX (fun k => k < w.heap.size) w' p M ∧ Good M R rk ∧ Divs M N ∧ Side M R N ∧ Kept (fun k => k < w.heap.size) w w' := by
  have r0 := new_yes 300 w (by decide) (by decide)
  go_enter Try.func9, Try.ntmps9
  go_wp2_with fail
  refine r0.mono ?_
  rintro e w1 ⟨p, rfl, hp, hX1, hK1⟩
  have HX1 : Hid (DX (fun k => k < w.heap.size) w1 p (Dm.new 300)) := hX1
  have HK1 : Hid (Kept (fun k => k < w.heap.size) w w1) := hK1
  clear r0 hX1 hK1
  go_upto_region 3 with fail
  go_loopg [4] N (fun gh v wr => ∃ (j : Nat) (M : Dm) (R : Nat → List Nat) (rk : Nat → Nat), gh = N - j ∧ j ≤ N ∧ v = .int .i64 (j : Int) ∧ DX (fun k => k < w.heap.size) wr p M ∧ Good M R rk ∧ Divs M j ∧ Side M R j ∧ Kept (fun k => k < w.heap.size) w wr)
  case atStart => exact ⟨0, Dm.new 300, fun _ => [], fun _ => 0, rfl, Nat.zero_le _, rfl, HX1.out, Good.new 300, Divs.new, ⟨rfl, fun _ _ => rfl, rfl⟩, HK1.out⟩
  case round =>
    clear HX1 HK1
    obtain ⟨j, M, R, rk, hgj, hj, rfl, hX, hG, hD, hS, hK⟩ := hrel
    have HK : Hid (Kept (fun k => k < w.heap.size) w wr) := hK
    by_cases hlt : j < N
    · have rm := make1 (fun k => k < w.heap.size) p M wr 1 1 divB ⟨#[]⟩ [100, 105, 118] [] rfl divB_list empB_list hX (by rw [hD.len]; omega) (by rw [hD.lim]; omega) sound_div (by decide) (by rw [hD.len, hD.lim]; omega)
      rw [hD.len] at rm
      have HRM : Hid (Calls Try.prog 13 #[.pointer (some ⟨p, 0, none⟩), plainV 1 divB ⟨#[]⟩] wr fun e w' => e = .returned (.tuple #[.int .i64 ((j + 1 : Nat) : Int), .int .u16 0]) ∧ DX (fun k => k < w.heap.size) w' p (M.add divN) ∧ Kept (fun k => k < w.heap.size) wr w') := rm
      have hG' := hG.add divN (Nat.zero_le _)
      have hD' := hD.add
      have hF : Fits (M.add divN) 0 (j + 1) (-1) := by
        refine ⟨hD'.hold (by omega), hD'.move (by omega) (by omega), Wi.none (by omega) ?_, .inl rfl⟩
        rw [add_par (by rw [hD.len]; omega)]
        unfold parI
        rw [hS.top, if_pos rfl, hD.zero]
        rfl
      have HF : Hid (Fits (M.add divN) 0 (j + 1) (-1)) := hF
      have HG' : Hid (Good (M.add divN) (updR R M.n []) rk) := hG'
      have HD' : Hid (Divs (M.add divN) (j + 1)) := hD'
      have hS' := Side.next hD hS divN
      have eP : putD (M.add divN) (updR R M.n []) 0 (j + 1) (-1) = putL (M.add divN).pl 0 (j + 1) (-1) := by
        unfold putD
        rw [if_neg (hD'.kind (by omega) (by omega)), if_neg (by omega)]
      have eR : putDR (M.add divN) (updR R M.n []) 0 (j + 1) (-1) = putR (M.add divN).pl (updR R M.n []) 0 (j + 1) (-1) := by
        unfold putDR
        rw [if_neg (hD'.kind (by omega) (by omega)), if_neg (by omega)]
      obtain ⟨rk2, hG2⟩ := hG'.ins (up := 0) (i := j + 1) (bef := -1) (by show 0 < M.n + 1; omega) (by show j + 1 < M.n + 1; rw [hD.len]; omega) hF
      have HG2 : Hid (Good ((M.add divN).setP (putL (M.add divN).pl 0 (j + 1) (-1))) (putR (M.add divN).pl (updR R M.n []) 0 (j + 1) (-1)) rk2) := by rw [eP, eR] at hG2; exact hG2
      have HS' : Hid (Side ((M.add divN).setP (putL (M.add divN).pl 0 (j + 1) (-1))) (putR (M.add divN).pl (updR R M.n []) 0 (j + 1) (-1)) (j + 1)) := hS'
      have HEP : Hid (putD (M.add divN) (updR R M.n []) 0 (j + 1) (-1) = putL (M.add divN).pl 0 (j + 1) (-1)) := eP
      have HML : Hid (M.n = j + 1) := hD.len
      clear rm hX hG hD hS hK hG' hD' hF hS' eP eR hG2
      go_wp2_with fail
      refine HRM.out.mono ?_
      rintro e w2 ⟨rfl, hX2, hK2⟩
      have HK2 : Hid (Kept (fun k => k < w.heap.size) w w2) := HK.out.trans hK2
      have ri := insert_in (fun k => k < w.heap.size) p 0 (j + 1) (-1) (M.add divN) (updR R M.n []) rk w2 hX2 HG'.out.wf HG'.out.acy (by show 0 < M.n + 1; omega) (by show j + 1 < M.n + 1; rw [HML.out]; omega) (.inl rfl) (by show M.n + 1 ≤ _; rw [HML.out]; omega)
      have HRI : Hid (Calls Try.prog 14 #[.pointer (some ⟨p, 0, none⟩), .int .i64 0, .int .i64 ((j + 1 : Nat) : Int), .int .i64 (-1)] w2 fun e w' => e = .returned (.int .u16 0) ∧ DX (fun k => k < w.heap.size) w' p ((M.add divN).setP (putL (M.add divN).pl 0 (j + 1) (-1))) ∧ Kept (fun k => k < w.heap.size) w2 w') := ri.mono fun e w' h => by
        rcases h with ⟨hK, ⟨_, h, _⟩ | ⟨h1, _, h2⟩⟩
        · exact absurd HF.out h
        · rw [HEP.out] at h2
          exact ⟨h1, h2, hK⟩
      clear ri hX2 hK2 HRM
      go_wp2_with fail
      refine HRI.out.mono ?_
      rintro e w3 ⟨rfl, hX3, hK3⟩
      have HK3 : Hid (Kept (fun k => k < w.heap.size) w w3) := HK2.out.trans hK3
      have HX3 : Hid (DX (fun k => k < w.heap.size) w3 p ((M.add divN).setP (putL (M.add divN).pl 0 (j + 1) (-1)))) := hX3
      clear hX3 hK3 HRI
      go_wp2
      go_roundg (N - (j + 1))
      case rel => exact ⟨j + 1, _, _, rk2, rfl, by omega, by go_num, HX3.out, HG2.out, HD'.out.setP _, HS'.out, HK3.out⟩
      case measure => omega
    · have hjN : j = N := by omega
      subst hjN
      have HX : Hid (DX (fun k => k < w.heap.size) wr p M) := hX
      have HR : Hid (Good M R rk ∧ Divs M j ∧ Side M R j) := ⟨hG, hD, hS⟩
      clear hX hG hD hS hK
      go_wp2
      go_ret
      exact ⟨p, M, R, rk, rfl, hp, HX.out, HR.out.1, HR.out.2.1, HR.out.2.2, HK.out⟩
end Go.Proofs.Ytbbknbipppaemaa
