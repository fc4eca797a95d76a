/-
  For every name, row of attributes and text ahead the Go function portierelaw06.TokenTag returns true, and its arguments read afterwards as before; the two tables of the program are tied to it.
-/
import Derived.Test.YtncfgahnjakeiabDoorTagW
namespace Go.Proofs.YtncfgahnjakeiabDoor
open Go.RowKit

theorem ats_own {K : Nat → Prop} {w : World} {ao : Option Addr} {n cap : Nat} {l : List Atr} (hn : l.length = n) (h : OwnZ K w 28 2 ao n cap (atrCells l)) : AtsIn (fun k => k < w.heap.size) w ao l := by
  subst hn
  intro j hj
  obtain ⟨g1, g2⟩ := atrCells_get l j hj
  obtain ⟨g, e1, c1⟩ := h.cell g1
  obtain ⟨g', e2, c2⟩ := h.cell g2
  rw [e1] at e2
  injection e2 with e2
  injection e2 with e2
  subst e2
  exact ⟨g, e1, (h.out e1).2, c1, c2⟩

theorem conv_cell (X : World) (N : Nat) (c : UInt8) (h : X.cell? ⟨N, 0, none⟩ = some (bv c)) : (convert 24 9 (.slice (some ⟨N, 0, none⟩) 1 1)).run Tryd.prog X = .ok (.string ⟨#[c]⟩) X := by
  refine run_convert_bytes_back X 24 9 5 ⟨N, 0, none⟩ 1 [c] Tryd.underlying24 Tryd.underlying5 Tryd.underlying9 fun j hj => ?_
  have : j = 0 := by simpa using hj
  subst this
  rw [Addr.add_lit]
  exact h
theorem enter11 (args : Array Value) (X : World) : (callFunc 11 args).run Tryd.prog X = .ok (.enter 11 args) X := entersE Tryd.func11 (by kernel_rfl) (c := _) rfl args X

set_option maxRecDepth 20000 in
set_option maxHeartbeats 8000000 in
theorem tag_walk : tokenTag.Walk := by
  intro a0 a1 len1 cap1 V a2 w hA hcap hT h2
  obtain ⟨K, hKe⟩ : ∃ K : Nat → Prop, (fun k => k < w.heap.size) = K := ⟨_, rfl⟩
  have hK : ∀ k, K k → k < w.heap.size := by
    rw [← hKe]
    exact fun k h => h
  have hKall : ∀ k, k < w.heap.size → K k := by
    rw [← hKe]
    exact fun k h => h
  have hfin : ∀ X, Kept K w X → Below w.heap.size w X := by
    rw [← hKe]
    exact fun _ h => h.below
  have k0 : K 0 := hKall 0 (by omega)
  have k1 : K 1 := hKall 1 h2
  clear hKe
  have hkn := fun X hX hXT => known_any K X hX hXT k0 k1
  have HTw : Hid (Tab w) := hT
  have hl0 : a0.data.toList.length = a0.size := rfl
  by_cases hz : a0.size ≤ 40
  · by_cases hz1 : len1 ≤ 20
    · by_cases hz2 : a2.size ≤ 200
      · have e0 : decide ((a0.size : Int) > 40) = false := decide_eq_false (by omega)
        have e1 : decide ((len1 : Int) > 20) = false := decide_eq_false (by omega)
        have e2 : decide ((a2.size : Int) > 200) = false := decide_eq_false (by omega)
        have HA : Hid (tokenTag.IsAts w a1 len1 V) := hA
        have HT0 : Hid (leL (a0.data.toList.take a0.size) = leL a0.data.toList) := by show leL _ = _; rw [← hl0, List.take_length]
        have hcv := fun (X : World) (n : Int) => conv_new X n X.heap.size rfl
        clear hA hcap
        go_enter Tryd.func3, Tryd.ntmps3
        go_wp2_with fail
        refine (hkn w hK hT).mono ?_
        rintro e w1 ⟨rfl, p1⟩
        clear hkn
        go_wp2_with fail
        go_loopg [7, 8] a0.size (fun gm tv iv wr => ∃ k : Nat, gm = a0.size - k ∧ k ≤ a0.size ∧ iv = .int .i64 k ∧ tv = sv (101 :: leL (a0.data.toList.take k)) ∧ Kept K w wr)
        case atStart => exact ⟨0, rfl, Nat.zero_le _, rfl, rfl, p1⟩
        case round =>
          clear p1
          obtain ⟨k, hgk, hk, rfl, rfl, kp⟩ := hrel
          have hpl : (101 :: leL (a0.data.toList.take k)).length ≤ 41 := by rw [List.length_cons, leL_length, List.length_take]; omega
          by_cases hlt : k < a0.size
          · have HS : Hid (101 :: leL (a0.data.toList.take (k + 1)) = (101 :: leL (a0.data.toList.take k)) ++ [97 + UInt8.ofNat (a0[k].toNat % 26)]) := by
              show 101 :: leL _ = _
              rw [take_snoc hlt, leL_snoc, leB_eq]
              rfl
            obtain ⟨tl, htl⟩ : ∃ tl, 101 :: leL (a0.data.toList.take k) = tl := ⟨_, rfl⟩
            rw [htl] at hpl HS ⊢
            clear HT0 htl
            go_wp2
            go_roundg (a0.size - (k + 1))
            case rel =>
              refine ⟨k + 1, rfl, by omega, by go_num, ?_, kp.alloc (fun k hk => Nat.lt_of_lt_of_le (hK k hk) kp.size) _⟩
              rw [HS.out]
              exact congrArg Value.string (ByteArray.mk_append_mk tl [_])
            case measure => omega
          · have hkk : k = a0.size := by omega
            subst hkk
            rw [HT0.out] at hpl ⊢
            have hall : ∀ c ∈ 101 :: leL a0.data.toList, 97 ≤ c.toNat ∧ c.toNat ≤ 122 := by
              intro c hc
              rcases List.mem_cons.1 hc with rfl | hc
              · decide
              · exact le_all _ c hc
            obtain ⟨nl, enl⟩ : ∃ nl, leL a0.data.toList = nl := ⟨_, rfl⟩
            rw [enl] at hpl hall ⊢
            obtain ⟨tl, etl⟩ : ∃ tl, 101 :: nl = tl := ⟨_, rfl⟩
            have HALL : Hid (∀ c ∈ 101 :: nl, 97 ≤ c.toNat ∧ c.toNat ≤ 122) := hall
            rw [etl] at hpl ⊢
            have HTL : Hid (101 :: nl = tl) := etl
            have hT1 := hT.kept kp k0 k1
            have HKP : Hid (Kept K w wr ∧ Tab wr) := ⟨kp, hT1⟩
            have q1 := fun X => rraw_any ⟨tl.toArray⟩ (fun k => k < X.heap.size) X
            have q2 := fun X => rsoft_any ⟨tl.toArray⟩ (fun k => k < X.heap.size) X
            simp only [ByteArray.toList_eq] at q1 q2
            have q3 := fun X => rtext_any a2 X (by omega)
            clear HT0 hlt hgk hk hall etl enl hT1 hT
            obtain ⟨b1, hb1⟩ : ∃ b, rawP tl = b := ⟨_, rfl⟩
            obtain ⟨b2, hb2⟩ : ∃ b, softP tl = b := ⟨_, rfl⟩
            replace q1 : ∀ X, Calls Tryd.prog 8 #[sv tl] X fun e w' => e = .returned (.bool b1) ∧ Kept (fun k => k < X.heap.size) X w' := by rw [← hb1]; exact q1
            replace q2 : ∀ X, Calls Tryd.prog 9 #[sv tl] X fun e w' => e = .returned (.bool b2) ∧ Kept (fun k => k < X.heap.size) X w' := by rw [← hb2]; exact q2
            clear kp
            cases b1 with
            | true =>
              go_wp2_with fail
              refine (q1 _).mono ?_
              rintro e w2 ⟨rfl, p2⟩
              have hf := hfin w2 (HKP.out.1.trans (p2.mono fun k hk => Nat.lt_of_lt_of_le (hK k hk) HKP.out.1.size))
              clear q1 q2 q3 HA HALL HTL
              go_wp2
              go_ret
              exact ⟨rfl, hf⟩
            | false =>
              go_wp2_with fail
              refine (q1 _).mono ?_
              rintro e w2 ⟨rfl, p2⟩
              have HKP2 : Hid (Kept K w w2 ∧ Tab w2) := by
                have := HKP.out.1.trans (p2.mono fun k hk => Nat.lt_of_lt_of_le (hK k hk) HKP.out.1.size)
                exact ⟨this, HKP.out.2.kept p2 (Nat.lt_of_lt_of_le (hK 0 k0) HKP.out.1.size) (Nat.lt_of_lt_of_le (hK 1 k1) HKP.out.1.size)⟩
              clear q1 p2 HKP
              cases b2 with
              | true =>
                go_wp2_with fail
                refine (q2 _).mono ?_
                rintro e w3 ⟨rfl, p3⟩
                have hf := hfin w3 (HKP2.out.1.trans (p3.mono fun k hk => Nat.lt_of_lt_of_le (hK k hk) HKP2.out.1.size))
                clear q2 q3 HA HALL HTL
                go_wp2
                go_ret
                exact ⟨rfl, hf⟩
              | false =>
                have HKK : Hid (softP (101 :: nl) = false ∧ rawP (101 :: nl) = false) := by rw [HTL.out]; exact ⟨hb2, hb1⟩
                go_wp2_with fail
                refine (q2 _).mono ?_
                rintro e w3 ⟨rfl, p3⟩
                have HKP3 : Hid (Kept K w w3 ∧ Tab w3) := by
                  have := HKP2.out.1.trans (p3.mono fun k hk => Nat.lt_of_lt_of_le (hK k hk) HKP2.out.1.size)
                  exact ⟨this, HKP2.out.2.kept p3 (Nat.lt_of_lt_of_le (hK 0 k0) HKP2.out.1.size) (Nat.lt_of_lt_of_le (hK 1 k1) HKP2.out.1.size)⟩
                clear q2 p3 HKP2 hb1 hb2
                go_wp2_with fail
                refine (q3 _).mono ?_
                rintro e w4 ⟨rfl, rfl⟩
                clear q3
                have ca : (⟨#[60]⟩ : ByteArray) ++ ⟨tl.toArray⟩ = ⟨(60 :: tl).toArray⟩ := mk_app2 _ _
                go_wp2_with fail
                clear ca
                have h4 := HKP3.out.1
                go_loopg [10, 11, 12] len1 (fun gm sw wv iv wx => ∃ (k cp : Nat) (ao : Option Addr), gm = len1 - k ∧ k ≤ len1 ∧ iv = .int .i64 k ∧ sw = sv (60 :: (tl ++ aws (lsOf V k))) ∧ wv = .slice ao k cp ∧ OwnZ K wx 28 2 ao k cp (atrCells (ats (lsOf V k))) ∧ (aws (lsOf V k)).length ≤ k * 3606 ∧ Kept K w wx)
                case atStart => exact ⟨0, 0, none, rfl, Nat.zero_le _, rfl, by simp [lsOf, aws], rfl, OwnZ.nil _ _ _ _, Nat.le_refl _, h4⟩
                case round =>
                  clear h4
                  obtain ⟨k, cp, ao, hgk, hk, rfl, rfl, rfl, how, hal, kp⟩ := hrel
                  have hK1 : ∀ k, K k → k < wr.heap.size := fun k hk => Nat.lt_of_lt_of_le (hK k hk) kp.size
                  by_cases hlt : k < len1
                  · obtain ⟨g, o, rfl, hg, hcs⟩ : ∃ g o, a1 = some ⟨g, o, none⟩ ∧ g < w.heap.size ∧ ∀ i, i < len1 → w.cell? ⟨g, o + (i * 2 + 1), none⟩ = some (.string (V i)) := by
                      rcases HA.out with h | ⟨g, o, h1, h2, h3⟩
                      · omega
                      · exact ⟨g, o, h1, h2, h3⟩
                    have hc : wr.cell? ⟨g, o + k * 2 + 1, none⟩ = some (.string (V k)) := by
                      have := (kp.cell (p := ⟨g, o + (k * 2 + 1), none⟩) (hKall g hg)).trans (hcs k hlt)
                      rwa [← Nat.add_assoc] at this
                    have hgr : g < wr.heap.size := Nat.lt_of_lt_of_le hg kp.size
                    clear hcs
                    by_cases hv : (V k).size ≤ 200
                    · have t1 : decide (((V k).size : Int) > 200) = false := decide_eq_false (by omega)
                      have haw := aws_succ V k
                      have hat := ats_succ V k
                      obtain ⟨CV, hCV⟩ : ∃ x, cleanL (V k).data.toList = x := ⟨_, rfl⟩
                      rw [hCV] at haw hat
                      have hCl : CV.length ≤ 600 := by
                        have := cleanL_length (V k).data.toList
                        have h3 : (V k).data.toList.length = (V k).size := rfl
                        rw [hCV] at this
                        omega
                      have hEl := esc_short true CV
                      have r1 : ∀ X, Calls Tryd.prog 11 #[.string (V k)] X fun e w' => e = .returned (sv CV) ∧ w' = X := fun X => by
                        have := rclean_any (V k) (by omega) X
                        rwa [hCV] at this
                      have r2 : ∀ X, Calls Tryd.prog 12 #[sv CV] X fun e w' => e = .returned (sv (esc true CV)) ∧ w' = X := fun X => rvalue_any ⟨CV.toArray⟩ X (by rw [sv_size]; omega)
                      obtain ⟨E, hE⟩ : ∃ x, esc true CV = x := ⟨_, rfl⟩
                      simp only [hE] at r2 hEl
                      obtain ⟨c, hcc⟩ : ∃ c : UInt8, UInt8.ofNat (97 + (k : Int)).toNat = c := ⟨_, rfl⟩
                      have hcc2 : UInt8.ofNat (97 + k) = c := by rw [← hcc]; congr 1
                      have HCN : Hid ((97 + (k : Int)) = (c.toNat : Int)) := by show _ = _; rw [← hcc2, UInt8.toNat_ofNat']; omega
                      rw [hcc2] at haw hat
                      obtain ⟨A, hAe⟩ : ∃ x, aws (lsOf V k) = x := ⟨_, rfl⟩
                      rw [hAe] at haw hal ⊢
                      obtain ⟨L0, hL0⟩ : ∃ x, 60 :: (tl ++ A) = x := ⟨_, rfl⟩
                      obtain ⟨L1, hL1⟩ : ∃ x, L0 ++ [32] = x := ⟨_, rfl⟩
                      obtain ⟨L2, hL2⟩ : ∃ x, L1 ++ [107, c] = x := ⟨_, rfl⟩
                      obtain ⟨L3, hL3⟩ : ∃ x, L2 ++ [61, 34] = x := ⟨_, rfl⟩
                      obtain ⟨L4, hL4⟩ : ∃ x, L3 ++ E = x := ⟨_, rfl⟩
                      obtain ⟨L5, hL5⟩ : ∃ x, L4 ++ [34] = x := ⟨_, rfl⟩
                      have HL : Hid (60 :: (tl ++ aws (lsOf V (k + 1))) = L5) := by
                        show _ = _
                        rw [haw, ← hL5, ← hL4, ← hL3, ← hL2, ← hL1, ← hL0]
                        simp [aw, hE]
                      have hlen : (aws (lsOf V (k + 1))).length ≤ (k + 1) * 3606 := by
                        rw [haw, List.length_append, aw_length, hE]
                        omega
                      have z0 : L0.length ≤ 80000 := by rw [← hL0, List.length_cons, List.length_append]; omega
                      have z1 : L1.length ≤ 80001 := by rw [← hL1, List.length_append]; simp only [List.length_cons, List.length_nil]; omega
                      have z2 : L2.length ≤ 80003 := by rw [← hL2, List.length_append]; simp only [List.length_cons, List.length_nil]; omega
                      have z3 : L3.length ≤ 80005 := by rw [← hL3, List.length_append]; simp only [List.length_cons, List.length_nil]; omega
                      have z4 : L4.length ≤ 90005 := by rw [← hL4, List.length_append]; omega
                      have zE : E.length ≤ 3600 := by omega
                      rw [hL0]
                      have y1 : (⟨L0.toArray⟩ : ByteArray) ++ ⟨#[32]⟩ = ⟨L1.toArray⟩ := by rw [← hL1]; exact mk_app2 _ _
                      have y2 : (⟨L1.toArray⟩ : ByteArray) ++ ⟨#[107, c]⟩ = ⟨L2.toArray⟩ := by rw [← hL2]; exact mk_app2 _ _
                      have y3 : (⟨L2.toArray⟩ : ByteArray) ++ ⟨#[61, 34]⟩ = ⟨L3.toArray⟩ := by rw [← hL3]; exact mk_app2 _ _
                      have y4 : (⟨L3.toArray⟩ : ByteArray) ++ ⟨E.toArray⟩ = ⟨L4.toArray⟩ := by rw [← hL4]; exact mk_app2 _ _
                      have y5 : (⟨L4.toArray⟩ : ByteArray) ++ ⟨#[34]⟩ = ⟨L5.toArray⟩ := by rw [← hL5]; exact mk_app2 _ _
                      have y6 : (⟨#[107]⟩ : ByteArray) ++ ⟨#[c]⟩ = ⟨#[107, c]⟩ := mk_app2 [107] [c]
                      have hcv2 : ∀ X : World, (convert 24 9 (.slice (some ⟨X.heap.size, 0, none⟩) 1 1)).run Tryd.prog (X.alloc (.cells #[.int .u8 (97 + (k : Int))] 5)) = .ok (.string ⟨#[c]⟩) (X.alloc (.cells #[.int .u8 (97 + (k : Int))] 5)) := fun X => by rw [hcv X, hcc]
                      have u1 : IntKind.u8.wrap (k : Int) = (k : Int) := by rw [IntKind.wrap_u8]; omega
                      have u2 : IntKind.u8.wrap (97 + (k : Int)) = 97 + (k : Int) := by rw [IntKind.wrap_u8]; omega
                      have hcv3 : (convert 24 9 (.slice (some ⟨wr.heap.size, 0, none⟩) 1 1)).run Tryd.prog (wr.alloc (.cells #[.int .u8 (97 + (k : Int))] 5)).drew = .ok (.string ⟨#[c]⟩) (wr.alloc (.cells #[.int .u8 (97 + (k : Int))] 5)).drew := hcv2 wr.drew
                      obtain ⟨N, hN⟩ : ∃ N, wr.heap.size = N := ⟨_, rfl⟩
                      rw [hN] at hcv3
                      have hc2 : ∀ oo, (wr.alloc oo).cell? ⟨g, o + k * 2 + 1, none⟩ = some (.string (V k)) := fun oo => (World.cell?_of_block (w := wr) (Below.heap_alloc _ _ _ hgr)).trans hc
                      have HOW : Hid (OwnZ K wr 28 2 ao k cp (atrCells (ats (lsOf V k)))) := how
                      have HAT : Hid (ats (lsOf V (k + 1)) = ats (lsOf V k) ++ [⟨[107, c], CV⟩]) := hat
                      have HLEN : Hid ((aws (lsOf V (k + 1))).length ≤ (k + 1) * 3606) := hlen
                      have HKP4 : Hid (Kept K w wr) := kp
                      have HK1 : Hid (∀ k, K k → k < wr.heap.size) := hK1
                      clear HA how hat hlen kp hK1 hL0 hL1 hL2 hL3 hL4 hL5 hAe haw hal hcc hcc2 hCV hE HALL HTL HKK HKP3 hKall hcv hEl hCl
                      go_upto_region 18 with fail
                      go_cut [13] (fun s13 wx => ∃ M, s13 = .pointer (some ⟨M, 0, none⟩) ∧ wx.cell? ⟨M, 0, none⟩ = some (.string ⟨#[107, c]⟩) ∧ wx.cell? ⟨M, 1, none⟩ = some (sv CV) ∧ Kept (fun k => k < wr.heap.size) wr wx ∧ wr.heap.size ≤ M ∧ M < wx.heap.size)
                      case first =>
                        have hc3 : ∀ o1 o2, ((wr.alloc o1).alloc o2).cell? ⟨g, o + k * 2 + 1, none⟩ = some (.string (V k)) := fun o1 o2 => by
                          rw [World.cell?_of_block (w := wr.alloc o1) (Below.heap_alloc _ _ _ (by simp; omega))]
                          exact hc2 o1
                        have kA : ∀ o1 o2, Kept (fun k => k < wr.heap.size) wr ((wr.alloc o1).alloc o2) := fun o1 o2 => ((Kept.refl _ wr).alloc (fun _ h => h) o1).alloc (fun k hk => by have : k < wr.heap.size := hk; simp; omega) o2
                        have hcv4 : (convert 24 9 (.slice (some ⟨N + 1, 0, none⟩) 1 1)).run Tryd.prog ((wr.alloc (.cells #[.string ⟨#[]⟩, .string ⟨#[]⟩] 28)).alloc (.cells #[.int .u8 (97 + (k : Int))] 5)).drew = .ok (.string ⟨#[c]⟩) ((wr.alloc (.cells #[.string ⟨#[]⟩, .string ⟨#[]⟩] 28)).alloc (.cells #[.int .u8 (97 + (k : Int))] 5)).drew := by
                          have := hcv2 (wr.alloc (.cells #[.string ⟨#[]⟩, .string ⟨#[]⟩] 28)).drew
                          have e : (wr.alloc (.cells #[.string ⟨#[]⟩, .string ⟨#[]⟩] 28)).drew.heap.size = N + 1 := by show (wr.alloc _).heap.size = _; simp [hN]
                          rw [e] at this
                          exact this
                        have hcv5 : ∀ o2, (convert 24 9 (.slice (some ⟨N, 0, none⟩) 1 1)).run Tryd.prog ((wr.alloc (.cells #[.int .u8 (97 + (k : Int))] 5)).alloc o2).drew = .ok (.string ⟨#[c]⟩) ((wr.alloc (.cells #[.int .u8 (97 + (k : Int))] 5)).alloc o2).drew := fun o2 => by
                          refine conv_cell _ N c ?_
                          show ((wr.alloc (.cells #[.int .u8 (97 + (k : Int))] 5)).alloc o2).cell? _ = _
                          have hb := heap_alloc_past (heap_alloc_new wr (.cells #[.int .u8 (97 + (k : Int))] 5)) o2
                          rw [hN] at hb
                          rw [cell_block hb]
                          show some (Value.int .u8 (97 + (k : Int))) = _
                          rw [HCN.out]
                        have hFA : Hid (∀ B, (((wr.alloc B).alloc (.cells #[.string ⟨#[107, c]⟩, sv CV] 28)).drew).cell? ⟨N + 1, 0, none⟩ = some (.string ⟨#[107, c]⟩) ∧ (((wr.alloc B).alloc (.cells #[.string ⟨#[107, c]⟩, sv CV] 28)).drew).cell? ⟨N + 1, 1, none⟩ = some (sv CV) ∧ Kept (fun k => k < wr.heap.size) wr (((wr.alloc B).alloc (.cells #[.string ⟨#[107, c]⟩, sv CV] 28)).drew) ∧ wr.heap.size ≤ N + 1 ∧ N + 1 < (((wr.alloc B).alloc (.cells #[.string ⟨#[107, c]⟩, sv CV] 28)).drew).heap.size) := by
                          intro B
                          have hb := heap_alloc_new (wr.alloc B) (.cells #[.string ⟨#[107, c]⟩, sv CV] 28)
                          have e : (wr.alloc B).heap.size = N + 1 := by simp [hN]
                          rw [e] at hb
                          refine ⟨?_, ?_, (kA _ _).drew, by omega, ?_⟩
                          · show ((wr.alloc B).alloc _).cell? _ = _
                            rw [cell_block hb]
                            rfl
                          · show ((wr.alloc B).alloc _).cell? _ = _
                            rw [cell_block hb]
                            rfl
                          · show _ < ((wr.alloc B).alloc _).heap.size
                            simp
                            omega
                        have hFB : Hid (∀ B, (((wr.alloc (.cells #[.string ⟨#[107, c]⟩, sv CV] 28)).alloc B).drew).cell? ⟨N, 0, none⟩ = some (.string ⟨#[107, c]⟩) ∧ (((wr.alloc (.cells #[.string ⟨#[107, c]⟩, sv CV] 28)).alloc B).drew).cell? ⟨N, 1, none⟩ = some (sv CV) ∧ Kept (fun k => k < wr.heap.size) wr (((wr.alloc (.cells #[.string ⟨#[107, c]⟩, sv CV] 28)).alloc B).drew) ∧ wr.heap.size ≤ N ∧ N < (((wr.alloc (.cells #[.string ⟨#[107, c]⟩, sv CV] 28)).alloc B).drew).heap.size) := by
                          intro B
                          have hb := heap_alloc_past (heap_alloc_new wr (.cells #[.string ⟨#[107, c]⟩, sv CV] 28)) B
                          rw [hN] at hb
                          refine ⟨?_, ?_, (kA _ _).drew, by omega, ?_⟩
                          · show ((wr.alloc _).alloc B).cell? _ = _
                            rw [cell_block hb]
                            rfl
                          · show ((wr.alloc _).alloc B).cell? _ = _
                            rw [cell_block hb]
                            rfl
                          · show _ < ((wr.alloc _).alloc B).heap.size
                            simp
                            omega
                        clear hcv2 HL HAT HLEN HOW HKP4 HK1 y1 y2 y3 y4 y5 r2 HCN kA
                        go_region_law (refine step_call rfl 11 #[.tmp 83] #[9] rfl #[.string (V k)] (by first | (simp [Act.eval]; done) | (simp [Act.eval, Act.put]; done)) (enter11 _ _) (sv CV) _ (r1 _) ?_; rintro w20 rfl)
                        all_goals
                          go_wp2
                          go_meet
                          case rel => first | exact ⟨N + 1, rfl, hFA.out _⟩ | exact ⟨N, rfl, hFB.out _⟩
                      case rest =>
                        clear hcv2 hc hc2 HCN hcv3 y6 r1 t1 u1 u2
                        obtain ⟨M, rfl, m0, m1, kM, hM1, hM2⟩ := hcut
                        have how2 : OwnZ (fun k => K k ∨ k = M) wc 28 2 ao k cp (atrCells (ats (lsOf V k))) := HOW.out.to (fun g hg hh => by
                            rcases hh with hh | hh
                            · exact (HOW.out.out hg).1 hh
                            · have := (HOW.out.out hg).2
                              omega) (fun g hg => kM.block g (HOW.out.out hg).2)
                        obtain ⟨ao', cp', w6, hr, ho', hk'⟩ := appAt how2 (fun j hj => by
                            rcases hj with hj | hj
                            · exact Nat.lt_of_lt_of_le (HK1.out j hj) kM.size
                            · omega) (by omega) ⟨#[107, c]⟩ ⟨CV.toArray⟩
                        have d0 : w6.cell? ⟨M, 0, none⟩ = some (.string ⟨#[107, c]⟩) := (hk'.cell (p := ⟨M, 0, none⟩) (.inr rfl)).trans m0
                        have d1 : w6.cell? ⟨M, 1, none⟩ = some (sv CV) := (hk'.cell (p := ⟨M, 1, none⟩) (.inr rfl)).trans m1
                        have HR : Hid (∀ m, Kept K w (w6.drewN m) ∧ OwnZ K (w6.drewN m) 28 2 ao' (k + 1) cp' (atrCells (ats (lsOf V (k + 1))))) := by
                          intro m
                          refine ⟨((HKP4.out.trans (kM.mono HK1.out)).trans (hk'.mono fun _ h => .inl h)).drewN m, ?_⟩
                          rw [HAT.out, atrCells_append]
                          exact ho'.to (fun g hg hh => (ho'.out hg).1 (.inl hh)) (fun _ _ => rfl)
                        clear HOW how2 ho' hk' kM hM1 hM2 HK1 HKP4 HAT
                        go_wp2_with (at_builtin; refine wpList_appR (w' := w6) rfl (.tmp 86) (.tmp 88) 22 22 rfl _ _ (.slice ao' (k + 1) cp') rfl rfl hr ?_)
                        go_quiet ((go_at_call 12; exact Calls.quiet_of_same (r2 _)))
                        go_wp2
                        go_roundg (len1 - (k + 1))
                        case rel => exact ⟨k + 1, cp', ao', rfl, by omega, by go_num, by rw [HL.out], rfl, (HR.out _).2, HLEN.out, (HR.out _).1⟩
                        case measure => omega
                    · have t1 : decide (((V k).size : Int) > 200) = true := decide_eq_true (by omega)
                      have hf := hfin wr kp
                      clear how HALL HTL HKK HKP3 HA
                      go_wp2
                      go_ret
                      exact ⟨rfl, hf⟩
                  · have hkk : k = len1 := by omega
                    subst hkk
                    have hT1 : Tab wr := HTw.out.kept kp k0 k1
                    have s1 : 1 < wr.heap.size := Nat.lt_of_lt_of_le h2 kp.size
                    obtain ⟨u, hu⟩ : ∃ x, cleanL a2.data.toList = x := ⟨_, rfl⟩
                    have hu0 : ∀ d ∈ u, d ≠ 0 := by rw [← hu]; exact clean_no _
                    have hul : u.length ≤ 600 := by
                      have := cleanL_length a2.data.toList
                      have h3 : a2.data.toList.length = a2.size := rfl
                      rw [hu] at this
                      omega
                    have hcl := clean_esc a2.data.toList
                    rw [hu] at hcl
                    have hEl := esc_short false u
                    have hEl2 := esc_short false a2.data.toList
                    have r5 : ∀ X, Calls Tryd.prog 11 #[.string ⟨(esc false a2.data.toList).toArray⟩] X fun e w' => e = .returned (sv (esc false u)) ∧ w' = X := fun X => by
                      have := rclean_any ⟨(esc false a2.data.toList).toArray⟩ (by rw [sv_size]; have h3 : a2.data.toList.length = a2.size := rfl; omega) X
                      rwa [hcl] at this
                    obtain ⟨q1, q2⟩ := tok_tag HALL.out HKK.out hu0 (lsOf_letters V hz1) (lsOf_clean V k) (lsOf_nodup V hz1) (by rw [lsOf_length]; omega)
                    rw [HTL.out] at q1 q2
                    have HATL : Hid ((ats (lsOf V k)).length = k) := ats_length V k
                    obtain ⟨AT, hAT⟩ : ∃ x, ats (lsOf V k) = x := ⟨_, rfl⟩
                    rw [hAT] at q1 how HATL
                    have HW : Hid (AtsIn (fun k => k < wr.heap.size) wr ao AT) := ats_own HATL.out how
                    obtain ⟨A, hA⟩ : ∃ x, aws (lsOf V k) = x := ⟨_, rfl⟩
                    rw [hA] at q1 q2 hal ⊢
                    obtain ⟨E, hE⟩ : ∃ x, esc false u = x := ⟨_, rfl⟩
                    simp only [hE] at q1 q2 hEl r5
                    obtain ⟨L0, hL0⟩ : ∃ x, 60 :: (tl ++ A) = x := ⟨_, rfl⟩
                    obtain ⟨LA, hLA⟩ : ∃ x, E ++ L0 = x := ⟨_, rfl⟩
                    obtain ⟨LB, hLB⟩ : ∃ x, LA ++ [62] = x := ⟨_, rfl⟩
                    have hLe : E ++ 60 :: (tl ++ (A ++ [62])) = LB := by
                      rw [← hLB, ← hLA, ← hL0]
                      simp
                    rw [hLe] at q1 q2
                    have zB : LB.length < 100000 := by
                      rw [← hLB, ← hLA, ← hL0]
                      simp only [List.length_append, List.length_cons, List.length_nil]
                      omega
                    have zE : E.length ≤ 3600 := by omega
                    have z0 : L0.length ≤ 80000 := by rw [← hL0, List.length_cons, List.length_append]; omega
                    have zA : LA.length ≤ 90000 := by rw [← hLA, List.length_append]; omega
                    have yA : (⟨E.toArray⟩ : ByteArray) ++ ⟨L0.toArray⟩ = ⟨LA.toArray⟩ := by rw [← hLA]; exact mk_app2 _ _
                    have yB : (⟨LA.toArray⟩ : ByteArray) ++ ⟨#[62]⟩ = ⟨LB.toArray⟩ := by rw [← hLB]; exact mk_app2 _ _
                    have r6 := tokens_of q1 q2 zB (fun k => k < wr.heap.size) wr (fun _ h => h) hT1 (show 0 < wr.heap.size by omega) s1
                    rw [hL0]
                    by_cases h0 : u = []
                    · rw [if_pos h0] at r6
                      clear how hal HALL HTL HKK HKP3 hcl hEl2 q1 q2 hAT hA hE hL0 hLA hLB hLe h0 hu0 hul hu HA hT1 s1 hEl hKall HTw hcv
                      simp only [List.nil_append, List.length_cons, List.length_nil, Nat.zero_add] at r6
                      go_wp2_with fail
                      refine (r5 _).mono ?_
                      rintro e w6 ⟨rfl, rfl⟩
                      go_wp2_with fail
                      refine r6.mono ?_
                      rintro e w7 ⟨ta, tc, fa, fc, rfl, htk, -, p7⟩
                      obtain ⟨gt, aa, ac, rfl, gl, hats, d0, d1, d2, d3, d4, d5⟩ := htk 0 (by simp)
                      simp only [List.getElem_cons_zero, Nat.zero_mul, Nat.zero_add] at d0 d1 d2 d3 d4 d5 hats
                      have HS : Hid (∀ oo m, Calls Tryd.prog 14 #[.slice aa AT.length ac, .slice ao k cp] ((w7.alloc oo).drewN m) fun e w' => e = .returned (.bool true) ∧ ∃ q, w' = ((w7.alloc oo).drewN m).drewN q) := by
                        intro oo m
                        have kk : Kept (fun k => k < w7.heap.size) w7 ((w7.alloc oo).drewN m) := ((Kept.refl _ w7).alloc (fun _ h => h) oo).drewN m
                        have h1 : AtsIn (fun k => k < ((w7.alloc oo).drewN m).heap.size) ((w7.alloc oo).drewN m) aa AT := hats.kept kk (fun k hk => Nat.lt_of_lt_of_le hk kk.size)
                        have h2 : AtsIn (fun k => k < ((w7.alloc oo).drewN m).heap.size) ((w7.alloc oo).drewN m) ao AT := (HW.out.kept p7 (fun k hk => Nat.lt_of_lt_of_le hk p7.size)).kept kk (fun k hk => Nat.lt_of_lt_of_le hk kk.size)
                        have := sameA_any AT aa ao ac cp (by rw [HATL.out]; omega) _ h1 h2
                        rwa [HATL.out] at this ⊢
                      rw [HATL.out] at d2 HS
                      have HF : Hid (∀ oo m, Below w.heap.size w ((w7.alloc oo).drewN m)) := fun oo m => hfin _ ((kp.trans (p7.mono fun k hk => hK1 k hk)).trans ((((Kept.refl _ w7).alloc (fun _ h => h) oo).drewN m).mono fun k hk => Nat.lt_of_lt_of_le (hK1 k hk) p7.size))
                      have hs := fun oo m => HS.out oo m
                      clear r6 htk hats HS HW kp p7 hfin hK hK1 HATL
                      go_wp2_with fail
                      go_quiet ((first | (go_at_call 14; exact Calls.quiet_of (hs _ _)) | (go_at_call 11; exact Calls.quiet_of_same (r5 _))))
                      go_wp2
                      go_ret
                      exact ⟨rfl, HF.out _ _⟩
                    · rw [if_neg h0] at r6
                      clear how hal HALL HTL HKK HKP3 hcl hEl2 q1 q2 hAT hA hE hL0 hLA hLB hLe h0 hu0 hul hu HA hT1 s1 hEl hKall HTw hcv
                      simp only [List.cons_append, List.nil_append, List.length_cons, List.length_nil, Nat.zero_add, Nat.reduceAdd] at r6
                      go_wp2_with fail
                      refine (r5 _).mono ?_
                      rintro e w6 ⟨rfl, rfl⟩
                      go_wp2_with fail
                      refine r6.mono ?_
                      rintro e w7 ⟨ta, tc, fa, fc, rfl, htk, -, p7⟩
                      obtain ⟨gt, aa, ac, rfl, gl, hats, d0, d1, d2, d3, d4, d5⟩ := htk 1 (by simp)
                      simp only [List.getElem_cons_succ, List.getElem_cons_zero, Nat.one_mul, Nat.reduceAdd] at d0 d1 d2 d3 d4 d5 hats
                      have HS : Hid (∀ oo m, Calls Tryd.prog 14 #[.slice aa AT.length ac, .slice ao k cp] ((w7.alloc oo).drewN m) fun e w' => e = .returned (.bool true) ∧ ∃ q, w' = ((w7.alloc oo).drewN m).drewN q) := by
                        intro oo m
                        have kk : Kept (fun k => k < w7.heap.size) w7 ((w7.alloc oo).drewN m) := ((Kept.refl _ w7).alloc (fun _ h => h) oo).drewN m
                        have h1 : AtsIn (fun k => k < ((w7.alloc oo).drewN m).heap.size) ((w7.alloc oo).drewN m) aa AT := hats.kept kk (fun k hk => Nat.lt_of_lt_of_le hk kk.size)
                        have h2 : AtsIn (fun k => k < ((w7.alloc oo).drewN m).heap.size) ((w7.alloc oo).drewN m) ao AT := (HW.out.kept p7 (fun k hk => Nat.lt_of_lt_of_le hk p7.size)).kept kk (fun k hk => Nat.lt_of_lt_of_le hk kk.size)
                        have := sameA_any AT aa ao ac cp (by rw [HATL.out]; omega) _ h1 h2
                        rwa [HATL.out] at this ⊢
                      rw [HATL.out] at d2 HS
                      have HF : Hid (∀ oo m, Below w.heap.size w ((w7.alloc oo).drewN m)) := fun oo m => hfin _ ((kp.trans (p7.mono fun k hk => hK1 k hk)).trans ((((Kept.refl _ w7).alloc (fun _ h => h) oo).drewN m).mono fun k hk => Nat.lt_of_lt_of_le (hK1 k hk) p7.size))
                      have hs := fun oo m => HS.out oo m
                      clear r6 htk hats HS HW kp p7 hfin hK hK1 HATL
                      go_wp2_with fail
                      go_quiet ((first | (go_at_call 14; exact Calls.quiet_of (hs _ _)) | (go_at_call 11; exact Calls.quiet_of_same (r5 _))))
                      go_wp2
                      go_ret
                      exact ⟨rfl, HF.out _ _⟩
      · have e0 : decide ((a2.size : Int) > 200) = true := decide_eq_true (by omega)
        have e1 : decide ((len1 : Int) > 20) = false := decide_eq_false (by omega)
        have e2 : decide ((a0.size : Int) > 40) = false := decide_eq_false (by omega)
        go_enter Tryd.func3, Tryd.ntmps3
        go_wp2_with fail
        refine (hkn w hK hT).mono ?_
        rintro e w1 ⟨rfl, p1⟩
        go_wp2
        go_ret
        exact ⟨rfl, hfin _ p1⟩
    · have e0 : decide ((len1 : Int) > 20) = true := decide_eq_true (by omega)
      have e2 : decide ((a0.size : Int) > 40) = false := decide_eq_false (by omega)
      go_enter Tryd.func3, Tryd.ntmps3
      go_wp2_with fail
      refine (hkn w hK hT).mono ?_
      rintro e w1 ⟨rfl, p1⟩
      go_wp2
      go_ret
      exact ⟨rfl, hfin _ p1⟩
  · have e0 : decide ((a0.size : Int) > 40) = true := decide_eq_true (by omega)
    go_enter Tryd.func3, Tryd.ntmps3
    go_wp2_with fail
    refine (hkn w hK hT).mono ?_
    rintro e w1 ⟨rfl, p1⟩
    go_wp2
    go_ret
    exact ⟨rfl, hfin _ p1⟩
theorem tokenTag_holds : Rows.TokenTagCardSaid := tokenTag_of tag_walk
#print axioms tokenTag_holds
end Go.Proofs.YtncfgahnjakeiabDoor
