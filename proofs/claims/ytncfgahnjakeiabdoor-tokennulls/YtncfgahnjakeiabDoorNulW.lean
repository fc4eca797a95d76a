/-
  The walk of the statement on bytes 0.
-/
import Derived.Test.YtncfgahnjakeiabDoorNulM
import Derived.WalkKit
namespace Go.Proofs.YtncfgahnjakeiabDoor
open Go.RowKit

/-- A place as a value. -/
def iV (n : Nat) : Value := .int .i64 (n : Int)
theorem nxL_length (l : List UInt8) : (nxL l).length = l.length := by simp [nxL]
theorem nz_le (l : List UInt8) : (nz l).length ≤ l.length := List.length_filter_le _ _
theorem nx_0 {bs : List UInt8} {k : Nat} (h : k < bs.length) (h4 : bs[k].toNat % 4 = 0) : nxL (bs.take (k + 1)) = nxL (bs.take k) ++ [0] ∧ nz (nxL (bs.take k) ++ [0]) = nz (nxL (bs.take k)) ∧ zAt 0 (nxL (bs.take k) ++ [0]) = zAt 0 (nxL (bs.take k)) ++ [k] := by
  refine ⟨?_, ?_, ?_⟩
  · rw [List.take_succ_eq_append_getElem h, nx_snoc]
    unfold nxB
    rw [if_pos h4]
  · rw [nz_append]
    exact List.append_nil _
  · rw [zAt_append, nxL_length, List.length_take, Nat.min_eq_left (Nat.le_of_lt h), Nat.zero_add]
    rfl
theorem nx_1 {bs : List UInt8} {k : Nat} (h : k < bs.length) (h4 : ¬ bs[k].toNat % 4 = 0) : nxL (bs.take (k + 1)) = nxL (bs.take k) ++ [120] ∧ nz (nxL (bs.take k) ++ [120]) = nz (nxL (bs.take k)) ++ [120] ∧ zAt 0 (nxL (bs.take k) ++ [120]) = zAt 0 (nxL (bs.take k)) := by
  refine ⟨?_, ?_, ?_⟩
  · rw [List.take_succ_eq_append_getElem h, nx_snoc]
    unfold nxB
    rw [if_neg h4]
  · rw [nz_append]
    rfl
  · rw [zAt_append]
    exact List.append_nil _

set_option maxRecDepth 20000 in
set_option maxHeartbeats 4000000 in
theorem nulls_walk (a : Option Addr) (bs : List UInt8) (cap : Nat) (w : World) (hT : Tab w) (h2 : 1 < w.heap.size) (hrow : RowB (fun k => k < w.heap.size) w a bs) :
    Calls Tryd.prog 6 #[.slice a bs.length cap] w fun e w' => e = .returned (.bool true) ∧ Below w.heap.size w w' := by
  obtain ⟨K, hKe⟩ : ∃ K : Nat → Prop, (fun k => k < w.heap.size) = K := ⟨_, rfl⟩
  have hK : ∀ k, K k → k < w.heap.size := by
    rw [← hKe]
    exact fun k h => h
  have hfin : ∀ X, Kept K w X → Below w.heap.size w X := by
    rw [← hKe]
    exact fun _ h => h.below
  have k0 : K 0 := by
    rw [← hKe]
    show 0 < w.heap.size
    omega
  have k1 : K 1 := by
    rw [← hKe]
    exact h2
  rw [hKe] at hrow
  clear hKe
  have hkn := fun X hX hXT => known_any K X hX hXT k0 k1
  by_cases hz : bs.length ≤ 300
  · have e0 : decide ((bs.length : Int) > 300) = false := decide_eq_false (by omega)
    have HROW : Hid (RowB K w a bs) := hrow
    clear hrow
    go_enter Tryd.func6, Tryd.ntmps6
    go_wp2_with fail
    refine (hkn w hK hT).mono ?_
    rintro e w1 ⟨rfl, p1⟩
    clear hkn
    go_wp2_with fail
    go_loopg [3, 4, 5, 6] bs.length (fun gm s t av i wr => ∃ (k cp : Nat) (ao : Option Addr), gm = bs.length - k ∧ k ≤ bs.length ∧ i = .int .i64 k ∧ s = sv (nxL (bs.take k)) ∧ t = sv (nz (nxL (bs.take k))) ∧ av = .slice ao (zAt 0 (nxL (bs.take k))).length cp ∧ OwnZ K wr 3 1 ao (zAt 0 (nxL (bs.take k))).length cp ((zAt 0 (nxL (bs.take k))).map iV) ∧ Kept K w wr)
    case atStart => exact ⟨0, 0, none, rfl, Nat.zero_le _, rfl, rfl, rfl, rfl, OwnZ.nil _ _ _ _, p1⟩
    case round =>
      clear p1
      obtain ⟨k, cp, ao, hgk, hk, rfl, rfl, rfl, rfl, how, kp⟩ := hrel
      have l1 : (nxL (bs.take k)).length ≤ 300 := by rw [nxL_length, List.length_take]; omega
      have l2 : (nz (nxL (bs.take k))).length ≤ 300 := Nat.le_trans (nz_le _) l1
      have l3 : (zAt 0 (nxL (bs.take k))).length ≤ 300 := Nat.le_trans (zAt_length _ _) l1
      have hK1 : ∀ k, K k → k < wr.heap.size := fun k hk => Nat.lt_of_lt_of_le (hK k hk) kp.size
      by_cases hlt : k < bs.length
      · obtain ⟨g, o, rfl, hg, hcs⟩ : ∃ g o, a = some ⟨g, o, none⟩ ∧ K g ∧ ∀ j (hj : j < bs.length), w.cell? ⟨g, o + j, none⟩ = some (.int .u8 (bs[j].toNat : Int)) := by
          rcases HROW.out with h | h
          · rw [h] at hlt; exact absurd hlt (Nat.not_lt_zero _)
          · exact h
        have hc : wr.cell? ⟨g, o + k, none⟩ = some (.int .u8 (bs[k].toNat : Int)) := (kp.cell (p := ⟨g, o + k, none⟩) hg).trans (hcs k hlt)
        clear hcs
        by_cases h4 : bs[k].toNat % 4 = 0
        · obtain ⟨n1, n2, n3⟩ := nx_0 hlt h4
          have HN : Hid (nxL (bs.take (k + 1)) = nxL (bs.take k) ++ [0]) := n1
          have HN2 : Hid (nz (nxL (bs.take k) ++ [0]) = nz (nxL (bs.take k))) := n2
          have HN3 : Hid (zAt 0 (nxL (bs.take k) ++ [0]) = zAt 0 (nxL (bs.take k)) ++ [k]) := n3
          clear n1 n2 n3
          obtain ⟨S, eS⟩ : ∃ S, nxL (bs.take k) = S := ⟨_, rfl⟩
          rw [eS] at l1 l2 l3 how HN HN2 HN3 ⊢
          obtain ⟨ao', cp', w', hr, ho', hk'⟩ := appI how hK1 (by omega) (k : Int)
          obtain ⟨Z, eZ⟩ : ∃ Z, zAt 0 S = Z := ⟨_, rfl⟩
          obtain ⟨T, eT⟩ : ∃ T, nz S = T := ⟨_, rfl⟩
          obtain ⟨n, en⟩ : ∃ n, Z.length = n := ⟨_, rfl⟩
          rw [eT] at l2 HN2 ⊢
          rw [eZ] at l3 hr ho' HN3 ⊢
          rw [en] at l3 hr ho' ⊢
          have HO : Hid (OwnZ K w' 3 1 ao' (n + 1) cp' (Z.map iV ++ [iV k])) := ho'
          have HEN : Hid (Z.length = n) := en
          have hkw := kp.trans hk'
          have c1 : (⟨S.toArray⟩ : ByteArray) ++ ⟨#[0]⟩ = ⟨(S ++ [0]).toArray⟩ := mk_app2 _ _
          have t4 : bs[k].toNat.mod 4 = 0 := h4
          have t5 : ((bs[k].toNat : Int) % 4 == 0) = true := by simp; omega
          clear HROW how ho' hk' kp eS eZ eT en hK1 hT
          go_wp2_with (at_builtin; refine wpList_appR (w' := w') rfl (.tmp 30) (.tmp 32) 40 40 rfl _ _ (.slice ao' (n + 1) cp') rfl rfl hr ?_)
          go_roundg (bs.length - (k + 1))
          case rel =>
            refine ⟨k + 1, cp', ao', rfl, by omega, by go_num, by rw [HN.out], by rw [HN.out, HN2.out], ?_, ?_, hkw⟩
            · rw [HN.out, HN3.out, List.length_append, HEN.out]
              rfl
            · rw [HN.out, HN3.out, List.length_append, HEN.out, List.map_append]
              exact HO.out
          case measure => omega
        · obtain ⟨n1, n2, n3⟩ := nx_1 hlt h4
          have HN : Hid (nxL (bs.take (k + 1)) = nxL (bs.take k) ++ [120]) := n1
          have HN2 : Hid (nz (nxL (bs.take k) ++ [120]) = nz (nxL (bs.take k)) ++ [120]) := n2
          have HN3 : Hid (zAt 0 (nxL (bs.take k) ++ [120]) = zAt 0 (nxL (bs.take k))) := n3
          clear n1 n2 n3
          obtain ⟨S, eS⟩ : ∃ S, nxL (bs.take k) = S := ⟨_, rfl⟩
          rw [eS] at l1 l2 l3 how HN HN2 HN3 ⊢
          obtain ⟨Z, eZ⟩ : ∃ Z, zAt 0 S = Z := ⟨_, rfl⟩
          obtain ⟨T, eT⟩ : ∃ T, nz S = T := ⟨_, rfl⟩
          obtain ⟨n, en⟩ : ∃ n, Z.length = n := ⟨_, rfl⟩
          rw [eT] at l2 HN2 ⊢
          rw [eZ] at l3 how HN3 ⊢
          rw [en] at l3 how ⊢
          have HO : Hid (OwnZ K wr 3 1 ao n cp (Z.map iV)) := how
          have HEN : Hid (Z.length = n) := en
          have c1 : (⟨S.toArray⟩ : ByteArray) ++ ⟨#[120]⟩ = ⟨(S ++ [120]).toArray⟩ := mk_app2 _ _
          have c2 : (⟨T.toArray⟩ : ByteArray) ++ ⟨#[120]⟩ = ⟨(T ++ [120]).toArray⟩ := mk_app2 _ _
          have t5 : ((bs[k].toNat : Int) % 4 == 0) = false := by simp; omega
          clear HROW how eS eZ eT en hK1 hT
          go_wp2
          go_roundg (bs.length - (k + 1))
          case rel =>
            refine ⟨k + 1, cp, ao, rfl, by omega, by go_num, by rw [HN.out], by rw [HN.out, HN2.out], ?_, ?_, kp⟩
            · rw [HN.out, HN3.out, HEN.out]
            · rw [HN.out, HN3.out, HEN.out]
              exact HO.out
          case measure => omega
      · have hkk : k = bs.length := by omega
        subst hkk
        rw [List.take_length] at l1 l2 l3 how ⊢
        obtain ⟨pa, q1, q2⟩ := tok_nulls (nx_all bs)
        obtain ⟨S, eS⟩ : ∃ S, nxL bs = S := ⟨_, rfl⟩
        rw [eS] at l1 l2 l3 how q1 q2 ⊢
        have hT1 := hT.kept kp k0 k1
        have s1 : 1 < wr.heap.size := Nat.lt_of_lt_of_le h2 kp.size
        have hf := fun X (hX : Kept (fun k => k < wr.heap.size) wr X) => hfin X (kp.trans (hX.mono fun k hk => hK1 k hk))
        have r1 := tokens_of q1 q2 (by omega) (fun k => k < wr.heap.size) wr (fun _ h => h) hT1 (show 0 < wr.heap.size by omega) s1
        rw [List.length_map] at r1
        obtain ⟨Z, eZ⟩ : ∃ Z, zAt 0 S = Z := ⟨_, rfl⟩
        rw [eZ] at l3 how r1 ⊢
        obtain ⟨T, eT⟩ : ∃ T, nz S = T := ⟨_, rfl⟩
        rw [eT] at l2 r1 ⊢
        have HAT : Hid (∀ X, Kept (fun k => k < wr.heap.size) wr X → ∀ j (h : j < Z.length), ∃ g, ao = some ⟨g, 0, none⟩ ∧ X.cell? ⟨g, j, none⟩ = some (.int .i64 (Z[j] : Int))) := by
          intro X hX j hj
          obtain ⟨g, e1, e2⟩ := how.cell (j := j) (u := iV Z[j]) (by rw [List.getElem?_map, List.getElem?_eq_getElem hj]; rfl)
          exact ⟨g, e1, (hX.cell (p := ⟨g, j, none⟩) (how.out e1).2).trans e2⟩
        obtain ⟨n, en⟩ : ∃ n, Z.length = n := ⟨_, rfl⟩
        rw [en] at l3 r1 ⊢
        have HEN : Hid (Z.length = n) := en
        clear HROW how eS eZ eT en hK1 hT kp hlt hgk hk hfin hK q1 q2
        by_cases hnz : T = []
        · subst hnz
          rw [if_pos rfl] at r1
          clear l2
          go_wp2_with fail
          refine r1.mono ?_
          rintro e w2 ⟨ta, tc, fa, fc, rfl, -, hfl, p2⟩
          have HC : Hid (∀ j, j < n → ∃ g g' z, ao = some ⟨g, 0, none⟩ ∧ fa = some ⟨g', 0, none⟩ ∧ w2.cell? ⟨g, j, none⟩ = some (.int .i64 z) ∧ w2.cell? ⟨g', j * 2, none⟩ = some (.int .u8 3) ∧ w2.cell? ⟨g', j * 2 + 1, none⟩ = some (.int .i64 z)) := by
            intro j hj
            have hj' : j < Z.length := by rw [HEN.out]; exact hj
            obtain ⟨g, e1, e2⟩ := HAT.out w2 p2 j hj'
            obtain ⟨g', e3, _, e4, e5⟩ := hfl j (by rw [List.length_map]; exact hj')
            simp only [List.getElem_map] at e4 e5
            exact ⟨g, g', _, e1, e3, e2, e4, e5⟩
          have hfw := fun q => hf (w2.drewN q) (p2.drewN q)
          clear HAT hfl r1 hf p2 hT1 s1 HEN
          go_wp2_with fail
          go_loopg [9] n (fun gm i wx => ∃ k q : Nat, gm = n - k ∧ k ≤ n ∧ i = .int .i64 k ∧ wx = w2.drewN q)
          case atStart => exact ⟨0, 0, rfl, Nat.zero_le _, rfl, rfl⟩
          case round =>
            obtain ⟨k, q, hgk, hk, rfl, rfl⟩ := hrel
            by_cases hlt : k < n
            · obtain ⟨g, g', z, rfl, rfl, x1, x2, x3⟩ := HC.out k hlt
              clear HC
              go_wp2_with fail
              go_big_quiet (fail)
              go_wp2
              go_roundg (n - (k + 1))
              case rel => exact ⟨k + 1, _, rfl, by omega, by go_num, rfl⟩
              case measure => omega
            · clear HC
              go_wp2
              go_ret
              exact ⟨rfl, hfw _⟩
        · rw [if_neg hnz] at r1
          have hemp : T.isEmpty = false := by cases T with | nil => exact absurd rfl hnz | cons => rfl
          clear hnz
          go_wp2_with fail
          refine r1.mono ?_
          rintro e w2 ⟨ta, tc, fa, fc, rfl, htk, hfl, p2⟩
          obtain ⟨gt, aa, ac, rfl, _, _, _, _, _, _, d4, _⟩ := htk 0 (by simp)
          simp only [List.getElem_cons_zero, Nat.zero_mul, Nat.zero_add] at d4
          clear htk
          have HC : Hid (∀ j, j < n → ∃ g g' z, ao = some ⟨g, 0, none⟩ ∧ fa = some ⟨g', 0, none⟩ ∧ w2.cell? ⟨g, j, none⟩ = some (.int .i64 z) ∧ w2.cell? ⟨g', j * 2, none⟩ = some (.int .u8 3) ∧ w2.cell? ⟨g', j * 2 + 1, none⟩ = some (.int .i64 z)) := by
            intro j hj
            have hj' : j < Z.length := by rw [HEN.out]; exact hj
            obtain ⟨g, e1, e2⟩ := HAT.out w2 p2 j hj'
            obtain ⟨g', e3, _, e4, e5⟩ := hfl j (by rw [List.length_map]; exact hj')
            simp only [List.getElem_map] at e4 e5
            exact ⟨g, g', _, e1, e3, e2, e4, e5⟩
          have hfw := fun q => hf (w2.drewN q) (p2.drewN q)
          clear HAT hfl r1 hf p2 hT1 s1 HEN
          go_wp2_with fail
          go_loopg [9] n (fun gm i wx => ∃ k q : Nat, gm = n - k ∧ k ≤ n ∧ i = .int .i64 k ∧ wx = w2.drewN q)
          case atStart => exact ⟨0, 0, rfl, Nat.zero_le _, rfl, rfl⟩
          case round =>
            obtain ⟨k, q, hgk, hk, rfl, rfl⟩ := hrel
            by_cases hlt : k < n
            · obtain ⟨g, g', z, rfl, rfl, x1, x2, x3⟩ := HC.out k hlt
              clear HC
              go_wp2_with fail
              go_big_quiet (fail)
              go_wp2
              go_roundg (n - (k + 1))
              case rel => exact ⟨k + 1, _, rfl, by omega, by go_num, rfl⟩
              case measure => omega
            · clear HC
              go_wp2
              go_ret
              exact ⟨rfl, hfw _⟩
  · have e0 : decide ((bs.length : Int) > 300) = true := decide_eq_true (by omega)
    clear hrow
    go_enter Tryd.func6, Tryd.ntmps6
    go_wp2_with fail
    refine (hkn w hK hT).mono ?_
    rintro e w1 ⟨rfl, p1⟩
    go_wp2
    go_ret
    exact ⟨rfl, hfin _ p1⟩
end Go.Proofs.YtncfgahnjakeiabDoor
