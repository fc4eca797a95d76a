/-
  What is known of the nodes that have been passed, in memory; may a node stand where it does?
-/
import Derived.Test.YtikaheenjhdpmaaYb
namespace Go.Proofs.Ytikaheenjhdpmaa
open Go.RowKit Go.Sort
set_option linter.unusedVariables false
set_option maxRecDepth 100000
set_option maxHeartbeats 8000000
def PlR (w : World) (g n : Nat) (dn la : Nat → Nat) : Prop := ∃ cs, w.heap[g]? = some (.cells cs 93 (0, 0)) ∧ cs.size = n * 2 ∧ ∀ j, j < n → cs[j * 2]? = some (.int .i64 (dn j : Int)) ∧ cs[j * 2 + 1]? = some (.int .u8 (la j : Int))
theorem PlR.at0 {w : World} {g n : Nat} {dn la : Nat → Nat} (h : PlR w g n dn la) {j : Nat} (hj : j < n) : w.cell? ⟨g, j * 2, none⟩ = some (.int .i64 (dn j : Int)) := by
  obtain ⟨cs, h1, h2, h3⟩ := h
  rw [cell_block h1]; exact (h3 j hj).1
theorem PlR.at1 {w : World} {g n : Nat} {dn la : Nat → Nat} (h : PlR w g n dn la) {j : Nat} (hj : j < n) : w.cell? ⟨g, j * 2 + 1, none⟩ = some (.int .u8 (la j : Int)) := by
  obtain ⟨cs, h1, h2, h3⟩ := h
  rw [cell_block h1]; exact (h3 j hj).2
theorem PlR.kept {K : Nat → Prop} {w w' : World} {g n : Nat} {dn la : Nat → Nat} (h : PlR w g n dn la) (hk : Kept K w w') (hg : K g) : PlR w' g n dn la := by
  obtain ⟨cs, h1, h2, h3⟩ := h
  exact ⟨cs, by rw [hk.block g hg]; exact h1, h2, h3⟩
theorem PlR.fz {w : World} {g n : Nat} {dn la : Nat → Nat} (h : PlR w g n dn la) (i : Nat) : w.frozen? ⟨g, i, none⟩ = false := by
  obtain ⟨cs, h1, -, -⟩ := h
  simp [World.frozen?, h1]
def upF (f : Nat → Nat) (k v : Nat) (j : Nat) : Nat := if j = k then v else f j
theorem PlR.set0 {w : World} {g n : Nat} {dn la : Nat → Nat} (h : PlR w g n dn la) {k : Nat} (hk : k < n) (v : Nat) : PlR (w.setCell ⟨g, k * 2, none⟩ (.int .i64 (v : Int))) g n (upF dn k v) la := by
  obtain ⟨cs, h1, h2, h3⟩ := h
  refine ⟨_, heap_setCell_at h1 (k * 2) _, by simpa using h2, fun j hj => ?_⟩
  have hs := h3 j hj
  constructor
  · unfold upF
    by_cases c : j = k
    · subst c
      rw [if_pos rfl, Array.getElem?_setIfInBounds_self_of_lt (by omega)]
    · rw [if_neg c, Array.getElem?_setIfInBounds_ne (by omega)]; exact hs.1
  · rw [Array.getElem?_setIfInBounds_ne (by omega)]; exact hs.2
theorem PlR.set1 {w : World} {g n : Nat} {dn la : Nat → Nat} (h : PlR w g n dn la) {k : Nat} (hk : k < n) (v : Nat) : PlR (w.setCell ⟨g, k * 2 + 1, none⟩ (.int .u8 (v : Int))) g n dn (upF la k v) := by
  obtain ⟨cs, h1, h2, h3⟩ := h
  refine ⟨_, heap_setCell_at h1 (k * 2 + 1) _, by simpa using h2, fun j hj => ?_⟩
  have hs := h3 j hj
  constructor
  · rw [Array.getElem?_setIfInBounds_ne (by omega)]; exact hs.1
  · unfold upF
    by_cases c : j = k
    · subst c
      rw [if_pos rfl, Array.getElem?_setIfInBounds_self_of_lt (by omega)]
    · rw [if_neg c, Array.getElem?_setIfInBounds_ne (by omega)]; exact hs.2
def passP (d kd l : Nat) : Bool := decide (d + 1 ≤ 40) && !(decide (kd = 2) && decide (l = 2))
theorem pass_any (x : Nd) (ao : Option Addr) (ac : Nat) (up : Int) (ko : Option Addr) (kn kc : Nat) (g n k u : Nat) (hk : k < n) (hu : u < n) (hab : (if x.kind = 5 then x.host else up) = (u : Int)) (dn la : Nat → Nat) (w : World) (hP : PlR w g n dn la) (hn : n ≤ 100000) (hd : dn u ≤ 1000000) :
    Calls Try.prog 25 #[.slice (some ⟨g, 0, none⟩) n n, .int .i64 (k : Int), .agg (nW x ao ac up ko kn kc)] w fun e w' => e = .returned (.bool (passP (dn u) x.kind (la u))) ∧ PlR w' g n (upF dn k (dn u + 1)) (upF la u x.kind) ∧ Kept (fun q => q < w.heap.size ∧ q ≠ g) w w' := by
  obtain ⟨V, N, hV, hN, hb, hkV, hsz⟩ := alloc_bx w (nW x ao ac up ko kn kc) 35
  have hgl : g < w.heap.size := by obtain ⟨cs, h1, -, -⟩ := hP; exact lt_block h1
  have hPV := hP.kept hkV hgl
  have ra := above_any x ao ac up ko kn kc V
  rw [hab] at ra
  have hNg : N ≠ g := by rw [← hN]; omega
  have HBB : Hid (∀ X, Kept (fun q => q < V.heap.size ∧ q ≠ g) V X → X.heap[N]? = some (.cells (nW x ao ac up ko kn kc) 35 (0, 0))) := fun X hX => (hX.block N ⟨lt_block hb, hNg⟩).trans hb
  have HV : Hid (w.alloc (.cells (nW x ao ac up ko kn kc) 35) = V) := hV
  have HN : Hid (w.heap.size = N) := hN
  have HK : Hid (Kept (fun k => k < w.heap.size) w V) := hkV
  have HP : Hid (PlR V g n dn la) := hPV
  have HGL : Hid (g < V.heap.size) := Nat.lt_of_lt_of_le hgl hkV.size
  obtain ⟨d, hdd⟩ : ∃ d, dn u = d := ⟨_, rfl⟩
  have HD : Hid (dn u = d) := hdd
  rw [hdd] at hd ⊢
  obtain ⟨lu, hlu⟩ : ∃ l, la u = l := ⟨_, rfl⟩
  have HLU : Hid (la u = lu) := hlu
  rw [hlu]
  obtain ⟨kd, hkd⟩ : ∃ l, x.kind = l := ⟨_, rfl⟩
  have HKD : Hid (x.kind = kd) := hkd
  rw [hkd]
  have huI : (u : Int) < (n : Int) := by omega
  have huI0 : (0 : Int) ≤ (u : Int) := by omega
  have hkI : (k : Int) < (n : Int) := by omega
  have hkI0 : (0 : Int) ≤ (k : Int) := by omega
  clear hP hab hV hN hkV hsz hgl hPV hNg hdd hlu hkd
  go_enter Try.func25, Try.ntmps25
  go_upto_region 1 with (refine wpList_load_row rfl 35 _ rfl N rfl 35 (nW x ao ac up ko kn kc) (0, 0) _ hb Try.underlying35 rfl (sizeN _ rfl) ?_)
  rw [HV.out, HN.out]
  clear HV HN
  go_wp2_with (refine wpList_load_row rfl 35 _ rfl N rfl 35 (nW x ao ac up ko kn kc) (0, 0) _ hb Try.underlying35 rfl (sizeN _ rfl) ?_)
  refine ra.mono ?_
  rintro e w1 ⟨rfl, hK1⟩
  have hP1 := HP.out.kept hK1 HGL.out
  have c0 := hP1.at0 hu
  rw [HD.out] at c0
  have f0 := hP1.fz (k * 2)
  have ck := hP1.at0 hk
  obtain ⟨vk, hvk⟩ : ∃ v, Value.int .i64 (dn k : Int) = v := ⟨_, rfl⟩
  rw [hvk] at ck
  have HP1 : Hid (PlR w1 g n dn la) := hP1
  have HK1 : Hid (Kept (fun k => k < V.heap.size) V w1) := hK1
  clear ra hb hP1 hK1 hvk
  have hw1 : IntKind.i64.wrap ((d : Int) + 1) = (d : Int) + 1 := wrap_small _ (by omega) (by omega)
  go_upto_region 3 with fail
  have ed : (d : Int) + 1 = ((d + 1 : Nat) : Int) := by omega
  rw [ed]
  obtain ⟨X1, hX1⟩ : ∃ X, w1.setCell ⟨g, k * 2, none⟩ (.int .i64 ((d + 1 : Nat) : Int)) = X := ⟨_, rfl⟩
  rw [hX1]
  have hP2 : PlR X1 g n (upF dn k (d + 1)) la := by rw [← hX1]; exact HP1.out.set0 hk (d + 1)
  have hK2 : Kept (fun q => q < V.heap.size ∧ q ≠ g) V X1 := by
    rw [← hX1]
    exact (HK1.out.mono fun q h => h.1).setCell (p := ⟨g, k * 2, none⟩) (fun h => h.2 rfl) _
  have hbX := HBB.out X1 hK2
  have n0 : X1.cell? ⟨N, 0, none⟩ = some (.int .u8 (kd : Int)) := by rw [cell_block hbX, ← HKD.out]; rfl
  have c1 := hP2.at1 hu
  rw [HLU.out] at c1
  have f1 := hP2.fz (u * 2 + 1)
  have HP2 : Hid (PlR X1 g n (upF dn k (d + 1)) la) := hP2
  have HK2 : Hid (Kept (fun q => q < V.heap.size ∧ q ≠ g) V X1) := hK2
  clear hX1 hP2 hK2 hbX c0 f0 ck ed hw1 HP1 HK1
  go_cut [8] (fun v wx => v = .bool (decide (kd = 2) && decide (lu = 2)) ∧ wx = X1)
  case first =>
    by_cases e2 : kd = 2
    · subst e2
      have n0 : X1.cell? ⟨N, 0, none⟩ = some (.int .u8 2) := n0
      by_cases l2 : lu = 2
      · subst l2
        have c1 : X1.cell? ⟨g, u * 2 + 1, none⟩ = some (.int .u8 2) := c1
        go_wp2_with fail
        go_meet
        case rel => exact ⟨rfl, rfl⟩
      · have nl : ((lu : Int) == 2) = false := by simp; omega
        have HL2 : Hid (¬ lu = 2) := l2
        obtain ⟨lz, hlz⟩ : ∃ z : Int, (lu : Int) = z := ⟨_, rfl⟩
        rw [hlz] at c1 nl
        clear l2 hlz
        go_wp2_with fail
        go_meet
        case rel => exact ⟨by rw [decide_eq_false HL2.out, Bool.and_false], rfl⟩
    · have nk : ((kd : Int) == 2) = false := by simp; omega
      have HE2 : Hid (¬ kd = 2) := e2
      obtain ⟨kz, hkz⟩ : ∃ z : Int, (kd : Int) = z := ⟨_, rfl⟩
      rw [hkz] at n0 nk
      clear e2 hkz
      go_wp2_with fail
      go_meet
      case rel => exact ⟨by rw [decide_eq_false HE2.out, Bool.false_and], rfl⟩
  case rest =>
  obtain ⟨rfl, hwc⟩ := hcut
  subst hwc
  obtain ⟨sb, hsb⟩ : ∃ b, (decide (kd = 2) && decide (lu = 2)) = b := ⟨_, rfl⟩
  have HSB : Hid ((decide (kd = 2) && decide (lu = 2)) = sb) := hsb
  rw [hsb]
  clear hsb
  rename World => X1
  go_upto_region 5 with fail
  obtain ⟨X2, hX2⟩ : ∃ X, X1.setCell ⟨g, u * 2 + 1, none⟩ (.int .u8 (kd : Int)) = X := ⟨_, rfl⟩
  rw [hX2]
  have hP3 : PlR X2 g n (upF dn k (d + 1)) (upF la u kd) := by rw [← hX2]; exact HP2.out.set1 hu kd
  have hK3 : Kept (fun q => q < V.heap.size ∧ q ≠ g) V X2 := by
    rw [← hX2]
    exact HK2.out.setCell (p := ⟨g, u * 2 + 1, none⟩) (fun h => h.2 rfl) _
  have ck := hP3.at0 hk
  have e : upF dn k (d + 1) k = d + 1 := if_pos rfl
  rw [e] at ck
  have HP3 : Hid (PlR X2 g n (upF dn k (d + 1)) (upF la u kd)) := hP3
  have HKF : Hid (Kept (fun q => q < w.heap.size ∧ q ≠ g) w X2) := (HK.out.mono fun q h => h.1).trans (hK3.mono fun q h => ⟨Nat.lt_of_lt_of_le h.1 HK.out.size, h.2⟩)
  have HPA : Hid (passP d kd lu = (decide (d + 1 ≤ 40) && !sb)) := by show passP d kd lu = _; unfold passP; rw [HSB.out]
  clear hX2 hP3 hK3 e n0 c1 f1 HP2 HK2
  by_cases h40 : d + 1 ≤ 40
  · have HE : Hid (decide (d + 1 ≤ 40) = true) := decide_eq_true h40
    have h40' : ((d + 1 : Nat) : Int) ≤ 40 := by omega
    cases sb with
    | true =>
      go_wp2
      go_ret
      exact ⟨by rw [HPA.out, HE.out]; rfl, HP3.out, HKF.out⟩
    | false =>
      go_wp2
      go_ret
      exact ⟨by rw [HPA.out, HE.out]; rfl, HP3.out, HKF.out⟩
  · have HE : Hid (decide (d + 1 ≤ 40) = false) := decide_eq_false h40
    have h40' : ¬ ((d + 1 : Nat) : Int) ≤ 40 := by omega
    go_wp2
    go_ret
    exact ⟨by rw [HPA.out, HE.out]; rfl, HP3.out, HKF.out⟩
end Go.Proofs.Ytikaheenjhdpmaa
