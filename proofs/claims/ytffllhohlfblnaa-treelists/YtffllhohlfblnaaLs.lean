/-
  TreeLists: lists and items, pure; what build answers; the walk.
-/
import Derived.Test.YtffllhohlfblnaaED
namespace Go.Proofs.Ytffllhohlfblnaa
open Go.RowKit Go.Sort

def repL : Nat → List UInt8
  | 0 => []
  | m + 1 => repL m ++ [60, 108, 105, 62, 120]
def txA (m : Nat) : List UInt8 := ([60, 117, 108, 62] ++ repL m) ++ [60, 47, 117, 108, 62]
def txB (m : Nat) : List UInt8 := ([60, 117, 108, 62, 60, 108, 105, 62, 60, 117, 108, 62] ++ repL m) ++ [60, 47, 117, 108, 62, 60, 108, 105, 62, 121, 60, 47, 117, 108, 62]
def liI (d : Nat) : List It := [⟨d, 1, [108, 105], [], []⟩, ⟨d + 1, 2, [], [], [120]⟩]
def reI (d : Nat) : Nat → List It
  | 0 => []
  | m + 1 => liI d ++ reI d m
def itA (m : Nat) : List It := ⟨0, 1, [117, 108], [], []⟩ :: reI 1 m
def itB (m : Nat) : List It := [⟨0, 1, [117, 108], [], []⟩, ⟨1, 1, [108, 105], [], []⟩, ⟨2, 1, [117, 108], [], []⟩] ++ reI 3 m ++ [⟨1, 1, [108, 105], [], []⟩, ⟨2, 2, [], [], [121]⟩]
theorem reI_len (d : Nat) : ∀ m, (reI d m).length = 2 * m
  | 0 => rfl
  | m + 1 => by
    show (liI d ++ reI d m).length = _
    rw [List.length_append, reI_len d m]
    show 2 + 2 * m = _
    omega
theorem itA_len (m : Nat) : (itA m).length = 1 + 2 * m := by
  show (reI 1 m).length + 1 = _
  rw [reI_len]
  omega
theorem itB_len (m : Nat) : (itB m).length = 2 * m + 5 := by
  unfold itB
  rw [List.length_append, List.length_append, reI_len]
  show 3 + 2 * m + 2 = _
  omega
theorem itB_q (m : Nat) : (itB m)[3 + 2 * m]? = some ⟨1, 1, [108, 105], [], []⟩ := by
  unfold itB
  rw [List.getElem?_append_right (by simp [reI_len]; omega)]
  rw [show 3 + 2 * m - ([⟨0, 1, [117, 108], [], []⟩, ⟨1, 1, [108, 105], [], []⟩, ⟨2, 1, [117, 108], [], []⟩] ++ reI 3 m : List It).length = 0 by simp [reI_len]; omega]
  rfl
theorem repL_len : ∀ m, (repL m).length = 5 * m
  | 0 => rfl
  | m + 1 => by
    show (repL m ++ _).length = _
    rw [List.length_append, repL_len m]
    show 5 * m + 5 = _
    omega
/-- The depth of an item. -/
theorem reI_deep (d : Nat) : ∀ (m j : Nat) (h : j < (reI d m).length), (reI d m)[j].deep = d + j % 2
  | 0, j, h => absurd h (Nat.not_lt_zero _)
  | m + 1, 0, h => rfl
  | m + 1, 1, h => rfl
  | m + 1, j + 2, h => by
    have hl := reI_len d m
    have h2 : j < (reI d m).length := by
      have : (reI d (m + 1)).length = 2 * (m + 1) := reI_len d (m + 1)
      omega
    have ih := reI_deep d m j h2
    show ((reI d m)[j]).deep = _
    rw [ih]
    omega
/-- What one text is good for: what is built of it, and that its tokens are few and have no attributes. -/
structure Good (s : List UInt8) (R : List It) : Prop where
  b : buildL (tokL s).toks = some ⟨R, [], []⟩
  n : ((tokL s).toks.all fun t => t.attrs.isEmpty) = true
  w : (tokL s).toks.length ≤ 1000
theorem gA1 : Good (txA 1) (itA 1) := ⟨by kernel_rfl, by kernel_rfl, Nat.le_of_ble_eq_true (by kernel_rfl)⟩
theorem gA2 : Good (txA 2) (itA 2) := ⟨by kernel_rfl, by kernel_rfl, Nat.le_of_ble_eq_true (by kernel_rfl)⟩
theorem gA3 : Good (txA 3) (itA 3) := ⟨by kernel_rfl, by kernel_rfl, Nat.le_of_ble_eq_true (by kernel_rfl)⟩
theorem gA4 : Good (txA 4) (itA 4) := ⟨by kernel_rfl, by kernel_rfl, Nat.le_of_ble_eq_true (by kernel_rfl)⟩
theorem gA5 : Good (txA 5) (itA 5) := ⟨by kernel_rfl, by kernel_rfl, Nat.le_of_ble_eq_true (by kernel_rfl)⟩
theorem gA6 : Good (txA 6) (itA 6) := ⟨by kernel_rfl, by kernel_rfl, Nat.le_of_ble_eq_true (by kernel_rfl)⟩
theorem gA7 : Good (txA 7) (itA 7) := ⟨by kernel_rfl, by kernel_rfl, Nat.le_of_ble_eq_true (by kernel_rfl)⟩
theorem gA8 : Good (txA 8) (itA 8) := ⟨by kernel_rfl, by kernel_rfl, Nat.le_of_ble_eq_true (by kernel_rfl)⟩
theorem gA9 : Good (txA 9) (itA 9) := ⟨by kernel_rfl, by kernel_rfl, Nat.le_of_ble_eq_true (by kernel_rfl)⟩
theorem gA10 : Good (txA 10) (itA 10) := ⟨by kernel_rfl, by kernel_rfl, Nat.le_of_ble_eq_true (by kernel_rfl)⟩
theorem gA11 : Good (txA 11) (itA 11) := ⟨by kernel_rfl, by kernel_rfl, Nat.le_of_ble_eq_true (by kernel_rfl)⟩
theorem gA12 : Good (txA 12) (itA 12) := ⟨by kernel_rfl, by kernel_rfl, Nat.le_of_ble_eq_true (by kernel_rfl)⟩
theorem gA13 : Good (txA 13) (itA 13) := ⟨by kernel_rfl, by kernel_rfl, Nat.le_of_ble_eq_true (by kernel_rfl)⟩
theorem gA14 : Good (txA 14) (itA 14) := ⟨by kernel_rfl, by kernel_rfl, Nat.le_of_ble_eq_true (by kernel_rfl)⟩
theorem gA15 : Good (txA 15) (itA 15) := ⟨by kernel_rfl, by kernel_rfl, Nat.le_of_ble_eq_true (by kernel_rfl)⟩
theorem gA16 : Good (txA 16) (itA 16) := ⟨by kernel_rfl, by kernel_rfl, Nat.le_of_ble_eq_true (by kernel_rfl)⟩
theorem gA17 : Good (txA 17) (itA 17) := ⟨by kernel_rfl, by kernel_rfl, Nat.le_of_ble_eq_true (by kernel_rfl)⟩
theorem gA18 : Good (txA 18) (itA 18) := ⟨by kernel_rfl, by kernel_rfl, Nat.le_of_ble_eq_true (by kernel_rfl)⟩
theorem gA19 : Good (txA 19) (itA 19) := ⟨by kernel_rfl, by kernel_rfl, Nat.le_of_ble_eq_true (by kernel_rfl)⟩
theorem gA20 : Good (txA 20) (itA 20) := ⟨by kernel_rfl, by kernel_rfl, Nat.le_of_ble_eq_true (by kernel_rfl)⟩
theorem goodA (m : Nat) (h : m < 20) : Good (txA (m + 1)) (itA (m + 1)) := by
  match m, h with
  | 0, _ => exact gA1
  | 1, _ => exact gA2
  | 2, _ => exact gA3
  | 3, _ => exact gA4
  | 4, _ => exact gA5
  | 5, _ => exact gA6
  | 6, _ => exact gA7
  | 7, _ => exact gA8
  | 8, _ => exact gA9
  | 9, _ => exact gA10
  | 10, _ => exact gA11
  | 11, _ => exact gA12
  | 12, _ => exact gA13
  | 13, _ => exact gA14
  | 14, _ => exact gA15
  | 15, _ => exact gA16
  | 16, _ => exact gA17
  | 17, _ => exact gA18
  | 18, _ => exact gA19
  | 19, _ => exact gA20
  | n + 20, h => exact absurd h (by omega)
theorem gB1 : Good (txB 1) (itB 1) := ⟨by kernel_rfl, by kernel_rfl, Nat.le_of_ble_eq_true (by kernel_rfl)⟩
theorem gB2 : Good (txB 2) (itB 2) := ⟨by kernel_rfl, by kernel_rfl, Nat.le_of_ble_eq_true (by kernel_rfl)⟩
theorem gB3 : Good (txB 3) (itB 3) := ⟨by kernel_rfl, by kernel_rfl, Nat.le_of_ble_eq_true (by kernel_rfl)⟩
theorem gB4 : Good (txB 4) (itB 4) := ⟨by kernel_rfl, by kernel_rfl, Nat.le_of_ble_eq_true (by kernel_rfl)⟩
theorem gB5 : Good (txB 5) (itB 5) := ⟨by kernel_rfl, by kernel_rfl, Nat.le_of_ble_eq_true (by kernel_rfl)⟩
theorem gB6 : Good (txB 6) (itB 6) := ⟨by kernel_rfl, by kernel_rfl, Nat.le_of_ble_eq_true (by kernel_rfl)⟩
theorem gB7 : Good (txB 7) (itB 7) := ⟨by kernel_rfl, by kernel_rfl, Nat.le_of_ble_eq_true (by kernel_rfl)⟩
theorem gB8 : Good (txB 8) (itB 8) := ⟨by kernel_rfl, by kernel_rfl, Nat.le_of_ble_eq_true (by kernel_rfl)⟩
theorem gB9 : Good (txB 9) (itB 9) := ⟨by kernel_rfl, by kernel_rfl, Nat.le_of_ble_eq_true (by kernel_rfl)⟩
theorem gB10 : Good (txB 10) (itB 10) := ⟨by kernel_rfl, by kernel_rfl, Nat.le_of_ble_eq_true (by kernel_rfl)⟩
theorem gB11 : Good (txB 11) (itB 11) := ⟨by kernel_rfl, by kernel_rfl, Nat.le_of_ble_eq_true (by kernel_rfl)⟩
theorem gB12 : Good (txB 12) (itB 12) := ⟨by kernel_rfl, by kernel_rfl, Nat.le_of_ble_eq_true (by kernel_rfl)⟩
theorem gB13 : Good (txB 13) (itB 13) := ⟨by kernel_rfl, by kernel_rfl, Nat.le_of_ble_eq_true (by kernel_rfl)⟩
theorem gB14 : Good (txB 14) (itB 14) := ⟨by kernel_rfl, by kernel_rfl, Nat.le_of_ble_eq_true (by kernel_rfl)⟩
theorem gB15 : Good (txB 15) (itB 15) := ⟨by kernel_rfl, by kernel_rfl, Nat.le_of_ble_eq_true (by kernel_rfl)⟩
theorem gB16 : Good (txB 16) (itB 16) := ⟨by kernel_rfl, by kernel_rfl, Nat.le_of_ble_eq_true (by kernel_rfl)⟩
theorem gB17 : Good (txB 17) (itB 17) := ⟨by kernel_rfl, by kernel_rfl, Nat.le_of_ble_eq_true (by kernel_rfl)⟩
theorem gB18 : Good (txB 18) (itB 18) := ⟨by kernel_rfl, by kernel_rfl, Nat.le_of_ble_eq_true (by kernel_rfl)⟩
theorem gB19 : Good (txB 19) (itB 19) := ⟨by kernel_rfl, by kernel_rfl, Nat.le_of_ble_eq_true (by kernel_rfl)⟩
theorem gB20 : Good (txB 20) (itB 20) := ⟨by kernel_rfl, by kernel_rfl, Nat.le_of_ble_eq_true (by kernel_rfl)⟩
theorem goodB (m : Nat) (h : m < 20) : Good (txB (m + 1)) (itB (m + 1)) := by
  match m, h with
  | 0, _ => exact gB1
  | 1, _ => exact gB2
  | 2, _ => exact gB3
  | 3, _ => exact gB4
  | 4, _ => exact gB5
  | 5, _ => exact gB6
  | 6, _ => exact gB7
  | 7, _ => exact gB8
  | 8, _ => exact gB9
  | 9, _ => exact gB10
  | 10, _ => exact gB11
  | 11, _ => exact gB12
  | 12, _ => exact gB13
  | 13, _ => exact gB14
  | 14, _ => exact gB15
  | 15, _ => exact gB16
  | 16, _ => exact gB17
  | 17, _ => exact gB18
  | 18, _ => exact gB19
  | 19, _ => exact gB20
  | n + 20, h => exact absurd h (by omega)

theorem wt_plain : ∀ l : List Tk, (l.all fun t => t.attrs.isEmpty) = true → wtL l = 2 * l.length
  | [], _ => rfl
  | t :: r, h => by
    rw [List.all_cons, Bool.and_eq_true] at h
    have ht : t.attrs = [] := by simpa using h.1
    rw [wtL_cons, wt_plain r h.2]
    unfold wtT
    rw [ht]
    simp
    omega
set_option maxRecDepth 20000 in
theorem lbuild_any (s : List UInt8) (hs : s.length < 100000) (hn : (tokL s).toks.length ≤ 500000) (hw : wtL (tokL s).toks ≤ 600000) (hsz : ∀ t ∈ (tokL s).toks, ∀ x ∈ t.attrs, x.name.length ≤ 1000000000 ∧ x.value.length ≤ 1000000000) (w : World) :
    Calls Try.prog 14 #[sv s] w fun e w' => Answ w' e (buildL (tokL s).toks) ∧ Kept (fun k => k < w.heap.size) w w' := by
  have r1 := dtokens s hs (fun k => k < w.heap.size) w (fun _ h => h)
  have r2 := fun X ta tc hT => build_any (tokL s).toks ta _ tc rfl hn hw hsz X hT
  obtain ⟨R, hR⟩ : ∃ R, buildL (tokL s).toks = R := ⟨_, rfl⟩
  simp only [hR] at r2 ⊢
  obtain ⟨n, hne⟩ : ∃ n, (tokL s).toks.length = n := ⟨_, rfl⟩
  obtain ⟨m, hme⟩ : ∃ m, (tokL s).flts.length = m := ⟨_, rfl⟩
  simp only [hne, hme] at r1 r2
  clear hs hn hw hsz hR hne hme
  go_enter Try.func14, Try.ntmps14
  go_wp2_with fail
  refine r1.mono ?_
  rintro e w1 ⟨ta, tc, fa, fc, rfl, hT, -, k1, -, -⟩
  have HK1 : Hid (Kept (fun k => k < w.heap.size) w w1) := k1
  have r3 := r2 w1 ta tc hT
  clear r1 r2 hT k1
  cases R with
  | none =>
    go_wp2_with fail
    refine r3.mono ?_
    rintro e w2 ⟨h1, k2⟩
    have h1 : e = .returned (.tuple #[.slice none 0 0, .slice none 0 0, .int .u16 3]) := h1
    subst h1
    have HK2 : Hid (Kept (fun k => k < w.heap.size) w w2) := HK1.out.trans (k2.mono fun k h => Nat.lt_of_lt_of_le h HK1.out.size)
    clear r3 k2
    go_wp2
    go_ret3
    exact ⟨rfl, HK2.out⟩
  | some b =>
    go_wp2_with fail
    refine r3.mono ?_
    rintro e w2 ⟨⟨ia, ic, fb, fd, rfl, hI, hF, hc1, hc2⟩, k2⟩
    have HA : Hid (ItsIn w2 ia b.items ∧ FltsIn (fun k => k < w2.heap.size) w2 fb b.flts ∧ b.items.length ≤ ic ∧ b.flts.length ≤ fd) := ⟨hI, hF, hc1, hc2⟩
    have HK2 : Hid (Kept (fun k => k < w.heap.size) w w2) := HK1.out.trans (k2.mono fun k h => Nat.lt_of_lt_of_le h HK1.out.size)
    obtain ⟨n1, hn1⟩ : ∃ n, b.items.length = n := ⟨_, rfl⟩
    obtain ⟨n2, hn2⟩ : ∃ n, b.flts.length = n := ⟨_, rfl⟩
    rw [hn1, hn2]
    have HN : Hid (b.items.length = n1 ∧ b.flts.length = n2) := ⟨hn1, hn2⟩
    clear r3 k2 hI hF hc1 hc2 hn1 hn2
    go_wp2
    go_ret3
    exact ⟨⟨ia, ic, fb, fd, by rw [HN.out.1, HN.out.2]; rfl, HA.out⟩, HK2.out⟩
/-- build, of a text that is good. -/
theorem good_any {s : List UInt8} {R : List It} (g : Good s R) (hs : s.length < 100000) (n : Nat) (hn : R.length = n) (w : World) :
    Calls Try.prog 14 #[sv s] w fun e w' => (∃ ia ic fa fc, e = .returned (.tuple #[.slice ia n ic, .slice fa 0 fc, .int .u16 0]) ∧ ItsIn w' ia R) ∧ Kept (fun k => k < w.heap.size) w w' := by
  subst hn
  have hw := wt_plain _ g.n
  have hl := g.w
  have r := lbuild_any s hs (by omega) (by omega) (fun t ht x hx => by
    have := List.all_eq_true.1 g.n t ht
    have he : t.attrs = [] := by simpa using this
    rw [he] at hx
    cases hx) w
  rw [g.b] at r
  refine r.mono ?_
  rintro e w' ⟨⟨ia, ic, fa, fc, h1, h2, -⟩, h4⟩
  exact ⟨⟨ia, ic, fa, fc, h1, h2⟩, h4⟩

set_option maxRecDepth 20000 in
set_option maxHeartbeats 2000000 in
theorem lists_any (a0 : Int) (m : Nat) (hm : a0.tmod 20 = (m : Int)) (h20 : m < 20) (w : World) :
    Calls Try.prog 4 #[.int .u8 a0] w fun e w' => e = .returned (.bool true) ∧ Kept (fun k => k < w.heap.size) w w' := by
  have hA := goodA m h20
  have hB := goodB m h20
  have lA := itA_len (m + 1)
  have lB := itB_len (m + 1)
  have lR := repL_len (m + 1)
  have rA := fun X => good_any hA (by unfold txA; simp only [List.length_append, lR, List.length_cons, List.length_nil]; omega) _ lA X
  have rB := fun X => good_any hB (by unfold txB; simp only [List.length_append, lR, List.length_cons, List.length_nil]; omega) _ lB X
  obtain ⟨SA, hSA⟩ : ∃ S : ByteArray, (⟨(txA (m + 1)).toArray⟩ : ByteArray) = S := ⟨_, rfl⟩
  obtain ⟨SB, hSB⟩ : ∃ S : ByteArray, (⟨(txB (m + 1)).toArray⟩ : ByteArray) = S := ⟨_, rfl⟩
  obtain ⟨X0, hX0⟩ : ∃ S : ByteArray, (⟨(repL (m + 1)).toArray⟩ : ByteArray) = S := ⟨_, rfl⟩
  have cA : (⟨#[60, 117, 108, 62]⟩ : ByteArray) ++ X0 ++ ⟨#[60, 47, 117, 108, 62]⟩ = SA := by
    rw [← hSA, ← hX0]
    apply ByteArray.ext
    simp [txA]
  have cB : (⟨#[60, 117, 108, 62, 60, 108, 105, 62, 60, 117, 108, 62]⟩ : ByteArray) ++ X0 ++ ⟨#[60, 47, 117, 108, 62, 60, 108, 105, 62, 121, 60, 47, 117, 108, 62]⟩ = SB := by
    rw [← hSB, ← hX0]
    apply ByteArray.ext
    simp [txB]
  have HCA : Hid ((⟨#[60, 117, 108, 62]⟩ : ByteArray) ++ X0 ++ ⟨#[60, 47, 117, 108, 62]⟩ = SA) := cA
  have HCB : Hid ((⟨#[60, 117, 108, 62, 60, 108, 105, 62, 60, 117, 108, 62]⟩ : ByteArray) ++ X0 ++ ⟨#[60, 47, 117, 108, 62, 60, 108, 105, 62, 121, 60, 47, 117, 108, 62]⟩ = SB) := cB
  have HX0 : Hid ((⟨(repL (m + 1)).toArray⟩ : ByteArray) = X0) := hX0
  have sX0 : X0.size ≤ 200 := by rw [← hX0, sv_size, lR]; omega
  rw [show sv (txA (m + 1)) = Value.string SA by rw [← hSA]] at rA
  rw [show sv (txB (m + 1)) = Value.string SB by rw [← hSB]] at rB
  have rk := fun X => known_any X
  clear hA hB hSA hSB cA cB hX0 lR
  go_enter Try.func4, Try.ntmps4
  go_upto_region 3 with fail
  go_loopg [4, 3] (m + 1) (fun g v x wr => ∃ (k : Nat) (S : ByteArray), g = m + 1 - k ∧ k ≤ m + 1 ∧ v = .int .i64 k ∧ x = .string S ∧ (⟨(repL k).toArray⟩ : ByteArray) = S ∧ wr = w)
  case atStart => exact ⟨0, ByteArray.empty, rfl, Nat.zero_le _, rfl, rfl, rfl, rfl⟩
  case round =>
    obtain ⟨k, S, hgk, hk, rfl, rfl, hS, rfl⟩ := hrel
    by_cases hlt : k < m + 1
    · have hsz : S.size ≤ 200 := by rw [← hS, sv_size, repL_len]; omega
      have ht : decide ((k : Int) < 1 + (m : Int)) = true := decide_eq_true (by omega)
      have HS : Hid ((⟨(repL k).toArray⟩ : ByteArray) = S) := hS
      clear hS rA rB rk
      go_wp2
      go_roundg (m + 1 - (k + 1))
      case rel => exact ⟨k + 1, _, rfl, by omega, by go_num, rfl, by rw [← HS.out]; apply ByteArray.ext; simp [repL], rfl⟩
      case measure => omega
    · have hkk : k = m + 1 := by omega
      subst hkk
      have hSX : S = X0 := hS.symm.trans HX0.out
      subst hSX
      have ht : decide ((m : Int) + 1 < 1 + (m : Int)) = false := decide_eq_false (by omega)
      clear hS
      go_wp2_with fail
      rw [HCA.out]
      refine (rA _).mono ?_
      rintro e w1 ⟨⟨ia, ic, fa, fc, rfl, hI1⟩, k1⟩
      have HI1 : Hid (ItsIn w1 ia (itA (m + 1))) := hI1
      have HK1 : Hid (Kept (fun k => k < wr.heap.size) wr w1) := k1
      clear hI1 k1 rA
      go_wp2_with fail
      rw [HCB.out]
      refine (rB _).mono ?_
      rintro e w2 ⟨⟨ib, id, fb, fd, rfl, hI2⟩, k2⟩
      have HI1' : Hid (ItsIn w2 ia (itA (m + 1))) := HI1.out.kept k2
      have HI2 : Hid (ItsIn w2 ib (itB (m + 1))) := hI2
      have HK2 : Hid (Kept (fun k => k < wr.heap.size) wr w2) := HK1.out.trans (k2.mono fun k h => Nat.lt_of_lt_of_le h HK1.out.size)
      clear hI2 k2 rB HI1 HK1
      have hm1 : (1 + 2 * (m + 1) : Nat) ≤ 1000 := by omega
      obtain ⟨nA, hnA⟩ : ∃ n, 1 + 2 * (m + 1) = n := ⟨_, rfl⟩
      obtain ⟨nB, hnB⟩ : ∃ n, 2 * (m + 1) + 5 = n := ⟨_, rfl⟩
      rw [hnA, hnB]
      have q1 : (nA : Int) = 1 + 2 * (1 + (m : Int)) := by omega
      have q2 : (nB : Int) = 1 + 2 * (1 + (m : Int)) + 4 := by omega
      have HNA : Hid (1 + 2 * (m + 1) = nA ∧ 2 * (m + 1) + 5 = nB) := ⟨hnA, hnB⟩
      have hnAb : nA ≤ 1000 := by omega
      have hnBb : nB ≤ 1000 := by omega
      clear hnA hnB
      go_upto_region 11 with fail
      clear q1 q2
      go_loopg [11] (nA - 1) (fun g v wx => ∃ k : Nat, g = nA - k ∧ 1 ≤ k ∧ k ≤ nA ∧ v = .int .i64 k ∧ wx = w2)
      case atStart => exact ⟨1, rfl, Nat.le_refl _, by have := HNA.out; omega, rfl, rfl⟩
      case round =>
        obtain ⟨j, hgj, hj1, hj, rfl, rfl⟩ := hrel
        by_cases hjl : j < nA
        · have hjI : j < (itA (m + 1)).length := by rw [lA, HNA.out.1]; exact hjl
          obtain ⟨g, aa, ac, hg, -, -, -, hc⟩ := HI1'.out j hjI
          subst hg
          have hd : ((itA (m + 1))[j].deep : Int) = 2 - (j : Int).tmod 2 := by
            obtain ⟨i, rfl⟩ : ∃ i, j = i + 1 := ⟨j - 1, by omega⟩
            have hi : i < (reI 1 (m + 1)).length := by
              have : (itA (m + 1)).length = (reI 1 (m + 1)).length + 1 := rfl
              omega
            have hr := reI_deep 1 (m + 1) i hi
            have he : (itA (m + 1))[i + 1].deep = 1 + i % 2 := hr
            rw [he, Int.tmod_eq_emod_of_nonneg (by omega)]
            omega
          have c0 := hc 0 _ rfl
          rw [hd, Nat.add_zero] at c0
          have ht2 : decide ((j : Int) < (nA : Int)) = true := decide_eq_true (by omega)
          clear hc hd hjI rk
          go_wp2
          go_roundg (nA - (j + 1))
          case rel => exact ⟨j + 1, rfl, by omega, by omega, by go_num, rfl⟩
          case measure => omega
        · have hjj : j = nA := by omega
          subst hjj
          obtain ⟨q, hq⟩ : ∃ q, nB = q + 2 := ⟨nB - 2, by have := HNA.out; omega⟩
          have hqI : q < (itB (m + 1)).length := by rw [lB, HNA.out.2]; omega
          have h3I : 3 < (itB (m + 1)).length := by rw [lB]; omega
          have e3 : (itB (m + 1))[3] = ⟨3, 1, [108, 105], [], []⟩ := rfl
          have eq : (itB (m + 1))[q] = ⟨1, 1, [108, 105], [], []⟩ := by
            have h1 := itB_q (m + 1)
            rw [show 3 + 2 * (m + 1) = q by have := HNA.out; omega, List.getElem?_eq_getElem hqI] at h1
            exact Option.some.inj h1
          have hIB := HI2.out
          obtain ⟨g3, aa3, ac3, hg3, hgl3, -, -, hc3⟩ := hIB 3 h3I
          obtain ⟨gq, aaq, acq, hgq, -, -, -, hcq⟩ := hIB q hqI
          subst hg3
          injection hgq with hgq
          injection hgq with hgq
          subst hgq
          rw [e3] at hc3
          rw [eq] at hcq
          have z3 := hc3 0 _ rfl
          have zq0 := hcq 0 _ rfl
          have zq2 := hcq 2 _ rfl
          have eB : (nB : Int) - 2 = (q : Int) := by omega
          have qB : (q : Int) < (nB : Int) := by omega
          have b3 : (3 : Int) < (nB : Int) := by have := HNA.out; omega
          have b3' : 3 < nB := by omega
          have qB' : q < nB := by omega
          clear hq
          clear hIB hc3 hcq e3 eq hqI h3I HI1' HI2
          have rk1 := fun X => known_any X
          go_wp2_with fail
          refine (rk1 _).mono ?_
          rintro e w3 ⟨rfl, k3⟩
          have y3 := (k3.cell (p := ⟨g3, 3 * 5 + 0, none⟩) hgl3).trans z3
          have y0 := (k3.cell (p := ⟨g3, q * 5 + 0, none⟩) hgl3).trans zq0
          have y2 := (k3.cell (p := ⟨g3, q * 5 + 2, none⟩) hgl3).trans zq2
          rw [Nat.add_zero] at y0
          have y3' : w3.cell? ⟨g3, 15, none⟩ = some (.int .i64 3) := y3
          have y2' : w3.cell? ⟨g3, q * 5 + 2, none⟩ = some (.string ⟨#[108, 105]⟩) := y2
          have y0' : w3.cell? ⟨g3, q * 5, none⟩ = some (.int .i64 1) := y0
          have HK3 := HK2.out.trans (k3.mono fun k h => Nat.lt_of_lt_of_le h HK2.out.size)
          clear rk1 y3 y0 y2 z3 zq0 zq2 k3 HK2
          go_wp2
          go_ret
          exact ⟨rfl, HK3⟩
end Go.Proofs.Ytffllhohlfblnaa
