/-
  A root's flags as the attributes of its template.
-/
import Derived.Test.YteccdijjpmeeaaaPx
import Derived.Test.YteccdijjpmeeaaaP13
import Derived.Deep.DeepCutAuto
namespace Go.Proofs.Yteccdijjpmeeaaa
open Go.RowKit
set_option linter.unusedVariables false
set_option maxRecDepth 100000
set_option maxHeartbeats 4000000
def wr0 (fa : Bool) : List Atr := [⟨modeN, if fa = true then closV else openV⟩]
def wrN (l : List Atr) (q : Bool) (n v : List UInt8) : List Atr := l ++ (if q = true then [⟨n, v⟩] else [])
theorem wr_flA (f : Fg) : wrN (wrN (wrN (wrN (wr0 f.a) f.c deleN []) f.d seriN []) f.b assiN manuV) f.e clonN [] = flA f := by
  unfold wrN wr0 flA; simp only [List.append_assoc]
/-- The attributes so far. -/
def WrAt (K : Nat → Prop) (W : World) (l : List Atr) (v : Value) (wx : World) : Prop := ∃ ao cap, v = .slice ao l.length cap ∧ OwnZ K wx 47 2 ao l.length cap (atrCells l) ∧ Kept K W wx
theorem WrAt.app {K : Nat → Prop} {W : World} {l : List Atr} {ao : Option Addr} {cap : Nat} {wx : World} (hK : ∀ k, K k → k < W.heap.size) (ho : OwnZ K wx 47 2 ao l.length cap (atrCells l)) (hk : Kept K W wx) (hn : l.length ≤ 1000) (S T : ByteArray) :
    ∃ ao' cap' w', (Builtin.append_ #[30, 30] 30 #[.slice ao l.length cap, .slice (some ⟨wx.heap.size, 0, none⟩) 1 1]).run Try.prog (wx.alloc (.cells #[.string S, .string T] 47)) = .ok (.slice ao' (l.length + 1) cap') w' ∧ WrAt K W (l ++ [⟨S.data.toList, T.data.toList⟩]) (.slice ao' (l.length + 1) cap') w' := by
  obtain ⟨ao', cap', w', hr, ho', hk'⟩ := appA ho (fun k h => Nat.lt_of_lt_of_le (hK k h) hk.size) (by omega) S T
  rw [ByteArray.toList_eq, ByteArray.toList_eq] at ho'
  exact ⟨ao', cap', w', hr, ao', cap', by rw [List.length_append]; rfl, by rw [List.length_append]; exact ho', hk.trans hk'⟩
theorem written_any (f : Fg) (w : World) :
    Calls Try.prog 58 #[fgV f] w fun e w' => ∃ ao cap, e = .returned (.slice ao (flA f).length cap) ∧ OwnZ (fun k => k < w.heap.size) w' 47 2 ao (flA f).length cap (atrCells (flA f)) ∧ Kept (fun k => k < w.heap.size) w w' := by
  obtain ⟨fa, fb, fc, fd, fe⟩ := f
  rw [← wr_flA]
  obtain ⟨W, N, hW, hN, hb, hkW, hz⟩ := alloc_bx w #[.bool fa, .bool fb, .bool fc, .bool fd, .bool fe] 23
  have C : ∀ X, Kept (fun k => k < W.heap.size) W X → X.cell? ⟨N, 0, none⟩ = some (.bool fa) ∧ X.cell? ⟨N, 1, none⟩ = some (.bool fb) ∧ X.cell? ⟨N, 2, none⟩ = some (.bool fc) ∧ X.cell? ⟨N, 3, none⟩ = some (.bool fd) ∧ X.cell? ⟨N, 4, none⟩ = some (.bool fe) := fun X hX => by
    have h : X.heap[N]? = some (.cells #[.bool fa, .bool fb, .bool fc, .bool fd, .bool fe] 23 (0, 0)) := (hX.block N (lt_block hb)).trans hb
    refine ⟨?_, ?_, ?_, ?_, ?_⟩ <;> (rw [cell_block h]; rfl)
  have HC : Hid _ := C
  obtain ⟨c0, -, -, -, -⟩ := C W (Kept.refl _ _)
  have HW : Hid (w.alloc (.cells #[.bool fa, .bool fb, .bool fc, .bool fd, .bool fe] 23) = W) := hW
  have HN : Hid (w.heap.size = N) := hN
  have HKW : Hid (Kept (fun k => k < w.heap.size) w W) := hkW
  clear C hW hN hb hkW hz
  obtain ⟨l0, hl0⟩ : ∃ l, wr0 fa = l := ⟨_, rfl⟩
  rw [hl0]
  have HL0 : Hid (wr0 fa = l0) := hl0
  have HN0 : Hid (l0.length = 1) := by show l0.length = 1; rw [← hl0]; rfl
  have n0 : l0.length ≤ 1 := by rw [HN0.out]; exact Nat.le_refl _
  clear hl0
  obtain ⟨l1, hl1⟩ : ∃ l, wrN l0 fc deleN [] = l := ⟨_, rfl⟩
  rw [hl1]
  have Hl1 : Hid (wrN l0 fc deleN [] = l1) := hl1
  have n1 : l1.length ≤ l0.length + 1 := by rw [← hl1]; unfold wrN; rw [List.length_append]; split <;> simp
  clear hl1
  obtain ⟨l2, hl2⟩ : ∃ l, wrN l1 fd seriN [] = l := ⟨_, rfl⟩
  rw [hl2]
  have Hl2 : Hid (wrN l1 fd seriN [] = l2) := hl2
  have n2 : l2.length ≤ l1.length + 1 := by rw [← hl2]; unfold wrN; rw [List.length_append]; split <;> simp
  clear hl2
  obtain ⟨l3, hl3⟩ : ∃ l, wrN l2 fb assiN manuV = l := ⟨_, rfl⟩
  rw [hl3]
  have Hl3 : Hid (wrN l2 fb assiN manuV = l3) := hl3
  have n3 : l3.length ≤ l2.length + 1 := by rw [← hl3]; unfold wrN; rw [List.length_append]; split <;> simp
  clear hl3
  obtain ⟨l4, hl4⟩ : ∃ l, wrN l3 fe clonN [] = l := ⟨_, rfl⟩
  rw [hl4]
  have Hl4 : Hid (wrN l3 fe clonN [] = l4) := hl4
  have n4 : l4.length ≤ l3.length + 1 := by rw [← hl4]; unfold wrN; rw [List.length_append]; split <;> simp
  clear hl4
  go_enter Try.func58, Try.ntmps58
  go_upto_region 2 with fail
  rw [HW.out, HN.out]
  clear HW HN
  go_upto_if 6 with fail
  go_cut [3] (fun v wx => v = .string ⟨(if fa = true then closV else openV).toArray⟩ ∧ wx = W)
  case first =>
    cases fa with
    | true =>
      go_wp2_with fail
      go_meet
      case rel => exact ⟨rfl, rfl⟩
    | false =>
      go_wp2_with fail
      go_meet
      case rel => exact ⟨rfl, rfl⟩
  case rest =>
  obtain ⟨rfl, rfl⟩ := hcut
  clear c0
  obtain ⟨md, hmd⟩ : ∃ m, (if fa = true then closV else openV) = m := ⟨_, rfl⟩
  rw [hmd]
  obtain ⟨V, N1, hV, hN1, hb1, hk1, hz1⟩ := alloc_bx wc #[.string ⟨#[115, 104, 97, 100, 111, 119, 114, 111, 111, 116, 109, 111, 100, 101]⟩, .string ⟨md.toArray⟩] 47
  have w0 : WrAt (fun k => k < wc.heap.size) wc l0 (.slice (some ⟨N1, 0, none⟩) 1 1) V := by
    refine ⟨some ⟨N1, 0, none⟩, 1, by rw [HN0.out], ⟨?_, ?_, ?_, .inr ⟨N1, _, rfl, ?_, hb1, ?_, ?_⟩⟩, hk1⟩
    · rw [← HL0.out]; rfl
    · rw [HN0.out]; exact Nat.le_refl _
    · unfold maxLen; omega
    · show ¬ N1 < wc.heap.size; omega
    · rfl
    · rw [← HL0.out]; unfold wr0; rw [hmd]; rfl
  have HW0 : Hid _ := w0
  have HV : Hid (wc.alloc (.cells #[.string ⟨#[115, 104, 97, 100, 111, 119, 114, 111, 111, 116, 109, 111, 100, 101]⟩, .string ⟨md.toArray⟩] 47) = V) := hV
  have HN1 : Hid (wc.heap.size = N1) := hN1
  obtain ⟨-, -, c2, -, -⟩ := HC.out V hk1
  clear w0 hmd hV hN1 hb1 hk1 hz1 HL0
  go_upto_region 5 with fail
  rw [HV.out, HN1.out]
  clear HV HN1
  have W0 : Hid (∃ v wx, v = Value.slice (some ⟨N1, 0, none⟩) 1 1 ∧ wx = V ∧ WrAt (fun k => k < wc.heap.size) wc l0 v wx) := ⟨_, _, rfl, rfl, HW0.out⟩
  clear W0
  obtain ⟨ao0, cap0, e0, ho0, hk0⟩ := HW0.out
  clear HW0
  have HO0 : Hid (OwnZ (fun k => k < wc.heap.size) V 47 2 ao0 l0.length cap0 (atrCells l0)) := ho0
  have HK0 : Hid (Kept (fun k => k < wc.heap.size) wc V) := hk0
  rw [e0]
  clear e0 ho0 hk0
  go_upto_if 11 with fail
  go_cut [4] (fun v wx => WrAt (fun k => k < wc.heap.size) wc l1 v wx)
  case first =>
    cases fc with
    | true =>
      obtain ⟨ao', cap', w', hr, hw⟩ := WrAt.app (fun k h => h) HO0.out HK0.out (by omega) ⟨#[115, 104, 97, 100, 111, 119, 114, 111, 111, 116, 100, 101, 108, 101, 103, 97, 116, 101, 115, 102, 111, 99, 117, 115]⟩ ⟨#[]⟩
      have HWN : Hid (WrAt (fun k => k < wc.heap.size) wc l1 (.slice ao' (l0.length + 1) cap') w') := by rw [← Hl1.out]; exact hw
      clear hw
      go_wp2_with (at_builtin; refine wpList_appR (w' := w') rfl (.tmp 12) (.tmp 14) 30 30 rfl _ _ (.slice ao' (l0.length + 1) cap') rfl rfl hr ?_)
      go_meet
      case rel => exact HWN.out
    | false =>
      have HWN : Hid (WrAt (fun k => k < wc.heap.size) wc l1 (.slice ao0 l0.length cap0) V) := by rw [← Hl1.out]; show WrAt _ _ (l0 ++ []) _ _; rw [List.append_nil]; exact ⟨_, _, rfl, HO0.out, HK0.out⟩
      go_wp2_with fail
      go_meet
      case rel => exact HWN.out
  case rest =>
  rename World => v1
  obtain ⟨ao1, cap1, rfl, ho1, hk1⟩ := hcut
  have HO1 : Hid (OwnZ (fun k => k < wc.heap.size) v1 47 2 ao1 l1.length cap1 (atrCells l1)) := ho1
  have HK1 : Hid (Kept (fun k => k < wc.heap.size) wc v1) := hk1
  obtain ⟨-, -, -, c3, -⟩ := HC.out v1 hk1
  clear ho1 hk1 HO0 HK0 Hl1 c2
  go_upto_if 17 with fail
  go_cut [4] (fun v wx => WrAt (fun k => k < wc.heap.size) wc l2 v wx)
  case first =>
    cases fd with
    | true =>
      obtain ⟨ao', cap', w', hr, hw⟩ := WrAt.app (fun k h => h) HO1.out HK1.out (by omega) ⟨#[115, 104, 97, 100, 111, 119, 114, 111, 111, 116, 115, 101, 114, 105, 97, 108, 105, 122, 97, 98, 108, 101]⟩ ⟨#[]⟩
      have HWN : Hid (WrAt (fun k => k < wc.heap.size) wc l2 (.slice ao' (l1.length + 1) cap') w') := by rw [← Hl2.out]; exact hw
      clear hw
      go_wp2_with (at_builtin; refine wpList_appR (w' := w') rfl (.tmp 18) (.tmp 20) 30 30 rfl _ _ (.slice ao' (l1.length + 1) cap') rfl rfl hr ?_)
      go_meet
      case rel => exact HWN.out
    | false =>
      have HWN : Hid (WrAt (fun k => k < wc.heap.size) wc l2 (.slice ao1 l1.length cap1) v1) := by rw [← Hl2.out]; show WrAt _ _ (l1 ++ []) _ _; rw [List.append_nil]; exact ⟨_, _, rfl, HO1.out, HK1.out⟩
      go_wp2_with fail
      go_meet
      case rel => exact HWN.out
  case rest =>
  rename World => v2
  obtain ⟨ao2, cap2, rfl, ho2, hk2⟩ := hcut
  have HO2 : Hid (OwnZ (fun k => k < wc.heap.size) v2 47 2 ao2 l2.length cap2 (atrCells l2)) := ho2
  have HK2 : Hid (Kept (fun k => k < wc.heap.size) wc v2) := hk2
  obtain ⟨-, c1, -, -, -⟩ := HC.out v2 hk2
  clear ho2 hk2 HO1 HK1 Hl2 c3
  go_upto_if 23 with fail
  go_cut [4] (fun v wx => WrAt (fun k => k < wc.heap.size) wc l3 v wx)
  case first =>
    cases fb with
    | true =>
      obtain ⟨ao', cap', w', hr, hw⟩ := WrAt.app (fun k h => h) HO2.out HK2.out (by omega) ⟨#[115, 104, 97, 100, 111, 119, 114, 111, 111, 116, 115, 108, 111, 116, 97, 115, 115, 105, 103, 110, 109, 101, 110, 116]⟩ ⟨#[109, 97, 110, 117, 97, 108]⟩
      have HWN : Hid (WrAt (fun k => k < wc.heap.size) wc l3 (.slice ao' (l2.length + 1) cap') w') := by rw [← Hl3.out]; exact hw
      clear hw
      go_wp2_with (at_builtin; refine wpList_appR (w' := w') rfl (.tmp 24) (.tmp 26) 30 30 rfl _ _ (.slice ao' (l2.length + 1) cap') rfl rfl hr ?_)
      go_meet
      case rel => exact HWN.out
    | false =>
      have HWN : Hid (WrAt (fun k => k < wc.heap.size) wc l3 (.slice ao2 l2.length cap2) v2) := by rw [← Hl3.out]; show WrAt _ _ (l2 ++ []) _ _; rw [List.append_nil]; exact ⟨_, _, rfl, HO2.out, HK2.out⟩
      go_wp2_with fail
      go_meet
      case rel => exact HWN.out
  case rest =>
  rename World => v3
  obtain ⟨ao3, cap3, rfl, ho3, hk3⟩ := hcut
  have HO3 : Hid (OwnZ (fun k => k < wc.heap.size) v3 47 2 ao3 l3.length cap3 (atrCells l3)) := ho3
  have HK3 : Hid (Kept (fun k => k < wc.heap.size) wc v3) := hk3
  obtain ⟨-, -, -, -, c4⟩ := HC.out v3 hk3
  clear ho3 hk3 HO2 HK2 Hl3 c1
  go_upto_if 29 with fail
  go_cut [4] (fun v wx => WrAt (fun k => k < wc.heap.size) wc l4 v wx)
  case first =>
    cases fe with
    | true =>
      obtain ⟨ao', cap', w', hr, hw⟩ := WrAt.app (fun k h => h) HO3.out HK3.out (by omega) ⟨#[115, 104, 97, 100, 111, 119, 114, 111, 111, 116, 99, 108, 111, 110, 97, 98, 108, 101]⟩ ⟨#[]⟩
      have HWN : Hid (WrAt (fun k => k < wc.heap.size) wc l4 (.slice ao' (l3.length + 1) cap') w') := by rw [← Hl4.out]; exact hw
      clear hw
      go_wp2_with (at_builtin; refine wpList_appR (w' := w') rfl (.tmp 30) (.tmp 32) 30 30 rfl _ _ (.slice ao' (l3.length + 1) cap') rfl rfl hr ?_)
      go_meet
      case rel => exact HWN.out
    | false =>
      have HWN : Hid (WrAt (fun k => k < wc.heap.size) wc l4 (.slice ao3 l3.length cap3) v3) := by rw [← Hl4.out]; show WrAt _ _ (l3 ++ []) _ _; rw [List.append_nil]; exact ⟨_, _, rfl, HO3.out, HK3.out⟩
      go_wp2_with fail
      go_meet
      case rel => exact HWN.out
  case rest =>
  rename World => v4
  obtain ⟨ao4, cap4, rfl, ho4, hk4⟩ := hcut
  have HO4 : Hid (OwnZ (fun k => k < wc.heap.size) v4 47 2 ao4 l4.length cap4 (atrCells l4)) := ho4
  have HK4 : Hid (Kept (fun k => k < wc.heap.size) wc v4) := hk4
  clear ho4 hk4 HO3 HK3 Hl4 c4
  go_wp2
  go_ret
  exact ⟨_, _, rfl, OwnZ.to HO4.out (fun g hg h => (OwnZ.out HO4.out hg).1 (Nat.lt_of_lt_of_le h HKW.out.size)) (fun g hg => rfl), HKW.out.trans (HK4.out.mono fun k h => Nat.lt_of_lt_of_le h HKW.out.size)⟩
end Go.Proofs.Yteccdijjpmeeaaa
