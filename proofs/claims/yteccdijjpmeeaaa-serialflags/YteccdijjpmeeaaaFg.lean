/-
  The walk of SerialFlags.
-/
import Derived.Test.YteccdijjpmeeaaaDk
import Derived.Deep.DeepCutAuto
namespace Go.Proofs.Yteccdijjpmeeaaa
open Go.RowKit
set_option linter.unusedVariables false
set_option maxRecDepth 100000
set_option maxHeartbeats 4000000
def divx : Nd := (Mk.nd ⟨1, [100, 105, 118], [], []⟩).new
abbrev xF (f : Fg) : List Nd := [frag0.new, { divx with shadow := 2 }, rtN f 1, txx [120], txx [121]]
abbrev qF1 : Nat → List Nat := updR (fun _ => []) 2 ((fun _ => [] : Nat → List Nat) 2 ++ [3])
abbrev qF2 : Nat → List Nat := updR qF1 1 (qF1 1 ++ [4])
theorem qF_1 : qF2 1 = [4] := rfl
theorem qF_2 : qF2 2 = [3] := rfl
def ropT (f : Fg) : List UInt8 := staL tmplN (flA f) ++ ([120] ++ endL tmplN)
theorem innFl {o : Ask} {M : Dm} {F : Nat} {f : Fg} (h : ∀ k (h : k < (xF f).length), M.nd k = (xF f)[k]) : innF o M qF2 (F + 3) 1 = (if (o.A 2 || (o.ser && f.d)) = true then ropT f else []) ++ [121] := by
  have e1 : M.nd 1 = { divx with shadow := 2 } := h 1 (by simp)
  have e2 : M.nd 2 = rtN f 1 := h 2 (by simp)
  have e3 : M.nd 3 = txx [120] := h 3 (by simp)
  have e4 : M.nd 4 = txx [121] := h 4 (by simp)
  have e2i : innF o M qF2 (F + 2) 2 = [120] := by
    rw [innF_el (F := F + 1) e2 rfl rfl, shadW_no rfl, qF_2, kidsW_one, e3]
    rfl
  rw [innF_el e1 (by decide +kernel) rfl, qF_1, kidsW_one, e4]
  have es : shadW o M (innF o M qF2 (F + 2)) { divx with shadow := 2 } = rootW o M (innF o M qF2 (F + 2)) 2 := rfl
  rw [es]
  unfold rootW chosB
  rw [e2, e2i]
  rfl
theorem dq_insF {L : Nat} {K : Nat → Prop} {w : World} {p : Nat} {f : Fg} {Q : Nat → List Nat} (u i : Nat) (hu : u = 1 ∨ u = 2) (hi : i = 3 ∨ i = 4) (h : Dq L K w p (xF f) Q) (hf : ∀ u, i ∉ Q u) (hq : Q i = []) :
    Calls Try.prog 10 #[.pointer (some ⟨p, 0, none⟩), .int .i64 (u : Int), .int .i64 (i : Int), .int .i64 (-1)] w fun e w' => e = .returned (.int .u16 0) ∧ Dq L K w' p (xF f) (updR Q u (Q u ++ [i])) ∧ Kept K w w' := by
  have hk : ∀ k (h : k < (xF f).length), (xF f)[k].host = -1 ∨ (xF f)[k].host = 1 := fun k hk => by
    have hk4 : k = 0 ∨ k = 1 ∨ k = 2 ∨ k = 3 ∨ k = 4 := by simp at hk; omega
    rcases hk4 with rfl | rfl | rfl | rfl | rfl
    · exact .inl rfl
    · exact .inl rfl
    · exact .inr rfl
    · exact .inl rfl
    · exact .inl rfl
  refine h.ins u i (by simp; omega) (by simp; omega) (by omega) ?_ (by omega) ?_ ?_ (fun u _ => hf u) hq (fun k hk' => by rcases hk k hk' with e | e <;> rw [e] <;> omega)
  · rcases hu with rfl | rfl
    · show holdB { divx with shadow := 2 } = true
      decide +kernel
    · rfl
  · rcases hi with rfl | rfl <;> (show (2 : Nat) ≠ 5; decide)
  · rcases hi with rfl | rfl <;> (show (2 : Nat) ≠ 4; decide)
theorem free3F (u : Nat) : 3 ∉ (fun _ => [] : Nat → List Nat) u := fun h => by cases h
theorem free4F (u : Nat) : 4 ∉ qF1 u := fun hm => by
  by_cases c : u = 2
  · subst c; rw [show qF1 2 = [3] from rfl] at hm; simp at hm
  · rw [show qF1 u = [] from updR_ne _ _ c] at hm; cases hm
theorem szF (f : Fg) : ∀ x ∈ xF f, Szd x := by
  intro x hx
  simp only [List.mem_cons, List.not_mem_nil, or_false] at hx
  rcases hx with rfl | rfl | rfl | rfl | rfl
  · exact szd_frag
  · exact ⟨by decide, fun a ha => (by cases ha), fun h => (by cases h), by decide⟩
  · exact ⟨Nat.zero_le _, fun a ha => (by cases ha), fun h => (by cases h), by show (5 : Nat) ≤ 255; decide⟩
  · exact szd_new (by decide) (by decide) (by decide) (by decide)
  · exact szd_new (by decide) (by decide) (by decide) (by decide)
theorem ropT_len (f : Fg) : (ropT f).length ≤ 100000 := by
  obtain ⟨a, b, c, d, e⟩ := f
  cases a <;> cases b <;> cases c <;> cases d <;> cases e <;> decide +kernel
/-- The answer asked for, as the statement lays it together. -/
def wF0 (a : Bool) : ByteArray := if a = true then ⟨#[60, 116, 101, 109, 112, 108, 97, 116, 101, 32, 115, 104, 97, 100, 111, 119, 114, 111, 111, 116, 109, 111, 100, 101, 61, 34, 99, 108, 111, 115, 101, 100, 34]⟩ else ⟨#[60, 116, 101, 109, 112, 108, 97, 116, 101, 32, 115, 104, 97, 100, 111, 119, 114, 111, 111, 116, 109, 111, 100, 101, 61, 34, 111, 112, 101, 110, 34]⟩
def wFs (w : ByteArray) (q : Bool) (s : ByteArray) : ByteArray := if q = true then w ++ s else w
def deleB : ByteArray := ⟨#[32, 115, 104, 97, 100, 111, 119, 114, 111, 111, 116, 100, 101, 108, 101, 103, 97, 116, 101, 115, 102, 111, 99, 117, 115, 61, 34, 34]⟩
def seriB : ByteArray := ⟨#[32, 115, 104, 97, 100, 111, 119, 114, 111, 111, 116, 115, 101, 114, 105, 97, 108, 105, 122, 97, 98, 108, 101, 61, 34, 34]⟩
def assiB : ByteArray := ⟨#[32, 115, 104, 97, 100, 111, 119, 114, 111, 111, 116, 115, 108, 111, 116, 97, 115, 115, 105, 103, 110, 109, 101, 110, 116, 61, 34, 109, 97, 110, 117, 97, 108, 34]⟩
def clonB : ByteArray := ⟨#[32, 115, 104, 97, 100, 111, 119, 114, 111, 111, 116, 99, 108, 111, 110, 97, 98, 108, 101, 61, 34, 34]⟩
theorem wF_eq (f : Fg) : ((⟨(ropT f ++ [121]).toArray⟩ : ByteArray).toList == ((wFs (wFs (wFs (wFs (wF0 f.a) f.c deleB) f.d seriB) f.b assiB) f.e clonB) ++ ⟨#[62, 120, 60, 47, 116, 101, 109, 112, 108, 97, 116, 101, 62, 121]⟩).toList) = true := by
  rw [beq_iff_eq, ByteArray.toList_eq, ByteArray.toList_eq]
  obtain ⟨a, b, c, d, e⟩ := f
  cases a <;> cases b <;> cases c <;> cases d <;> cases e <;> decide +kernel
theorem wFs_size {w s : ByteArray} {q : Bool} {a b : Nat} (h : w.size ≤ a) (hs : s.size ≤ b) : (wFs w q s).size ≤ a + b := by
  unfold wFs
  cases q with
  | true => rw [if_pos rfl, ByteArray.size_append]; omega
  | false => rw [if_neg (by decide)]; omega
theorem sizeF (cs : Array Value) (h : cs.size = 5) : (Try.prog.info? 23).map (·.size) = some cs.size := by rw [h]; kernel_rfl
theorem flags_go (f : Fg) (all listed : Bool) (w : World) : Calls Try.prog 3 #[fgV f, .bool all, .bool listed] w fun e w' => e = .returned (.bool true) ∧ Kept (fun k => k < w.heap.size) w w' := by
  obtain ⟨W, N, hW, hN, hb, hkW, hzW⟩ := alloc_bx w #[.bool f.a, .bool f.b, .bool f.c, .bool f.d, .bool f.e] 23
  have r0 := new_yes 20 W (by decide) (by decide)
  have HW : Hid (w.alloc (.cells #[.bool f.a, .bool f.b, .bool f.c, .bool f.d, .bool f.e] 23) = W) := hW
  have HN : Hid (w.heap.size = N) := hN
  have HB : Hid (W.heap[N]? = some (.cells #[.bool f.a, .bool f.b, .bool f.c, .bool f.d, .bool f.e] 23 (0, 0))) := hb
  have HNW : Hid (N < W.heap.size) := lt_block hb
  have HKW : Hid (Kept (fun k => k < w.heap.size) w W) := hkW
  clear hW hN hb hkW hzW
  go_enter Try.func3, Try.ntmps3
  go_upto_region 1 with fail
  rw [HW.out, HN.out]
  clear HW HN
  go_wp2_with fail
  refine r0.mono ?_
  rintro e w1 ⟨p, rfl, hp, hX1, hK1⟩
  have r1 := (Dq.start (by decide) (by decide) hX1).makeA 1 ⟨#[100, 105, 118]⟩ ⟨#[]⟩ [] none 0 0 rest0 [100, 105, 118] [] (by rw [ByteArray.toList_eq]) (by rw [ByteArray.toList_eq]) rfl (by decide) (AtsAt.nil _ _ _) (by decide) (by decide +kernel) (by decide) rfl (by decide) (by decide)
  have HK1 : Hid (Kept (fun k => k < W.heap.size) W w1) := hK1
  clear r0 hX1 hK1 hp
  go_wp2_with fail
  refine r1.mono ?_
  rintro e w2 ⟨rfl, s2, hK2⟩
  have r2 := s2.root 1 f (by simp) rfl rfl rfl (by simp)
  have HK2 : Hid (Kept (fun k => k < W.heap.size) W w2) := HK1.out.trans hK2
  have hb2 : w2.heap[N]? = some (.cells #[.bool f.a, .bool f.b, .bool f.c, .bool f.d, .bool f.e] 23 (0, 0)) := (HK2.out.block N HNW.out).trans HB.out
  clear r1 s2 hK2 HK1
  go_wp2_with (refine wpList_load_row rfl 23 _ rfl N rfl 23 #[.bool f.a, .bool f.b, .bool f.c, .bool f.d, .bool f.e] (0, 0) _ hb2 Try.underlying23 rfl (sizeF _ rfl) ?_)
  refine r2.mono ?_
  rintro e w3 ⟨rfl, s3, hK3⟩
  have r3 := s3.makeA 2 ⟨#[]⟩ ⟨#[120]⟩ [] none 0 0 rest0 [] [120] (by rw [ByteArray.toList_eq]) (by rw [ByteArray.toList_eq]) rfl (by decide) (AtsAt.nil _ _ _) (by decide) (by decide +kernel) (by decide) rfl (by simp) (by decide)
  have HK3 : Hid (Kept (fun k => k < W.heap.size) W w3) := HK2.out.trans hK3
  clear r2 s3 hK3 HK2 hb2
  go_wp2_with fail
  refine r3.mono ?_
  rintro e w4 ⟨rfl, s4, hK4⟩
  have r4 := s4.makeA 2 ⟨#[]⟩ ⟨#[121]⟩ [] none 0 0 rest0 [] [121] (by rw [ByteArray.toList_eq]) (by rw [ByteArray.toList_eq]) rfl (by decide) (AtsAt.nil _ _ _) (by decide) (by decide +kernel) (by decide) rfl (by simp) (by decide)
  have HK4 : Hid (Kept (fun k => k < W.heap.size) W w4) := HK3.out.trans hK4
  clear r3 s4 hK4 HK3
  go_wp2_with fail
  refine r4.mono ?_
  rintro e w5 ⟨rfl, s5, hK5⟩
  have s5' : Dq 20 (fun k => k < W.heap.size) w5 p (xF f) (fun _ => []) := s5
  have r5 := dq_insF 2 3 (.inr rfl) (.inl rfl) s5' free3F rfl
  have HK5 : Hid (Kept (fun k => k < W.heap.size) W w5) := HK4.out.trans hK5
  clear r4 s5 s5' hK5 HK4
  go_wp2_with fail
  refine r5.mono ?_
  rintro e w6 ⟨rfl, s6, hK6⟩
  have r6 := dq_insF 1 4 (.inl rfl) (.inr rfl) s6 (fun u h => free4F u h) rfl
  have HK6 : Hid (Kept (fun k => k < W.heap.size) W w6) := HK5.out.trans hK6
  clear r5 s6 hK6 HK5
  go_wp2_with fail
  refine r6.mono ?_
  rintro e w7 ⟨rfl, s7, hK7⟩
  have HK7 : Hid (Kept (fun k => k < W.heap.size) W w7) := HK6.out.trans hK7
  have HS7 : Hid (Dq 20 (fun k => k < W.heap.size) w7 p (xF f) qF2) := s7
  clear r6 s7 hK7 HK6
  have C : ∀ X, Kept (fun k => k < W.heap.size) W X → X.cell? ⟨N, 0, none⟩ = some (.bool f.a) ∧ X.cell? ⟨N, 1, none⟩ = some (.bool f.b) ∧ X.cell? ⟨N, 2, none⟩ = some (.bool f.c) ∧ X.cell? ⟨N, 3, none⟩ = some (.bool f.d) ∧ X.cell? ⟨N, 4, none⟩ = some (.bool f.e) := fun X hX => by
    have h : X.heap[N]? = some (.cells #[.bool f.a, .bool f.b, .bool f.c, .bool f.d, .bool f.e] 23 (0, 0)) := (hX.block N HNW.out).trans HB.out
    refine ⟨?_, ?_, ?_, ?_, ?_⟩ <;> (rw [cell_block h]; rfl)
  have HC : Hid _ := C
  clear C
  cases listed with
  | true =>
    obtain ⟨V, NO, hV, hNO, hbV, hkV, hzV⟩ := alloc_bx w7 #[.bool all, .slice none 0 0] 37
    obtain ⟨U, g, hU, hg, hbU, hkU, hzU⟩ := alloc_bx V #[.int .i64 9, .int .i64 2] 3
    obtain ⟨X, hX⟩ : ∃ X, U.setCell ⟨NO, 1, none⟩ (.slice (some ⟨g, 0, none⟩) 2 2) = X := ⟨_, rfl⟩
    have hbN : U.heap[NO]? = some (.cells #[.bool all, .slice none 0 0] 37 (0, 0)) := (hkU.block NO (lt_block hbV)).trans hbV
    have hbX : X.heap[NO]? = some (.cells #[.bool all, .slice (some ⟨g, 0, none⟩) 2 2] 37 (0, 0)) := by rw [← hX]; exact heap_setCell_at hbN 1 _
    have hk7X : Kept (fun k => k < w7.heap.size) w7 X := by
      rw [← hX]
      exact (hkV.trans (hkU.mono fun k h => Nat.lt_of_lt_of_le h hkV.size)).setCell (p := ⟨NO, 1, none⟩) (by show ¬ NO < w7.heap.size; omega) _
    have hgX : X.heap[g]? = some (.cells #[.int .i64 9, .int .i64 2] 3 (0, 0)) := by
      rw [← hX]
      have hne : NO ≠ g := by omega
      exact (((Kept.refl (fun k => k = g) U).setCell (p := ⟨NO, 1, none⟩) (fun h => hne h) (.slice (some ⟨g, 0, none⟩) 2 2)).block g rfl).trans hbU
    have hlX : ∀ k, k < w7.heap.size → k < X.heap.size := fun k h => Nat.lt_of_lt_of_le h hk7X.size
    have hat : IntsZ (fun k => k < X.heap.size) X (some ⟨g, 0, none⟩) [9, 2] := fun j hj => by
      have hj2 : j = 0 ∨ j = 1 := by simp at hj; omega
      rcases hj2 with rfl | rfl
      · exact ⟨g, 0, rfl, lt_block hgX, by rw [cell_block hgX]; rfl⟩
      · exact ⟨g, 0, rfl, lt_block hgX, by rw [cell_block hgX]; rfl⟩
    have rin := (HS7.out.kept hk7X).inner (szF f) 1 (by simp) (⟨all, some ⟨g, 0, none⟩, 2, 2, [9, 2], rfl, by decide, hat⟩ : Opt X) (ropT f ++ [121]) (by have := ropT_len f; rw [List.length_append]; simp; omega) fun M F h => by
      rw [innFl h, if_pos (by show (askA [9, 2] 2 || (all && f.d)) = true; rw [show askA [9, 2] 2 = true from rfl]; rfl)]
    have rin' : Calls Try.prog 11 #[.pointer (some ⟨p, 0, none⟩), .int .i64 1, .agg #[.bool all, .slice (some ⟨g, 0, none⟩) 2 2]] X fun e w' => e = .returned (.string ⟨(ropT f ++ [121]).toArray⟩) ∧ Kept (fun k => k < X.heap.size) X w' := rin
    obtain ⟨T, hT⟩ : ∃ T : ByteArray, ⟨(ropT f ++ [121]).toArray⟩ = T := ⟨_, rfl⟩
    rw [hT] at rin'
    have HT : Hid ((⟨(ropT f ++ [121]).toArray⟩ : ByteArray) = T) := hT
    have HV : Hid (w7.alloc (.cells #[.bool all, .slice none 0 0] 37) = V) := hV
    have HNO : Hid (w7.heap.size = NO) := hNO
    have HU : Hid (V.alloc (.cells #[.int .i64 9, .int .i64 2] 3) = U) := hU
    have HG : Hid (V.heap.size = g) := hg
    have HX : Hid (U.setCell ⟨NO, 1, none⟩ (.slice (some ⟨g, 0, none⟩) 2 2) = X) := hX
    have o1 : (V.alloc (.cells #[.int .i64 9, .int .i64 2] 3)).cell? ⟨NO, 1, none⟩ = some (.slice none 0 0) := by rw [hU, cell_block hbN]; rfl
    have f1 : (V.alloc (.cells #[.int .i64 9, .int .i64 2] 3)).frozen? ⟨NO, 1, none⟩ = false := by rw [hU]; exact frozen_block hbN 1
    have HK7X : Hid (Kept (fun k => k < W.heap.size) W X) := HK7.out.trans (hk7X.mono fun k h => HS7.out.lt k h)
    clear rin hT hV hNO hU hg hX hbV hkV hzV hbU hkU hzU hbN hk7X hgX hlX hat HS7 HK7
    go_upto_region 11 with fail
    rw [HV.out, HNO.out]
    clear HV HNO
    go_upto_region 12 with fail
    go_upto_region 13 with fail
    rw [HU.out, HG.out, HX.out]
    clear HU HG HX o1 f1
    go_wp2_with (refine wpList_load_row rfl 37 _ rfl NO rfl 37 #[.bool all, .slice (some ⟨g, 0, none⟩) 2 2] (0, 0) _ hbX Try.underlying37 rfl (sizeO _ rfl) ?_)
    refine rin'.mono ?_
    rintro e Z ⟨rfl, hKZ⟩
    have hWZ : Kept (fun k => k < W.heap.size) W Z := HK7X.out.trans (hKZ.mono fun k h => Nat.lt_of_lt_of_le h HK7X.out.size)
    have HKZ : Hid (Kept (fun k => k < w.heap.size) w Z) := HKW.out.trans (hWZ.mono fun k h => Nat.lt_of_lt_of_le h HKW.out.size)
    obtain ⟨z0, z1, z2, z3, z4⟩ := HC.out Z hWZ
    clear rin' hKZ hWZ hbX HK7X HC HB HNW HKW
    obtain ⟨⟨fa, fb, fc, fd, fe⟩, hf⟩ : ∃ g, f = g := ⟨_, rfl⟩
    rw [hf] at z0 z1 z2 z3 z4 HT
    dsimp only at z0 z1 z2 z3 z4 HT
    clear hf
    have HTE : Hid ((T.toList == ((wFs (wFs (wFs (wFs (wF0 fa) fc deleB) fd seriB) fb assiB) fe clonB) ++ ⟨#[62, 120, 60, 47, 116, 101, 109, 112, 108, 97, 116, 101, 62, 121]⟩).toList) = true) := by
      rw [← HT.out]
      exact wF_eq ⟨fa, fb, fc, fd, fe⟩
    obtain ⟨s0, hs0⟩ : ∃ s, wF0 fa = s := ⟨_, rfl⟩
    obtain ⟨s1, hs1⟩ : ∃ s, wFs s0 fc deleB = s := ⟨_, rfl⟩
    obtain ⟨s2, hs2⟩ : ∃ s, wFs s1 fd seriB = s := ⟨_, rfl⟩
    obtain ⟨s3, hs3⟩ : ∃ s, wFs s2 fb assiB = s := ⟨_, rfl⟩
    obtain ⟨s4, hs4⟩ : ∃ s, wFs s3 fe clonB = s := ⟨_, rfl⟩
    rw [hs0, hs1, hs2, hs3, hs4] at HTE
    have b0 : s0.size ≤ 40 := by rw [← hs0]; cases fa <;> decide
    have b1 : s1.size ≤ 80 := by rw [← hs1]; exact wFs_size (a := _) (b := 40) (by omega) (by decide)
    have b2 : s2.size ≤ 120 := by rw [← hs2]; exact wFs_size (a := _) (b := 40) (by omega) (by decide)
    have b3 : s3.size ≤ 160 := by rw [← hs3]; exact wFs_size (a := _) (b := 40) (by omega) (by decide)
    have b4 : s4.size ≤ 200 := by rw [← hs4]; exact wFs_size (a := _) (b := 40) (by omega) (by decide)
    have H0 : Hid (wF0 fa = s0) := hs0
    have H1 : Hid (wFs s0 fc deleB = s1) := hs1
    have H2 : Hid (wFs s1 fd seriB = s2) := hs2
    have H3 : Hid (wFs s2 fb assiB = s3) := hs3
    have H4 : Hid (wFs s3 fe clonB = s4) := hs4
    clear hs0 hs1 hs2 hs3 hs4 HT
    go_upto_if 61 with fail
    go_cut [12] (fun v wx => v = .string s0 ∧ wx = Z)
    case first =>
      cases fa with
      | true =>
        have e : s0 = ⟨#[60, 116, 101, 109, 112, 108, 97, 116, 101, 32, 115, 104, 97, 100, 111, 119, 114, 111, 111, 116, 109, 111, 100, 101, 61, 34, 99, 108, 111, 115, 101, 100, 34]⟩ := H0.out.symm
        go_wp2_with fail
        go_meet
        case rel => exact ⟨by rw [e], rfl⟩
      | false =>
        have e : s0 = ⟨#[60, 116, 101, 109, 112, 108, 97, 116, 101, 32, 115, 104, 97, 100, 111, 119, 114, 111, 111, 116, 109, 111, 100, 101, 61, 34, 111, 112, 101, 110, 34]⟩ := H0.out.symm
        go_wp2_with fail
        go_meet
        case rel => exact ⟨by rw [e], rfl⟩
    case rest =>
    obtain ⟨rfl, hwc⟩ := hcut
    subst hwc
    clear H0
    go_upto_if 63 with fail
    go_cut [12] (fun v wx => v = .string s1 ∧ wx = wc)
    case first =>
      cases fc with
      | true =>
        have e : s1 = s0 ++ deleB := H1.out.symm
        unfold deleB at e
        go_wp2_with fail
        go_meet
        case rel => exact ⟨by rw [e], rfl⟩
      | false =>
        have e : s1 = s0 := H1.out.symm
        go_wp2_with fail
        go_meet
        case rel => exact ⟨by rw [e], rfl⟩
    case rest =>
    rename World => wk
    obtain ⟨rfl, hwc⟩ := hcut
    subst hwc
    clear H1
    rename World => wc
    go_upto_if 67 with fail
    go_cut [12] (fun v wx => v = .string s2 ∧ wx = wc)
    case first =>
      cases fd with
      | true =>
        have e : s2 = s1 ++ seriB := H2.out.symm
        unfold seriB at e
        go_wp2_with fail
        go_meet
        case rel => exact ⟨by rw [e], rfl⟩
      | false =>
        have e : s2 = s1 := H2.out.symm
        go_wp2_with fail
        go_meet
        case rel => exact ⟨by rw [e], rfl⟩
    case rest =>
    rename World => wk
    obtain ⟨rfl, hwc⟩ := hcut
    subst hwc
    clear H2
    rename World => wc
    go_upto_if 71 with fail
    go_cut [12] (fun v wx => v = .string s3 ∧ wx = wc)
    case first =>
      cases fb with
      | true =>
        have e : s3 = s2 ++ assiB := H3.out.symm
        unfold assiB at e
        go_wp2_with fail
        go_meet
        case rel => exact ⟨by rw [e], rfl⟩
      | false =>
        have e : s3 = s2 := H3.out.symm
        go_wp2_with fail
        go_meet
        case rel => exact ⟨by rw [e], rfl⟩
    case rest =>
    rename World => wk
    obtain ⟨rfl, hwc⟩ := hcut
    subst hwc
    clear H3
    rename World => wc
    go_upto_if 75 with fail
    go_cut [12] (fun v wx => v = .string s4 ∧ wx = wc)
    case first =>
      cases fe with
      | true =>
        have e : s4 = s3 ++ clonB := H4.out.symm
        unfold clonB at e
        go_wp2_with fail
        go_meet
        case rel => exact ⟨by rw [e], rfl⟩
      | false =>
        have e : s4 = s3 := H4.out.symm
        go_wp2_with fail
        go_meet
        case rel => exact ⟨by rw [e], rfl⟩
    case rest =>
    rename World => wk
    obtain ⟨rfl, hwc⟩ := hcut
    subst hwc
    clear H4
    rename World => wc
    have rk := known_any wc
    go_wp2_with fail
    refine rk.mono ?_
    rintro e w9 ⟨rfl, hK9⟩
    have HK9 : Hid (Kept (fun k => k < w.heap.size) w w9) := HKZ.out.trans (hK9.mono fun k h => Nat.lt_of_lt_of_le h HKZ.out.size)
    clear rk hK9 z0 z1 z2 z3 z4
    go_wp2
    go_ret
    exact ⟨congrArg (fun b => Ending.returned (Value.bool b)) HTE.out, HK9.out⟩
  | false =>
    obtain ⟨X, NO, hX, hNO, hbX, hkX, hzX⟩ := alloc_bx w7 #[.bool all, .slice none 0 0] 37
    have rin := (HS7.out.kept hkX).inner (szF f) 1 (by simp) (⟨all, none, 0, 0, [], rfl, by decide, fun j h => by cases h⟩ : Opt X) ((if (false || (all && f.d)) = true then ropT f else []) ++ [121]) (by have := ropT_len f; rw [List.length_append]; split <;> simp <;> omega) fun M F h => by
      rw [innFl h]; rfl
    have rin' : Calls Try.prog 11 #[.pointer (some ⟨p, 0, none⟩), .int .i64 1, .agg #[.bool all, .slice none 0 0]] X fun e w' => e = .returned (.string ⟨((if (false || (all && f.d)) = true then ropT f else []) ++ [121]).toArray⟩) ∧ Kept (fun k => k < X.heap.size) X w' := rin
    obtain ⟨T, hT⟩ : ∃ T : ByteArray, ⟨((if (false || (all && f.d)) = true then ropT f else []) ++ [121]).toArray⟩ = T := ⟨_, rfl⟩
    rw [hT] at rin'
    have HT : Hid ((⟨((if (false || (all && f.d)) = true then ropT f else []) ++ [121]).toArray⟩ : ByteArray) = T) := hT
    have HV : Hid (w7.alloc (.cells #[.bool all, .slice none 0 0] 37) = X) := hX
    have HNO : Hid (w7.heap.size = NO) := hNO
    have HK7X : Hid (Kept (fun k => k < W.heap.size) W X) := HK7.out.trans (hkX.mono fun k h => HS7.out.lt k h)
    clear rin hT hX hNO hkX hzX HS7 HK7
    go_upto_region 11 with fail
    rw [HV.out, HNO.out]
    clear HV HNO
    go_wp2_with (refine wpList_load_row rfl 37 _ rfl NO rfl 37 #[.bool all, .slice none 0 0] (0, 0) _ hbX Try.underlying37 rfl (sizeO _ rfl) ?_)
    refine rin'.mono ?_
    rintro e Z ⟨rfl, hKZ⟩
    have hWZ : Kept (fun k => k < W.heap.size) W Z := HK7X.out.trans (hKZ.mono fun k h => Nat.lt_of_lt_of_le h HK7X.out.size)
    have HKZ : Hid (Kept (fun k => k < w.heap.size) w Z) := HKW.out.trans (hWZ.mono fun k h => Nat.lt_of_lt_of_le h HKW.out.size)
    obtain ⟨z0, z1, z2, z3, z4⟩ := HC.out Z hWZ
    clear rin' hKZ hWZ hbX HK7X HC HB HNW HKW
    obtain ⟨⟨fa, fb, fc, fd, fe⟩, hf⟩ : ∃ g, f = g := ⟨_, rfl⟩
    rw [hf] at z0 z1 z2 z3 z4 HT
    dsimp only at z0 z1 z2 z3 z4 HT
    clear hf
    cases all with
    | false =>
      rw [if_neg (by simp)] at HT
      have rk := known_any Z
      have HTT : Hid ((T.toList == [121]) = true) := by show (T.toList == [121]) = true; rw [← HT.out, ByteArray.toList_eq]; rfl
      clear HT
      go_wp2_with fail
      refine rk.mono ?_
      rintro e w9 ⟨rfl, hK9⟩
      have HK9 : Hid (Kept (fun k => k < w.heap.size) w w9) := HKZ.out.trans (hK9.mono fun k h => Nat.lt_of_lt_of_le h HKZ.out.size)
      clear rk hK9 z0 z1 z2 z3 z4
      go_wp2
      go_ret
      exact ⟨congrArg (fun b => Ending.returned (Value.bool b)) HTT.out, HK9.out⟩
    | true =>
      cases fd with
      | false =>
        rw [if_neg (by simp)] at HT
        have rk := known_any Z
        have HTT : Hid ((T.toList == [121]) = true) := by show (T.toList == [121]) = true; rw [← HT.out, ByteArray.toList_eq]; rfl
        clear HT
        go_wp2_with fail
        refine rk.mono ?_
        rintro e w9 ⟨rfl, hK9⟩
        have HK9 : Hid (Kept (fun k => k < w.heap.size) w w9) := HKZ.out.trans (hK9.mono fun k h => Nat.lt_of_lt_of_le h HKZ.out.size)
        clear rk hK9 z0 z1 z2 z3 z4
        go_wp2
        go_ret
        exact ⟨congrArg (fun b => Ending.returned (Value.bool b)) HTT.out, HK9.out⟩
      | true =>
        rw [if_pos (by decide)] at HT
        have HTE : Hid ((T.toList == ((wFs (wFs (wFs (wFs (wF0 fa) fc deleB) true seriB) fb assiB) fe clonB) ++ ⟨#[62, 120, 60, 47, 116, 101, 109, 112, 108, 97, 116, 101, 62, 121]⟩).toList) = true) := by
          rw [← HT.out]
          exact wF_eq ⟨fa, fb, fc, true, fe⟩
        obtain ⟨s0, hs0⟩ : ∃ s, wF0 fa = s := ⟨_, rfl⟩
        obtain ⟨s1, hs1⟩ : ∃ s, wFs s0 fc deleB = s := ⟨_, rfl⟩
        obtain ⟨s2, hs2⟩ : ∃ s, wFs s1 true seriB = s := ⟨_, rfl⟩
        obtain ⟨s3, hs3⟩ : ∃ s, wFs s2 fb assiB = s := ⟨_, rfl⟩
        obtain ⟨s4, hs4⟩ : ∃ s, wFs s3 fe clonB = s := ⟨_, rfl⟩
        rw [hs0, hs1, hs2, hs3, hs4] at HTE
        have b0 : s0.size ≤ 40 := by rw [← hs0]; cases fa <;> decide
        have b1 : s1.size ≤ 80 := by rw [← hs1]; exact wFs_size (a := _) (b := 40) (by omega) (by decide)
        have b2 : s2.size ≤ 120 := by rw [← hs2]; exact wFs_size (a := _) (b := 40) (by omega) (by decide)
        have b3 : s3.size ≤ 160 := by rw [← hs3]; exact wFs_size (a := _) (b := 40) (by omega) (by decide)
        have b4 : s4.size ≤ 200 := by rw [← hs4]; exact wFs_size (a := _) (b := 40) (by omega) (by decide)
        have H0 : Hid (wF0 fa = s0) := hs0
        have H1 : Hid (wFs s0 fc deleB = s1) := hs1
        have H2 : Hid (wFs s1 true seriB = s2) := hs2
        have H3 : Hid (wFs s2 fb assiB = s3) := hs3
        have H4 : Hid (wFs s3 fe clonB = s4) := hs4
        clear hs0 hs1 hs2 hs3 hs4 HT
        go_upto_if 61 with fail
        go_cut [12] (fun v wx => v = .string s0 ∧ wx = Z)
        case first =>
          cases fa with
          | true =>
            have e : s0 = ⟨#[60, 116, 101, 109, 112, 108, 97, 116, 101, 32, 115, 104, 97, 100, 111, 119, 114, 111, 111, 116, 109, 111, 100, 101, 61, 34, 99, 108, 111, 115, 101, 100, 34]⟩ := H0.out.symm
            go_wp2_with fail
            go_meet
            case rel => exact ⟨by rw [e], rfl⟩
          | false =>
            have e : s0 = ⟨#[60, 116, 101, 109, 112, 108, 97, 116, 101, 32, 115, 104, 97, 100, 111, 119, 114, 111, 111, 116, 109, 111, 100, 101, 61, 34, 111, 112, 101, 110, 34]⟩ := H0.out.symm
            go_wp2_with fail
            go_meet
            case rel => exact ⟨by rw [e], rfl⟩
        case rest =>
        obtain ⟨rfl, hwc⟩ := hcut
        subst hwc
        clear H0
        go_upto_if 63 with fail
        go_cut [12] (fun v wx => v = .string s1 ∧ wx = wc)
        case first =>
          cases fc with
          | true =>
            have e : s1 = s0 ++ deleB := H1.out.symm
            unfold deleB at e
            go_wp2_with fail
            go_meet
            case rel => exact ⟨by rw [e], rfl⟩
          | false =>
            have e : s1 = s0 := H1.out.symm
            go_wp2_with fail
            go_meet
            case rel => exact ⟨by rw [e], rfl⟩
        case rest =>
        rename World => wk
        obtain ⟨rfl, hwc⟩ := hcut
        subst hwc
        clear H1
        rename World => wc
        go_upto_if 67 with fail
        go_cut [12] (fun v wx => v = .string s2 ∧ wx = wc)
        case first =>
          have e : s2 = s1 ++ seriB := H2.out.symm
          unfold seriB at e
          go_wp2_with fail
          go_meet
          case rel => exact ⟨by rw [e], rfl⟩
        case rest =>
        rename World => wk
        obtain ⟨rfl, hwc⟩ := hcut
        subst hwc
        clear H2
        rename World => wc
        go_upto_if 71 with fail
        go_cut [12] (fun v wx => v = .string s3 ∧ wx = wc)
        case first =>
          cases fb with
          | true =>
            have e : s3 = s2 ++ assiB := H3.out.symm
            unfold assiB at e
            go_wp2_with fail
            go_meet
            case rel => exact ⟨by rw [e], rfl⟩
          | false =>
            have e : s3 = s2 := H3.out.symm
            go_wp2_with fail
            go_meet
            case rel => exact ⟨by rw [e], rfl⟩
        case rest =>
        rename World => wk
        obtain ⟨rfl, hwc⟩ := hcut
        subst hwc
        clear H3
        rename World => wc
        go_upto_if 75 with fail
        go_cut [12] (fun v wx => v = .string s4 ∧ wx = wc)
        case first =>
          cases fe with
          | true =>
            have e : s4 = s3 ++ clonB := H4.out.symm
            unfold clonB at e
            go_wp2_with fail
            go_meet
            case rel => exact ⟨by rw [e], rfl⟩
          | false =>
            have e : s4 = s3 := H4.out.symm
            go_wp2_with fail
            go_meet
            case rel => exact ⟨by rw [e], rfl⟩
        case rest =>
        rename World => wk
        obtain ⟨rfl, hwc⟩ := hcut
        subst hwc
        clear H4
        rename World => wc
        have rk := known_any wc
        go_wp2_with fail
        refine rk.mono ?_
        rintro e w9 ⟨rfl, hK9⟩
        have HK9 : Hid (Kept (fun k => k < w.heap.size) w w9) := HKZ.out.trans (hK9.mono fun k h => Nat.lt_of_lt_of_le h HKZ.out.size)
        clear rk hK9 z0 z1 z2 z3 z4
        go_wp2
        go_ret
        exact ⟨congrArg (fun b => Ending.returned (Value.bool b)) HTE.out, HK9.out⟩
end Go.Proofs.Yteccdijjpmeeaaa
