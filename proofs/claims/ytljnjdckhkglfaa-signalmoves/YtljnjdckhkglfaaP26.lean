/-
 portierelaw11: known.
-/
import Derived.Test.YtljnjdckhkglfaaP24
import Derived.Test.YtljnjdckhkglfaaP25
namespace Go.Proofs.Ytljnjdckhkglfaa
set_option linter.unusedVariables false
set_option maxRecDepth 100000
set_option maxHeartbeats 8000000
section
open Go.RowKit
def s5 : Dm := (((((Dm.new 9).add divN).add txN).add slN).add slN).addR 1 fg0
def s5R : Nat -> List Nat := updR (updR (updR (updR (updR (fun _ => []) 1 []) 2 []) 3 []) 4 []) 5 []
def s6 : Dm := s5.setP (putD s5 s5R 1 2 (-1))
def s6R : Nat -> List Nat := putDR s5 s5R 1 2 (-1)
def s7 : Dm := s6.setP (putD s6 s6R 5 3 (-1))
def s7R : Nat -> List Nat := putDR s6 s6R 5 3 (-1)
def s8 : Dm := s7.setP (putD s7 s7R 5 4 (-1))
def s8R : Nat -> List Nat := putDR s7 s7R 5 4 (-1)
theorem sF5 : Fits s5 1 2 (-1) := ⟨by kernel_rfl, by kernel_rfl, wi_end (by kernel_rfl) (by decide), .inl rfl⟩
theorem sF6 : Fits s6 5 3 (-1) := ⟨by kernel_rfl, by kernel_rfl, wi_step (m := 1) (by kernel_rfl) (by decide) (wi_end (by kernel_rfl) (by decide)), .inl rfl⟩
theorem sF7 : Fits s7 5 4 (-1) := ⟨by kernel_rfl, by kernel_rfl, wi_step (m := 1) (by kernel_rfl) (by decide) (wi_end (by kernel_rfl) (by decide)), .inl rfl⟩
section
variable {G : Nat -> List Nat} {rk : Nat -> Nat}
theorem s8of3 : ofZ s8 3 = 5 := ofZ_eq (M := s8) (i := 3) (z := 5) (by decide +kernel) (.yes (t := 5) (.up (m := 5) (by kernel_rfl) (.here (by kernel_rfl))) (by kernel_rfl))
theorem s8of4 : ofZ s8 4 = 5 := ofZ_eq (M := s8) (i := 4) (z := 5) (by decide +kernel) (.yes (t := 5) (.up (m := 5) (by kernel_rfl) (.here (by kernel_rfl))) (by kernel_rfl))
theorem s8asg3 : asgL s8 s8R G 3 = [2] := by
 unfold asgL
 have h1 : isSl (s8.nd 3) = true := by kernel_rfl
 have e : ofZ s8 ((3 : Nat) : Int) = 5 := s8of3
 rw [h1, e, if_neg (by simp)]
 show shwL s8 s8R G 3 5 = [2]
 unfold shwL
 have hb : (s8.nd 5).fl.b = false := by kernel_rfl
 rw [hb, if_neg (by simp)]
 have hf : fstS s8 s8R (atV nameN (s8.nd 3).attrs) 5 = ((3 : Nat) : Int) := by kernel_rfl
 rw [if_pos hf]
 have hr : (s8R (s8.nd 5).host.toNat).filter (fun k => asksB (atV nameN (s8.nd 3).attrs) (s8.nd k)) = [2] := by kernel_rfl
 exact hr
theorem s8asg4 : asgL s8 s8R G 4 = [] := by
 unfold asgL
 have h1 : isSl (s8.nd 4) = true := by kernel_rfl
 have e : ofZ s8 ((4 : Nat) : Int) = 5 := s8of4
 rw [h1, e, if_neg (by simp)]
 show shwL s8 s8R G 4 5 = []
 unfold shwL
 have hb : (s8.nd 5).fl.b = false := by kernel_rfl
 rw [hb, if_neg (by simp)]
 have hf : fstS s8 s8R (atV nameN (s8.nd 4).attrs) 5 = ((3 : Nat) : Int) := by kernel_rfl
 rw [hf, if_neg (by omega)]
theorem s8find (h : Inv s8 s8R G rk) : findZ s8 s8R 2 = 3 := by
 have n6 : s8.n = 6 := by kernel_rfl
 exact (h.asg (i := 3) (k := 2) (by rw [n6]; decide) (by rw [n6]; decide)).1 (by rw [s8asg3]; simp)
theorem s8flat (h : Inv s8 s8R G rk) : flatL s8 s8R G 3 = [2] := by
 have n6 : s8.n = 6 := by kernel_rfl
 have hs : isS s8 3 = true := by
  unfold isS
  have h1 : isSl (s8.nd 3) = true := by kernel_rfl
  have e : ofZ s8 ((3 : Nat) : Int) = 5 := s8of3
  rw [h1, e]; decide
 have hs2 : isS s8 2 = false := by
  unfold isS
  have h1 : isSl (s8.nd 2) = false := by kernel_rfl
  rw [h1, Bool.false_and]
 rw [h.flat_eq (by rw [n6]; decide) hs]
 have hn : nxt s8 s8R G 3 = [2] := by unfold nxt; rw [hs, if_neg (by simp), s8asg3, if_neg (by simp)]
 rw [hn, List.flatMap_singleton, if_neg (by rw [hs2]; simp)]
end
theorem sknown_any (w : World) : Calls Try.prog 9 #[] w fun e w' => e = .returned (.bool true) /\ Kept (fun k => k < w.heap.size) w w' := by
 have r0 := new_yes 9 w (by decide) (by decide)
 go_enter Try.func9, Try.ntmps9
 go_wp2_with fail
 refine r0.mono ?_
 rintro e w1 ⟨p, rfl, hp, hX1, hK1⟩
 have k1 : Kn (fun k => k < w.heap.size) w1 p (Dm.new 9) (fun _ => []) (fun _ => []) := Kn.new (w0 := w) hX1 (by decide) (by decide)
 have r1 := k1.make 1 1 divB ⟨#[]⟩ [100, 105, 118] [] rfl divB_list empB_list sound_div (by decide) (by decide)
 have HK1 : Hid (Kept (fun k => k < w.heap.size) w w1) := hK1
 clear r0 hX1 hK1 k1 hp
 go_wp2_with fail
 refine r1.mono ?_
 rintro e w2 ⟨rfl, k2, hK2⟩
 have r2 := k2.make 2 2 ⟨#[]⟩ ⟨#[120]⟩ [] [120] rfl empB_list xB_list sound_txt (by decide) (by decide)
 have HK2 : Hid (Kept (fun k => k < w.heap.size) w w2) := HK1.out.trans hK2
 clear r1 k2 hK2
 go_wp2_with fail
 refine r2.mono ?_
 rintro e w3 ⟨rfl, k3, hK3⟩
 have r3 := k3.make 1 1 slotBB ⟨#[]⟩ [115, 108, 111, 116] [] rfl slotBB_list empB_list sound_sl (by decide) (by decide)
 have HK3 : Hid (Kept (fun k => k < w.heap.size) w w3) := HK2.out.trans hK3
 clear r2 k3 hK3
 go_wp2_with fail
 refine r3.mono ?_
 rintro e w4 ⟨rfl, k4, hK4⟩
 have r4 := k4.make 1 1 slotBB ⟨#[]⟩ [115, 108, 111, 116] [] rfl slotBB_list empB_list sound_sl (by decide) (by decide)
 have HK4 : Hid (Kept (fun k => k < w.heap.size) w w4) := HK3.out.trans hK4
 clear r3 k4 hK4
 go_wp2_with fail
 refine r4.mono ?_
 rintro e w5 ⟨rfl, k5, hK5⟩
 have r5 := k5.root (host := 1) fg0 (by decide) (by kernel_rfl) (by kernel_rfl) (by decide)
 have HK5 : Hid (Kept (fun k => k < w.heap.size) w w5) := HK4.out.trans hK5
 clear r4 k5 hK5
 go_wp2_with fail
 refine r5.mono ?_
 rintro e w6 ⟨rfl, k6, hK6⟩
 have k6' : ∃ G, Kn (fun k => k < w.heap.size) w6 p s5 s5R G := ⟨_, k6⟩
 obtain ⟨G, k6⟩ := k6'
 have r6 := k6.ins (up := 1) (i := 2) (-1) (by decide +kernel) (by decide +kernel) (.inl rfl) sF5
 have HK6 : Hid (Kept (fun k => k < w.heap.size) w w6) := HK5.out.trans hK6
 clear r5 hK6 k6
 go_wp2_with fail
 refine r6.mono ?_
 rintro e w7 ⟨rfl, k7, hK7⟩
 have k7' : Kn (fun k => k < w.heap.size) w7 p s6 s6R G := k7
 have r7 := k7'.ins (up := 5) (i := 3) (-1) (by decide +kernel) (by decide +kernel) (.inl rfl) sF6
 have HK7 : Hid (Kept (fun k => k < w.heap.size) w w7) := HK6.out.trans hK7
 clear r6 hK7 k7 k7'
 go_wp2_with fail
 refine r7.mono ?_
 rintro e w8 ⟨rfl, k8, hK8⟩
 have k8' : Kn (fun k => k < w.heap.size) w8 p s7 s7R G := k8
 have r8 := k8'.ins (up := 5) (i := 4) (-1) (by decide +kernel) (by decide +kernel) (.inl rfl) sF7
 have HK8 : Hid (Kept (fun k => k < w.heap.size) w w8) := HK7.out.trans hK8
 clear r7 hK8 k8 k8'
 go_wp2_with fail
 refine r8.mono ?_
 rintro e w9 ⟨rfl, k9, hK9⟩
 have k9' : Kn (fun k => k < w.heap.size) w9 p s8 s8R G := k9
 obtain ⟨rk, hR⟩ := k9'.rd
 have HK9 : Hid (Kept (fun k => k < w.heap.size) w w9) := HK8.out.trans hK9
 have HR : Hid (Rd (fun k => k < w.heap.size) w9 p s8 s8R G rk) := hR
 have n6 : s8.n = 6 := by kernel_rfl
 have ra := hR.assigned 3
 have ea : asgI s8 s8R G 3 = [2] := (asgI_in (i := 3) (by rw [n6]; decide)).trans s8asg3
 rw [ea] at ra
 have RS : Hid (∀ X, Kept (fun k => k < w9.heap.size) w9 X -> Calls Try.prog 20 #[.pointer (some ⟨p, 0, none⟩), .int .i64 5] X (Lst X [3, 4])) := fun X hX => by
  have := (HR.out.kept hX).slots 5
  rw [show (trI s8.n s8R 5).filter (fun k => isSl (s8.nd k)) = [3, 4] from by kernel_rfl] at this
  exact this
 have RFI : Hid (∀ X, Kept (fun k => k < w9.heap.size) w9 X -> Calls Try.prog 12 #[.pointer (some ⟨p, 0, none⟩), .int .i64 2] X fun e w' => e = .returned (.int .i64 3) /\ Kept (fun k => k < X.heap.size) X w') := fun X hX => by
  have := (HR.out.kept hX).find 2
  rw [show findI s8 s8R 2 = 3 from (findI_in (i := 2) (by rw [n6]; decide)).trans (s8find HR.out.inv)] at this
  exact this
 have RA4 : Hid (∀ X, Kept (fun k => k < w9.heap.size) w9 X -> Calls Try.prog 15 #[.pointer (some ⟨p, 0, none⟩), .int .i64 4] X (Lst X [])) := fun X hX => by
  have := (HR.out.kept hX).assigned 4
  rw [show asgI s8 s8R G 4 = [] from (asgI_in (i := 4) (by rw [n6]; decide)).trans s8asg4] at this
  exact this
 have RFL : Hid (∀ X, Kept (fun k => k < w9.heap.size) w9 X -> Calls Try.prog 32 #[.pointer (some ⟨p, 0, none⟩), .int .i64 3] X (Lst X [2])) := fun X hX => by
  have := (HR.out.kept hX).flat 3
  rw [show flatI s8 s8R G 3 = [2] from (flatI_in (i := 3) (by rw [n6]; decide)).trans (s8flat HR.out.inv)] at this
  exact this
 clear r8 hK9 k9 k9' hR ea n6
 go_wp2_with fail
 refine ra.mono ?_
 rintro e w10 ⟨ga, ca, rfl, hO10, hk10⟩
 obtain ⟨g10, rfl, hg10, c10⟩ := one_cell hO10
 have rb := RS.out w10 hk10
 have HK10 : Hid (Kept (fun k => k < w9.heap.size) w9 w10) := hk10
 clear ra hO10 hk10
 go_wp2_with fail
 refine rb.mono ?_
 rintro e w11 ⟨gb, cb, rfl, -, hk11⟩
 have k911 : Kept (fun k => k < w9.heap.size) w9 w11 := HK10.out.trans (hk11.mono fun k h => Nat.lt_of_lt_of_le h HK10.out.size)
 have rf := RFI.out w11 k911
 have d10 : w11.cell? ⟨g10, 0, none⟩ = some (.int .i64 2) := (hk11.cell (p := ⟨g10, 0, none⟩) hg10).trans c10
 have hg10' : g10 < w11.heap.size := Nat.lt_of_lt_of_le hg10 hk11.size
 have HK11 : Hid (Kept (fun k => k < w9.heap.size) w9 w11) := k911
 clear rb hk11 k911 c10 hg10
 go_wp2_with fail
 refine rf.mono ?_
 rintro e w12 ⟨rfl, hk12⟩
 have k912 : Kept (fun k => k < w9.heap.size) w9 w12 := HK11.out.trans (hk12.mono fun k h => Nat.lt_of_lt_of_le h HK11.out.size)
 have r4 := RA4.out w12 k912
 have e10 : w12.cell? ⟨g10, 0, none⟩ = some (.int .i64 2) := (hk12.cell (p := ⟨g10, 0, none⟩) hg10').trans d10
 have HK12 : Hid (Kept (fun k => k < w9.heap.size) w9 w12) := k912
 clear rf hk12 k912 d10 hg10'
 go_wp2_with fail
 refine r4.mono ?_
 rintro e w13 ⟨gd, cd, rfl, -, hk13⟩
 have k913 : Kept (fun k => k < w9.heap.size) w9 w13 := HK12.out.trans (hk13.mono fun k h => Nat.lt_of_lt_of_le h HK12.out.size)
 have r5 := RFL.out w13 k913
 have HK13 : Hid (Kept (fun k => k < w9.heap.size) w9 w13) := k913
 clear r4 hk13 k913 e10
 go_wp2_with fail
 refine r5.mono ?_
 rintro e w14 ⟨ge, ce, rfl, -, hk14⟩
 have HK14 : Hid (Kept (fun k => k < w.heap.size) w w14) := (HK9.out.trans (HK13.out.mono fun k h => Nat.lt_of_lt_of_le h HK9.out.size)).trans (hk14.mono fun k h => Nat.lt_of_lt_of_le h (Nat.le_trans HK9.out.size HK13.out.size))
 clear r5 hk14
 go_wp2
 go_ret
 exact ⟨rfl, HK14.out⟩
end
end Go.Proofs.Ytljnjdckhkglfaa
