/-
  The document's own Inner: what is in a node.
-/
import Derived.Test.YtikaheenjhdpmaaGreatVRc
namespace Go.Proofs.YtikaheenjhdpmaaGreat
open Go.RowKit Go.Sort
set_option linter.unusedVariables false
set_option maxRecDepth 100000
set_option maxHeartbeats 8000000
section
variable {w0 : World} {r : Nat} {M : Dm} {R : Nat -> List Nat} {g nc : Nat} {sr : Bool} {la : Option Addr} {rn rc i : Nat} {T : List UInt8}
theorem zja (hE : RE w0 r M R g nc) (hn : M.n <= 100000) (hi : i < M.n) (hk : (M.nd i).kind = 1) (hv : za7 (M.nd i).name = true) : Zq1 w0 r i (.agg #[.bool sr, .slice la rn rc]) [] := by
 intro X hX
 obtain ⟨aa, ac, ka, kc, hA⟩ := hE i hi
 obtain ⟨W, N, hW, hN, hb, hkW, hz⟩ := zae X #[.bool sr, .slice la rn rc] 41
 have hwW : Kept (fun k => k < w0.heap.size) w0 W := hX.trans (hkW.mono fun k h => ltl h hX.size)
 have hat := hA W hwW
 have c1 := hat.c1
 have uk : W.cell? ⟨g, i * 14, none⟩ = some (.int .u8 1) := by have := hat.c 0 _ rfl; rw [hk] at this; exact this
 have un : W.cell? ⟨g, i * 14 + 1, none⟩ = some (.string ⟨(M.nd i).name.toArray⟩) := hat.c 1 _ rfl
 obtain ⟨UN, hUN⟩ : ∃ b : ByteArray, ⟨(M.nd i).name.toArray⟩ = b := ⟨_, rfl⟩
 rw [hUN] at un
 have rv := zch UN (fun k => k < W.heap.size) W
 have ev : za7 UN.toList = true := by rw [<- hUN, ByteArray.toList_eq]; exact hv
 rw [ev] at rv
 obtain ⟨m, hm⟩ : ∃ m, M.n = m := ⟨_, rfl⟩
 rw [hm] at c1
 have him : i < m := by rw [<- hm]; exact hi
 have hm5 : m <= 100000 := by rw [<- hm]; exact hn
 have HW : Hid (X.alloc (.cells #[.bool sr, .slice la rn rc] 41) = W) := hW
 have HN : Hid (X.heap.size = N) := hN
 have HKW : Hid (Kept (fun k => k < X.heap.size) X W) := hkW
 have i2 : decide ((i : Int) < 0) = false := decide_eq_false (by omega)
 have i3 : decide ((m : Int) <= (i : Int)) = false := decide_eq_false (by omega)
 clear hE hX hA hW hN hb hkW hz hwW hat hUN hm hk hi hn hv ev
 go_enter Tryz.func22, Tryz.ntmps22
 go_upto_region 1 with fail
 rw [HW.out, HN.out]
 clear HW HN
 go_wp2_with fail
 refine rv.mono ?_
 rintro e w9 ⟨rfl, hK9⟩
 have HK9 : Hid (Kept (fun k => k < X.heap.size) X w9) := HKW.out.trans (hK9.mono fun k h => ltl h HKW.out.size)
 clear rv hK9
 go_wp2
 go_ret
 exact ⟨rfl, HK9.out⟩
end
end Go.Proofs.YtikaheenjhdpmaaGreat
