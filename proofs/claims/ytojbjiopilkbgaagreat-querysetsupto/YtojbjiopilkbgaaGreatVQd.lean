/-
  All that is sought: ByName, ByAttr, Closest.
-/
import Derived.Test.YtojbjiopilkbgaaGreatVQc
namespace Go.Proofs.YtojbjiopilkbgaaGreat
set_option linter.unusedVariables false
section
open Go.RowKit Go.Shelf
attribute [local go_sem] Oper.semAt_some
set_option maxRecDepth 100000
set_option maxHeartbeats 4000000
theorem zim (K : Nat -> Prop) (p : Nat) (M : Dm) (R : Nat -> List Nat) (rk : Nat -> Nat) (w : World) (hd : DX K w p M) (hG : Good M R rk) (hn : M.n <= 100000) (P : Nd -> Bool) (f : Nat) (caps : Array Value) (hs : Sgt w M P f caps) (i : Int) (ht : (qL M R P i).length <= 1000000) (b0 b1 b2 : Nat)
  (c0 : w.cell? ⟨b0, 0, none⟩ = some (.pointer (some ⟨p, 0, none⟩))) (c1 : w.cell? ⟨b1, 0, none⟩ = some (.int .i64 i)) (c2 : w.cell? ⟨b2, 0, none⟩ = some (.func (.func f) #[] caps)) (l0 : b0 < w.heap.size) (l1 : b1 < w.heap.size) (l2 : b2 < w.heap.size) :
  Calls Tryz.prog 172 #[.slice none 0 0, .func (.func 167) #[] #[.pointer (some ⟨b0, 0, none⟩), .pointer (some ⟨b1, 0, none⟩), .pointer (some ⟨b2, 0, none⟩)]] w fun e w' => ∃ ao c, e = .returned (.slice ao (qL M R P i).length c) /\ Zac (fun k => k < w.heap.size) w' 3 1 ao (qL M R P i).length c (ivs (qL M R P i)) /\ Kept (fun k => k < w.heap.size) w w' := by
 obtain ⟨W1, hW1⟩ : ∃ W1, w.alloc (.cells #[.slice none 0 0] 23) = W1 := ⟨_, rfl⟩
 obtain ⟨B, hB⟩ : ∃ B, w.heap.size = B := ⟨_, rfl⟩
 have kW1 : Kept (fun k => k < w.heap.size) w W1 := by rw [<- hW1]; exact (Kept.refl _ w).alloc (fun _ h => h) _
 have hb1 : W1.heap[B]? = some (.cells #[.slice none 0 0] 23 (0, 0)) := by rw [<- hW1, <- hB]; exact heap_alloc_new w _
 have hs1 : W1.heap.size = B + 1 := by rw [<- hW1, <- hB]; simp
 have hseq := zek K p M R rk w hd hG hn P f caps hs i (3 - 1) b0 b1 b2 W1 kW1 (SnB B) (MnB B) (by rw [hB]; exact zqv B) (fun W hW => ⟨ltl (by omega) hW.size, fun k ⟨n, c, hc⟩ => by
   rw [hW.cell (p := ⟨B, 0, none⟩) (by show B < _; omega), zaa hb1] at hc
   exact absurd (Option.some.inj hc) (by intro h; injection h with h; cases h)⟩)
  c0 c1 c2 l0 l1 l2
 rw [hB] at hseq
 have h0 : Col B w [] W1 := ⟨⟨none, 0, hb1, Zac.nil _ _ _ _⟩, by rw [<- hB]; exact kW1.below⟩
 have HW1 : Hid (w.alloc (.cells #[.slice none 0 0] 23) = W1) := hW1
 have HB : Hid (w.heap.size = B) := hB
 obtain ⟨T, hT⟩ : ∃ T, qL M R P i = T := ⟨_, rfl⟩
 rw [hT] at hseq ht ⊢
 have hBW : B < W1.heap.size := by omega
 have HKW : Hid (Kept (fun k => k < w.heap.size) w W1) := kW1
 clear hW1 hd hs c0 c1 c2 hT hB kW1
 refine (callsIn_wide (n := 3)).1 ?_
 refine callsIn_of_wp_marks Tryz.func172 rfl trivial ?_ rfl
 simp only [Tryz.ntmps172, List.size_toArray, List.length_cons, List.length_nil, Nat.reduceAdd, Nat.reduceSub, Array.replicate_succ, Array.replicate_zero, List.push_toArray, List.append_toArray, List.nil_append, List.cons_append]
 gi_wp2
 rw [HW1.out, HB.out]
 refine wpIn_rangeFunc_ownG rfl (by omega) (gf := 167) (lb := #[.pointer (some ⟨b0, 0, none⟩), .pointer (some ⟨b1, 0, none⟩), .pointer (some ⟨b2, 0, none⟩)]) rfl trivial (enters_of Tryz.func167 (by kernel_rfl) rfl)
  hseq zpo (zq0 hBW) (Below.refl _ _) (fun _ => rfl) (Col B w) (fun _ _ _ => False) (zmh _ hBW) (fun _ _ _ _ _ hs _ _ => hs) h0
  (fun x => { tmps := #[.slice none 0 0, .func (.func 167) #[] #[.pointer (some ⟨b0, 0, none⟩), .pointer (some ⟨b1, 0, none⟩), .pointer (some ⟨b2, 0, none⟩)], .pointer (some ⟨B, 0, none⟩), undef, .slice none 0 0, .int .i64 (x : Int), .func (.func 167) #[] #[.pointer (some ⟨b0, 0, none⟩), .pointer (some ⟨b1, 0, none⟩), .pointer (some ⟨b2, 0, none⟩)], .int .i64 (x : Int), undef, undef, undef, undef, undef], defers := [] }) ?assign ?body ?done ?stop
 case assign =>
  intro l x W K hK
  gi_wp2
  exact hK
 case body =>
  rintro l pre x W hcol hlt
  obtain ⟨ao, cap, ao', cap', w', d0, hrun, d1, d2, q1, q2, q3⟩ := zi2 x hcol (by omega) W1.heap.size
  have Q1 : Hid (KeepsFrom W1.heap.size W (w'.setCell ⟨B, 0, none⟩ (.slice ao' (pre.length + 1) cap')) /\ KpS B (SnB B) (MnB B) W (w'.setCell ⟨B, 0, none⟩ (.slice ao' (pre.length + 1) cap')) /\ Col B w (pre ++ [x]) (w'.setCell ⟨B, 0, none⟩ (.slice ao' (pre.length + 1) cap'))) := ⟨q1, q2, q3⟩
  clear q1 q2 q3 hcol
  gi_wp2_with (gi_at_builtin; refine zhs (w' := w') rfl (.tmp 8) (.tmp 10) 23 23 rfl _ _ (.slice ao' (pre.length + 1) cap') rfl rfl hrun ?_)
  exact Q1.out
 case done =>
  rintro D ys W hD rfl ⟨⟨ao, cap, hb, hO⟩, hbel⟩ hK
  have hc : W.cell? ⟨B, 0, none⟩ = some (.slice ao ys.length cap) := by rw [zaa hb]; rfl
  gi_wp2
  refine ⟨by simp, .inl ⟨_, _, rfl, run_takeDeferred hK, ?_⟩⟩
  have oth : ∀ (k : Nat) (o : Obj), W.heap[k]? = some o -> o.isCells = true -> (W.putObj D (.deferred none)).heap[k]? = W.heap[k]? := fun k o hk ho => World.putObj_heap_other (fun e => by rw [e, hK] at hk; injection hk with hk; rw [<- hk] at ho; cases ho)
  refine ⟨_, results_tmp rfl _ _ _, ao, cap, rfl, Zac.to hO (fun g hg hh => (hO.out hg).1 (by rw [HB.out] at hh; omega)) (fun g hg => ?_), ?_⟩
  ·obtain ⟨_, _, _, h4⟩ := hO
   rcases h4 with ⟨r1, _⟩ | ⟨g', cur, r1, r2, r3, _⟩
   ·rw [r1] at hg; cases hg
   ·have hg' : ao = some ⟨g, 0, none⟩ := hg
    rw [r1] at hg'
    injection hg' with hg'
    injection hg' with hg'
    subst hg'
    exact oth g' _ r3 rfl
  ·have hb2 : Below B W (W.putObj D (.deferred none)) := belowK_b (w := W1) (by omega) W D _ _ hD hK rfl rfl
   rw [HB.out]
   exact Below.kept (hbel.trans hb2)
 case stop =>
  rintro D c pre W _ _ h _
  exact h.elim
end
section
open Go.RowKit
set_option maxRecDepth 20000
set_option maxHeartbeats 1000000
theorem zhn (K : Nat -> Prop) (p : Nat) (M : Dm) (R : Nat -> List Nat) (rk : Nat -> Nat) (w : World) (hd : DX K w p M) (hG : Good M R rk) (hn : M.n <= 100000) (P : Nd -> Bool) (f : Nat) (caps : Array Value) (hs : Sgt w M P f caps) (i : Int) (b0 b1 b2 : Nat)
  (c0 : w.cell? ⟨b0, 0, none⟩ = some (.pointer (some ⟨p, 0, none⟩))) (c1 : w.cell? ⟨b1, 0, none⟩ = some (.int .i64 i)) (c2 : w.cell? ⟨b2, 0, none⟩ = some (.func (.func f) #[] caps)) (l0 : b0 < w.heap.size) (l1 : b1 < w.heap.size) (l2 : b2 < w.heap.size) :
  Calls Tryz.prog 97 #[.func (.func 167) #[] #[.pointer (some ⟨b0, 0, none⟩), .pointer (some ⟨b1, 0, none⟩), .pointer (some ⟨b2, 0, none⟩)]] w (Lst w (qL M R P i)) := by
 have r := zim K p M R rk w hd hG hn P f caps hs i (Nat.le_trans (zi1 hG.only P i) (by omega)) b0 b1 b2 c0 c1 c2 l0 l1 l2
 clear hd hs c0 c1 c2
 go_enter Tryz.func97, Tryz.ntmps97
 go_wp2_with fail
 refine r.mono ?_
 rintro e w1 ⟨ao, c, rfl, hO, hK⟩
 have HO : Hid (Zac (fun k => k < w.heap.size) w1 3 1 ao (qL M R P i).length c (ivs (qL M R P i)) /\ Kept (fun k => k < w.heap.size) w w1) := ⟨hO, hK⟩
 clear r hO hK
 go_wp2
 go_ret
 exact ⟨ao, c, rfl, HO.out.1, HO.out.2⟩
end
open Go.RowKit Go.Sort
set_option maxRecDepth 100000
set_option maxHeartbeats 8000000
abbrev frW (p : Nat) (i : Int) (fv : Value) (w : World) : World := ((w.alloc (.cells #[.pointer (some ⟨p, 0, none⟩)] 26)).alloc (.cells #[.int .i64 i] 3)).alloc (.cells #[fv] 145)
theorem zo0 (p : Nat) (i : Int) (fv : Value) (w : World) : ∃ W, frW p i fv w = W /\ Kept (fun k => k < w.heap.size) w W /\ W.heap.size = w.heap.size + 3 /\ W.cell? ⟨w.heap.size, 0, none⟩ = some (.pointer (some ⟨p, 0, none⟩)) /\ W.cell? ⟨w.heap.size + 1, 0, none⟩ = some (.int .i64 i) /\ W.cell? ⟨w.heap.size + 2, 0, none⟩ = some fv := by
 obtain ⟨A, hA⟩ : ∃ A, w.alloc (.cells #[.pointer (some ⟨p, 0, none⟩)] 26) = A := ⟨_, rfl⟩
 obtain ⟨B, hB⟩ : ∃ B, A.alloc (.cells #[.int .i64 i] 3) = B := ⟨_, rfl⟩
 obtain ⟨C, hC⟩ : ∃ C, B.alloc (.cells #[fv] 145) = C := ⟨_, rfl⟩
 have e : frW p i fv w = C := by unfold frW; rw [hA, hB, hC]
 have sA : A.heap.size = w.heap.size + 1 := by rw [<- hA]; simp
 have sB : B.heap.size = w.heap.size + 2 := by rw [<- hB]; simp [sA]
 have sC : C.heap.size = w.heap.size + 3 := by rw [<- hC]; simp [sB]
 have kA : Kept (fun k => k < w.heap.size) w A := by rw [<- hA]; exact (Kept.refl _ w).alloc (fun _ h => h) _
 have kB : Kept (fun k => k < A.heap.size) A B := by rw [<- hB]; exact (Kept.refl _ A).alloc (fun _ h => h) _
 have kC : Kept (fun k => k < B.heap.size) B C := by rw [<- hC]; exact (Kept.refl _ B).alloc (fun _ h => h) _
 have a0 : A.cell? ⟨w.heap.size, 0, none⟩ = some (.pointer (some ⟨p, 0, none⟩)) := by rw [<- hA, zaa (heap_alloc_new w _)]; rfl
 have b0 : B.cell? ⟨w.heap.size + 1, 0, none⟩ = some (.int .i64 i) := by rw [<- hB, <- sA, zaa (heap_alloc_new A _)]; rfl
 have c0 : C.cell? ⟨w.heap.size + 2, 0, none⟩ = some fv := by rw [<- hC, <- sB, zaa (heap_alloc_new B _)]; rfl
 refine ⟨C, e, (kA.trans (kB.mono fun k h => by omega)).trans (kC.mono fun k h => by omega), sC, ?_, ?_, c0⟩
 ·exact (kC.cell (p := ⟨w.heap.size, 0, none⟩) (by show w.heap.size < _; omega)).trans ((kB.cell (p := ⟨w.heap.size, 0, none⟩) (by show w.heap.size < _; omega)).trans a0)
 ·exact (kC.cell (p := ⟨w.heap.size + 1, 0, none⟩) (by show w.heap.size + 1 < _; omega)).trans b0
theorem zcg (p f : Nat) (caps : Array Value) (i : Int) (w : World) :
  Calls Tryz.prog 94 #[.pointer (some ⟨p, 0, none⟩), .int .i64 i, .func (.func f) #[] caps] w fun e w' => e = .returned (.func (.func 167) #[] #[.pointer (some ⟨w.heap.size, 0, none⟩), .pointer (some ⟨w.heap.size + 1, 0, none⟩), .pointer (some ⟨w.heap.size + 2, 0, none⟩)]) /\ w' = frW p i (.func (.func f) #[] caps) w := by
 go_enter Tryz.func94, Tryz.ntmps94
 go_wp2
 go_ret
 exact ⟨rfl, rfl⟩
theorem zf7 (S : ByteArray) (w : World) :
  Calls Tryz.prog 96 #[.string S] w fun e w' => e = .returned (.func (.func 171) #[] #[.pointer (some ⟨w.heap.size, 0, none⟩)]) /\ w' = w.alloc (.cells #[.string S] 9) := by
 go_enter Tryz.func96, Tryz.ntmps96
 go_wp2
 go_ret
 exact ⟨rfl, rfl⟩
theorem zfp (S T : ByteArray) (w : World) :
  Calls Tryz.prog 95 #[.string S, .string T] w fun e w' => e = .returned (.func (.func 169) #[] #[.pointer (some ⟨w.heap.size, 0, none⟩), .pointer (some ⟨w.heap.size + 1, 0, none⟩)]) /\ w' = (w.alloc (.cells #[.string S] 9)).alloc (.cells #[.string T] 9) := by
 go_enter Tryz.func95, Tryz.ntmps95
 go_wp2
 go_ret
 exact ⟨rfl, rfl⟩
theorem zon (S T : ByteArray) (w : World) : ∃ W, (w.alloc (.cells #[.string S] 9)).alloc (.cells #[.string T] 9) = W /\ Kept (fun k => k < w.heap.size) w W /\ W.heap.size = w.heap.size + 2 /\ W.cell? ⟨w.heap.size, 0, none⟩ = some (.string S) /\ W.cell? ⟨w.heap.size + 1, 0, none⟩ = some (.string T) := by
 obtain ⟨A, hA⟩ : ∃ A, w.alloc (.cells #[.string S] 9) = A := ⟨_, rfl⟩
 obtain ⟨B, hB⟩ : ∃ B, A.alloc (.cells #[.string T] 9) = B := ⟨_, rfl⟩
 have sA : A.heap.size = w.heap.size + 1 := by rw [<- hA]; simp
 have sB : B.heap.size = w.heap.size + 2 := by rw [<- hB]; simp [sA]
 have kA : Kept (fun k => k < w.heap.size) w A := by rw [<- hA]; exact (Kept.refl _ w).alloc (fun _ h => h) _
 have kB : Kept (fun k => k < A.heap.size) A B := by rw [<- hB]; exact (Kept.refl _ A).alloc (fun _ h => h) _
 have a0 : A.cell? ⟨w.heap.size, 0, none⟩ = some (.string S) := by rw [<- hA, zaa (heap_alloc_new w _)]; rfl
 have b0 : B.cell? ⟨w.heap.size + 1, 0, none⟩ = some (.string T) := by rw [<- hB, <- sA, zaa (heap_alloc_new A _)]; rfl
 exact ⟨B, by rw [hA, hB], kA.trans (kB.mono fun k h => by omega), sB, (kB.cell (p := ⟨w.heap.size, 0, none⟩) (by show w.heap.size < _; omega)).trans a0, b0⟩
theorem Lst.up {w W w' : World} {l : List Nat} {e : Ending} (h : Lst W l e w') (hk : Kept (fun k => k < w.heap.size) w W) : Lst w l e w' := by
 obtain ⟨ao, c, rfl, hO, hK⟩ := h
 exact ⟨ao, c, rfl, Zac.to hO (fun g hg hh => (hO.out hg).1 (ltl hh hk.size)) (fun _ _ => rfl), hk.trans (hK.mono fun k h => ltl h hk.size)⟩
section
variable {K : Nat -> Prop} {p : Nat} {M : Dm} {R : Nat -> List Nat} {rk : Nat -> Nat} {w : World}
theorem zqc (hd : DX K w p M) (hG : Good M R rk) (hn : M.n <= 100000) (P : Nd -> Bool) (f : Nat) (caps : Array Value) (hs : Sgt w M P f caps) (i : Int) :
  Calls Tryz.prog 97 #[.func (.func 167) #[] #[.pointer (some ⟨w.heap.size, 0, none⟩), .pointer (some ⟨w.heap.size + 1, 0, none⟩), .pointer (some ⟨w.heap.size + 2, 0, none⟩)]] (frW p i (.func (.func f) #[] caps) w) (Lst w (qL M R P i)) := by
 obtain ⟨W, hW, hk, hz, c0, c1, c2⟩ := zo0 p i (.func (.func f) #[] caps) w
 rw [hW]
 exact (zhn K p M R rk W (hd.kept hk) hG hn P f caps (hs.kept hk) i _ _ _ c0 c1 c2 (by omega) (by omega) (by omega)).mono fun e w' h => h.up hk
def nmP (S : List UInt8) : Nd -> Bool := if S = [42] then elB else zey S
theorem zd6 (hd : DX K w p M) (hG : Good M R rk) (hn : M.n <= 100000) (S : ByteArray) (i : Int) :
  Calls Tryz.prog 43 #[.pointer (some ⟨p, 0, none⟩), .int .i64 i, .string S] w (Lst w (qL M R (nmP S.toList) i)) := by
 by_cases hS : S.toList = [42]
 ·have e1 : (S.toList == [42]) = true := by rw [hS]; rfl
  have r0 := zcg p 98 #[] i w
  have r1 := zqc hd hG hn elB 98 #[] (Sgt.el w M) i
  have eP : nmP S.toList = elB := if_pos hS
  rw [eP]
  clear hd hG hn hS eP
  go_enter Tryz.func43, Tryz.ntmps43
  go_wp2_with fail
  refine r0.mono ?_
  rintro e w1 ⟨rfl, rfl⟩
  clear r0
  go_wp2_with fail
  refine r1.mono ?_
  clear r1
  rintro e w2 ⟨ao, c, rfl, hO, hK⟩
  have HO : Hid (Zac (fun k => k < w.heap.size) w2 3 1 ao (qL M R elB i).length c (ivs (qL M R elB i)) /\ Kept (fun k => k < w.heap.size) w w2) := ⟨hO, hK⟩
  clear hO hK
  go_wp2
  go_ret
  exact ⟨ao, c, rfl, HO.out.1, HO.out.2⟩
 ·have e1 : (S.toList == [42]) = false := beq_eq_false_iff_ne.2 hS
  obtain ⟨V, N, hV, hN, hb, hk, hz⟩ := za9 w #[.string S] 9
  have rn := zf7 S w
  rw [hV, hN] at rn
  have r0 := zcg p 171 #[.pointer (some ⟨N, 0, none⟩)] i V
  have r1 := zqc (hd.kept hk) hG hn (zey S.toList) 171 #[.pointer (some ⟨N, 0, none⟩)] (Sgt.nam V M S N (by rw [zaa hb]; rfl) (zae hb)) i
  have eP : nmP S.toList = zey S.toList := if_neg hS
  rw [eP]
  have HK : Hid (Kept (fun k => k < w.heap.size) w V) := hk
  clear hd hG hn hS eP hV hN hb hk hz
  go_enter Tryz.func43, Tryz.ntmps43
  go_wp2_with fail
  refine rn.mono ?_
  rintro e w0 ⟨rfl, hw0⟩
  subst hw0
  clear rn
  go_wp2_with fail
  refine r0.mono ?_
  rintro e w1 ⟨rfl, rfl⟩
  clear r0
  go_wp2_with fail
  refine r1.mono ?_
  clear r1
  rintro e w2 h2
  obtain ⟨ao, c, rfl, hO, hK⟩ := h2.up HK.out
  have HO : Hid (Zac (fun k => k < w.heap.size) w2 3 1 ao (qL M R (zey S.toList) i).length c (ivs (qL M R (zey S.toList) i)) /\ Kept (fun k => k < w.heap.size) w w2) := ⟨hO, hK⟩
  clear hO hK h2
  go_wp2
  go_ret
  exact ⟨ao, c, rfl, HO.out.1, HO.out.2⟩
theorem zfx (hd : DX K w p M) (hG : Good M R rk) (hn : M.n <= 100000) (S T : ByteArray) (i : Int) :
  Calls Tryz.prog 45 #[.pointer (some ⟨p, 0, none⟩), .int .i64 i, .string S, .string T] w (Lst w (qL M R (zh8 S.toList T.toList) i)) := by
 obtain ⟨V, hV, hk, hz, z1, z2⟩ := zon S T w
 have rn := zfp S T w
 rw [hV] at rn
 obtain ⟨N, hN⟩ : ∃ N, w.heap.size = N := ⟨_, rfl⟩
 rw [hN] at rn z1 z2 hz
 have r0 := zcg p 169 #[.pointer (some ⟨N, 0, none⟩), .pointer (some ⟨N + 1, 0, none⟩)] i V
 have r1 := zqc (hd.kept hk) hG hn (zh8 S.toList T.toList) 169 #[.pointer (some ⟨N, 0, none⟩), .pointer (some ⟨N + 1, 0, none⟩)] (Sgt.hav V M (fun k hk => Nat.le_trans (hG.few k hk) (by omega)) S T N (N + 1) z1 (by omega) z2 (by omega)) i
 have HK : Hid (Kept (fun k => k < w.heap.size) w V) := hk
 clear hd hG hn hV hN hk hz z1 z2
 go_enter Tryz.func45, Tryz.ntmps45
 go_wp2_with fail
 refine rn.mono ?_
 rintro e w0 ⟨rfl, hw0⟩
 subst hw0
 clear rn
 go_wp2_with fail
 refine r0.mono ?_
 rintro e w1 ⟨rfl, rfl⟩
 clear r0
 go_wp2_with fail
 refine r1.mono ?_
 clear r1
 rintro e w2 h2
 obtain ⟨ao, c, rfl, hO, hK⟩ := h2.up HK.out
 have HO : Hid (Zac (fun k => k < w.heap.size) w2 3 1 ao (qL M R (zh8 S.toList T.toList) i).length c (ivs (qL M R (zh8 S.toList T.toList) i)) /\ Kept (fun k => k < w.heap.size) w w2) := ⟨hO, hK⟩
 clear hO hK h2
 go_wp2
 go_ret
 exact ⟨ao, c, rfl, HO.out.1, HO.out.2⟩
theorem ze6 (hd : DX K w p M) (hG : Good M R rk) (hn : M.n <= 100000) (S : ByteArray) (z c : Int) (hc : Clo M S.toList z c) :
  Calls Tryz.prog 40 #[.pointer (some ⟨p, 0, none⟩), .int .i64 z, .string S] w fun e w' => e = .returned (.int .i64 c) /\ Kept (fun k => k < w.heap.size) w w' := by
 obtain ⟨V, N, hV, hN, hb, hk, hz⟩ := za9 w #[.string S] 9
 have rn := zf7 S w
 rw [hV, hN] at rn
 have hs := Sgt.nam V M S N (by rw [zaa hb]; rfl) (zae hb)
 have HS : Hid (Sgt V M (zey S.toList) 171 #[.pointer (some ⟨N, 0, none⟩)]) := hs
 have HD : Hid (DX K V p M /\ Good M R rk) := ⟨hd.kept hk, hG⟩
 have HK : Hid (Kept (fun k => k < w.heap.size) w V) := hk
 have HC : Hid (Clo M S.toList z c) := hc
 clear hd hG hc hs hV hN hb hk hz
 go_enter Tryz.func40, Tryz.ntmps40
 go_wp2_with fail
 refine rn.mono ?_
 rintro e w0 ⟨rfl, hw0⟩
 subst hw0
 clear rn
 go_upto_region 2 with fail
 go_loopg [1] (if 0 <= z /\ z < M.n then rk z.toNat + 1 else 0) (fun gh v wr => ∃ y : Int, gh = (if 0 <= y /\ y < M.n then rk y.toNat + 1 else 0) /\ v = .int .i64 y /\ Clo M S.toList y c /\ Kept (fun k => k < w0.heap.size) w0 wr)
 case atStart => exact ⟨z, rfl, rfl, HC.out, Kept.refl _ _⟩
 case round =>
  obtain ⟨y, hgk, rfl, hcy, hKr⟩ := hrel
  have HKR : Hid (Kept (fun k => k < w0.heap.size) w0 wr) := hKr
  have HKW : Hid (Kept (fun k => k < w.heap.size) w wr) := HK.out.trans (hKr.mono fun k h => ltl h HK.out.size)
  have hdr := HD.out.1.kept hKr
  by_cases hy : y < 0 \/ (M.n : Int) <= y
  ·have hc1 : c = -1 := hcy.one (.out hy)
   subst hc1
   have r1 := zh4 K p M y wr hdr hy (by omega)
   clear hcy hKr hdr hgk hy
   go_wp2_with fail
   refine r1.mono ?_
   rintro e v1 ⟨rfl, hk1⟩
   have HV1 : Hid (∀ o, Kept (fun k => k < wr.heap.size) wr (v1.alloc o)) := fun o => hk1.alloc (fun k h => ltl h hk1.size) o
   clear r1 hk1
   go_wp2
   go_ret
   exact ⟨rfl, HKW.out.trans ((HV1.out _).mono fun k h => ltl h HKW.out.size)⟩
  ·obtain ⟨x, hx, rfl⟩ : ∃ k : Nat, k < M.n /\ y = (k : Int) := ⟨y.toNat, by omega, by omega⟩
   have rn := zex K p x M R wr hdr HD.out.2.wf hx (by omega) HD.out.2.few
   have HX : Hid (x < M.n) := hx
   have HCY : Hid (Clo M S.toList (x : Int) c) := hcy
   have hgk2 : gk = rk x + 1 := by rw [hgk, if_pos ⟨by omega, by omega⟩, Int.toNat_natCast]
   have HGK : Hid (gk = rk x + 1) := hgk2
   clear hgk2
   clear hcy hKr hdr hgk hy hx
   go_wp2_with fail
   refine rn.mono ?_
   rintro e v1 ⟨ao, ac, ko, kc, rfl, hA, -, hKa⟩
   obtain ⟨V1, N1, hV1, hN1, hb1, kV1, sV1⟩ := za9 v1 (zch (M.nd x) ao ac (M.pl x).up ko (R x).length kc) 46
   have hkV : Kept (fun k => k < wr.heap.size) wr V1 := hKa.trans (kV1.mono fun k h => ltl h hKa.size)
   have hat : Zai (fun k => k < V1.heap.size) V1 ao (M.nd x).attrs := (hA.atsAt (K' := fun k => k < v1.heap.size) fun g hg => (hA.out hg).2).kept kV1 fun k h => ltl h kV1.size
   have hk0 : Kept (fun k => k < w0.heap.size) w0 V1 := HKR.out.trans (hkV.mono fun k h => ltl h HKR.out.size)
   have rs := HS.out.says x HX.out ao ac (M.pl x).up ko (R x).length kc V1 hk0 hat
   have HC4 : Hid (∀ X, Kept (fun k => k < V1.heap.size) V1 X -> X.cell? ⟨N1, 4, none⟩ = some (.int .i64 (M.pl x).up)) := fun X hX => by rw [zaa ((hX.block N1 (zae hb1)).trans hb1)]; rfl
   have HV1 : Hid (v1.alloc (.cells (zch (M.nd x) ao ac (M.pl x).up ko (R x).length kc) 46) = V1) := hV1
   have HN1 : Hid (v1.heap.size = N1) := hN1
   have HK0 : Hid (Kept (fun k => k < w0.heap.size) w0 V1) := hk0
   have hent := HS.out.ent
   obtain ⟨cs, hcs⟩ : ∃ cs, zch (M.nd x) ao ac (M.pl x).up ko (R x).length kc = cs := ⟨_, rfl⟩
   have hcz : cs.size = 14 := by rw [<- hcs]; rfl
   have hcI := zd5 cs hcz
   rw [hcs] at hb1 rs
   clear rn hV1 hN1 kV1 sV1 hA hKa hkV hat hk0 hcs hcz
   go_upto_region 3 with fail
   rw [HV1.out, HN1.out]
   clear HV1
   cases hP : zey S.toList (M.nd x) with
   | true =>
    have hc1 : c = (x : Int) := HCY.out.one (.here HX.out hP)
    subst hc1
    rw [hP] at rs
    clear hP
    go_wp2_with (first | (refine wpList_load_row rfl 46 _ rfl N1 rfl 46 cs (0, 0) _ hb1 Tryz.underlying46 rfl hcI ?_))
    refine rs.mono ?_
    rintro e v2 ⟨rfl, hk2⟩
    have HK2 : Hid (Kept (fun k => k < w0.heap.size) w0 v2) := HK0.out.trans (hk2.mono fun k h => ltl h HK0.out.size)
    clear rs hk2
    go_wp2
    go_ret
    exact ⟨rfl, HK.out.trans (HK2.out.mono fun k h => ltl h HK.out.size)⟩
   | false =>
    have hup : Clo M S.toList (M.pl x).up c := by
     have h := HCY.out
     generalize hz : (x : Int) = z' at h
     cases h with
     | out ho => have := HX.out; omega
     | @here j hj hn' =>
      have : x = j := by omega
      subst this
      rw [hP] at hn'; cases hn'
     | @up j _ hj _ h2 =>
      have : x = j := by omega
      subst this
      exact h2
    have HUP : Hid (Clo M S.toList (M.pl x).up c) := hup
    clear hup
    rw [hP] at rs
    clear hP
    go_wp2_with (first | (refine wpList_load_row rfl 46 _ rfl N1 rfl 46 cs (0, 0) _ hb1 Tryz.underlying46 rfl hcI ?_))
    refine rs.mono ?_
    rintro e v2 ⟨rfl, hk2⟩
    have c4 := HC4.out v2 hk2
    have HK2 : Hid (Kept (fun k => k < w0.heap.size) w0 v2) := HK0.out.trans (hk2.mono fun k h => ltl h HK0.out.size)
    obtain ⟨u, hu⟩ : ∃ u, (M.pl x).up = u := ⟨_, rfl⟩
    have HU : Hid ((M.pl x).up = u) := hu
    rw [hu] at c4
    clear rs hk2 hu
    go_wp2
    go_roundg (if 0 <= u /\ u < M.n then rk u.toNat + 1 else 0)
    case rel => exact ⟨u, rfl, rfl, by rw [<- HU.out]; exact HUP.out, HK2.out⟩
    case measure =>
     rw [HGK.out]
     by_cases cu : 0 <= u /\ u < M.n
     ·rw [if_pos cu]
      have hup : (M.pl x).up = (u.toNat : Int) := by rw [HU.out]; omega
      have := (HD.out.2.rk_up HX.out hup).2
      omega
     ·rw [if_neg cu]; omega
end
end Go.Proofs.YtojbjiopilkbgaaGreat
