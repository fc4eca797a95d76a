/-
  A list that grows behind a closure; flat.Walk.
-/
import Derived.Test.YtfeinppedejlpaaGreatKLj
namespace Go.Proofs.YtfeinppedejlpaaGreat
set_option maxHeartbeats 8000000
set_option maxRecDepth 100000
open Go.RowKit
set_option linter.unusedVariables false
section
variable {K0 : Nat -> Prop} {w0 : World} {p : Nat} {M : Dm} {R G : Nat -> List Nat} {rk : Nat -> Nat}
theorem enter114 (args : Array Value) (X : World) : (callFunc 114 args).run Tryz.prog X = .ok (.enter 114 args) X := zan Tryz.func114 (by kernel_rfl) (c := _) rfl args X
abbrev zha (bo b2 b3 : Nat) : Value := .func (.func 114) #[] #[.pointer (some ⟨bo, 0, none⟩), .pointer (some ⟨b2, 0, none⟩), .pointer (some ⟨b3, 0, none⟩)]
theorem zsk (h : Rd K0 w0 p M R G rk) (bo b2 b3 : Nat) :
  ∀ (d i : Nat), dn M.n (rkA M R) i < d -> i < M.n -> ∀ (K : Nat -> Prop) (X : World) (l : List Nat), (∀ k, k < w0.heap.size -> K k) -> K b2 -> K b3 -> Kept (fun k => k < w0.heap.size) w0 X -> X.cell? ⟨b2, 0, none⟩ = some (.pointer (some ⟨p, 0, none⟩)) -> X.cell? ⟨b3, 0, none⟩ = some (zha bo b2 b3) ->
   Zec K X bo l -> l.length + (tr M.n (fK M R G) i).length <= 10000000 ->
   Calls Tryz.prog 114 #[.int .i64 (i : Int), .pointer (some ⟨bo, 0, none⟩), .pointer (some ⟨b2, 0, none⟩), .pointer (some ⟨b3, 0, none⟩)] X fun e X' => e = .returned (.tuple #[]) /\ Zec K X' bo (l ++ tr M.n (fK M R G) i) /\ Kept K X X' := by
 intro d
 induction d with
 | zero => exact fun i h => absurd h (Nat.not_lt_zero _)
 | succ d ih =>
  intro i hdi hi K X l hw0 hK2 hK3 hX c2 c3 hO hlen
  have HF := h.inv.fK_falls (G := G)
  have HIH : Hid (∀ k, k ∈ fK M R G i -> ∀ (K : Nat -> Prop) (X : World) (l : List Nat), (∀ k, k < w0.heap.size -> K k) -> K b2 -> K b3 -> Kept (fun k => k < w0.heap.size) w0 X -> X.cell? ⟨b2, 0, none⟩ = some (.pointer (some ⟨p, 0, none⟩)) -> X.cell? ⟨b3, 0, none⟩ = some (zha bo b2 b3) ->
    Zec K X bo l -> l.length + (tr M.n (fK M R G) k).length <= 10000000 ->
    Calls Tryz.prog 114 #[.int .i64 (k : Int), .pointer (some ⟨bo, 0, none⟩), .pointer (some ⟨b2, 0, none⟩), .pointer (some ⟨b3, 0, none⟩)] X fun e X' => e = .returned (.tuple #[]) /\ Zec K X' bo (l ++ tr M.n (fK M R G) k) /\ Kept K X X') := fun k hk => by
   obtain ⟨h1, h2⟩ := HF i hi k hk
   have := zfh h1 h2
   exact ih k (by omega) h1
  have HTR : Hid (tr M.n (fK M R G) i = i :: (fK M R G i).flatMap (tr M.n (fK M R G))) := zcz HF hi
  obtain ⟨ao, c, ao', c', W, co, hrun, hfz, ⟨u, hcu⟩, hO2, hKX⟩ := hO.app (by omega) i
  obtain ⟨Z, hZ⟩ : ∃ Z, W.setCell ⟨bo, 0, none⟩ (.slice ao' (l.length + 1) c') = Z := ⟨_, rfl⟩
  rw [hZ] at hO2 hKX
  have c2' : Z.cell? ⟨b2, 0, none⟩ = some (.pointer (some ⟨p, 0, none⟩)) := (hKX.cell (p := ⟨b2, 0, none⟩) hK2).trans c2
  have c3' : Z.cell? ⟨b3, 0, none⟩ = some (zha bo b2 b3) := (hKX.cell (p := ⟨b3, 0, none⟩) hK3).trans c3
  have hXZ : Kept (fun k => k < w0.heap.size) w0 Z := hX.trans (hKX.mono hw0)
  have rk1 := (h.kept hXZ).kids (i : Int)
  rw [zex hi] at rk1
  have HO2 : Hid (Zec K Z bo (l ++ [i])) := hO2
  have HKX : Hid (Kept K X Z) := hKX
  have HXZ : Hid (Kept (fun k => k < w0.heap.size) w0 Z) := hXZ
  have HZ : Hid (W.setCell ⟨bo, 0, none⟩ (.slice ao' (l.length + 1) c') = Z) := hZ
  have HW0 : Hid (∀ k, k < w0.heap.size -> K k) := hw0
  have HKB : Hid (K b2 /\ K b3) := ⟨hK2, hK3⟩
  have HLEN : Hid (l.length + (tr M.n (fK M R G) i).length <= 10000000) := hlen
  have HFL : Hid ((fK M R G i).length <= 100000) := by
   have h1 := za4 M.n _ (h.inv.fK_nd hi) (fun x hx => (HF i hi x hx).1)
   exact (show Hid _ from Nat.le_trans h1 h.le)
  obtain ⟨ln, hln⟩ : ∃ ln, l.length = ln := ⟨_, rfl⟩
  have HLN : Hid (l.length = ln) := hln
  have hln9 : ln <= 10000000 := by omega
  rw [hln] at co hrun HZ
  clear ih hdi hw0 hK2 hK3 hX c2 c3 hO hlen HF hO2 hKX hXZ hZ hi hln
  go_enter Tryz.func114, Tryz.ntmps114
  go_upto_region 1 with (at_builtin; refine zae (w' := W) rfl (.tmp 7) (.tmp 9) 33 33 rfl _ _ (.slice ao' (ln + 1) c') rfl rfl hrun ?_)
  rw [HZ.out]
  clear hrun hfz hcu co HZ
  go_wp2_with fail
  refine rk1.mono ?_
  rintro e w1 ⟨fa, fc, rfl, hFO, hk1⟩
  have HROW : Hid (Zad (fun g => Z.heap.size <= g /\ g < w1.heap.size) w1 fa (fK M R G i)) := hFO.intsAt fun g hg => ⟨Nat.le_of_not_lt (hFO.out hg).1, (hFO.out hg).2⟩
  have HK1 : Hid (Kept (fun k => k < Z.heap.size) Z w1) := hk1
  have hz2 := World.block_lt_of_cell? Z _ c2'
  have hz3 := World.block_lt_of_cell? Z _ c3'
  have HO3 : Hid (Zec (fun k => K k \/ (Z.heap.size <= k /\ k < w1.heap.size)) w1 bo (l ++ [i])) := HO2.out.kept hk1 (fun k hk => hk.imp id fun h => h.1) (fun k hk => hk.elim (fun h => ltl (HO2.out.2.1 k h) hk1.size) (fun h => h.2))
  have d2 : w1.cell? ⟨b2, 0, none⟩ = some (.pointer (some ⟨p, 0, none⟩)) := (hk1.cell (p := ⟨b2, 0, none⟩) hz2).trans c2'
  have d3 : w1.cell? ⟨b3, 0, none⟩ = some (zha bo b2 b3) := (hk1.cell (p := ⟨b3, 0, none⟩) hz3).trans c3'
  have HD : Hid (w1.cell? ⟨b2, 0, none⟩ = some (.pointer (some ⟨p, 0, none⟩)) /\ w1.cell? ⟨b3, 0, none⟩ = some (zha bo b2 b3)) := ⟨d2, d3⟩
  obtain ⟨fl, hfl⟩ : ∃ fl, (fK M R G i).length = fl := ⟨_, rfl⟩
  have HFLN : Hid ((fK M R G i).length = fl) := hfl
  have hfl9 : fl <= 100000 := by rw [<- hfl]; exact HFL.out
  rw [hfl]
  clear rk1 hFO hk1 c2' c3' d2 d3 hfl hz2 hz3
  go_upto_region 2 with fail
  have HK1X : Hid (Kept K X w1) := HKX.out.trans (HK1.out.mono fun k hk => HO2.out.2.1 k hk)
  have HK1w : Hid (Kept (fun k => k < w0.heap.size) w0 w1) := HXZ.out.trans (HK1.out.mono fun k hk => ltl hk HXZ.out.size)
  go_loopg [15] fl (fun gh v15 wr => ∃ j : Nat, gh = fl - j /\ j <= fl /\ v15 = .int .i64 (j : Int) /\ Zec (fun k => K k \/ (Z.heap.size <= k /\ k < w1.heap.size)) wr bo (l ++ i :: ((fK M R G i).take j).flatMap (tr M.n (fK M R G))) /\ Kept (fun k => K k \/ (Z.heap.size <= k /\ k < w1.heap.size)) w1 wr)
  case atStart => exact ⟨0, rfl, Nat.zero_le _, rfl, HO3.out, Kept.refl _ _⟩
  case round =>
   obtain ⟨j, hgj, hj, rfl, hOj, hKj⟩ := hrel
   have e2 : wr.cell? ⟨b2, 0, none⟩ = some (.pointer (some ⟨p, 0, none⟩)) := (hKj.cell (p := ⟨b2, 0, none⟩) (.inl HKB.out.1)).trans HD.out.1
   have e3 : wr.cell? ⟨b3, 0, none⟩ = some (zha bo b2 b3) := (hKj.cell (p := ⟨b3, 0, none⟩) (.inl HKB.out.2)).trans HD.out.2
   by_cases hlt : j < fl
   ·have hjl : j < (fK M R G i).length := by rw [HFLN.out]; exact hlt
    obtain ⟨g, o, rfl, hg, dd⟩ := HROW.out j hjl
    have d' : wr.cell? ⟨g, o + j, none⟩ = some (.int .i64 ((fK M R G i)[j] : Int)) := (hKj.cell (p := ⟨g, o + j, none⟩) (.inr hg)).trans dd
    have hs := zf4 (tr M.n (fK M R G)) (fK M R G i) j hjl
    have hs2 := zh5 (tr M.n (fK M R G)) (fK M R G i) j hjl
    have hmem := List.getElem_mem hjl
    obtain ⟨x, hx⟩ : ∃ x, (fK M R G i)[j] = x := ⟨_, rfl⟩
    rw [hx] at d' hs hs2 hmem
    have kwr : Kept (fun k => k < w0.heap.size) w0 wr := HK1w.out.trans (hKj.mono fun k hk => .inl (HW0.out k hk))
    have r := HIH.out x hmem _ wr _ (fun k hk => .inl (HW0.out k hk)) (.inl HKB.out.1) (.inl HKB.out.2) kwr e2 e3 hOj (by
     have := HLEN.out
     rw [HTR.out, hs] at this
     simp only [List.length_append, List.length_cons] at this ⊢
     omega)
    have hs3 : l ++ i :: ((fK M R G i).take (j + 1)).flatMap (tr M.n (fK M R G)) = (l ++ i :: ((fK M R G i).take j).flatMap (tr M.n (fK M R G))) ++ tr M.n (fK M R G) x := by rw [hs2]; simp
    have HS2 : Hid (l ++ i :: ((fK M R G i).take (j + 1)).flatMap (tr M.n (fK M R G)) = (l ++ i :: ((fK M R G i).take j).flatMap (tr M.n (fK M R G))) ++ tr M.n (fK M R G) x) := hs3
    have HKJ : Hid (Kept (fun k => K k \/ (Z.heap.size <= k /\ k < w1.heap.size)) w1 wr) := hKj
    have he := enter114
    clear dd hs hs2 hs3 hx hmem hOj hKj kwr e2
    go_wp2_with fail
    refine r.mono ?_
    rintro e w3 ⟨rfl, hO3, hk3⟩
    have HO4 : Hid (Zec (fun k => K k \/ (Z.heap.size <= k /\ k < w1.heap.size)) w3 bo (l ++ i :: ((fK M R G i).take (j + 1)).flatMap (tr M.n (fK M R G)))) := by rw [HS2.out]; exact hO3
    have HK4 : Hid (Kept (fun k => K k \/ (Z.heap.size <= k /\ k < w1.heap.size)) w1 w3) := HKJ.out.trans hk3
    clear r hO3 hk3 d' e3 he
    go_wp2
    go_roundg (fl - (j + 1))
    case rel => exact ⟨j + 1, rfl, by omega, by go_num, HO4.out, HK4.out⟩
    case measure => omega
   ·have hjn : fl = j := by omega
    subst hjn
    have hall : (fK M R G i).take fl = fK M R G i := List.take_of_length_le (by rw [HFLN.out]; exact Nat.le_refl _)
    rw [hall, <- HTR.out] at hOj
    have HO4 : Hid (Zec K wr bo (l ++ tr M.n (fK M R G) i)) := hOj.less fun k hk => .inl hk
    have HK4 : Hid (Kept K X wr) := HK1X.out.trans (hKj.mono fun k hk => .inl hk)
    clear hOj hKj e2 e3 hall
    go_wp2
    first
     | (go_end0; exact ⟨rfl, HO4.out, HK4.out⟩)
     | (refine bodyPost_ret (results_none rfl _ _ _) rfl ?_; exact ⟨rfl, HO4.out, HK4.out⟩)
theorem Rd.walk (h : Rd K0 w0 p M R G rk) (i : Int) : Calls Tryz.prog 42 #[.pointer (some ⟨p, 0, none⟩), .int .i64 i] w0 (Lst w0 (trI M.n (fK M R G) i)) := by
 obtain ⟨V1, V2, V3, V4, N0, N1, N2, e1, e2, e3, e4, n0, n1, n2, cn, fn, c0, c2, hK4, hs4, hO, c1⟩ := zun w0 p 133 (fun a b c => zha b a c)
 have HR : Hid (Rd K0 w0 p M R G rk) := h
 have HO : Hid (Zec (fun k => k < w0.heap.size \/ k = N0 \/ k = N2) V4 N1 []) := hO
 have HK4 : Hid (Kept (fun k => k < w0.heap.size) w0 V4) := hK4
 have HE1 : Hid (w0.alloc (.cells #[.pointer (some ⟨p, 0, none⟩)] 25) = V1) := e1
 have HE2 : Hid (V1.alloc (.cells #[.slice none 0 0] 33) = V2) := e2
 have HE3 : Hid (V2.alloc (.cells #[.nilFunc] 133) = V3) := e3
 have HE4 : Hid (V3.setCell ⟨N2, 0, none⟩ (zha N1 N0 N2) = V4) := e4
 have HN0 : Hid (w0.heap.size = N0) := n0
 have HN1 : Hid (N0 + 1 = N1) := n1
 have HN2 : Hid (N1 + 1 = N2) := n2
 have HC : Hid (V4.cell? ⟨N0, 0, none⟩ = some (.pointer (some ⟨p, 0, none⟩)) /\ V4.cell? ⟨N2, 0, none⟩ = some (zha N1 N0 N2)) := ⟨c0, c2⟩
 have HLT : Hid (N0 < V4.heap.size /\ N2 < V4.heap.size) := ⟨by rw [hs4]; omega, by rw [hs4]; omega⟩
 obtain ⟨L, hL⟩ : ∃ L, trI M.n (fK M R G) i = L := ⟨_, rfl⟩
 rw [hL]
 clear hO hK4 e1 e2 e3 e4 n0 n1 n2 hs4
 by_cases cI : i < 0 \/ (M.n : Int) <= i
 ·have HE : Hid (L = []) := by rw [<- hL, zfn cI]; exact rfl
  have rn := (h.kept HK4.out).noNode cI
  have HC1 : Hid (V4.cell? ⟨N1, 0, none⟩ = some (.slice none 0 0)) := c1
  have HL1 : Hid (N1 < V4.heap.size) := World.block_lt_of_cell? V4 _ c1
  clear h hL cI c1
  go_enter Tryz.func42, Tryz.ntmps42
  go_upto_region 3 with fail
  rw [HE1.out, HN0.out, HE2.out, HN1.out, HE3.out, HN2.out]
  go_upto_region 4 with fail
  rw [HE4.out]
  clear HE1 HE2 HE3 HE4 HN0 HN1 HN2 cn fn
  go_wp2_with fail
  refine rn.mono ?_
  rintro e v1 ⟨rfl, hK1⟩
  obtain ⟨V5, N5, hV5, hN5, hb5, hk5, -⟩ := zar v1 za2  58
  have k45 : Kept (fun k => k < V4.heap.size) V4 V5 := kt hK1 hk5
  have d1 : V5.cell? ⟨N1, 0, none⟩ = some (.slice none 0 0) := (k45.cell (p := ⟨N1, 0, none⟩) HL1.out).trans HC1.out
  have HK : Hid (Kept (fun k => k < w0.heap.size) w0 V5) := kt HK4.out k45
  have HV5 : Hid (v1.alloc (.cells za2 58) = V5) := hV5
  have HN5 : Hid (v1.heap.size = N5) := hN5
  clear rn hV5 hN5 hk5 hK1 hb5 k45 c0 c2
  go_upto_region 5 with fail
  rw [HV5.out, HN5.out]
  clear HV5 HN5
  go_wp2
  go_ret
  rw [HE.out]
  exact Lst.nil w0 _ HK.out
 ·obtain ⟨k, rfl⟩ : ∃ k : Nat, i = (k : Int) := ⟨i.toNat, by omega⟩
  have hk : k < M.n := by omega
  have HL : Hid (tr M.n (fK M R G) k = L) := by rw [<- hL, zdd hk]; exact rfl
  have rn := (h.kept HK4.out).node hk
  have HKN : Hid (k < M.n) := hk
  have HWL : Hid ((tr M.n (fK M R G) k).length <= 100000) := Nat.le_trans (h.inv.walk_len hk) h.le
  clear h hL cI c1 hk
  go_enter Tryz.func42, Tryz.ntmps42
  go_upto_region 3 with fail
  rw [HE1.out, HN0.out, HE2.out, HN1.out, HE3.out, HN2.out]
  go_upto_region 4 with fail
  rw [HE4.out]
  clear HE1 HE2 HE3 HE4 HN1 HN2 cn fn
  go_wp2_with fail
  refine rn.mono ?_
  rintro e v1 ⟨ao1, ac1, ko1, kc1, rfl, hO1, hQ1, hK1⟩
  obtain ⟨V5, N5, hV5, hN5, hB5⟩ := Zb1.of (up := (M.pl k).up) hO1 hQ1 hK1
  have HV5 : Hid (v1.alloc (.cells (nV (M.nd k) ao1 ac1 ((M.pl k).up) ko1 (R k).length kc1) 58) = V5) := hV5
  have HN5 : Hid (v1.heap.size = N5) := hN5
  have HB5 : Hid (Zb1 V4 V5 N5 (M.nd k) ((M.pl k).up) (R k) ao1 ac1 ko1 kc1) := hB5
  have d0 : V5.cell? ⟨N0, 0, none⟩ = some (.pointer (some ⟨p, 0, none⟩)) := (hB5.kept.cell (p := ⟨N0, 0, none⟩) HLT.out.1).trans HC.out.1
  have d2 : V5.cell? ⟨N2, 0, none⟩ = some (zha N1 N0 N2) := (hB5.kept.cell (p := ⟨N2, 0, none⟩) HLT.out.2).trans HC.out.2
  have hK5 : Kept (fun k => k < w0.heap.size) w0 V5 := kt HK4.out hB5.kept
  have HK5 : Hid (Kept (fun k => k < w0.heap.size) w0 V5) := hK5
  have hO5 := HO.out.kept (K' := fun k => k < w0.heap.size \/ k = N0 \/ k = N2) hB5.kept (fun k hk => .inl hk) (fun k hk => ltl (HO.out.2.1 k hk) hB5.kept.size)
  have r := zsk HR.out N1 N0 N2 _ k (Nat.lt_succ_self _) HKN.out _ V5 [] (fun k hk => .inl hk) (.inr (.inl rfl)) (.inr (.inr rfl)) hK5 d0 d2 hO5 (by have := HWL.out; simp only [List.length_nil]; omega)
  rw [HL.out, List.nil_append] at r
  have he := enter114
  clear rn hO1 hQ1 hK1 hV5 hN5 hB5 c0 c2 hO5 hK5 d0
  go_upto_region 5 with fail
  rw [HV5.out, HN5.out]
  clear HV5 HN5
  go_wp2_with fail
  refine r.mono ?_
  rintro e w2 ⟨rfl, hO2, hk2⟩
  obtain ⟨-, -, ao, c, hb, hOZ⟩ := hO2
  have cb : w2.cell? ⟨N1, 0, none⟩ = some (.slice ao L.length c) := by rw [zaa hb]; rfl
  have HOZ : Hid (Zac (fun k => k < w0.heap.size) w2 3 1 ao L.length c (ivs L)) := hOZ.to (fun g hg hh => (hOZ.out hg).1 (.inl (.inl hh))) (fun _ _ => rfl)
  have HK6 : Hid (Kept (fun k => k < w0.heap.size) w0 w2) := HK5.out.trans (hk2.mono fun k hk => .inl hk)
  obtain ⟨ll, hll⟩ : ∃ ll, L.length = ll := ⟨_, rfl⟩
  have HLL : Hid (L.length = ll) := hll
  rw [hll] at cb
  clear r hb hOZ hk2 he d2 hll
  go_wp2
  go_ret
  exact ⟨ao, c, by rw [HLL.out]; rfl, by rw [HLL.out]; rw [HLL.out] at HOZ; exact HOZ.out, HK6.out⟩
end
end Go.Proofs.YtfeinppedejlpaaGreat
