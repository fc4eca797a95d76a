/-
  portierelaw13: documents without shadow roots. FlatPlain: the calls that are kept, in a row of their own. Without shadow roots what is shown is the tree (pure). FlatPlain: the walk.
-/
import Derived.Test.YtfeinppedejlpaaGreatKVe
import Derived.Test.YtfeinppedejlpaaGreatKB09
import Derived.Test.YtfeinppedejlpaaGreatKLj
import Derived.Test.YtfeinppedejlpaaGreatKLo
import Derived.Test.YtfeinppedejlpaaGreatKFx
namespace Go.Proofs.YtfeinppedejlpaaGreat
section
set_option maxHeartbeats 8000000
set_option maxRecDepth 100000
open Go.RowKit Go.Sort
set_option linter.unusedVariables false
def NoR (M : Dm) : Prop := ∀ i, i < M.n -> (M.nd i).kind ≠ 5
theorem NoR.new (n : Nat) : NoR (Dm.new n) := fun i hi => by
 have h0 : i < 1 := hi
 obtain rfl : i = 0 := by omega
 have e : (Dm.new n).nd 0 = za6.new := by unfold Dm.new; exact za3 _ za6
 rw [e]
 decide
theorem NoR.grow {M M' : Dm} {k : Nat} (h : NoR M) (hk : k % 16 ≠ 9) (g : Zug k M M') : NoR M' := fun i hi => by
 by_cases c : i < M.n
 ·rw [g.kind i c]; exact h i c
 ·exact g.nor hk i (Nat.le_of_not_lt c) hi
theorem zqu (l : List Opx) (n : Nat) (hln : l.length = n) (hnn : n <= 1000000) (a : Option Addr) (c : Nat) (hok : ∀ o ∈ l, Zhc o) (h9 : ∀ o ∈ l, o.k % 16 ≠ 9) (hb : zcb l <= 900000) (w : World) (h : Zcp (fun k => k < w.heap.size) w a l) :
  Calls Tryz.prog 40 #[.slice a n c] w fun e w' => ∃ p r E M R G rk, e = .returned (.tuple #[.pointer (some ⟨p, 0, none⟩), .pointer (some ⟨r, 0, none⟩)]) /\ Grown (fun k => k < w.heap.size) E w' p r M R G rk 300 /\ NoR M /\ Kept (fun k => k < w.heap.size) w w' := by
 have rn := zej 300 w (by decide) (by decide)
 have HRN : Hid (∀ X, Calls Tryz.prog 28 #[.int .i64 300] X fun e w' => ∃ p, e = .returned (.pointer (some ⟨p, 0, none⟩)) /\ X.heap.size <= p /\ RX (fun k => k < X.heap.size) TT w' p (Dm.new 300) (fun _ => []) (fun _ => []) /\ Kept (fun k => k < X.heap.size) X w') := fun X => zgd 300 X (by decide) (by decide)
 have HL : Hid (l.length = n) := hln
 have HB : Hid (zcb l <= 900000) := hb
 have HH : Hid (Zcp (fun k => k < w.heap.size) w a l) := h
 have HOK : Hid (∀ o ∈ l, Zhc o) := hok
 have H9 : Hid (∀ o ∈ l, o.k % 16 ≠ 9) := h9
 clear hln hb h hok h9
 go_enter Tryz.func40, Tryz.ntmps40
 go_wp2_with fail
 refine rn.mono ?_
 rintro e w1 ⟨p, rfl, hp, hX1, k1⟩
 clear rn
 have rn2 := HRN.out w1
 have HX1 : Hid (DX (fun k => k < w.heap.size) w1 p (Dm.new 300)) := hX1
 have HK1 : Hid (Kept (fun k => k < w.heap.size) w w1) := k1
 clear hX1 k1 HRN
 go_wp2_with fail
 refine rn2.mono ?_
 rintro e w2 ⟨r, rfl, hr, hX2, k2⟩
 clear rn2
 have HG2 : Hid (Grown (fun k => k < w.heap.size) (fun k => w1.heap.size <= k /\ k < w2.heap.size) w2 p r (Dm.new 300) (fun _ => []) (fun _ => []) (fun _ => 0) 300) := ⟨zh1 HX1.out HK1.out hX2 k2, Inv.new 300, rfl, by show 1 <= 300; decide⟩
 have HK2 : Hid (Kept (fun k => k < w.heap.size) w w2) := kt HK1.out k2
 clear HX1 HK1 hX2 k2 hp hr
 go_upto_region 4 with fail
 go_loopg [6] n (fun gh v wr => ∃ (k : Nat) (E : Nat -> Prop) (M : Dm) (R G : Nat -> List Nat) (rk : Nat -> Nat), gh = n - k /\ k <= n /\ v = .int .i64 (k : Int) /\ Grown (fun k => k < w.heap.size) E wr p r M R G rk 300 /\ NoR M /\ Kept (fun k => k < w.heap.size) w wr)
 case atStart => exact ⟨0, _, _, _, _, _, rfl, Nat.zero_le _, rfl, HG2.out, NoR.new 300, HK2.out⟩
 case round =>
  clear HG2 HK2
  obtain ⟨k, E, M, R, G, rk, hgk, hk, rfl, hG, hR, hK⟩ := hrel
  have HR : Hid (NoR M) := hR
  have HG : Hid (Grown (fun k => k < w.heap.size) E wr p r M R G rk 300) := hG
  have HK : Hid (Kept (fun k => k < w.heap.size) w wr) := hK
  clear hR
  by_cases hlt : k < n
  ·have hll : k < l.length := by rw [HL.out]; exact hlt
   obtain ⟨g, o, A, rfl, hg, hA, hc⟩ := HH.out k hll
   have hmem := List.getElem_mem hll
   obtain ⟨x, hx⟩ : ∃ x, l[k] = x := ⟨_, rfl⟩
   rw [hx] at hA hc hmem
   have hvx := zf3 hmem
   have hrange : wr.rangeAt g (o + k * 17) (opC x A) := fun f u hu => (hK.cell (p := ⟨g, o + k * 17 + f, none⟩) hg).trans (hc f u hu)
   obtain ⟨N, hN⟩ : ∃ N, wr.heap.size = N := ⟨_, rfl⟩
   have hb1 : (wr.alloc (.cells zbf 50)).heap[N]? = some (.cells zbf 50 (0, 0)) := by rw [<- hN]; exact heap_alloc_new wr _
   obtain ⟨W1, hW1⟩ : ∃ W1, (wr.alloc (.cells zbf 50)).setRow N (opC x A).toArray = W1 := ⟨_, rfl⟩
   have hB1 : W1.heap[N]? = some (.cells (opC x A).toArray 50 (0, 0)) := by rw [<- hW1]; exact setRow_heap _ _ _ _ _ _ hb1
   have k1 : Kept (fun k => k < wr.heap.size) wr W1 := by rw [<- hW1]; exact zap ((Kept.refl _ wr).alloc (fun _ h => h) _) (by rw [hN]; exact Nat.lt_irrefl _) _
   obtain ⟨W2, hW2⟩ : ∃ W2, W1.setCell ⟨N, 4, none⟩ (.bool true) = W2 := ⟨_, rfl⟩
   have hB2 : W2.heap[N]? = some (.cells (opC { x with inn := true } A).toArray 50 (0, 0)) := by rw [<- hW2]; exact zbj hB1 4 (.bool true)
   have k2 : Kept (fun k => k < wr.heap.size) wr W2 := by rw [<- hW2]; exact k1.setCell (p := ⟨N, 4, none⟩) (by rw [hN]; exact Nat.lt_irrefl _) _
   have k2w : Kept (fun k => k < w.heap.size) w W2 := kt hK k2
   have b4 : W1.cell? ⟨N, 4, none⟩ = some (.bool x.inn) := by rw [zaa hB1]; rfl
   have f4 : W1.frozen? ⟨N, 4, none⟩ = false := zak hB1 4
   have e0 : W2.cell? ⟨N, 0, none⟩ = some (.int .u8 (x.k : Int)) := by rw [zaa hB2]; rfl
   have hdoes := zf0 (fun k => k < w.heap.size) E p r M R G rk W2 { x with inn := true } A ⟨(hG.kept k2).two, hG.inv, hG.le, by rw [hG.lim]; decide, (HOK.out x hmem).inn, by have := HB.out; show opH x <= _; omega, hA.kept k2w (fun g hg => hg), rfl⟩
   obtain ⟨cs, hcs⟩ : ∃ cs, (opC x A).toArray = cs := ⟨_, rfl⟩
   have hsz : cs.size = 17 := by rw [<- hcs]; rfl
   have hone : cs.all (·.oneCell') = true := by rw [<- hcs]; exact zdc x A
   have hlen : (opC x A).length = 17 := rfl
   obtain ⟨cl, hcl⟩ : ∃ cl, opC x A = cl := ⟨_, rfl⟩
   have hcc : cl.toArray = cs := by rw [<- hcl]; exact hcs
   rw [hcl] at hrange hlen
   have hil : (Tryz.prog.info? 50).map (·.size) = some cl.length := by rw [hlen]; exact zbr cs hsz |>.trans (by rw [hsz])
   have HW1 : Hid ((wr.alloc (.cells zbf 50)).setRow N cs = W1) := by rw [<- hcs]; exact hW1
   have HW2 : Hid (W1.setCell ⟨N, 4, none⟩ (.bool true) = W2) := hW2
   have HN : Hid (wr.heap.size = N) := hN
   have HN' : Hid (N = wr.heap.size) := hN.symm
   obtain ⟨cs2, hcs2⟩ : ∃ cs2, (opC { x with inn := true } A).toArray = cs2 := ⟨_, rfl⟩
   have hsz2 : cs2.size = 17 := by rw [<- hcs2]; rfl
   rw [hcs2] at hB2
   obtain ⟨q, hq⟩ : ∃ q, x.k % 16 = q := ⟨_, rfl⟩
   have hkm : (x.k : Int).tmod 16 = (q : Int) := by rw [<- hq]; rfl
   have HX9 : Hid (x.k % 16 ≠ 9) := H9.out x hmem
   have HD : Hid (Calls Tryz.prog 31 #[.pointer (some ⟨p, 0, none⟩), .pointer (some ⟨r, 0, none⟩), .agg cs2] W2 (Zeb x.k (fun k => k < w.heap.size) p r M W2)) := by rw [<- hcs2]; exact hdoes
   have HG2 : Hid (Grown (fun k => k < w.heap.size) E W2 p r M R G rk 300) := hG.kept k2
   have HK2 : Hid (Kept (fun k => k < w.heap.size) w W2) := k2w
   clear hG hK hc hA hmem hx hvx hdoes hq hW1 hW2 hB1 k1 k2 k2w hcs hcs2 hN hlen hcl
   go_upto_region 6 with fail
   go_upto_region 7 with (first | (refine wpList_load_mid rfl 50 _ rfl g (o + k * 17) rfl cl _ hrange Tryz.underlying50 rfl hil ?_; rw [hcc]) | (rw [HN.out]; refine wpList_store_row rfl 50 _ _ rfl N cs rfl rfl 50 _ hb1 (zbr _ hsz) (by rw [hsz]; rfl) hone ?_))
   rw [HW1.out]
   clear hrange hb1 HW1
   go_upto_region 8 with fail
   rw [HW2.out]
   clear b4 f4 HW2
   by_cases q15 : q = 15
   ·subst q15
    clear HD
    go_wp2
    go_roundg (n - (k + 1))
    case rel => exact ⟨k + 1, E, M, R, G, rk, rfl, by omega, by go_num, HG2.out, HR.out, HK2.out⟩
    case measure => omega
   ·have n15 : ((q : Int) == 15) = false := by simp; omega
    have n15' : ((q : Int) != 15) = true := by simp; omega
    go_upto_region 9 with fail
    go_wp2_with (refine wpList_load_row rfl 50 _ rfl N rfl 50 cs2 (0, 0) _ hB2 Tryz.underlying50 rfl (zbr _ hsz2) ?_)
    refine HD.out.mono ?_
    rintro e w3 ⟨rfl, E', M', R', G', rk', h2, hI, hG', hK3⟩
    have HR3 : Hid (NoR M') := HR.out.grow HX9.out hG'
    have HG3 : Hid (Grown (fun k => k < w.heap.size) E' w3 p r M' R' G' rk' 300) := ⟨h2, hI, hG'.limit.trans HG2.out.lim, hG'.le HG2.out.le⟩
    have HK3 : Hid (Kept (fun k => k < w.heap.size) w w3) := HK2.out.trans hK3
    clear HD h2 hI hG' hK3 HG2 HK2 e0 hB2
    go_wp2
    go_roundg (n - (k + 1))
    case rel => exact ⟨k + 1, E', M', R', G', rk', rfl, by omega, by go_num, HG3.out, HR3.out, HK3.out⟩
    case measure => omega
  ·have hkn : n = k := by omega
   subst hkn
   clear hG hK
   go_wp2
   go_ret2
   exact ⟨p, r, E, M, R, G, rk, rfl, HG.out, HR.out, HK.out⟩
end
section
set_option maxHeartbeats 8000000
set_option maxRecDepth 100000
open Go.RowKit Go.Sort
set_option linter.unusedVariables false
set_option maxRecDepth 20000
inductive Zgm (w : World) : List Opx -> List Value -> Prop
 | nil : Zgm w [] []
 | snoc {L : List Opx} {xs : List Value} {x : Opx} {A : OpA} : Zgm w L xs -> Zpq (fun k => k < w.heap.size) w A x -> Zgm w (L ++ [x]) (xs ++ opC x A)
theorem Zgm.at {w : World} {L : List Opx} {xs : List Value} (h : Zgm w L xs) : xs.length = L.length * 17 /\ ∀ j (hj : j < L.length), ∃ A, Zpq (fun k => k < w.heap.size) w A L[j] /\ ∀ f u, (opC L[j] A)[f]? = some u -> xs[j * 17 + f]? = some u := by
 induction h with
 | nil => exact ⟨rfl, fun j hj => absurd hj (Nat.not_lt_zero _)⟩
 | @snoc L xs x A h hA ih =>
  obtain ⟨h1, h2⟩ := ih
  have h17 : (opC x A).length = 17 := rfl
  refine ⟨by rw [List.length_append, List.length_append, h1, h17, List.length_singleton, Nat.succ_mul], fun j hj => ?_⟩
  by_cases c : j < L.length
  ·obtain ⟨B, hB, hc⟩ := h2 j c
   have e : (L ++ [x])[j] = L[j] := List.getElem_append_left c
   rw [e]
   refine ⟨B, hB, fun f u hu => ?_⟩
   have hf : f < 17 := by
    rcases Nat.lt_or_ge f 17 with g | g
    ·exact g
    ·rw [List.getElem?_eq_none (by show 17 <= f; exact g)] at hu; cases hu
   rw [List.getElem?_append_left (by rw [h1]; omega)]
   exact hc f u hu
  ·have hl : j = L.length := by rw [List.length_append, List.length_singleton] at hj; omega
   subst hl
   have e : (L ++ [x])[L.length] = x := by simp
   rw [e]
   refine ⟨A, hA, fun f u hu => ?_⟩
   rw [List.getElem?_append_right (by rw [h1]; omega), h1, Nat.add_sub_cancel_left]
   exact hu
theorem Zgm.ops {w W : World} {L : List Opx} {xs : List Value} {ao : Option Addr} {n c : Nat} (h : Zgm w L xs) (hO : Zac (fun k => k < w.heap.size) W 50 17 ao n c xs) (hn : L.length = n) (hk : Kept (fun k => k < w.heap.size) w W) : Zcp (fun k => k < W.heap.size) W ao L := by
 intro j hj
 obtain ⟨A, hA, hc⟩ := h.at.2 j hj
 obtain ⟨h1, h2, h3, h4⟩ := hO
 rcases h4 with ⟨rfl, rfl⟩ | ⟨g, cur, rfl, r2, r3, r4, r5⟩
 ·omega
 ·refine ⟨g, 0, A, rfl, zai r3, hA.kept hk (fun g hg => ltl hg hk.size), fun f u hu => ?_⟩
  have hx := hc f u hu
  have hlt : j * 17 + f < xs.length := by
   rcases Nat.lt_or_ge (j * 17 + f) xs.length with g | g
   ·exact g
   ·rw [List.getElem?_eq_none g] at hx; cases hx
  rw [Nat.zero_add, zaa r3, <- Array.getElem?_toList, <- hx, <- r5, List.getElem?_take, if_pos (by rw [<- h1]; exact hlt)]
theorem zub : (Tryz.prog.info? 50).map (fun i => (i.zero, i.size, i.bytes)) = some (some (.agg zbf), 17, 168) := by kernel_rfl
theorem zr0 (cs : Array Value) (h : cs.size = 17) : ∃ v0 v1 v2 v3 v4 v5 v6 v7 v8 v9 va vb vc vd ve vf vg, cs = #[v0, v1, v2, v3, v4, v5, v6, v7, v8, v9, va, vb, vc, vd, ve, vf, vg] := by
 obtain ⟨l⟩ := cs
 have h : l.length = 17 := h
 match l, h with
 | [v0, v1, v2, v3, v4, v5, v6, v7, v8, v9, va, vb, vc, vd, ve, vf, vg], _ => exact ⟨v0, v1, v2, v3, v4, v5, v6, v7, v8, v9, va, vb, vc, vd, ve, vf, vg, rfl⟩
theorem ztv (z cs : Array Value) (hz : z.size = 17) (hc : cs.size = 17) : Instr.fill (fun i => some (i * 17, 17)) z [(0, .agg cs)] = some cs := by
 obtain ⟨v0, v1, v2, v3, v4, v5, v6, v7, v8, v9, va, vb, vc, vd, ve, vf, vg, rfl⟩ := zr0 cs hc
 obtain ⟨z0, z1, z2, z3, z4, z5, z6, z7, z8, z9, za, zb, zc, zd, ze, zf, zg, rfl⟩ := zr0 z hz
 kernel_rfl
theorem zg5 {w : World} {ops : Array Oper} {rest : List Oper} {o : Oper} {a : Act} {Q : Exit -> Act -> World -> Prop} (hgd : o.guard = none) (x : Operand) (ho : o.op = .buildSlice 22 1 #[(0, x)])
  (cs : Array Value) (hx : a.eval x = .agg cs) (hc : cs.size = 17) (h : wpList Tryz.prog ops Q rest (a.put o.dst (.slice (some ⟨w.heap.size, 0, none⟩) 1 1)) (w.alloc (.cells cs 50))) : wpList Tryz.prog ops Q (o :: rest) a w := by
 refine wpList_plain hgd fun _ hK' => ?_
 obtain ⟨inf, hi, hip⟩ := Option.map_eq_some_iff.1 zub
 have hz0 : inf.zero = _ := congrArg (·.1) hip
 have hsz : inf.size = 17 := congrArg (·.2.1) hip
 refine wp_buildSlice 22 50 1 #[(0, x)] ho cs inf _ Tryz.underlying22 hi hz0 (by rw [hsz]; decide) (by rw [hsz]; decide) ?_ (hK' _ _ h)
 rw [hsz]
 have e : ((#[(0, x)] : Array (Nat × Operand)).map fun (i, x) => (i, a.eval x)).toList = [(0, .agg cs)] := by
  simp [hx]
 rw [e]
 exact ztv _ _ (by simp) hc
theorem zuz (x : Opx) (A : OpA) : ∀ u ∈ opC x A, u.oneCell' = true := fun u hu => by
 have h := zdc x A
 rw [List.all_toArray, List.all_eq_true] at h
 exact h u hu
theorem zuc {w X : World} {L : List Opx} {xs : List Value} {ao : Option Addr} {n c : Nat} {x : Opx} {A : OpA} (h : Zgm w L xs) (hO : Zac (fun k => k < w.heap.size) X 50 17 ao n c xs) (hK : Kept (fun k => k < w.heap.size) w X) (hA : Zpq (fun k => k < w.heap.size) w A x) (hn : n <= 100000) :
  ∃ ao' c' w', (Builtin.append_ #[22, 22] 22 #[.slice ao n c, .slice (some ⟨X.heap.size, 0, none⟩) 1 1]).run Tryz.prog (X.alloc (.cells (opC x A).toArray 50)) = .ok (.slice ao' (n + 1) c') w' /\ Zac (fun k => k < w.heap.size) w' 50 17 ao' (n + 1) c' (xs ++ opC x A) /\ Kept (fun k => k < w.heap.size) w w' := by
 obtain ⟨i, hi, hip⟩ := Option.map_eq_some_iff.1 zub
 have hzv : i.zero = some (.agg zbf) := congrArg (·.1) hip
 have hsz : i.size = 17 := congrArg (·.2.1) hip
 have hby : i.bytes = 168 := congrArg (·.2.2) hip
 have kA : Kept (fun k => k < w.heap.size) X (X.alloc (.cells (opC x A).toArray 50)) := (Kept.refl _ X).alloc (fun k hk => ltl hk hK.size) _
 have kX : Kept (fun k => k < X.heap.size) X (X.alloc (.cells (opC x A).toArray 50)) := (Kept.refl _ X).alloc (fun _ h => h) _
 have hOA : Zac (fun k => k < w.heap.size) (X.alloc (.cells (opC x A).toArray 50)) 50 17 ao n c xs := hO.to (fun q hq => (hO.out hq).1) (fun q hq => kX.block q (hO.out hq).2)
 have hs := zc5 (P := Tryz.prog) (tx := 22) (e := 50) (e' := 50) X X.heap.size (opC x A) (opC x A).toArray Tryz.underlying22 (zuz x A) rfl rfl
 obtain ⟨ao', c', w', h1, h2, h3⟩ := zid (P := Tryz.prog) (X.alloc (.cells (opC x A).toArray 50)) 22 22 22 50 i (.agg zbf) Tryz.underlying22 hi hzv 17 hsz rfl (by rw [hby]; decide) hOA (.slice (some ⟨X.heap.size, 0, none⟩) 1 1) (opC x A) hs (fun k hk => ltl hk (Nat.le_trans hK.size kX.size)) (by omega)
 exact ⟨ao', c', w', h1, h2, (hK.trans kA).trans h3⟩
end
section
open Go.RowKit Go.Sort
set_option linter.unusedVariables false
section
variable {M : Dm} {R G : Nat -> List Nat} {rk : Nat -> Nat}
theorem NoR.sh (h : NoR M) (hI : Inv M R G rk) {i : Nat} (hi : i < M.n) : (M.nd i).shadow = -1 := by
 rcases hI.core.shad i hi with e | ⟨k, hk, _, _, h5, _⟩
 ·exact e
 ·exact absurd h5 (h k hk)
theorem NoR.asg (h : NoR M) (hI : Inv M R G rk) {i : Nat} (hi : i < M.n) : za8 M R G i = [] := by
 obtain ⟨z, t, ho, ht, -, hz⟩ := hI.of hi
 unfold za8
 rcases hz with ⟨rfl, h5⟩ | ⟨rfl, -⟩
 ·exact absurd h5 (h t ht)
 ·rw [if_pos (.inr (zcr hi ho))]
theorem NoR.fK (h : NoR M) (hI : Inv M R G rk) {i : Nat} (hi : i < M.n) : fK M R G i = R i := by
 unfold Go.Proofs.YtfeinppedejlpaaGreat.fK
 rw [if_neg (by rw [h.sh hI hi]; simp), if_pos (h.asg hI hi)]
theorem NoR.upZ (h : NoR M) (hI : Inv M R G rk) {i : Nat} (hi : i < M.n) : upZ M R G i = (M.pl i).up := by
 unfold Go.Proofs.YtfeinppedejlpaaGreat.upZ
 rcases hI.ups hi with e | ⟨u, hu, e⟩
 ·rw [if_pos e, e]
 ·rw [if_neg (by omega), e, Int.toNat_natCast, if_neg (h u hu), if_neg (by rw [h.sh hI hu]; simp), if_pos (h.asg hI hu)]
theorem zi7 {n : Nat} {F F' : Nat -> List Nat} (e : ∀ i, i < n -> F i = F' i) (hF : ∀ i, i < n -> ∀ k ∈ F i, k < n) : ∀ (f i : Nat), i < n -> trF F f i = trF F' f i
 | 0, i, hi => rfl
 | f + 1, i, hi => by
  show i :: (F i).flatMap (trF F f) = i :: (F' i).flatMap (trF F' f)
  rw [<- e i hi]
  congr 1
  have h1 : ∀ (l : List Nat), (∀ k ∈ l, k < n) -> l.flatMap (trF F f) = l.flatMap (trF F' f) := by
   intro l
   induction l with
   | nil => exact fun _ => rfl
   | cons a r ih =>
    intro hl
    rw [List.flatMap_cons, List.flatMap_cons, zi7 e hF f a (hl a (List.mem_cons_self ..)), ih fun k hk => hl k (List.mem_cons_of_mem _ hk)]
  exact h1 _ (hF i hi)
theorem NoR.tr (h : NoR M) (hI : Inv M R G rk) {i : Nat} (hi : i < M.n) : tr M.n (Go.Proofs.YtfeinppedejlpaaGreat.fK M R G) i = tr M.n R i :=
 zi7 (fun i hi => h.fK hI hi) (fun i hi k hk => by rw [h.fK hI hi] at hk; exact hI.good.wf.lt i hi k hk) M.n i hi
end
end
section
open Go.RowKit Go.Sort
set_option linter.unusedVariables false
set_option linter.unusedSimpArgs false
set_option maxRecDepth 100000
set_option maxHeartbeats 8000000
theorem enter18 (args : Array Value) (X : World) : (callFunc 18 args).run Tryz.prog X = .ok (.enter 18 args) X := zan Tryz.func18 (by kernel_rfl) (c := _) rfl args X
theorem enter42 (args : Array Value) (X : World) : (callFunc 42 args).run Tryz.prog X = .ok (.enter 42 args) X := zan Tryz.func42 (by kernel_rfl) (c := _) rfl args X
theorem enter43 (args : Array Value) (X : World) : (callFunc 43 args).run Tryz.prog X = .ok (.enter 43 args) X := zan Tryz.func43 (by kernel_rfl) (c := _) rfl args X
theorem enter44 (args : Array Value) (X : World) : (callFunc 44 args).run Tryz.prog X = .ok (.enter 44 args) X := zan Tryz.func44 (by kernel_rfl) (c := _) rfl args X
theorem enter45 (args : Array Value) (X : World) : (callFunc 45 args).run Tryz.prog X = .ok (.enter 45 args) X := zan Tryz.func45 (by kernel_rfl) (c := _) rfl args X
abbrev P9 (o : Opx) : Bool := decide (o.k % 16 ≠ 9)
theorem zgw (p : Opx -> Bool) : ∀ l : List Opx, zcb (l.filter p) <= zcb l
 | [] => Nat.le_refl _
 | x :: r => by
  have h := zgw p r
  rw [List.filter_cons]
  split
  ·show opH x + _ <= opH x + _
   omega
  ·show _ <= opH x + _
   omega
section
variable {K E : Nat -> Prop} {W : World} {p r : Nat} {M : Dm} {R G : Nat -> List Nat} {rk : Nat -> Nat} {lim : Nat}
theorem zoh (h : Grown K E W p r M R G rk lim) (hl : lim <= 100000) (hR : NoR M) {i : Nat} (hi : i < M.n) : ∃ (LT LK : List Nat) (up : Int), LT.length <= 100000 /\ LK.length <= 100000 /\ ∀ X, Kept (fun k => k < W.heap.size) W X ->
  (Calls Tryz.prog 42 #[.pointer (some ⟨p, 0, none⟩), .int .i64 (i : Int)] X (Lst X LT)) /\ (Calls Tryz.prog 43 #[.pointer (some ⟨r, 0, none⟩), .int .i64 (i : Int)] X (Lst X LT)) /\
  (Calls Tryz.prog 44 #[.pointer (some ⟨p, 0, none⟩), .int .i64 (i : Int)] X fun e w' => e = .returned (.int .i64 up) /\ Kept (fun k => k < X.heap.size) X w') /\
  (Calls Tryz.prog 45 #[.pointer (some ⟨p, 0, none⟩), .int .i64 (i : Int)] X (Lst X LK)) /\
  (Calls Tryz.prog 41 #[.pointer (some ⟨p, 0, none⟩), .int .i64 (i : Int)] X fun e w' => ∃ (cs : Array Value) (ko : Option Addr) (kc : Nat), e = .returned (.tuple #[.agg cs, .int .u16 0]) /\ cs.size = 14 /\ cs.all (·.oneCell') = true /\ cs[4]? = some (.int .i64 up) /\ cs[5]? = some (.slice ko LK.length kc) /\ Zad (fun k => k < w'.heap.size) w' ko LK /\ Kept (fun k => k < X.heap.size) X w') := by
 have hn := h.nle hl
 refine ⟨tr M.n R i, R i, (M.pl i).up, ?_, ?_, fun X hX => ⟨?_, ?_, ?_, ?_, ?_⟩⟩
 ·have := zka h.inv (i : Int)
  rw [zdd hi, hR.tr h.inv hi] at this
  omega
 ·have := zoa h.inv (i : Int)
  rw [zex hi, hR.fK h.inv hi] at this
  omega
 ·have := (h.rd hl hX).walk (i : Int)
  rw [zdd hi, hR.tr h.inv hi] at this
  exact this
 ·have := zkd _ r M R G rk X (h.two.r.kept hX) h.inv hn (i : Int)
  rw [zdd hi] at this
  exact this
 ·have := (h.rd hl hX).up (i : Int)
  rw [zj3 hi, hR.upZ h.inv hi] at this
  exact this
 ·have := (h.rd hl hX).kids (i : Int)
  rw [zex hi, hR.fK h.inv hi] at this
  exact this
 ·refine (zc3 _ p i M R X (h.two.d.kept hX) h.inv.good.wf hi (by omega) h.inv.good.few).mono ?_
  rintro e w' ⟨ao, c, ko, kc, rfl, -, hO, hk⟩
  exact ⟨_, ko, kc, rfl, rfl, zh0 _ _ _ _ _ _ _ _ _ _ _ _ _ _, rfl, rfl, hO.intsAt fun g hg => (hO.out hg).2, hk⟩
end
theorem zud (l : List Opx) (n : Nat) (hln : l.length = n) (hnn : n <= 60) (a : Option Addr) (c : Nat) (hok : ∀ o ∈ l, Zhc o) (hb : zcb l <= 6000) (za : Nat) (hz : za <= 65535) (w : World) (h : Zcp (fun k => k < w.heap.size) w a l) :
  Calls Tryz.prog 5 #[.slice a n c, .int .u16 (za : Int)] w fun e w' => e = .returned (.bool true) /\ Kept (fun k => k < w.heap.size) w w' := by
 have rh := zgg l n hln hnn a c (by omega) w h
 rw [decide_eq_false (by omega : ¬ 6000 < zcb l)] at rh
 have HL : Hid (l.length = n) := hln
 have HB : Hid (zcb l <= 6000) := hb
 have HH : Hid (Zcp (fun k => k < w.heap.size) w a l) := h
 have HOK : Hid (∀ o ∈ l, Zhc o) := hok
 clear hln hb h hok
 go_enter Tryz.func5, Tryz.ntmps5
 go_wp2_with fail
 refine rh.mono ?_
 rintro e w1 ⟨rfl, k1⟩
 have HK1 : Hid (Kept (fun k => k < w.heap.size) w w1) := k1
 have rk := zdw w1
 clear rh k1
 go_wp2_with fail
 refine rk.mono ?_
 rintro e w3 ⟨rfl, k3⟩
 have HK3 : Hid (Kept (fun k => k < w.heap.size) w w3) := kt HK1.out k3
 clear rk k3 HK1
 go_upto_region 5 with fail
 go_loopg [5, 6] n (fun gh v5 v6 wr => ∃ (k m cc : Nat) (ao : Option Addr) (xs : List Value), gh = n - k /\ k <= n /\ v6 = .int .i64 (k : Int) /\ v5 = .slice ao m cc /\ ((l.take k).filter P9).length = m /\ Zgm w ((l.take k).filter P9) xs /\ Zac (fun q => q < w.heap.size) wr 50 17 ao m cc xs /\ Kept (fun q => q < w.heap.size) w wr)
 case atStart => exact ⟨0, 0, 0, none, [], rfl, Nat.zero_le _, rfl, rfl, rfl, .nil, Zac.nil _ _ _ _, HK3.out⟩
 case round =>
  clear HK3
  obtain ⟨k, m, cc, ao, xs, hgk, hk, rfl, rfl, hlm, hrow, hO, hK⟩ := hrel
  have hm9 : m <= 60 := by
   rw [<- hlm]
   refine Nat.le_trans (List.length_filter_le _ _) ?_
   rw [List.length_take]
   omega
  have HLM : Hid (((l.take k).filter P9).length = m) := hlm
  have HROW : Hid (Zgm w ((l.take k).filter P9) xs) := hrow
  have HO : Hid (Zac (fun q => q < w.heap.size) wr 50 17 ao m cc xs) := hO
  have HK : Hid (Kept (fun q => q < w.heap.size) w wr) := hK
  clear hlm hrow hO
  by_cases hlt : k < n
  ·have hll : k < l.length := by rw [HL.out]; exact hlt
   obtain ⟨g, o, A, rfl, hg, hA, hc⟩ := HH.out k hll
   have htk : l.take (k + 1) = l.take k ++ [l[k]] := List.take_succ_eq_append_getElem hll
   obtain ⟨x, hx⟩ : ∃ x, l[k] = x := ⟨_, rfl⟩
   rw [hx] at hA hc htk
   have hrange : wr.rangeAt g (o + k * 17) (opC x A) := fun f u hu => (hK.cell (p := ⟨g, o + k * 17 + f, none⟩) hg).trans (hc f u hu)
   have e0 : wr.cell? ⟨g, o + k * 17, none⟩ = some (.int .u8 (x.k : Int)) := hrange 0 _ rfl
   obtain ⟨q, hq⟩ : ∃ q, x.k % 16 = q := ⟨_, rfl⟩
   have HQ : Hid (x.k % 16 = q) := hq
   have hkm : (x.k : Int).tmod 16 = (q : Int) := by rw [<- hq]; rfl
   have HTK : Hid (l.take (k + 1) = l.take k ++ [x]) := htk
   have HA : Hid (Zpq (fun k => k < w.heap.size) w A x) := hA
   clear hc htk hx hA hq hK
   by_cases q9 : q = 9
   ·subst q9
    have n9 : ((9 : Int) != 9) = false := by decide
    have n9' : (((9 : Nat) : Int) != 9) = false := by decide
    have HF : Hid ((l.take (k + 1)).filter P9 = (l.take k).filter P9) := by
     rw [HTK.out, List.filter_append, List.filter_cons_of_neg (by rw [decide_eq_true_eq]; exact fun hn => hn HQ.out), List.filter_nil, List.append_nil]
     exact rfl
    clear hrange
    go_wp2
    go_roundg (n - (k + 1))
    case rel => exact ⟨k + 1, m, cc, ao, xs, rfl, by omega, by go_num, rfl, by rw [HF.out]; exact HLM.out, by rw [HF.out]; exact HROW.out, HO.out, HK.out⟩
    case measure => omega
   ·have n9 : ((q : Int) != 9) = true := by simp; omega
    have HF : Hid ((l.take (k + 1)).filter P9 = (l.take k).filter P9 ++ [x]) := by
     rw [HTK.out, List.filter_append, List.filter_cons_of_pos (by rw [decide_eq_true_eq, HQ.out]; exact q9), List.filter_nil]
     exact rfl
    obtain ⟨ao', c', w', hrun, hO', hK'⟩ := zuc HROW.out HO.out HK.out HA.out (by omega)
    have HO' : Hid (Zac (fun k => k < w.heap.size) w' 50 17 ao' (m + 1) c' (xs ++ opC x A)) := hO'
    have HK' : Hid (Kept (fun k => k < w.heap.size) w w') := hK'
    have HR' : Hid (Zgm w ((l.take (k + 1)).filter P9) (xs ++ opC x A)) := by rw [HF.out]; exact .snoc HROW.out HA.out
    have HM' : Hid (((l.take (k + 1)).filter P9).length = m + 1) := by rw [HF.out, List.length_append, HLM.out]; exact rfl
    obtain ⟨cs, hcs⟩ : ∃ cs, (opC x A).toArray = cs := ⟨_, rfl⟩
    have hsz : cs.size = 17 := by rw [<- hcs]; rfl
    have hlen : (opC x A).length = 17 := rfl
    obtain ⟨cl, hcl⟩ : ∃ cl, opC x A = cl := ⟨_, rfl⟩
    have hcc : cl.toArray = cs := by rw [<- hcl]; exact hcs
    rw [hcl] at hrange hlen
    rw [hcs] at hrun
    have hil : (Tryz.prog.info? 50).map (·.size) = some cl.length := by rw [hlen]; exact zbr cs hsz |>.trans (by rw [hsz])
    clear hO' hK' hcs hcl hlen HO HROW
    go_wp2_with (first | (refine wpList_load_mid rfl 50 _ rfl g (o + k * 17) rfl cl _ hrange Tryz.underlying50 rfl hil ?_; rw [hcc]) | (refine zg5 rfl (.tmp 36) rfl cs rfl hsz ?_) | (at_builtin; refine zae (w' := w') rfl (.tmp 32) (.tmp 37) 22 22 rfl _ _ (.slice ao' (m + 1) c') rfl rfl hrun ?_))
    go_roundg (n - (k + 1))
    case rel => exact ⟨k + 1, m + 1, c', ao', _, rfl, by omega, by go_num, rfl, HM'.out, HR'.out, HO'.out, HK'.out⟩
    case measure => omega
  ·have hkn : n = k := by omega
   subst hkn
   have hall : l.take n = l := List.take_of_length_le (by rw [HL.out]; exact Nat.le_refl _)
   rw [hall] at HLM HROW
   have hK := HK.out
   have rg := zqu (l.filter P9) m HLM.out (by omega) ao cc (fun o ho => HOK.out o (List.mem_filter.1 ho).1) (fun o ho => by simpa using (List.mem_filter.1 ho).2) (Nat.le_trans (zgw P9 l) (by have := HB.out; omega)) wr (HROW.out.ops HO.out HLM.out HK.out)
   clear hall hK HLM HROW HO HH HOK HB HL
   go_upto_region 9 with fail
   go_wp2_with fail
   refine rg.mono ?_
   rintro e W ⟨p, r, E, M, R, G, rk, rfl, hG, hR, hK4⟩
   have HKW : Hid (Kept (fun k => k < w.heap.size) w W) := kt HK.out hK4
   have hnp := hG.inv.core.pos
   have hm300 : M.n <= 300 := by have h1 := hG.le; rw [hG.lim] at h1; exact h1
   obtain ⟨i, hi⟩ : ∃ i, za % M.n = i := ⟨_, rfl⟩
   have him : i < M.n := by rw [<- hi]; exact Nat.mod_lt _ (by omega)
   have hmod : (za : Int).tmod (M.n : Int) = (i : Int) := by rw [<- hi]; rfl
   obtain ⟨LT, LK, up, hLT, hLK, hP⟩ := zoh hG (by decide) hR him
   obtain ⟨m2, hm2⟩ : ∃ m2, M.n = m2 := ⟨_, rfl⟩
   have rl : Calls Tryz.prog 15 #[.pointer (some ⟨p, 0, none⟩)] W fun e w' => e = .returned (.int .i64 (m2 : Int)) /\ w' = W := by rw [<- hm2]; exact hG.len (Kept.refl _ _)
   have HP : Hid _ := hP
   have rn := (HP.out W (Kept.refl _ _)).2.2.2.2
   rw [hm2] at hmod him hm300 hnp
   have hm1 : 1 <= m2 := hnp
   obtain ⟨lt, hlt'⟩ : ∃ n, LT.length = n := ⟨_, rfl⟩
   obtain ⟨lk, hlk⟩ : ∃ n, LK.length = n := ⟨_, rfl⟩
   have HLT : Hid (LT.length = lt) := hlt'
   have HLK : Hid (LK.length = lk) := hlk
   rw [hlt'] at hLT
   rw [hlk] at hLK
   clear rg hG hR hK4 hP hm2 hlt' hlk hnp hi
   go_upto_region 13 with (go_at_call 15; refine rl.mono ?_; rintro e1 wq ⟨rfl, hwq⟩; replace hwq := hwq.symm; subst hwq)
   go_wp2_with fail
   refine rn.mono ?_
   rintro e v1 ⟨cs, ko, kc, rfl, hcs, hone, h4, h5, hKI, k1⟩
   rw [HLK.out] at h5
   have HKI : Hid (Zad (fun k => k < v1.heap.size) v1 ko LK) := hKI
   obtain ⟨V0, hV0⟩ : ∃ V0, v1.alloc (.cells za2 58) = V0 := ⟨_, rfl⟩
   obtain ⟨N, hN⟩ : ∃ N, v1.heap.size = N := ⟨_, rfl⟩
   have hb0 : V0.heap[N]? = some (.cells za2 58 (0, 0)) := by rw [<- hV0, <- hN]; exact heap_alloc_new v1 _
   obtain ⟨V, hV⟩ : ∃ V, V0.setRow N cs = V := ⟨_, rfl⟩
   have hbV : V.heap[N]? = some (.cells cs 58 (0, 0)) := by rw [<- hV]; exact setRow_heap _ _ _ _ _ _ hb0
   have kV : Kept (fun k => k < v1.heap.size) v1 V := by rw [<- hV, <- hV0]; exact zap ((Kept.refl _ v1).alloc (fun _ h => h) _) (by rw [hN]; exact Nat.lt_irrefl _) _
   have HWV : Hid (Kept (fun k => k < W.heap.size) W V) := kt k1 kV
   have HKI2 : Hid (Zad (fun k => k < V.heap.size) V ko LK) := HKI.out.to (fun k h => ltl h kV.size) fun k h => kV.block k h
   have HC4 : Hid (∀ Y, Kept (fun k => k < V.heap.size) V Y -> Y.cell? ⟨N, 4, none⟩ = some (.int .i64 up)) := fun Y hY => (hY.cell (p := ⟨N, 4, none⟩) (zai hbV)).trans (by rw [zaa hbV]; exact h4)
   have HC5 : Hid (∀ Y, Kept (fun k => k < V.heap.size) V Y -> Y.cell? ⟨N, 5, none⟩ = some (.slice ko lk kc)) := fun Y hY => (hY.cell (p := ⟨N, 5, none⟩) (zai hbV)).trans (by rw [zaa hbV]; exact h5)
   have HV : Hid (V0.setRow N cs = V) := hV
   have HV0 : Hid (v1.alloc (.cells za2 58) = V0) := hV0
   have HN : Hid (v1.heap.size = N) := hN
   clear rn h4 h5 hKI k1 hV0 hN hV hbV kV HKI
   go_upto_region 14 with (rw [HV0.out, HN.out]; refine wpList_store_row rfl 58 _ _ rfl N cs rfl rfl 58 za2 hb0 (by rw [hcs]; exact zg0) (by rw [hcs]; rfl) hone ?_)
   rw [HV.out]
   clear hb0 hone hcs HV0 HV HN
   have HPV : Hid _ := fun X (hX : Kept (fun k => k < V.heap.size) V X) => HP.out X (kt HWV.out hX)
   clear HP
   have hee : (up == up) = true := by simp
   refine wp_region_held_drew (S := fun Y => Kept (fun k => k < V.heap.size) V Y) (by kernel_rfl) ((Kept.refl _ V).drew) (fun hHeld => ?_)
   refine tkH 0 57 (.pointer (some ⟨p, 0, none⟩)) rfl rfl (by kernel_rfl) (by rfl) (by intro Y hY; go_simp; try with_reducible rfl) (fun _ _ _ h => h) hHeld ?_
   try simp only [Act.put, List.setIfInBounds_toArray, List.set_cons_zero, List.set_cons_succ]
   refine tkH 1 58 (.int .i64 (i : Int)) rfl rfl (by kernel_rfl) (by rfl) (by intro Y hY; go_simp; try with_reducible rfl) (fun _ _ _ h => h) hHeld ?_
   try simp only [Act.put, List.setIfInBounds_toArray, List.set_cons_zero, List.set_cons_succ]
   refine tkH 3 60 (.pointer (some ⟨r, 0, none⟩)) rfl rfl (by kernel_rfl) (by rfl) (by intro Y hY; go_simp; try with_reducible rfl) (fun _ _ _ h => h) hHeld ?_
   try simp only [Act.put, List.setIfInBounds_toArray, List.set_cons_zero, List.set_cons_succ]
   refine tkH 4 61 (.int .i64 (i : Int)) rfl rfl (by kernel_rfl) (by rfl) (by intro Y hY; go_simp; try with_reducible rfl) (fun _ _ _ h => h) hHeld ?_
   try simp only [Act.put, List.setIfInBounds_toArray, List.set_cons_zero, List.set_cons_succ]
   refine clH 2 59 42 #[.pointer (some ⟨p, 0, none⟩), .int .i64 (i : Int)] rfl rfl (by kernel_rfl) (by rfl) rfl (by first | rfl | (simp [Act.eval]; done) | (simp [Act.eval, Act.put]; done)) (enter42 _ _) (HPV.out _ hHeld).1 ?_
   rintro e Y1 ⟨a1, c1, rfl, hO, k1⟩
   rw [HLT.out]
   refine ⟨_, rfl, kt hHeld k1, fun hHeld2 => ?_⟩
   replace hHeld := hHeld2
   clear hHeld2
   try simp only [Act.put, List.setIfInBounds_toArray, List.set_cons_zero, List.set_cons_succ]
   have HI1 : Hid (Zad (fun k => k < Y1.heap.size) Y1 a1 LT) := hO.intsAt fun g hg => (hO.out hg).2
   clear k1 hO
   refine clH 5 62 43 #[.pointer (some ⟨r, 0, none⟩), .int .i64 (i : Int)] rfl rfl (by kernel_rfl) (by rfl) rfl (by first | rfl | (simp [Act.eval]; done) | (simp [Act.eval, Act.put]; done)) (enter43 _ _) ((HPV.out _ hHeld).2.1) ?_
   rintro e Y2 ⟨a2, c2, rfl, hO2, k2⟩
   rw [HLT.out]
   refine ⟨_, rfl, kt hHeld k2, fun hHeld2 => ?_⟩
   replace hHeld := hHeld2
   clear hHeld2
   try simp only [Act.put, List.setIfInBounds_toArray, List.set_cons_zero, List.set_cons_succ]
   have HI2 : Hid (Zad (fun k => k < Y2.heap.size) Y2 a2 LT) := hO2.intsAt fun g hg => (hO2.out hg).2
   replace HI1 : Hid (Zad (fun k => k < Y2.heap.size) Y2 a1 LT) := HI1.out.to (fun k h => ltl h k2.size) fun k h => k2.block k h
   clear k2 hO2
   refine clH 6 63 18 #[.slice a1 lt c1, .slice a2 lt c2] rfl rfl (by kernel_rfl) (by rfl) rfl (by first | rfl | (simp [Act.eval]; done) | (simp [Act.eval, Act.put]; done)) (enter18 _ _) (zdx HLT.out hLT HI1.out HI2.out) ?_
   rintro e Y3 ⟨rfl, k3⟩
   refine ⟨_, rfl, kt hHeld k3, fun hHeld2 => ?_⟩
   replace hHeld := hHeld2
   clear hHeld2
   try simp only [Act.put, List.setIfInBounds_toArray, List.set_cons_zero, List.set_cons_succ]
   clear HI1 HI2 k3
   refine tkH 7 64 (.bool true) rfl rfl (by kernel_rfl) (by rfl) (by intro Y hY; go_simp; try with_reducible rfl) (fun _ _ _ h => h) hHeld ?_
   try simp only [Act.put, List.setIfInBounds_toArray, List.set_cons_zero, List.set_cons_succ]
   refine tkH 8 65 (.pointer (some ⟨p, 0, none⟩)) rfl rfl (by kernel_rfl) (by rfl) (by intro Y hY; go_simp; try with_reducible rfl) (fun _ _ _ h => h) hHeld ?_
   try simp only [Act.put, List.setIfInBounds_toArray, List.set_cons_zero, List.set_cons_succ]
   refine tkH 9 66 (.int .i64 (i : Int)) rfl rfl (by kernel_rfl) (by rfl) (by intro Y hY; go_simp; try with_reducible rfl) (fun _ _ _ h => h) hHeld ?_
   try simp only [Act.put, List.setIfInBounds_toArray, List.set_cons_zero, List.set_cons_succ]
   refine tkH 11 68 (.pointer (some ⟨N, 4, none⟩)) rfl rfl (by kernel_rfl) (by rfl) (by intro Y hY; go_simp; try with_reducible rfl) (fun _ _ _ h => h) hHeld ?_
   try simp only [Act.put, List.setIfInBounds_toArray, List.set_cons_zero, List.set_cons_succ]
   refine tkH 12 69 (.int .i64 up) rfl rfl (by kernel_rfl) (by rfl) (by intro Y hY; have hc := HC4.out Y hY; go_simp; try with_reducible rfl) (fun _ _ _ h => h) hHeld ?_
   try simp only [Act.put, List.setIfInBounds_toArray, List.set_cons_zero, List.set_cons_succ]
   refine clH 10 67 44 #[.pointer (some ⟨p, 0, none⟩), .int .i64 (i : Int)] rfl rfl (by kernel_rfl) (by rfl) rfl (by first | rfl | (simp [Act.eval]; done) | (simp [Act.eval, Act.put]; done)) (enter44 _ _) ((HPV.out _ hHeld).2.2.1) ?_
   rintro e Y4 ⟨rfl, k4⟩
   refine ⟨_, rfl, kt hHeld k4, fun hHeld2 => ?_⟩
   replace hHeld := hHeld2
   clear hHeld2
   try simp only [Act.put, List.setIfInBounds_toArray, List.set_cons_zero, List.set_cons_succ]
   clear k4
   refine tkH 13 70 (.bool true) rfl rfl (by kernel_rfl) (by rfl) (by intro Y hY; go_simp; try with_reducible rfl) (fun _ _ _ h => h) hHeld ?_
   try simp only [Act.put, List.setIfInBounds_toArray, List.set_cons_zero, List.set_cons_succ]
   refine tkH 14 71 (.bool true) rfl rfl (by kernel_rfl) (by rfl) (by intro Y hY; go_simp; try with_reducible rfl) (fun _ _ _ h => h) hHeld ?_
   try simp only [Act.put, List.setIfInBounds_toArray, List.set_cons_zero, List.set_cons_succ]
   refine tkH 15 72 (.bool true) rfl rfl (by kernel_rfl) (by rfl) (by intro Y hY; go_simp; try with_reducible rfl) (fun _ _ _ h => h) hHeld ?_
   try simp only [Act.put, List.setIfInBounds_toArray, List.set_cons_zero, List.set_cons_succ]
   refine tkH 16 73 (.pointer (some ⟨p, 0, none⟩)) rfl rfl (by kernel_rfl) (by rfl) (by intro Y hY; go_simp; try with_reducible rfl) (fun _ _ _ h => h) hHeld ?_
   try simp only [Act.put, List.setIfInBounds_toArray, List.set_cons_zero, List.set_cons_succ]
   refine tkH 17 74 (.int .i64 (i : Int)) rfl rfl (by kernel_rfl) (by rfl) (by intro Y hY; go_simp; try with_reducible rfl) (fun _ _ _ h => h) hHeld ?_
   try simp only [Act.put, List.setIfInBounds_toArray, List.set_cons_zero, List.set_cons_succ]
   refine tkH 19 76 (.pointer (some ⟨N, 5, none⟩)) rfl rfl (by kernel_rfl) (by rfl) (by intro Y hY; go_simp; try with_reducible rfl) (fun _ _ _ h => h) hHeld ?_
   try simp only [Act.put, List.setIfInBounds_toArray, List.set_cons_zero, List.set_cons_succ]
   refine tkH 20 77 (.slice ko lk kc) rfl rfl (by kernel_rfl) (by rfl) (by intro Y hY; have hc := HC5.out Y hY; go_simp; try with_reducible rfl) (fun _ _ _ h => h) hHeld ?_
   try simp only [Act.put, List.setIfInBounds_toArray, List.set_cons_zero, List.set_cons_succ]
   refine clH 18 75 45 #[.pointer (some ⟨p, 0, none⟩), .int .i64 (i : Int)] rfl rfl (by kernel_rfl) (by rfl) rfl (by first | rfl | (simp [Act.eval]; done) | (simp [Act.eval, Act.put]; done)) (enter45 _ _) ((HPV.out _ hHeld).2.2.2.1) ?_
   rintro e Y5 ⟨a3, c3, rfl, hO3, k5⟩
   rw [HLK.out]
   refine ⟨_, rfl, kt hHeld k5, fun hHeld2 => ?_⟩
   replace hHeld := hHeld2
   clear hHeld2
   try simp only [Act.put, List.setIfInBounds_toArray, List.set_cons_zero, List.set_cons_succ]
   have HI3 : Hid (Zad (fun k => k < Y5.heap.size) Y5 a3 LK) := hO3.intsAt fun g hg => (hO3.out hg).2
   clear k5 hO3
   refine clH 21 78 18 #[.slice a3 lk c3, .slice ko lk kc] rfl rfl (by kernel_rfl) (by rfl) rfl (by first | rfl | (simp [Act.eval]; done) | (simp [Act.eval, Act.put]; done)) (enter18 _ _) (zdx HLK.out hLK HI3.out (HKI2.out.to (fun k h => ltl h hHeld.size) fun k h => hHeld.block k h)) ?_
   rintro e Y6 ⟨rfl, k6⟩
   refine ⟨_, rfl, kt hHeld k6, fun hHeld2 => ?_⟩
   replace hHeld := hHeld2
   clear hHeld2
   try simp only [Act.put, List.setIfInBounds_toArray, List.set_cons_zero, List.set_cons_succ]
   clear k6 HI3
   refine tkH 22 79 (.bool true) rfl rfl (by kernel_rfl) (by rfl) (by intro Y hY; go_simp; try with_reducible rfl) (fun _ _ _ h => h) hHeld ?_
   try simp only [Act.put, List.setIfInBounds_toArray, List.set_cons_zero, List.set_cons_succ]
   refine tkH 23 4 (.bool true) rfl rfl (by kernel_rfl) (by rfl) (by intro Y hY; go_simp; try with_reducible rfl) (fun _ _ _ h => h) hHeld ?_
   try simp only [Act.put, List.setIfInBounds_toArray, List.set_cons_zero, List.set_cons_succ]
   refine wpAnyH_done (by kernel_rfl) ?_ _
   go_wp2
   go_ret
   exact ⟨rfl, HKW.out.trans ((kt HWV.out hHeld).mono fun k h => ltl h HKW.out.size)⟩
theorem ztr (a : Option Addr) (n c : Nat) (z : Int) (w : World) (rh : Calls Tryz.prog 38 #[.slice a n c] w fun e w' => e = .returned (.bool true) /\ Kept (fun k => k < w.heap.size) w w') :
  Calls Tryz.prog 5 #[.slice a n c, .int .u16 z] w fun e w' => e = .returned (.bool true) /\ Kept (fun k => k < w.heap.size) w w' := by
 go_enter Tryz.func5, Tryz.ntmps5
 go_wp2_with fail
 refine rh.mono ?_
 rintro e w1 ⟨rfl, k1⟩
 have HK1 : Hid (Kept (fun k => k < w.heap.size) w w1) := k1
 have rk := zdw w1
 clear rh k1
 go_wp2_with fail
 refine rk.mono ?_
 rintro e w3 ⟨rfl, k3⟩
 have HK3 : Hid (Kept (fun k => k < w.heap.size) w w3) := kt HK1.out k3
 clear rk k3
 go_wp2
 go_ret
 exact ⟨rfl, HK3.out⟩
end
end Go.Proofs.YtfeinppedejlpaaGreat
