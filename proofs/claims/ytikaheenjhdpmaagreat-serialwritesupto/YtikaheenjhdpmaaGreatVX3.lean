/-
  A new page: which roots are asked for. A page of a document: an element, a node. A page of a document: a node, whatever it is. A page of a document: a shadow root. A page of a document: what is in a node.
-/
import Derived.Test.YtikaheenjhdpmaaGreatVX2
import Derived.Test.YtikaheenjhdpmaaGreatVW22
import Derived.Test.YtikaheenjhdpmaaGreatVB10
namespace Go.Proofs.YtikaheenjhdpmaaGreat
section
open Go.RowKit
set_option linter.unusedVariables false
set_option maxRecDepth 100000
set_option maxHeartbeats 4000000
def Zhr (w : World) (g n : Nat) (A : Nat -> Bool) : Prop := ∃ cs, w.heap[g]? = some (.cells cs 4 (0, 0)) /\ cs.size = n /\ ∀ j, j < n -> cs[j]? = some (.bool (A j))
theorem Zhr.at {w : World} {g n : Nat} {A : Nat -> Bool} (h : Zhr w g n A) {j : Nat} (hj : j < n) : w.cell? ⟨g, j, none⟩ = some (.bool (A j)) := by
 obtain ⟨cs, h1, h2, h3⟩ := h
 rw [zaa h1]; exact h3 j hj
theorem Zhr.kept {K : Nat -> Prop} {w w' : World} {g n : Nat} {A : Nat -> Bool} (h : Zhr w g n A) (hk : Kept K w w') (hg : K g) : Zhr w' g n A := by
 obtain ⟨cs, h1, h2, h3⟩ := h
 exact ⟨cs, (hk.block g hg).trans h1, h2, h3⟩
theorem Zhr.set {w : World} {g n : Nat} {A B : Nat -> Bool} (h : Zhr w g n A) {i : Nat} (hi : i < n) (hB : ∀ j, B j = (A j || decide (j = i))) : Zhr (w.setCell ⟨g, i, none⟩ (.bool true)) g n B := by
 obtain ⟨cs, h1, h2, h3⟩ := h
 refine ⟨_, zai h1 i _, by simpa using h2, fun j hj => ?_⟩
 rw [Array.getElem?_setIfInBounds, hB]
 by_cases c : i = j
 ·subst c; rw [if_pos rfl, if_pos (by omega)]; simp
 ·rw [if_neg c, h3 j hj]; simp [Ne.symm c]
theorem Zhr.fz {w : World} {g n : Nat} {A : Nat -> Bool} (h : Zhr w g n A) (i : Nat) : w.frozen? ⟨g, i, none⟩ = false := by
 obtain ⟨cs, h1, h2, h3⟩ := h
 exact zam h1 i
def zbv (l : List Int) (j : Nat) : Bool := l.contains (j : Int)
theorem zm0 (l : List Int) (k : Nat) (h : k < l.length) (j : Nat) : zbv (l.take (k + 1)) j = (zbv (l.take k) j || decide ((j : Int) = l[k])) := by
 unfold zbv
 rw [List.take_succ_eq_append_getElem h, List.contains_append]
 simp
theorem zqm : (Tryz.prog.info? 4).map (fun i => (i.zero, i.size, i.bytes)) = some (some (.bool false), 1, 1) := by kernel_rfl
theorem ztv (args : Array Value) (X : World) : (callFunc 12 args).run Tryz.prog X = .ok (.enter 12 args) X := zay Tryz.func12 (by kernel_rfl) (c := _) rfl args X
theorem zfs (d n : Nat) (sr : Bool) (ra : Option Addr) (rn rc : Nat) (l : List Int) (hl : l.length = rn) (hrn : rn <= 100000) (hn1 : 1 <= n) (hn : n <= 1000000) (w : World) (hi : Za8 (fun k => k < w.heap.size) w ra l)
  (hlen : ∀ X, Kept (fun k => k < w.heap.size) w X -> Calls Tryz.prog 12 #[.pointer (some ⟨d, 0, none⟩)] X fun e w' => e = .returned (.int .i64 (n : Int)) /\ Kept (fun k => k < X.heap.size) X w') :
  Calls Tryz.prog 60 #[.pointer (some ⟨d, 0, none⟩), .agg #[.bool sr, .slice ra rn rc]] w fun e w' => ∃ b g, e = .returned (.pointer (some ⟨b, 0, none⟩)) /\ w.heap.size <= g /\ g ≠ b /\ Zhr w' g n (zbv l) /\ Pg (fun k => k < w.heap.size \/ k = g) w' ⟨b, d, sr, g, n⟩ [] /\ Kept (fun k => k < w.heap.size) w w' := by
 obtain ⟨W, N, hW, hN, hb, hkW, hz⟩ := zae w #[.bool sr, .slice ra rn rc] 41
 have b0 : W.cell? ⟨N, 0, none⟩ = some (.bool sr) := by rw [zaa hb]; rfl
 have HB0 : Hid (∀ Y, Kept (fun k => k < W.heap.size) W Y -> Y.cell? ⟨N, 0, none⟩ = some (.bool sr)) := fun Y hY => (hY.cell (p := ⟨N, 0, none⟩) (zac hb)).trans b0
 have b1 : W.cell? ⟨N, 1, none⟩ = some (.slice ra rn rc) := by rw [zaa hb]; rfl
 have HB1 : Hid (∀ Y, Kept (fun k => k < W.heap.size) W Y -> Y.cell? ⟨N, 1, none⟩ = some (.slice ra rn rc)) := fun Y hY => (hY.cell (p := ⟨N, 1, none⟩) (zac hb)).trans b1
 have HLEN : Hid _ := hlen
 have HI : Hid _ := hi
 have HL : Hid (l.length = rn) := hl
 have HKW : Hid (Kept (fun k => k < w.heap.size) w W) := hkW
 have HW : Hid (w.alloc (.cells #[.bool sr, .slice ra rn rc] 41) = W) := hW
 have HN : Hid (w.heap.size = N) := hN
 clear hW hN hb hkW hz b0 b1 hlen hi hl
 go_enter Tryz.func60, Tryz.ntmps60
 go_upto_region 1 with fail
 rw [HW.out, HN.out]
 clear HW HN
 refine wp_region_held_drew (S := fun Y => Kept (fun k => k < W.heap.size) W Y) (by kernel_rfl) ((Kept.refl _ W).drew) (fun hHeld => ?_)
 refine tkH 0 8 (.pointer (some ⟨d, 0, none⟩)) rfl rfl (by kernel_rfl) (by rfl) (by intro Y hY; go_simp; try with_reducible rfl) (fun _ _ _ h => h) hHeld ?_
 try simp only [Act.put, List.setIfInBounds_toArray, List.set_cons_zero, List.set_cons_succ]
 refine tkH 1 9 (.pointer (some ⟨N, 0, none⟩)) rfl rfl (by kernel_rfl) (by rfl) (by intro Y hY; go_simp; try with_reducible rfl) (fun _ _ _ h => h) hHeld ?_
 try simp only [Act.put, List.setIfInBounds_toArray, List.set_cons_zero, List.set_cons_succ]
 refine tkH 2 10 (.bool sr) rfl rfl (by kernel_rfl) (by rfl) (by intro Y hY; have hc := HB0.out Y hY; go_simp; try with_reducible rfl) (fun _ _ _ h => h) hHeld ?_
 try simp only [Act.put, List.setIfInBounds_toArray, List.set_cons_zero, List.set_cons_succ]
 refine tkH 3 11 (.pointer (some ⟨d, 0, none⟩)) rfl rfl (by kernel_rfl) (by rfl) (by intro Y hY; go_simp; try with_reducible rfl) (fun _ _ _ h => h) hHeld ?_
 try simp only [Act.put, List.setIfInBounds_toArray, List.set_cons_zero, List.set_cons_succ]
 have rl := HLEN.out W.drew (HKW.out.drew)
 refine clH 4 12 12 #[.pointer (some ⟨d, 0, none⟩)] rfl rfl (by kernel_rfl) (by rfl) rfl (by first | rfl | (simp [Act.eval]; done) | (simp [Act.eval, Act.put]; done)) (ztv _ _) rl ?_
 rintro e Y ⟨rfl, hk9⟩
 have hkY : Kept (fun k => k < W.heap.size) W Y := ((Kept.refl _ W).drew).trans hk9
 refine ⟨_, rfl, hkY, fun hHeld2 => ?_⟩
 replace hHeld := hHeld2
 clear hHeld2
 try simp only [Act.put, List.setIfInBounds_toArray, List.set_cons_zero, List.set_cons_succ]
 obtain ⟨inf, hi, hip⟩ := Option.map_eq_some_iff.1 zqm
 have hz0 : inf.zero = some (.bool false) := congrArg (·.1) hip
 have hsz : inf.size = 1 := congrArg (·.2.1) hip
 have hby : inf.bytes = 1 := congrArg (·.2.2) hip
 have hmake := run_make (P := Tryz.prog) Y 115 4 inf _ Tryz.underlying115 hi hz0 .i64 .i64 (n : Int) (n : Int) (by omega) (Int.le_refl _) (by rw [hby]; omega) (by omega)
 rw [Int.toNat_natCast] at hmake
 obtain ⟨mc, hmc⟩ : ∃ mc, madeCells (Value.bool false).cells (n * inf.size) = mc := ⟨_, rfl⟩
 rw [hmc] at hmake
 have hms : mc.size = n := by rw [<- hmc, hsz]; simp [madeCells, Value.cells]
 have hmg : ∀ j, j < n -> mc[j]? = some (.bool false) := fun j hj => by
  rw [<- hmc, hsz]; simp [madeCells, Value.cells, hj, Nat.mod_one]
 obtain ⟨G, g, hG, hg, hbg, hkG, hzG⟩ := zae Y mc 4
 rw [hG, hg] at hmake
 refine opY 5 rfl (by kernel_rfl) (by rfl) (fun K' hK' => ?_)
 unfold Oper.wp
 go_simp
 have hsG : Kept (fun k => k < W.heap.size) W G := hHeld.trans (hkG.mono fun k h => ltl h hHeld.size)
 refine hK'.out _ _ hsG (fun hHeld2 => ?_)
 clear hK'
 replace hHeld := hHeld2
 clear hHeld2
 try simp only [Act.put, List.setIfInBounds_toArray, List.set_cons_zero, List.set_cons_succ]
 refine tkH 6 14 (.agg #[.pointer none, .slice none 0 0, .pointer (some ⟨d, 0, none⟩), .bool sr, .slice (some ⟨g, 0, none⟩) n n]) rfl rfl (by kernel_rfl) (by rfl) (by intro Y hY; go_simp; try with_reducible rfl) (fun _ _ _ h => h) hHeld ?_
 try simp only [Act.put, List.setIfInBounds_toArray, List.set_cons_zero, List.set_cons_succ]
 obtain ⟨Z, b, hZ, hbz, hbb, hkZ, hzZ⟩ := zae G #[.pointer none, .slice none 0 0, .pointer (some ⟨d, 0, none⟩), .bool sr, .slice (some ⟨g, 0, none⟩) n n] 117
 have HZ : Hid (G.alloc (.cells #[.pointer none, .slice none 0 0, .pointer (some ⟨d, 0, none⟩), .bool sr, .slice (some ⟨g, 0, none⟩) n n] 117) = Z) := hZ
 have HBZ : Hid (G.heap.size = b) := hbz
 have HZG : Hid (G.heap.size = Y.heap.size + 1) := hzG
 have HZZ : Hid (Z.heap.size = G.heap.size + 1) := hzZ
 clear hZ hbz hzG hzZ
 refine opY 7 rfl (by kernel_rfl) (by rfl) (fun K' hK' => ?_)
 unfold Oper.wp
 go_simp
 rw [HZ.out, HBZ.out]
 have hzG := HZG.out
 have hzZ := HZZ.out
 have hbz := HBZ.out
 have hsZ : Kept (fun k => k < W.heap.size) W Z := hHeld.trans (hkZ.mono fun k h => ltl h hHeld.size)
 refine hK'.out _ _ hsZ (fun hHeld2 => ?_)
 clear hK'
 replace hHeld := hHeld2
 clear hHeld2
 try simp only [Act.put, List.setIfInBounds_toArray, List.set_cons_zero, List.set_cons_succ]
 refine tkH 8 5 (.pointer (some ⟨b, 0, none⟩)) rfl rfl (by kernel_rfl) (by rfl) (by intro Y hY; go_simp; try with_reducible rfl) (fun _ _ _ h => h) hHeld ?_
 try simp only [Act.put, List.setIfInBounds_toArray, List.set_cons_zero, List.set_cons_succ]
 refine wpAnyH_done (by kernel_rfl) ?_ _
 have hWs := HKW.out.size
 have hYs := hkY.size
 have hA0 : Zhr Z g n (zbv (l.take 0)) := ⟨mc, (hkZ.block g (zac hbg)).trans hbg, hms, fun j hj => by rw [hmg j hj]; rfl⟩
 have hP0 : ∀ V : World, V.heap[b]? = Z.heap[b]? -> Z.heap.size <= V.heap.size -> Pg (fun k => k < w.heap.size \/ k = g) V ⟨b, d, sr, g, n⟩ [] := fun V hV hs => by
  refine ⟨fun h => ?_, fun k h => ?_, none, none, 0, by rw [hV]; exact hbb, .inl rfl, Own.nil _ _ _⟩
  ·have h' : b < w.heap.size \/ b = g := h
   omega
  ·omega
 have HP0 : Hid _ := hP0
 have HA0 : Hid (Zhr Z g n (zbv (l.take 0))) := hA0
 have HKZ : Hid (Kept (fun k => k < W.heap.size) W Z) := hsZ
 have hgW : W.heap.size <= g /\ W.heap.size <= b /\ g ≠ b := ⟨by omega, by omega, by omega⟩
 have hbZ := zac hbb
 have c4 : ∀ X : World, X.heap[b]? = Z.heap[b]? -> X.cell? ⟨b, 4, none⟩ = some (.slice (some ⟨g, 0, none⟩) n n) := fun X hX => by rw [zaa (hX.trans hbb)]; rfl
 have HC4 : Hid _ := c4
 have c1 := HB1.out Z hsZ
 clear HZ HBZ HZG HZZ hHeld hA0 hP0 hsZ hkZ hzZ hbz hbb hsG hkG hzG hG hg hbg hmake hms hmg hmc hip hz0 hsz hby hi hkY hk9 rl HLEN c4 HB0 HB1
 obtain ⟨hgW, hbW, hgb⟩ := hgW
 go_wp2_with fail
 go_loopg [19] rn (fun gm i wr => ∃ j : Nat, gm = rn - j /\ j <= rn /\ i = .int .i64 j /\ Zhr wr g n (zbv (l.take j)) /\ Kept (fun k => k < Z.heap.size /\ k ≠ g) Z wr)
 case atStart => exact ⟨0, rfl, Nat.zero_le _, rfl, HA0.out, Kept.refl _ _⟩
 case round =>
  obtain ⟨j, hgm, hj, rfl, hA, hK⟩ := hrel
  clear HA0
  by_cases hlt : j < rn
  ·have hjl : j < l.length := by rw [HL.out]; exact hlt
   obtain ⟨rg, ro, hra, hFg, hc⟩ := HI.out j hjl
   have hr : wr.cell? ⟨rg, ro + j, none⟩ = some (.int .i64 l[j]) := by
    have h1 : rg < W.heap.size := ltl hFg HKW.out.size
    rw [hK.cell (p := ⟨rg, ro + j, none⟩) ⟨ltl h1 HKZ.out.size, by show rg ≠ g; omega⟩, HKZ.out.cell (p := ⟨rg, ro + j, none⟩) h1, HKW.out.cell (p := ⟨rg, ro + j, none⟩) hFg]
    exact hc
   subst hra
   have hstep := zm0 l j hjl
   have d4 := HC4.out wr (hK.block b ⟨hbZ, fun e => hgb e.symm⟩)
   obtain ⟨x, hx⟩ : ∃ x, l[j] = x := ⟨_, rfl⟩
   rw [hx] at hr hstep
   have HS : Hid _ := hstep
   clear hstep hc hx
   by_cases hin : 0 <= x /\ x < (n : Int)
   ·obtain ⟨m, rfl⟩ : ∃ m : Nat, x = (m : Int) := ⟨x.toNat, by omega⟩
    have hm : m < n := by omega
    have e1 : decide ((0 : Int) <= (m : Int)) = true := decide_eq_true hin.1
    have e2 : decide ((m : Int) < (n : Int)) = true := decide_eq_true hin.2
    have cm := hA.at hm
    have fm := hA.fz m
    have HA1 : Hid (Zhr (wr.setCell ⟨g, m, none⟩ (.bool true)) g n (zbv (l.take (j + 1)))) := hA.set hm fun k => by rw [HS.out]; congr 1; simp; exact Int.ofNat_inj
    have HK1 : Hid (Kept (fun k => k < Z.heap.size /\ k ≠ g) Z (wr.setCell ⟨g, m, none⟩ (.bool true))) := hK.setCell (p := ⟨g, m, none⟩) (fun h => h.2 rfl) _
    clear hA hK hin HS
    go_wp2
    go_roundg (rn - (j + 1))
    case rel => exact ⟨j + 1, rfl, by omega, by go_num, HA1.out, HK1.out⟩
    case measure => omega
   ·have HA1 : Hid (Zhr wr g n (zbv (l.take (j + 1)))) := by
     obtain ⟨cs, h1, h2, h3⟩ := hA
     refine ⟨cs, h1, h2, fun k hk => ?_⟩
     rw [h3 k hk, HS.out k, decide_eq_false (fun e => hin (by omega)), Bool.or_false]
    have HK1 : Hid (Kept (fun k => k < Z.heap.size /\ k ≠ g) Z wr) := hK
    clear hA hK HS
    by_cases h0 : 0 <= x
    ·have e1 : decide ((0 : Int) <= x) = true := decide_eq_true h0
     have e2 : decide (x < (n : Int)) = false := decide_eq_false fun h => hin ⟨h0, h⟩
     clear hin
     go_wp2
     go_roundg (rn - (j + 1))
     case rel => exact ⟨j + 1, rfl, by omega, by go_num, HA1.out, HK1.out⟩
     case measure => omega
    ·have e1 : decide ((0 : Int) <= x) = false := decide_eq_false h0
     clear hin
     go_wp2
     go_roundg (rn - (j + 1))
     case rel => exact ⟨j + 1, rfl, by omega, by go_num, HA1.out, HK1.out⟩
     case measure => omega
  ·have hjn : j = rn := by omega
   have et : l.take j = l := by rw [hjn, <- HL.out, List.take_length]
   rw [et] at hA
   have HAF : Hid (Zhr wr g n (zbv l)) := hA
   have HPF : Hid (Pg (fun k => k < w.heap.size \/ k = g) wr ⟨b, d, sr, g, n⟩ []) := HP0.out wr (hK.block b ⟨hbZ, fun e => hgb e.symm⟩) hK.size
   have HKF : Hid (Kept (fun k => k < w.heap.size) w wr) := (HKW.out.trans (HKZ.out.mono fun k h => ltl h HKW.out.size)).trans (hK.mono fun k h => ⟨by have := HKZ.out.size; omega, by omega⟩)
   clear hA hK et hjn
   go_wp2
   go_ret
   exact ⟨b, g, rfl, by omega, hgb, HAF.out, HPF.out, HKF.out⟩
end
section
open Go.RowKit
set_option linter.unusedVariables false
set_option maxRecDepth 100000
set_option maxHeartbeats 4000000
structure Pq (w0 : World) (o : Ask) (K : Nat -> Prop) (w : World) (c : Cf) (l : List UInt8) : Prop where
 pg : Pg K w c l
 ask : Zhr w c.g c.n o.A
 kg : K c.g
 old : ∀ k, k < w0.heap.size -> K k
 kept : Kept (fun k => k < w0.heap.size) w0 w
 sr : c.sr = o.ser
section
variable {w0 : World} {o : Ask} {K K' : Nat -> Prop} {w w' V : World} {c : Cf} {l l' : List UInt8}
theorem Pq.lt (h : Pq w0 o K w c l) : ∀ k, K k -> k < w.heap.size := h.pg.lt
theorem Pq.up (h : Pq w0 o K w c l) (hk : Kept (fun k => k < w.heap.size) w V) : Pq w0 o (fun k => K k \/ (w.heap.size <= k /\ k < V.heap.size)) V c l :=
 ⟨h.pg.up hk, h.ask.kept hk (h.lt _ h.kg), .inl h.kg, fun k hk => .inl (h.old k hk), h.kept.trans (hk.mono fun k hk' => h.lt k (h.old k hk')), h.sr⟩
theorem Pq.stay (h : Pq w0 o K w c l) (hk : Kept (fun k => k < w.heap.size) w V) : Pq w0 o K V c l :=
 ⟨(h.pg.up hk).less fun k h => .inl h, h.ask.kept hk (h.lt _ h.kg), h.kg, h.old, h.kept.trans (hk.mono fun k hk' => h.lt k (h.old k hk')), h.sr⟩
theorem Pq.step (h : Pq w0 o K w c l) (hP : Pg K w' c l') (hk : Kept K w w') : Pq w0 o K w' c l' :=
 ⟨hP, h.ask.kept hk h.kg, h.kg, h.old, h.kept.trans (hk.mono h.old), h.sr⟩
theorem Pq.back (h : Pq w0 o K w c l) (h' : Pq w0 o K' w' c l') (hs : ∀ k, K k -> K' k) : Pq w0 o K w' c l' :=
 ⟨h'.pg.less hs, h'.ask, h.kg, h.old, h'.kept, h.sr⟩
end
theorem Zaf.go {K K' : Nat -> Prop} {w w' : World} {ko : Option Addr} {l : List Nat} (h : Zaf K w ko l) (hs : ∀ k, K k -> K' k) (hk : Kept K w w') : Zaf K' w' ko l := fun j hj => by
 obtain ⟨g, o, e, hg, hc⟩ := h j hj
 exact ⟨g, o, e, hs g hg, (hk.cell (p := ⟨g, o + j, none⟩) hg).trans hc⟩
theorem Zah.go {K K' : Nat -> Prop} {w w' : World} {ao : Option Addr} {l : List Atr} (h : Zah K w ao l) (hs : ∀ k, K k -> K' k) (hk : Kept K w w') : Zah K' w' ao l := fun j hj => by
 obtain ⟨g, o, e, hg, h1, h2⟩ := h j hj
 exact ⟨g, o, e, hs g hg, (hk.cell (p := ⟨g, o + j * 2, none⟩) hg).trans h1, (hk.cell (p := ⟨g, o + j * 2 + 1, none⟩) hg).trans h2⟩
theorem zdu (cs : Array Value) (h : cs.size = 14) : (Tryz.prog.info? 46).map (·.size) = some cs.size := by rw [h]; kernel_rfl
def Inn (w0 : World) (o : Ask) (c : Cf) (x : Nd) (q : List Nat) (L : List UInt8) : Prop :=
 ∀ (K : Nat -> Prop) (w : World) (l : List UInt8) (ao : Option Addr) (ac : Nat) (up : Int) (ko : Option Addr) (kc : Nat), Pq w0 o K w c l -> Zaf K w ko q -> l.length + L.length <= 1099511627776 ->
  Calls Tryz.prog 61 #[.pointer (some ⟨c.b, 0, none⟩), .agg (nW x ao ac up ko q.length kc)] w fun e w' => e = .returned (.tuple #[]) /\ Pq w0 o K w' c (l ++ L) /\ Kept K w w'
structure Szd (x : Nd) : Prop where
 n : x.attrs.length <= 1000
 v : ∀ a ∈ x.attrs, a.value.length < 1000000
 d : x.kind = 2 -> x.data.length < 1000000
 k : x.kind <= 255
theorem zjr {w0 : World} {o : Ask} {c : Cf} {x : Nd} {q : List Nat} {L : List UInt8} (hk1 : x.kind = 1) (hz : Szd x) (rin : za7 x.name = false -> Inn w0 o c x q L) (K : Nat -> Prop) (w : World) (l : List UInt8) (ao : Option Addr) (ac : Nat) (up : Int) (ko : Option Addr) (kc : Nat) (h : Pq w0 o K w c l) (ha : Zah K w ao x.attrs) (hi : Zaf K w ko q)
  (hl : l.length + (zdi x.name x.attrs ++ (if za7 x.name = true then [] else L ++ zdm x.name)).length <= 1099511627776) :
  Calls Tryz.prog 118 #[.pointer (some ⟨c.b, 0, none⟩), .agg (nW x ao ac up ko q.length kc)] w fun e w' => e = .returned (.tuple #[]) /\ Pq w0 o K w' c (l ++ (zdi x.name x.attrs ++ (if za7 x.name = true then [] else L ++ zdm x.name))) /\ Kept K w w' := by
 obtain ⟨W, N, hW, hN, hb, hkW, hzW⟩ := zae w (nW x ao ac up ko q.length kc) 46
 have hqW := h.up hkW
 have hlt := h.lt
 obtain ⟨K1, hK1⟩ : ∃ K1 : Nat -> Prop, (fun k => K k \/ (w.heap.size <= k /\ k < W.heap.size)) = K1 := ⟨_, rfl⟩
 rw [hK1] at hqW
 have hKK : ∀ k, K k -> K1 k := fun k h => by rw [<- hK1]; exact .inl h
 have hNK : K1 N := by rw [<- hK1]; exact .inr ⟨by omega, by omega⟩
 have haW : Zah K1 W ao x.attrs := ha.go hKK (hkW.mono hlt)
 have hiW : Zaf K1 W ko q := hi.go hKK (hkW.mono hlt)
 obtain ⟨st, hst⟩ : ∃ s, zdi x.name x.attrs = s := ⟨_, rfl⟩
 rw [hst, List.length_append] at hl
 have r1 := zf2 K1 c x.name x.attrs ao x.attrs.length ac rfl hz.n hz.v l W hqW.pg haW (by rw [hst]; omega)
 rw [hst] at r1 ⊢
 have HQ : Hid (Pq w0 o K w c l) := h
 have HQW : Hid (Pq w0 o K1 W c l) := hqW
 have HIW : Hid (Zaf K1 W ko q) := hiW
 have HKW : Hid (Kept (fun k => k < w.heap.size) w W) := hkW
 have HB : Hid (W.heap[N]? = some (.cells (nW x ao ac up ko q.length kc) 46 (0, 0))) := hb
 have HNK : Hid (K1 N) := hNK
 have HKK : Hid (∀ k, K k -> K1 k) := hKK
 have HLT : Hid (∀ k, K k -> k < w.heap.size) := hlt
 have HW : Hid (w.alloc (.cells (nW x ao ac up ko q.length kc) 46) = W) := hW
 have HN : Hid (w.heap.size = N) := hN
 have c1 : W.cell? ⟨N, 1, none⟩ = some (.string ⟨x.name.toArray⟩) := by rw [zaa hb]; rfl
 have c3 : W.cell? ⟨N, 3, none⟩ = some (.slice ao x.attrs.length ac) := by rw [zaa hb]; rfl
 have HV : Hid (isV x = za7 x.name) := by show isV x = za7 x.name; unfold isV; rw [hk1]; rfl
 have RIN : Hid (za7 x.name = false -> Inn w0 o c x q L) := rin
 obtain ⟨v, hv⟩ : ∃ v, za7 x.name = v := ⟨_, rfl⟩
 rw [hv] at hl ⊢ RIN HV
 clear h ha hi hW hN hb hkW hzW hqW hK1 hKK hNK haW hiW hst hz hlt rin hv
 cases v with
 | true =>
  rw [if_pos rfl, List.append_nil]
  clear hl RIN
  go_enter Tryz.func118, Tryz.ntmps118
  go_upto_region 1 with fail
  rw [HW.out, HN.out]
  clear HW HN
  go_wp2_with fail
  refine r1.mono ?_
  rintro e X ⟨rfl, hPX, hKX⟩
  have hbX : X.heap[N]? = some (.cells (nW x ao ac up ko q.length kc) 46 (0, 0)) := (hKX.block N HNK.out).trans HB.out
  have r2 := zc7 x ao ac up ko q.length kc X
  rw [HV.out] at r2
  have hqX := HQW.out.step hPX hKX
  have HQX : Hid (Pq w0 o K1 X c (l ++ st)) := hqX
  have HKX : Hid (Kept K1 W X) := hKX
  clear r1 hPX hKX c1 c3 hqX
  go_wp2_with (refine wpList_load_row rfl 46 _ rfl N rfl 46 (nW x ao ac up ko q.length kc) (0, 0) _ hbX Tryz.underlying46 rfl (zdu _ rfl) ?_)
  refine r2.mono ?_
  rintro e Y ⟨rfl, hKY⟩
  have HQY : Hid (Pq w0 o K Y c (l ++ st)) := HQ.out.back (HQX.out.stay hKY) HKK.out
  have HKY : Hid (Kept K w Y) := ((HKW.out.mono HLT.out).trans (HKX.out.mono HKK.out)).trans (hKY.mono fun k h => HQX.out.lt k (HKK.out k h))
  clear r2 hKY hbX
  go_wp2
  refine bodyPost_ret (results_none rfl _ _ _) rfl ?_
  exact ⟨rfl, HQY.out, HKY.out⟩
 | false =>
  rw [if_neg (by decide)] at hl ⊢
  rw [List.length_append] at hl
  have rin := RIN.out rfl
  have HRI : Hid (Inn w0 o c x q L) := rin
  have HLL : Hid (l.length + (st.length + (L.length + (zdm x.name).length)) <= 1099511627776) := hl
  clear RIN rin hl
  obtain ⟨F, hF⟩ : ∃ F, l ++ (st ++ (L ++ zdm x.name)) = F := ⟨_, rfl⟩
  rw [hF]
  have HF : Hid (((l ++ st) ++ L) ++ zdm x.name = F) := by rw [<- hF]; show ((l ++ st) ++ L) ++ zdm x.name = _; simp only [List.append_assoc]
  clear hF
  go_enter Tryz.func118, Tryz.ntmps118
  go_upto_region 1 with fail
  rw [HW.out, HN.out]
  clear HW HN
  go_wp2_with fail
  refine r1.mono ?_
  rintro e X ⟨rfl, hPX, hKX⟩
  have hbX : X.heap[N]? = some (.cells (nW x ao ac up ko q.length kc) 46 (0, 0)) := (hKX.block N HNK.out).trans HB.out
  have r2 := zc7 x ao ac up ko q.length kc X
  rw [HV.out] at r2
  have hqX := HQW.out.step hPX hKX
  have HQX : Hid (Pq w0 o K1 X c (l ++ st)) := hqX
  have HKX : Hid (Kept K1 W X) := hKX
  have HBX : Hid (X.heap[N]? = some (.cells (nW x ao ac up ko q.length kc) 46 (0, 0))) := hbX
  clear r1 hPX hKX c1 c3 hqX
  go_wp2_with (refine wpList_load_row rfl 46 _ rfl N rfl 46 (nW x ao ac up ko q.length kc) (0, 0) _ hbX Tryz.underlying46 rfl (zdu _ rfl) ?_)
  refine r2.mono ?_
  rintro e Y ⟨rfl, hKY⟩
  have hqY := HQX.out.stay hKY
  have hbY : Y.heap[N]? = some (.cells (nW x ao ac up ko q.length kc) 46 (0, 0)) := (hKY.block N (zac HBX.out)).trans HBX.out
  have hkY1 : Kept K1 W Y := HKX.out.trans (hKY.mono fun k h => HQX.out.lt k h)
  have r3 := HRI.out K1 Y (l ++ st) ao ac up ko kc hqY (HIW.out.go (fun _ h => h) hkY1) (by have := HLL.out; rw [List.length_append]; omega)
  have HKY : Hid (Kept K1 W Y) := hkY1
  have HBY : Hid (Y.heap[N]? = some (.cells (nW x ao ac up ko q.length kc) 46 (0, 0))) := hbY
  clear r2 hKY hqY hkY1 hbX HBX HKX HQX HIW
  go_wp2_with (refine wpList_load_row rfl 46 _ rfl N rfl 46 (nW x ao ac up ko q.length kc) (0, 0) _ hbY Tryz.underlying46 rfl (zdu _ rfl) ?_)
  refine r3.mono ?_
  rintro e Z ⟨rfl, hqZ, hKZ⟩
  have hbZ : Z.heap[N]? = some (.cells (nW x ao ac up ko q.length kc) 46 (0, 0)) := (hKZ.block N HNK.out).trans HBY.out
  have d1 : Z.cell? ⟨N, 1, none⟩ = some (.string ⟨x.name.toArray⟩) := by rw [zaa hbZ]; rfl
  have r4 := zjy K1 c x.name ((l ++ st) ++ L) Z hqZ.pg (by have := HLL.out; rw [List.length_append, List.length_append]; omega)
  rw [HF.out] at r4
  have HQZ : Hid (Pq w0 o K1 Z c ((l ++ st) ++ L)) := hqZ
  have HKZ : Hid (Kept K1 W Z) := HKY.out.trans hKZ
  clear r3 hqZ hKZ hbY hbZ HBY HKY
  go_wp2_with fail
  refine r4.mono ?_
  rintro e U ⟨rfl, hPU, hKU⟩
  have HQU : Hid (Pq w0 o K U c F) := HQ.out.back (HQZ.out.step hPU hKU) HKK.out
  have HKU : Hid (Kept K w U) := (HKW.out.mono HLT.out).trans ((HKZ.out.trans hKU).mono HKK.out)
  clear r4 hPU hKU d1
  go_wp2
  go_end0
  exact ⟨rfl, HQU.out, HKU.out⟩
end
section
open Go.RowKit
set_option linter.unusedVariables false
set_option maxRecDepth 100000
set_option maxHeartbeats 4000000
def zb1 (L : List UInt8) (x : Nd) (raw : Bool) : List UInt8 :=
 if x.kind = 1 then zdi x.name x.attrs ++ (if za7 x.name = true then [] else L ++ zdm x.name)
 else if x.kind = 2 then (if raw = true then x.data else esc false x.data)
 else if x.kind = 3 then [60, 33, 45, 45] ++ (x.data ++ [45, 45, 62])
 else if x.kind = 6 then zld ++ (x.name ++ [62])
 else if x.kind = 4 \/ x.kind = 5 then L else []
theorem zn4 (inn : Nat -> List UInt8) (x : Nd) (i : Nat) (raw : Bool) : zq0 inn x i raw = zb1 (inn i) x raw := rfl
theorem ziz {w0 : World} {o : Ask} {c : Cf} {x : Nd} {q : List Nat} {L : List UInt8} (hz : Szd x) (rin : isV x = false -> Inn w0 o c x q L) (raw : Bool) (K : Nat -> Prop) (w : World) (l : List UInt8) (ao : Option Addr) (ac : Nat) (up : Int) (ko : Option Addr) (kc : Nat) (h : Pq w0 o K w c l) (ha : Zah K w ao x.attrs) (hi : Zaf K w ko q)
  (hl : l.length + (zb1 L x raw).length <= 1099511627776) :
  Calls Tryz.prog 65 #[.pointer (some ⟨c.b, 0, none⟩), .agg (nW x ao ac up ko q.length kc), .bool raw] w fun e w' => e = .returned (.tuple #[]) /\ Pq w0 o K w' c (l ++ zb1 L x raw) /\ Kept K w w' := by
 obtain ⟨W, N, hW, hN, hb, hkW, hzW⟩ := zae w (nW x ao ac up ko q.length kc) 46
 have hqW := h.stay hkW
 have hlt := h.lt
 have haW : Zah K W ao x.attrs := ha.go (fun _ h => h) (hkW.mono hlt)
 have hiW : Zaf K W ko q := hi.go (fun _ h => h) (hkW.mono hlt)
 have HQW : Hid (Pq w0 o K W c l) := hqW
 have HKW : Hid (Kept K w W) := hkW.mono hlt
 have HB : Hid (W.heap[N]? = some (.cells (nW x ao ac up ko q.length kc) 46 (0, 0))) := hb
 have HW : Hid (w.alloc (.cells (nW x ao ac up ko q.length kc) 46) = W) := hW
 have HN : Hid (w.heap.size = N) := hN
 have c0 : W.cell? ⟨N, 0, none⟩ = some (.int .u8 (x.kind : Int)) := by rw [zaa hb]; rfl
 have c1 : W.cell? ⟨N, 1, none⟩ = some (.string ⟨x.name.toArray⟩) := by rw [zaa hb]; rfl
 have c2 : W.cell? ⟨N, 2, none⟩ = some (.string ⟨x.data.toArray⟩) := by rw [zaa hb]; rfl
 clear h ha hi hW hN hkW hzW hlt
 by_cases k1 : x.kind = 1
 ·have e1 : ((x.kind : Int) == 1) = true := by rw [k1]; rfl
  have e2 : ((x.kind : Int) == 2) = false := by simp; omega
  have e3 : ((x.kind : Int) == 3) = false := by simp; omega
  have e6 : ((x.kind : Int) == 6) = false := by simp; omega
  have e4 : ((x.kind : Int) == 4) = false := by simp; omega
  have e5 : ((x.kind : Int) == 5) = false := by simp; omega
  have eo : zb1 L x raw = zdi x.name x.attrs ++ (if za7 x.name = true then [] else L ++ zdm x.name) := if_pos k1
  have r := zjr k1 hz (fun hv => rin (by unfold isV; rw [hv, Bool.and_false])) K W l ao ac up ko kc hqW haW hiW (by rw [<- eo]; exact hl)
  rw [<- eo] at r
  obtain ⟨F, hF⟩ : ∃ F, l ++ zb1 L x raw = F := ⟨_, rfl⟩
  rw [hF]
  rw [hF] at r
  clear k1 hz rin hl HB hF eo haW hiW hqW
  go_enter Tryz.func65, Tryz.ntmps65
  go_upto_region 1 with fail
  rw [HW.out, HN.out]
  clear HW HN
  go_wp2_with (refine wpList_load_row rfl 46 _ rfl N rfl 46 (nW x ao ac up ko q.length kc) (0, 0) _ hb Tryz.underlying46 rfl (zdu _ rfl) ?_)
  refine r.mono ?_
  rintro e X ⟨rfl, hQ, hK⟩
  have HQ : Hid (Pq w0 o K X c F) := hQ
  have HK : Hid (Kept K w X) := HKW.out.trans hK
  clear r hQ hK c0 c1 c2
  go_wp2
  go_end0
  exact ⟨rfl, HQ.out, HK.out⟩
 by_cases k2 : x.kind = 2
 ·have e1 : ((x.kind : Int) == 1) = false := by simp; omega
  have e2 : ((x.kind : Int) == 2) = true := by rw [k2]; rfl
  have e3 : ((x.kind : Int) == 3) = false := by simp; omega
  have e6 : ((x.kind : Int) == 6) = false := by simp; omega
  have e4 : ((x.kind : Int) == 4) = false := by simp; omega
  have e5 : ((x.kind : Int) == 5) = false := by simp; omega
  have eo : zb1 L x raw = (if raw = true then x.data else esc false x.data) := by unfold zb1; rw [if_neg k1, if_pos k2]
  have r := zpq K c x.data raw l W hqW.pg (hz.d k2) (by rw [<- eo]; exact hl)
  rw [<- eo] at r
  obtain ⟨F, hF⟩ : ∃ F, l ++ zb1 L x raw = F := ⟨_, rfl⟩
  rw [hF]
  rw [hF] at r
  clear k2 hz rin hl HB hF eo haW hiW hqW hb k1
  go_enter Tryz.func65, Tryz.ntmps65
  go_upto_region 1 with fail
  rw [HW.out, HN.out]
  clear HW HN
  go_wp2_with fail
  refine r.mono ?_
  rintro e X ⟨rfl, hP, hK⟩
  have HQ : Hid (Pq w0 o K X c F) := HQW.out.step hP hK
  have HK : Hid (Kept K w X) := HKW.out.trans hK
  clear r hP hK c0 c1 c2
  go_wp2
  go_end0
  exact ⟨rfl, HQ.out, HK.out⟩
 by_cases k3 : x.kind = 3
 ·have e1 : ((x.kind : Int) == 1) = false := by simp; omega
  have e2 : ((x.kind : Int) == 2) = false := by simp; omega
  have e3 : ((x.kind : Int) == 3) = true := by rw [k3]; rfl
  have e6 : ((x.kind : Int) == 6) = false := by simp; omega
  have e4 : ((x.kind : Int) == 4) = false := by simp; omega
  have e5 : ((x.kind : Int) == 5) = false := by simp; omega
  have eo : zb1 L x raw = [60, 33, 45, 45] ++ (x.data ++ [45, 45, 62]) := by unfold zb1; rw [if_neg k1, if_neg k2, if_pos k3]
  have ec : cat [⟨#[60, 33, 45, 45]⟩, ⟨x.data.toArray⟩, ⟨#[45, 45, 62]⟩] = zb1 L x raw := by rw [eo]; simp [cat]
  have r := zc3 K c [⟨#[60, 33, 45, 45]⟩, ⟨x.data.toArray⟩, ⟨#[45, 45, 62]⟩] #[.string ⟨#[60, 33, 45, 45]⟩, .string ⟨x.data.toArray⟩, .string ⟨#[45, 45, 62]⟩] rfl 3 rfl (by decide) l W hqW.pg (by rw [ec]; exact hl)
  rw [ec] at r
  obtain ⟨F, hF⟩ : ∃ F, l ++ zb1 L x raw = F := ⟨_, rfl⟩
  rw [hF]
  rw [hF] at r
  clear k3 hz rin hl HB hF eo ec haW hiW hqW hb k1 k2
  go_enter Tryz.func65, Tryz.ntmps65
  go_upto_region 1 with fail
  rw [HW.out, HN.out]
  clear HW HN
  go_wp2_with fail
  refine r.mono ?_
  rintro e X ⟨rfl, hP, hK⟩
  have HQ : Hid (Pq w0 o K X c F) := HQW.out.step hP hK
  have HK : Hid (Kept K w X) := HKW.out.trans hK
  clear r hP hK c0 c1 c2
  go_wp2
  go_end0
  exact ⟨rfl, HQ.out, HK.out⟩
 by_cases k6 : x.kind = 6
 ·have e1 : ((x.kind : Int) == 1) = false := by simp; omega
  have e2 : ((x.kind : Int) == 2) = false := by simp; omega
  have e3 : ((x.kind : Int) == 3) = false := by simp; omega
  have e6 : ((x.kind : Int) == 6) = true := by rw [k6]; rfl
  have e4 : ((x.kind : Int) == 4) = false := by simp; omega
  have e5 : ((x.kind : Int) == 5) = false := by simp; omega
  have eo : zb1 L x raw = zld ++ (x.name ++ [62]) := by unfold zb1; rw [if_neg k1, if_neg k2, if_neg k3, if_pos k6]
  have ec : cat [⟨#[60, 33, 68, 79, 67, 84, 89, 80, 69, 32]⟩, ⟨x.name.toArray⟩, ⟨#[62]⟩] = zb1 L x raw := by rw [eo]; simp [cat, zld]
  have r := zc3 K c [⟨#[60, 33, 68, 79, 67, 84, 89, 80, 69, 32]⟩, ⟨x.name.toArray⟩, ⟨#[62]⟩] #[.string ⟨#[60, 33, 68, 79, 67, 84, 89, 80, 69, 32]⟩, .string ⟨x.name.toArray⟩, .string ⟨#[62]⟩] rfl 3 rfl (by decide) l W hqW.pg (by rw [ec]; exact hl)
  rw [ec] at r
  obtain ⟨F, hF⟩ : ∃ F, l ++ zb1 L x raw = F := ⟨_, rfl⟩
  rw [hF]
  rw [hF] at r
  clear k6 hz rin hl HB hF eo ec haW hiW hqW hb k1 k2 k3
  go_enter Tryz.func65, Tryz.ntmps65
  go_upto_region 1 with fail
  rw [HW.out, HN.out]
  clear HW HN
  go_wp2_with fail
  refine r.mono ?_
  rintro e X ⟨rfl, hP, hK⟩
  have HQ : Hid (Pq w0 o K X c F) := HQW.out.step hP hK
  have HK : Hid (Kept K w X) := HKW.out.trans hK
  clear r hP hK c0 c1 c2
  go_wp2
  go_end0
  exact ⟨rfl, HQ.out, HK.out⟩
 by_cases k4 : x.kind = 4
 ·have e1 : ((x.kind : Int) == 1) = false := by simp; omega
  have e2 : ((x.kind : Int) == 2) = false := by simp; omega
  have e3 : ((x.kind : Int) == 3) = false := by simp; omega
  have e6 : ((x.kind : Int) == 6) = false := by simp; omega
  have e4 : ((x.kind : Int) == 4) = true := by rw [k4]; rfl
  have e5 : ((x.kind : Int) == 5) = false := by simp; omega
  have eo : zb1 L x raw = L := by unfold zb1; rw [if_neg k1, if_neg k2, if_neg k3, if_neg k6, if_pos (by omega)]
  have r := rin (by unfold isV; rw [decide_eq_false k1]; rfl) K W l ao ac up ko kc hqW hiW (by rw [<- eo]; exact hl)
  rw [<- eo] at r
  obtain ⟨F, hF⟩ : ∃ F, l ++ zb1 L x raw = F := ⟨_, rfl⟩
  rw [hF]
  rw [hF] at r
  clear k4 hz rin hl HB hF eo haW hiW hqW k1 k2 k3 k6
  go_enter Tryz.func65, Tryz.ntmps65
  go_upto_region 1 with fail
  rw [HW.out, HN.out]
  clear HW HN
  go_wp2_with (refine wpList_load_row rfl 46 _ rfl N rfl 46 (nW x ao ac up ko q.length kc) (0, 0) _ hb Tryz.underlying46 rfl (zdu _ rfl) ?_)
  refine r.mono ?_
  rintro e X ⟨rfl, hQ, hK⟩
  have HQ : Hid (Pq w0 o K X c F) := hQ
  have HK : Hid (Kept K w X) := HKW.out.trans hK
  clear r hQ hK c0 c1 c2
  go_wp2
  go_end0
  exact ⟨rfl, HQ.out, HK.out⟩
 by_cases k5 : x.kind = 5
 ·have e1 : ((x.kind : Int) == 1) = false := by simp; omega
  have e2 : ((x.kind : Int) == 2) = false := by simp; omega
  have e3 : ((x.kind : Int) == 3) = false := by simp; omega
  have e6 : ((x.kind : Int) == 6) = false := by simp; omega
  have e4 : ((x.kind : Int) == 4) = false := by simp; omega
  have e5 : ((x.kind : Int) == 5) = true := by rw [k5]; rfl
  have eo : zb1 L x raw = L := by unfold zb1; rw [if_neg k1, if_neg k2, if_neg k3, if_neg k6, if_pos (by omega)]
  have r := rin (by unfold isV; rw [decide_eq_false k1]; rfl) K W l ao ac up ko kc hqW hiW (by rw [<- eo]; exact hl)
  rw [<- eo] at r
  obtain ⟨F, hF⟩ : ∃ F, l ++ zb1 L x raw = F := ⟨_, rfl⟩
  rw [hF]
  rw [hF] at r
  clear k5 hz rin hl HB hF eo haW hiW hqW k1 k2 k3 k6 k4
  go_enter Tryz.func65, Tryz.ntmps65
  go_upto_region 1 with fail
  rw [HW.out, HN.out]
  clear HW HN
  go_wp2_with (refine wpList_load_row rfl 46 _ rfl N rfl 46 (nW x ao ac up ko q.length kc) (0, 0) _ hb Tryz.underlying46 rfl (zdu _ rfl) ?_)
  refine r.mono ?_
  rintro e X ⟨rfl, hQ, hK⟩
  have HQ : Hid (Pq w0 o K X c F) := hQ
  have HK : Hid (Kept K w X) := HKW.out.trans hK
  clear r hQ hK c0 c1 c2
  go_wp2
  go_end0
  exact ⟨rfl, HQ.out, HK.out⟩
 have eo : zb1 L x raw = [] := by unfold zb1; rw [if_neg k1, if_neg k2, if_neg k3, if_neg k6, if_neg (by omega)]
 rw [eo, List.append_nil]
 have e1 : ((x.kind : Int) == 1) = false := by simp; omega
 have e2 : ((x.kind : Int) == 2) = false := by simp; omega
 have e3 : ((x.kind : Int) == 3) = false := by simp; omega
 have e6 : ((x.kind : Int) == 6) = false := by simp; omega
 have e4 : ((x.kind : Int) == 4) = false := by simp; omega
 have e5 : ((x.kind : Int) == 5) = false := by simp; omega
 clear k1 k2 k3 k4 k5 k6 hz rin hl HB eo haW hiW hqW hb
 go_enter Tryz.func65, Tryz.ntmps65
 go_upto_region 1 with fail
 rw [HW.out, HN.out]
 clear HW HN
 go_wp2
 go_end0
 exact ⟨rfl, HQW.out, HKW.out⟩
end
section
open Go.RowKit
set_option linter.unusedVariables false
set_option maxRecDepth 100000
set_option maxHeartbeats 4000000
def zhk (L : List UInt8) (x : Nd) (a sr : Bool) : List UInt8 := if (a || (sr && x.fl.d)) = true then zdi zbp (flA x.fl) ++ (L ++ zdm zbp) else []
theorem zo8 (f : Fg) : (flA f).length <= 5 := by
 unfold flA
 simp only [List.length_append, List.length_cons, List.length_nil]
 have : ∀ (q : Bool) (a : Atr), (if q = true then [a] else []).length <= 1 := fun q a => by cases q <;> simp
 have h1 := this f.c ⟨zn1, []⟩
 have h2 := this f.d ⟨zm5, []⟩
 have h3 := this f.b ⟨znb, zoc⟩
 have h4 := this f.e ⟨zn2, []⟩
 omega
theorem zot (f : Fg) : ∀ a ∈ flA f, a.value.length < 1000000 := by
 intro a ha
 unfold flA at ha
 have key : ∀ (q : Bool) (b : Atr), b.value.length <= 6 -> a ∈ (if q = true then [b] else []) -> a.value.length <= 6 := fun q b hb h => by
  cases q with
  | true => rw [if_pos rfl, List.mem_singleton] at h; rw [h]; exact hb
  | false => rw [if_neg (by decide)] at h; cases h
 have k2 : a.value.length <= 6 := by
  rcases List.mem_append.1 ha with h | h
  ·rw [List.mem_singleton] at h; rw [h]; show (if f.a = true then zng else zom).length <= 6; split <;> decide
  rcases List.mem_append.1 h with h | h
  ·exact key _ _ (by decide) h
  rcases List.mem_append.1 h with h | h
  ·exact key _ _ (by decide) h
  rcases List.mem_append.1 h with h | h
  ·exact key _ _ (by decide) h
  ·exact key _ _ (by decide) h
 omega
theorem zqj {w0 : World} {o : Ask} {c : Cf} {x : Nd} {q : List Nat} {L : List UInt8} (rin : Inn w0 o c x q L) (s : Nat) (hs : s < c.n) (hc : c.n <= 1000000) (up : Int) (K : Nat -> Prop) (w : World) (l : List UInt8) (h : Pq w0 o K w c l)
  (r9 : Calls Tryz.prog 20 #[.pointer (some ⟨c.d, 0, none⟩), .int .i64 (s : Int)] w fun e w' => Told w x up q e w')
  (hl : l.length + (zhk L x (o.A s) o.ser).length <= 1099511627776) :
  Calls Tryz.prog 117 #[.pointer (some ⟨c.b, 0, none⟩), .int .i64 (s : Int)] w fun e w' => e = .returned (.tuple #[]) /\ Pq w0 o K w' c (l ++ zhk L x (o.A s) o.ser) /\ Kept K w w' := by
 obtain ⟨F, hF⟩ : ∃ F, l ++ zhk L x (o.A s) o.ser = F := ⟨_, rfl⟩
 rw [hF]
 have HF : Hid (l ++ zhk L x (o.A s) o.ser = F) := hF
 have HL : Hid (l.length + (zhk L x (o.A s) o.ser).length <= 1099511627776) := hl
 have HQ : Hid (Pq w0 o K w c l) := h
 have p2 := h.pg.cells.1
 have hsc : (s : Int) < (c.n : Int) := by omega
 have RI : Hid (Inn w0 o c x q L) := rin
 clear hF hl h rin
 obtain ⟨a, hA⟩ : ∃ a, o.A s = a := ⟨_, rfl⟩
 obtain ⟨sr, hsr⟩ : ∃ b, o.ser = b := ⟨_, rfl⟩
 obtain ⟨⟨fa, fb, fc, fd, fe⟩, hfl⟩ : ∃ f, x.fl = f := ⟨_, rfl⟩
 have HFL : Hid (x.fl = ⟨fa, fb, fc, fd, fe⟩) := hfl
 have HA : Hid (o.A s = a) := hA
 have HSR : Hid (o.ser = sr) := hsr
 have HX : Hid (zhk L x (o.A s) o.ser = if (a || (sr && fd)) = true then zdi zbp (flA x.fl) ++ (L ++ zdm zbp) else []) := by show zhk L x (o.A s) o.ser = _; unfold zhk; rw [hA, hsr, hfl]
 rw [HX.out] at HF HL
 clear hfl hA hsr HX
 cases a with
 | true =>
  rw [if_pos (by rfl)] at HF HL
  go_enter Tryz.func117, Tryz.ntmps117
  go_wp2_with fail
  refine r9.mono ?_
  rintro e w1 ⟨ao, ac, ko, kc, rfl, hAt, hQt, hK⟩
  obtain ⟨V, N, hV, hN, hb, hk, hzV⟩ := zae w1 (nW x ao ac up ko q.length kc) 46
  have hkV : Kept (fun k => k < w.heap.size) w V := hK.trans (hk.mono fun k h => ltl h hK.size)
  have hqV := HQ.out.up hkV
  obtain ⟨K1, hK1⟩ : ∃ K1 : Nat -> Prop, (fun k => K k \/ (w.heap.size <= k /\ k < V.heap.size)) = K1 := ⟨_, rfl⟩
  rw [hK1] at hqV
  have hKK : ∀ k, K k -> K1 k := fun k h => by rw [<- hK1]; exact .inl h
  have hNK : K1 N := by rw [<- hK1]; exact .inr ⟨by have := hK.size; omega, by omega⟩
  have hiV : Zaf K1 V ko q := by
   have h1 : Zaf (fun k => w.heap.size <= k /\ k < w1.heap.size) w1 ko q := hQt.intsAt fun g hg => ⟨Nat.le_of_not_lt (Zad.out hQt hg).1, (Zad.out hQt hg).2⟩
   refine h1.go (fun k h => ?_) (hk.mono fun k h => h.2)
   rw [<- hK1]; exact .inr ⟨h.1, by omega⟩
  have g9 : V.cell? ⟨N, 9, none⟩ = some (.bool fa) := by rw [zaa hb]; show some (Value.bool x.fl.a) = _; rw [HFL.out]
  have g10 : V.cell? ⟨N, 10, none⟩ = some (.bool fb) := by rw [zaa hb]; show some (Value.bool x.fl.b) = _; rw [HFL.out]
  have g11 : V.cell? ⟨N, 11, none⟩ = some (.bool fc) := by rw [zaa hb]; show some (Value.bool x.fl.c) = _; rw [HFL.out]
  have g12 : V.cell? ⟨N, 12, none⟩ = some (.bool fd) := by rw [zaa hb]; show some (Value.bool x.fl.d) = _; rw [HFL.out]
  have g13 : V.cell? ⟨N, 13, none⟩ = some (.bool fe) := by rw [zaa hb]; show some (Value.bool x.fl.e) = _; rw [HFL.out]
  obtain ⟨-, p3, p4⟩ := hqV.pg.cells
  rw [hqV.sr, HSR.out] at p3
  have pa := hqV.ask.at hs
  rw [HA.out] at pa
  have HQV : Hid (Pq w0 o K1 V c l) := hqV
  have HIV : Hid (Zaf K1 V ko q) := hiV
  have HKV : Hid (Kept (fun k => k < w.heap.size) w V) := hkV
  have HB : Hid (V.heap[N]? = some (.cells (nW x ao ac up ko q.length kc) 46 (0, 0))) := hb
  have HNK : Hid (K1 N) := hNK
  have HKK : Hid (∀ k, K k -> K1 k) := hKK
  have HV : Hid (w1.alloc (.cells (nW x ao ac up ko q.length kc) 46) = V) := hV
  have HN : Hid (w1.heap.size = N) := hN
  clear r9 hAt hQt hK hV hN hb hk hzV hkV hqV hK1 hKK hNK hiV p2
  go_upto_region 1 with fail
  rw [HV.out, HN.out]
  clear HV HN
  have rw' := zfr ⟨fa, fb, fc, fd, fe⟩ V
  go_wp2_with fail
  refine rw'.mono ?_
  rintro e X ⟨wa, wc, rfl, hO, hKX⟩
  have hqX := HQV.out.up hKX
  obtain ⟨K2, hK2⟩ : ∃ K2 : Nat -> Prop, (fun k => K1 k \/ (V.heap.size <= k /\ k < X.heap.size)) = K2 := ⟨_, rfl⟩
  rw [hK2] at hqX
  have hK12 : ∀ k, K1 k -> K2 k := fun k h => by rw [<- hK2]; exact .inl h
  have haX : Zah K2 X wa (flA ⟨fa, fb, fc, fd, fe⟩) := hO.atsAt (K' := K2) fun g hg => by
   rw [<- hK2]; exact .inr ⟨Nat.le_of_not_lt (Zad.out hO hg).1, (Zad.out hO hg).2⟩
  obtain ⟨st, hst⟩ : ∃ t, zdi zbp (flA x.fl) = t := ⟨_, rfl⟩
  have hll := HL.out
  rw [hst, List.length_append, List.length_append] at hll
  have hff := HF.out
  rw [hst] at hff
  rw [HFL.out] at hst
  have rs := zf2 K2 c zbp (flA ⟨fa, fb, fc, fd, fe⟩) wa _ wc rfl (by have := zo8 ⟨fa, fb, fc, fd, fe⟩; omega) (zot _) l X hqX.pg haX (by rw [hst]; omega)
  rw [hst] at rs
  have HQX : Hid (Pq w0 o K2 X c l) := hqX
  have H12 : Hid (∀ k, K1 k -> K2 k) := hK12
  have HKX : Hid (Kept (fun k => k < V.heap.size) V X) := hKX
  have HLL : Hid (l.length + (st.length + (L.length + (zdm zbp).length)) <= 1099511627776) := hll
  have HFF : Hid (l ++ (st ++ (L ++ zdm zbp)) = F) := hff
  clear rw' hO hKX hqX hK2 hK12 haX hst hll hff HF HL g9 g10 g11 g12 g13 p3 p4 pa HFL
  go_wp2_with fail
  refine rs.mono ?_
  rintro e Y ⟨rfl, hPY, hKY⟩
  have hqY := HQX.out.step hPY hKY
  have hVY : Kept K1 V Y := (HKX.out.mono HQV.out.lt).trans (hKY.mono H12.out)
  have hbY : Y.heap[N]? = some (.cells (nW x ao ac up ko q.length kc) 46 (0, 0)) := (hVY.block N HNK.out).trans HB.out
  have hqY1 := HQV.out.back hqY H12.out
  have ri := RI.out K1 Y (l ++ st) ao ac up ko kc hqY1 (HIV.out.go (fun _ h => h) hVY) (by have := HLL.out; rw [List.length_append]; omega)
  have HVY : Hid (Kept K1 V Y) := hVY
  clear rs hPY hKY hqY hVY hqY1
  go_wp2_with (refine wpList_load_row rfl 46 _ rfl N rfl 46 (nW x ao ac up ko q.length kc) (0, 0) _ hbY Tryz.underlying46 rfl (zdu _ rfl) ?_)
  refine ri.mono ?_
  rintro e Z ⟨rfl, hqZ, hKZ⟩
  have re := zjy K1 c zbp ((l ++ st) ++ L) Z hqZ.pg (by have := HLL.out; rw [List.length_append, List.length_append]; omega)
  have HQZ : Hid (Pq w0 o K1 Z c ((l ++ st) ++ L)) := hqZ
  have HKZ : Hid (Kept K1 V Z) := HVY.out.trans hKZ
  clear ri hqZ hKZ hbY HVY
  go_wp2_with fail
  refine re.mono ?_
  rintro e U ⟨rfl, hPU, hKU⟩
  have hqU := HQ.out.back (HQZ.out.step hPU hKU) HKK.out
  rw [List.append_assoc, List.append_assoc, HFF.out] at hqU
  have HQU : Hid (Pq w0 o K U c F) := hqU
  have HKU : Hid (Kept K w U) := (HKV.out.mono HQ.out.lt).trans ((HKZ.out.trans hKU).mono HKK.out)
  clear re hPU hKU hqU
  go_wp2
  go_end0
  exact ⟨rfl, HQU.out, HKU.out⟩
 | false =>
  cases sr with
  | false =>
   rw [if_neg (by simp), List.append_nil] at HF
   go_enter Tryz.func117, Tryz.ntmps117
   go_wp2_with fail
   refine r9.mono ?_
   rintro e w1 ⟨ao, ac, ko, kc, rfl, hAt, hQt, hK⟩
   obtain ⟨V, N, hV, hN, hb, hk, hzV⟩ := zae w1 (nW x ao ac up ko q.length kc) 46
   have hkV : Kept (fun k => k < w.heap.size) w V := hK.trans (hk.mono fun k h => ltl h hK.size)
   have hqV := HQ.out.up hkV
   obtain ⟨K1, hK1⟩ : ∃ K1 : Nat -> Prop, (fun k => K k \/ (w.heap.size <= k /\ k < V.heap.size)) = K1 := ⟨_, rfl⟩
   rw [hK1] at hqV
   have hKK : ∀ k, K k -> K1 k := fun k h => by rw [<- hK1]; exact .inl h
   have hNK : K1 N := by rw [<- hK1]; exact .inr ⟨by have := hK.size; omega, by omega⟩
   have hiV : Zaf K1 V ko q := by
    have h1 : Zaf (fun k => w.heap.size <= k /\ k < w1.heap.size) w1 ko q := hQt.intsAt fun g hg => ⟨Nat.le_of_not_lt (Zad.out hQt hg).1, (Zad.out hQt hg).2⟩
    refine h1.go (fun k h => ?_) (hk.mono fun k h => h.2)
    rw [<- hK1]; exact .inr ⟨h.1, by omega⟩
   have g9 : V.cell? ⟨N, 9, none⟩ = some (.bool fa) := by rw [zaa hb]; show some (Value.bool x.fl.a) = _; rw [HFL.out]
   have g10 : V.cell? ⟨N, 10, none⟩ = some (.bool fb) := by rw [zaa hb]; show some (Value.bool x.fl.b) = _; rw [HFL.out]
   have g11 : V.cell? ⟨N, 11, none⟩ = some (.bool fc) := by rw [zaa hb]; show some (Value.bool x.fl.c) = _; rw [HFL.out]
   have g12 : V.cell? ⟨N, 12, none⟩ = some (.bool fd) := by rw [zaa hb]; show some (Value.bool x.fl.d) = _; rw [HFL.out]
   have g13 : V.cell? ⟨N, 13, none⟩ = some (.bool fe) := by rw [zaa hb]; show some (Value.bool x.fl.e) = _; rw [HFL.out]
   obtain ⟨-, p3, p4⟩ := hqV.pg.cells
   rw [hqV.sr, HSR.out] at p3
   have pa := hqV.ask.at hs
   rw [HA.out] at pa
   have HQV : Hid (Pq w0 o K1 V c l) := hqV
   have HIV : Hid (Zaf K1 V ko q) := hiV
   have HKV : Hid (Kept (fun k => k < w.heap.size) w V) := hkV
   have HB : Hid (V.heap[N]? = some (.cells (nW x ao ac up ko q.length kc) 46 (0, 0))) := hb
   have HNK : Hid (K1 N) := hNK
   have HKK : Hid (∀ k, K k -> K1 k) := hKK
   have HV : Hid (w1.alloc (.cells (nW x ao ac up ko q.length kc) 46) = V) := hV
   have HN : Hid (w1.heap.size = N) := hN
   clear r9 hAt hQt hK hV hN hb hk hzV hkV hqV hK1 hKK hNK hiV p2
   go_upto_region 1 with fail
   rw [HV.out, HN.out]
   clear HV HN
   go_wp2
   refine bodyPost_ret (results_none rfl _ _ _) rfl ?_
   have hqf := HQ.out.back HQV.out HKK.out
   rw [HF.out] at hqf
   exact ⟨rfl, hqf, HKV.out.mono HQ.out.lt⟩
  | true =>
   cases fd with
   | false =>
    rw [if_neg (by simp), List.append_nil] at HF
    go_enter Tryz.func117, Tryz.ntmps117
    go_wp2_with fail
    refine r9.mono ?_
    rintro e w1 ⟨ao, ac, ko, kc, rfl, hAt, hQt, hK⟩
    obtain ⟨V, N, hV, hN, hb, hk, hzV⟩ := zae w1 (nW x ao ac up ko q.length kc) 46
    have hkV : Kept (fun k => k < w.heap.size) w V := hK.trans (hk.mono fun k h => ltl h hK.size)
    have hqV := HQ.out.up hkV
    obtain ⟨K1, hK1⟩ : ∃ K1 : Nat -> Prop, (fun k => K k \/ (w.heap.size <= k /\ k < V.heap.size)) = K1 := ⟨_, rfl⟩
    rw [hK1] at hqV
    have hKK : ∀ k, K k -> K1 k := fun k h => by rw [<- hK1]; exact .inl h
    have hNK : K1 N := by rw [<- hK1]; exact .inr ⟨by have := hK.size; omega, by omega⟩
    have hiV : Zaf K1 V ko q := by
     have h1 : Zaf (fun k => w.heap.size <= k /\ k < w1.heap.size) w1 ko q := hQt.intsAt fun g hg => ⟨Nat.le_of_not_lt (Zad.out hQt hg).1, (Zad.out hQt hg).2⟩
     refine h1.go (fun k h => ?_) (hk.mono fun k h => h.2)
     rw [<- hK1]; exact .inr ⟨h.1, by omega⟩
    have g9 : V.cell? ⟨N, 9, none⟩ = some (.bool fa) := by rw [zaa hb]; show some (Value.bool x.fl.a) = _; rw [HFL.out]
    have g10 : V.cell? ⟨N, 10, none⟩ = some (.bool fb) := by rw [zaa hb]; show some (Value.bool x.fl.b) = _; rw [HFL.out]
    have g11 : V.cell? ⟨N, 11, none⟩ = some (.bool fc) := by rw [zaa hb]; show some (Value.bool x.fl.c) = _; rw [HFL.out]
    have g12 : V.cell? ⟨N, 12, none⟩ = some (.bool false) := by rw [zaa hb]; show some (Value.bool x.fl.d) = _; rw [HFL.out]
    have g13 : V.cell? ⟨N, 13, none⟩ = some (.bool fe) := by rw [zaa hb]; show some (Value.bool x.fl.e) = _; rw [HFL.out]
    obtain ⟨-, p3, p4⟩ := hqV.pg.cells
    rw [hqV.sr, HSR.out] at p3
    have pa := hqV.ask.at hs
    rw [HA.out] at pa
    have HQV : Hid (Pq w0 o K1 V c l) := hqV
    have HIV : Hid (Zaf K1 V ko q) := hiV
    have HKV : Hid (Kept (fun k => k < w.heap.size) w V) := hkV
    have HB : Hid (V.heap[N]? = some (.cells (nW x ao ac up ko q.length kc) 46 (0, 0))) := hb
    have HNK : Hid (K1 N) := hNK
    have HKK : Hid (∀ k, K k -> K1 k) := hKK
    have HV : Hid (w1.alloc (.cells (nW x ao ac up ko q.length kc) 46) = V) := hV
    have HN : Hid (w1.heap.size = N) := hN
    clear r9 hAt hQt hK hV hN hb hk hzV hkV hqV hK1 hKK hNK hiV p2
    go_upto_region 1 with fail
    rw [HV.out, HN.out]
    clear HV HN
    go_wp2
    refine bodyPost_ret (results_none rfl _ _ _) rfl ?_
    have hqf := HQ.out.back HQV.out HKK.out
    rw [HF.out] at hqf
    exact ⟨rfl, hqf, HKV.out.mono HQ.out.lt⟩
   | true =>
    rw [if_pos (by rfl)] at HF HL
    go_enter Tryz.func117, Tryz.ntmps117
    go_wp2_with fail
    refine r9.mono ?_
    rintro e w1 ⟨ao, ac, ko, kc, rfl, hAt, hQt, hK⟩
    obtain ⟨V, N, hV, hN, hb, hk, hzV⟩ := zae w1 (nW x ao ac up ko q.length kc) 46
    have hkV : Kept (fun k => k < w.heap.size) w V := hK.trans (hk.mono fun k h => ltl h hK.size)
    have hqV := HQ.out.up hkV
    obtain ⟨K1, hK1⟩ : ∃ K1 : Nat -> Prop, (fun k => K k \/ (w.heap.size <= k /\ k < V.heap.size)) = K1 := ⟨_, rfl⟩
    rw [hK1] at hqV
    have hKK : ∀ k, K k -> K1 k := fun k h => by rw [<- hK1]; exact .inl h
    have hNK : K1 N := by rw [<- hK1]; exact .inr ⟨by have := hK.size; omega, by omega⟩
    have hiV : Zaf K1 V ko q := by
     have h1 : Zaf (fun k => w.heap.size <= k /\ k < w1.heap.size) w1 ko q := hQt.intsAt fun g hg => ⟨Nat.le_of_not_lt (Zad.out hQt hg).1, (Zad.out hQt hg).2⟩
     refine h1.go (fun k h => ?_) (hk.mono fun k h => h.2)
     rw [<- hK1]; exact .inr ⟨h.1, by omega⟩
    have g9 : V.cell? ⟨N, 9, none⟩ = some (.bool fa) := by rw [zaa hb]; show some (Value.bool x.fl.a) = _; rw [HFL.out]
    have g10 : V.cell? ⟨N, 10, none⟩ = some (.bool fb) := by rw [zaa hb]; show some (Value.bool x.fl.b) = _; rw [HFL.out]
    have g11 : V.cell? ⟨N, 11, none⟩ = some (.bool fc) := by rw [zaa hb]; show some (Value.bool x.fl.c) = _; rw [HFL.out]
    have g12 : V.cell? ⟨N, 12, none⟩ = some (.bool true) := by rw [zaa hb]; show some (Value.bool x.fl.d) = _; rw [HFL.out]
    have g13 : V.cell? ⟨N, 13, none⟩ = some (.bool fe) := by rw [zaa hb]; show some (Value.bool x.fl.e) = _; rw [HFL.out]
    obtain ⟨-, p3, p4⟩ := hqV.pg.cells
    rw [hqV.sr, HSR.out] at p3
    have pa := hqV.ask.at hs
    rw [HA.out] at pa
    have HQV : Hid (Pq w0 o K1 V c l) := hqV
    have HIV : Hid (Zaf K1 V ko q) := hiV
    have HKV : Hid (Kept (fun k => k < w.heap.size) w V) := hkV
    have HB : Hid (V.heap[N]? = some (.cells (nW x ao ac up ko q.length kc) 46 (0, 0))) := hb
    have HNK : Hid (K1 N) := hNK
    have HKK : Hid (∀ k, K k -> K1 k) := hKK
    have HV : Hid (w1.alloc (.cells (nW x ao ac up ko q.length kc) 46) = V) := hV
    have HN : Hid (w1.heap.size = N) := hN
    clear r9 hAt hQt hK hV hN hb hk hzV hkV hqV hK1 hKK hNK hiV p2
    go_upto_region 1 with fail
    rw [HV.out, HN.out]
    clear HV HN
    have rw' := zfr ⟨fa, fb, fc, true, fe⟩ V
    go_wp2_with fail
    refine rw'.mono ?_
    rintro e X ⟨wa, wc, rfl, hO, hKX⟩
    have hqX := HQV.out.up hKX
    obtain ⟨K2, hK2⟩ : ∃ K2 : Nat -> Prop, (fun k => K1 k \/ (V.heap.size <= k /\ k < X.heap.size)) = K2 := ⟨_, rfl⟩
    rw [hK2] at hqX
    have hK12 : ∀ k, K1 k -> K2 k := fun k h => by rw [<- hK2]; exact .inl h
    have haX : Zah K2 X wa (flA ⟨fa, fb, fc, true, fe⟩) := hO.atsAt (K' := K2) fun g hg => by
     rw [<- hK2]; exact .inr ⟨Nat.le_of_not_lt (Zad.out hO hg).1, (Zad.out hO hg).2⟩
    obtain ⟨st, hst⟩ : ∃ t, zdi zbp (flA x.fl) = t := ⟨_, rfl⟩
    have hll := HL.out
    rw [hst, List.length_append, List.length_append] at hll
    have hff := HF.out
    rw [hst] at hff
    rw [HFL.out] at hst
    have rs := zf2 K2 c zbp (flA ⟨fa, fb, fc, true, fe⟩) wa _ wc rfl (by have := zo8 ⟨fa, fb, fc, true, fe⟩; omega) (zot _) l X hqX.pg haX (by rw [hst]; omega)
    rw [hst] at rs
    have HQX : Hid (Pq w0 o K2 X c l) := hqX
    have H12 : Hid (∀ k, K1 k -> K2 k) := hK12
    have HKX : Hid (Kept (fun k => k < V.heap.size) V X) := hKX
    have HLL : Hid (l.length + (st.length + (L.length + (zdm zbp).length)) <= 1099511627776) := hll
    have HFF : Hid (l ++ (st ++ (L ++ zdm zbp)) = F) := hff
    clear rw' hO hKX hqX hK2 hK12 haX hst hll hff HF HL g9 g10 g11 g12 g13 p3 p4 pa HFL
    go_wp2_with fail
    refine rs.mono ?_
    rintro e Y ⟨rfl, hPY, hKY⟩
    have hqY := HQX.out.step hPY hKY
    have hVY : Kept K1 V Y := (HKX.out.mono HQV.out.lt).trans (hKY.mono H12.out)
    have hbY : Y.heap[N]? = some (.cells (nW x ao ac up ko q.length kc) 46 (0, 0)) := (hVY.block N HNK.out).trans HB.out
    have hqY1 := HQV.out.back hqY H12.out
    have ri := RI.out K1 Y (l ++ st) ao ac up ko kc hqY1 (HIV.out.go (fun _ h => h) hVY) (by have := HLL.out; rw [List.length_append]; omega)
    have HVY : Hid (Kept K1 V Y) := hVY
    clear rs hPY hKY hqY hVY hqY1
    go_wp2_with (refine wpList_load_row rfl 46 _ rfl N rfl 46 (nW x ao ac up ko q.length kc) (0, 0) _ hbY Tryz.underlying46 rfl (zdu _ rfl) ?_)
    refine ri.mono ?_
    rintro e Z ⟨rfl, hqZ, hKZ⟩
    have re := zjy K1 c zbp ((l ++ st) ++ L) Z hqZ.pg (by have := HLL.out; rw [List.length_append, List.length_append]; omega)
    have HQZ : Hid (Pq w0 o K1 Z c ((l ++ st) ++ L)) := hqZ
    have HKZ : Hid (Kept K1 V Z) := HVY.out.trans hKZ
    clear ri hqZ hKZ hbY HVY
    go_wp2_with fail
    refine re.mono ?_
    rintro e U ⟨rfl, hPU, hKU⟩
    have hqU := HQ.out.back (HQZ.out.step hPU hKU) HKK.out
    rw [List.append_assoc, List.append_assoc, HFF.out] at hqU
    have HQU : Hid (Pq w0 o K U c F) := hqU
    have HKU : Hid (Kept K w U) := (HKV.out.mono HQ.out.lt).trans ((HKZ.out.trans hKU).mono HKK.out)
    clear re hPU hKU hqU
    go_wp2
    go_end0
    exact ⟨rfl, HQU.out, HKU.out⟩
end
section
open Go.RowKit
set_option linter.unusedVariables false
set_option maxRecDepth 100000
set_option maxHeartbeats 4000000
theorem Pq.setN {w0 : World} {o : Ask} {K : Nat -> Prop} {w : World} {c : Cf} {l : List UInt8} (h : Pq w0 o K w c l) {N : Nat} (hN : K N) (hg : N ≠ c.g) (h0 : w0.heap.size <= N) (cs : Array Value) : Pq w0 o K (w.setRow N cs) c l := by
 obtain ⟨⟨h1, h2, p, ao, cap, hb, hp, ho⟩, ha, kg, old, kept, sr⟩ := h
 refine ⟨⟨h1, fun k hk => by rw [setRow_size]; exact h2 k hk, p, ao, cap, ?_, hp, ?_⟩, ?_, kg, old, zao kept (fun h => by omega) _, sr⟩
 ·rw [setRow_other _ _ _ _ (fun e => h1 (by rw [<- e] at hN; exact hN))]; exact hb
 ·exact ho.to (fun g hg => (ho.out hg).1) (fun g hg => setRow_other _ _ _ _ (fun e => (ho.out hg).1 (.inl (by rw [<- e] at hN; exact hN))))
 ·obtain ⟨cs', a1, a2, a3⟩ := ha
  exact ⟨cs', by rw [setRow_other _ _ _ _ (fun e => hg (by rw [<- e]))]; exact a1, a2, a3⟩
structure Kid (w0 : World) (o : Ask) (c : Cf) (raw : Bool) (k : Nat) (O : List UInt8) (x : Nd) (up : Int) (q : List Nat) : Prop where
 node : ∀ V, Kept (fun k => k < w0.heap.size) w0 V -> Calls Tryz.prog 20 #[.pointer (some ⟨c.d, 0, none⟩), .int .i64 (k : Int)] V fun e w' => Told V x up q e w'
 out : ∀ (K : Nat -> Prop) (w : World) (l : List UInt8) (ao : Option Addr) (ac : Nat) (ko : Option Addr) (kc : Nat), Pq w0 o K w c l -> Zah K w ao x.attrs -> Zaf K w ko q -> l.length + O.length <= 1099511627776 ->
  Calls Tryz.prog 65 #[.pointer (some ⟨c.b, 0, none⟩), .agg (nW x ao ac up ko q.length kc), .bool raw] w fun e w' => e = .returned (.tuple #[]) /\ Pq w0 o K w' c (l ++ O) /\ Kept K w w'
theorem ztm (x : Nd) (ao : Option Addr) (ac : Nat) (up : Int) (ko : Option Addr) (kn kc : Nat) : (nW x ao ac up ko kn kc).all (·.oneCell') = true := by rw [<- Array.all_toList]; rfl
theorem zt0 (args : Array Value) (X : World) : (callFunc 20 args).run Tryz.prog X = .ok (.enter 20 args) X := zay Tryz.func20 (by kernel_rfl) (c := _) rfl args X
theorem zmd {w0 : World} {o : Ask} {c : Cf} {x : Nd} {q : List Nat} (hv : isV x = true) : Inn w0 o c x q [] := by
 intro K w l ao ac up ko kc h hi hl
 obtain ⟨W, N, hW, hN, hb, hkW, hzW⟩ := zae w (nW x ao ac up ko q.length kc) 46
 have hqW := h.stay hkW
 have r := zc7 x ao ac up ko q.length kc W
 rw [hv] at r
 have HQW : Hid (Pq w0 o K W c l) := hqW
 have HKW : Hid (Kept K w W) := hkW.mono h.lt
 have HW : Hid (w.alloc (.cells (nW x ao ac up ko q.length kc) 46) = W) := hW
 have HN : Hid (w.heap.size = N) := hN
 rw [List.append_nil]
 clear h hi hl hW hN hkW hzW hqW
 go_enter Tryz.func61, Tryz.ntmps61
 go_upto_region 1 with fail
 rw [HW.out, HN.out]
 clear HW HN
 go_wp2_with (refine wpList_load_row rfl 46 _ rfl N rfl 46 (nW x ao ac up ko q.length kc) (0, 0) _ hb Tryz.underlying46 rfl (zdu _ rfl) ?_)
 refine r.mono ?_
 rintro e Y ⟨rfl, hKY⟩
 have HQY : Hid (Pq w0 o K Y c l) := HQW.out.stay hKY
 have HKY : Hid (Kept K w Y) := HKW.out.trans (hKY.mono HQW.out.lt)
 clear r hKY hb
 go_wp2
 refine bodyPost_ret (results_none rfl _ _ _) rfl ?_
 exact ⟨rfl, HQY.out, HKY.out⟩
def Zuq (w0 : World) (o : Ask) (K : Nat -> Prop) (w : World) (c : Cf) (N : Nat) (y : Nd) (q : List Nat) (F : List UInt8) (wx : World) : Prop :=
 ∃ (K2 : Nat -> Prop) (ao : Option Addr) (ac : Nat) (up : Int) (ko : Option Addr) (kc : Nat), (∀ k, K k -> K2 k) /\ K2 N /\ wx.heap[N]? = some (.cells (nW y ao ac up ko q.length kc) 46 (0, 0)) /\ Zaf K2 wx ko q /\ Pq w0 o K2 wx c F /\ Kept K w wx
theorem zn7 {w0 : World} {o : Ask} {c : Cf} {x y : Nd} {q q' : List Nat} {SH KD : List UInt8} (O : Nat -> List UInt8) (xs : Nat -> Nd) (us : Nat -> Int) (qs : Nat -> List Nat) (hv : isV x = false) (hkd : KD = q'.flatMap O) (hq : q'.length <= 1000000) (hqm : ∀ k ∈ q', k <= 1000000)
  (sh0 : x.shadow = -1 -> SH = []) (sh1 : x.shadow ≠ -1 -> -1 <= x.shadow /\ x.shadow <= 1000000 /\ ∀ (K : Nat -> Prop) (w : World) (l : List UInt8), Pq w0 o K w c l -> l.length + SH.length <= 1099511627776 -> Calls Tryz.prog 117 #[.pointer (some ⟨c.b, 0, none⟩), .int .i64 x.shadow] w fun e w' => e = .returned (.tuple #[]) /\ Pq w0 o K w' c (l ++ SH) /\ Kept K w w')
  (co0 : x.content = -1 -> y = x /\ q' = q) (co1 : x.content ≠ -1 -> -1 <= x.content /\ x.content <= 1000000 /\ ∃ up, ∀ V, Kept (fun k => k < w0.heap.size) w0 V -> Calls Tryz.prog 20 #[.pointer (some ⟨c.d, 0, none⟩), .int .i64 x.content] V fun e w' => Told V y up q' e w')
  (kid : ∀ k ∈ q', Kid w0 o c (isR y) k (O k) (xs k) (us k) (qs k)) : Inn w0 o c x q (SH ++ KD) := by
 intro K w l ao ac up ko kc h hi hl
 rw [List.length_append] at hl
 obtain ⟨W, N, hW, hN, hb, hkW, hzW⟩ := zae w (nW x ao ac up ko q.length kc) 46
 have hqW := h.up hkW
 have hlt := h.lt
 have hN0 : w0.heap.size <= N /\ N ≠ c.g := ⟨by have := h.kept.size; omega, by have := hlt _ h.kg; omega⟩
 obtain ⟨K1, hK1⟩ : ∃ K1 : Nat -> Prop, (fun k => K k \/ (w.heap.size <= k /\ k < W.heap.size)) = K1 := ⟨_, rfl⟩
 rw [hK1] at hqW
 have hKK : ∀ k, K k -> K1 k := fun k h => by rw [<- hK1]; exact .inl h
 have hNK : K1 N := by rw [<- hK1]; exact .inr ⟨by omega, by omega⟩
 have hKN : ¬ K N := fun h => by have := hlt N h; omega
 have hiW : Zaf K1 W ko q := hi.go hKK (hkW.mono hlt)
 have r := zc7 x ao ac up ko q.length kc W
 rw [hv] at r
 obtain ⟨F, hF⟩ : ∃ F, l ++ (SH ++ KD) = F := ⟨_, rfl⟩
 rw [hF]
 have HF : Hid ((l ++ SH) ++ KD = F) := by show (l ++ SH) ++ KD = F; rw [List.append_assoc]; exact hF
 have HQ : Hid (Pq w0 o K w c l) := h
 have HQW : Hid (Pq w0 o K1 W c l) := hqW
 have HIW : Hid (Zaf K1 W ko q) := hiW
 have HKW : Hid (Kept K w W) := hkW.mono hlt
 have HB : Hid (W.heap[N]? = some (.cells (nW x ao ac up ko q.length kc) 46 (0, 0))) := hb
 have HNK : Hid (K1 N) := hNK
 have HKN : Hid (¬ K N) := hKN
 have HN0 : Hid (w0.heap.size <= N /\ N ≠ c.g) := hN0
 have HKK : Hid (∀ k, K k -> K1 k) := hKK
 have HLT : Hid (∀ k, K k -> k < w.heap.size) := hlt
 have HW : Hid (w.alloc (.cells (nW x ao ac up ko q.length kc) 46) = W) := hW
 have HN : Hid (w.heap.size = N) := hN
 have HL : Hid (l.length + (SH.length + KD.length) <= 1099511627776) := hl
 have S0 : Hid _ := sh0
 have S1 : Hid _ := sh1
 have C0 : Hid _ := co0
 have C1 : Hid _ := co1
 have HKID : Hid _ := kid
 have HKD : Hid (KD = q'.flatMap O) := hkd
 have HQM : Hid (∀ k ∈ q', k <= 1000000) := hqm
 obtain ⟨shd, hsh⟩ : ∃ z, x.shadow = z := ⟨_, rfl⟩
 obtain ⟨cnt, hco⟩ : ∃ z, x.content = z := ⟨_, rfl⟩
 have HSH : Hid (x.shadow = shd) := hsh
 have HCO : Hid (x.content = cnt) := hco
 clear h hi hl hW hN hkW hzW hqW hK1 hKK hNK hKN hN0 hiW hlt hF sh0 sh1 co0 co1 kid hkd hqm hsh hco
 go_enter Tryz.func61, Tryz.ntmps61
 go_upto_region 1 with fail
 rw [HW.out, HN.out]
 clear HW HN
 go_wp2_with (refine wpList_load_row rfl 46 _ rfl N rfl 46 (nW x ao ac up ko q.length kc) (0, 0) _ hb Tryz.underlying46 rfl (zdu _ rfl) ?_)
 refine r.mono ?_
 rintro e X ⟨rfl, hKX⟩
 have hqX := HQW.out.stay hKX
 have hWX : Kept K1 W X := hKX.mono HQW.out.lt
 have hbX : X.heap[N]? = some (.cells (nW x ao ac up ko q.length kc) 46 (0, 0)) := (hWX.block N HNK.out).trans HB.out
 have c6 : X.cell? ⟨N, 6, none⟩ = some (.int .i64 shd) := by rw [zaa hbX, <- HSH.out]; rfl
 have HQX : Hid (Pq w0 o K1 X c l) := hqX
 have HWX : Hid (Kept K1 W X) := hWX
 have HBX : Hid (X.heap[N]? = some (.cells (nW x ao ac up ko q.length kc) 46 (0, 0))) := hbX
 clear r hKX hqX hWX hbX hb
 go_upto_if 13 with fail
 go_cut [] (fun wx => Pq w0 o K1 wx c (l ++ SH) /\ Kept K1 W wx)
 case first =>
  by_cases hs : shd = -1
  ·subst hs
   have e := S0.out HSH.out
   have HE : Hid (Pq w0 o K1 X c (l ++ SH)) := by rw [e, List.append_nil]; exact HQX.out
   clear e
   go_wp2_with fail
   go_meet
   case rel => exact ⟨HE.out, HWX.out⟩
  ·obtain ⟨h1, h2, rr⟩ := S1.out (by rw [HSH.out]; exact hs)
   rw [HSH.out] at rr h1 h2
   have rr' := rr K1 X l HQX.out (by have := HL.out; omega)
   have hs' : (shd != -1) = true := by simpa using hs
   clear rr hs
   go_wp2_with fail
   refine rr'.mono ?_
   rintro e Y ⟨rfl, hqY, hKY⟩
   have HQY : Hid (Pq w0 o K1 Y c (l ++ SH)) := hqY
   have HKY : Hid (Kept K1 W Y) := HWX.out.trans hKY
   clear rr' hqY hKY
   go_wp2_with fail
   go_meet
   case rel => exact ⟨HQY.out, HKY.out⟩
 case rest =>
 obtain ⟨hq1, hk1⟩ := hcut
 clear c6 HQX HWX HBX
 have hbc : wc.heap[N]? = some (.cells (nW x ao ac up ko q.length kc) 46 (0, 0)) := (hk1.block N HNK.out).trans HB.out
 have c8 : wc.cell? ⟨N, 8, none⟩ = some (.int .i64 cnt) := by rw [zaa hbc, <- HCO.out]; rfl
 have HQ1 : Hid (Pq w0 o K1 wc c (l ++ SH)) := hq1
 have HK1 : Hid (Kept K1 W wc) := hk1
 have HBC : Hid (wc.heap[N]? = some (.cells (nW x ao ac up ko q.length kc) 46 (0, 0))) := hbc
 clear hq1 hk1 hbc
 go_upto_if 20 with fail
 go_cut [] (fun wx => Zuq w0 o K w c N y q' (l ++ SH) wx)
 case first =>
  by_cases hs : cnt = -1
  ·subst hs
   obtain ⟨e1, e2⟩ := C0.out HCO.out
   have HE : Hid (Zuq w0 o K w c N y q' (l ++ SH) wc) := by
    rw [e1, e2]
    exact ⟨K1, ao, ac, up, ko, kc, HKK.out, HNK.out, HBC.out, HIW.out.go (fun _ h => h) HK1.out, HQ1.out, HKW.out.trans (HK1.out.mono HKK.out)⟩
   clear e1 e2
   go_wp2_with fail
   go_meet
   case rel => exact HE.out
  ·obtain ⟨h1, h2, up2, rn⟩ := C1.out (by rw [HCO.out]; exact hs)
   rw [HCO.out] at rn h1 h2
   have hs' : (cnt != -1) = true := by simpa using hs
   have p2 := HQ1.out.pg.cells.1
   have HP2 : Hid (∀ Y, Kept (fun k => k < wc.heap.size /\ k ≠ N) wc Y -> Y.cell? ⟨c.b, 2, none⟩ = some (.pointer (some ⟨c.d, 0, none⟩))) := fun Y hY => (hY.cell (p := ⟨c.b, 2, none⟩) ⟨HQ1.out.pg.out.2, fun e => HQ1.out.pg.out.1 (by have e' : c.b = N := e; rw [e']; exact HNK.out)⟩).trans p2
   have RN : Hid _ := rn
   clear rn hs p2
   go_upto_region 5 with fail
   refine wp_region_held_drew (S := fun Y => Kept (fun k => k < wc.heap.size /\ k ≠ N) wc Y) (by kernel_rfl) ((Kept.refl _ wc).drew) (fun hHeld => ?_)
   refine tkH 0 22 (.pointer (some ⟨c.b, 0, none⟩)) rfl rfl (by kernel_rfl) (by rfl) (by intro Y hY; go_simp; try with_reducible rfl) (fun _ _ _ h => h) hHeld ?_
   try simp only [Act.put, List.setIfInBounds_toArray, List.set_cons_zero, List.set_cons_succ]
   refine tkH 1 23 (.pointer (some ⟨c.b, 0, none⟩)) rfl rfl (by kernel_rfl) (by rfl) (by intro Y hY; go_simp; try with_reducible rfl) (fun _ _ _ h => h) hHeld ?_
   try simp only [Act.put, List.setIfInBounds_toArray, List.set_cons_zero, List.set_cons_succ]
   refine tkH 2 24 (.pointer (some ⟨c.b, 2, none⟩)) rfl rfl (by kernel_rfl) (by rfl) (by intro Y hY; go_simp; try with_reducible rfl) (fun _ _ _ h => h) hHeld ?_
   try simp only [Act.put, List.setIfInBounds_toArray, List.set_cons_zero, List.set_cons_succ]
   refine tkH 3 25 (.pointer (some ⟨c.d, 0, none⟩)) rfl rfl (by kernel_rfl) (by rfl) (by intro Y hY; have hc := HP2.out Y hY; go_simp; try with_reducible rfl) (fun _ _ _ h => h) hHeld ?_
   try simp only [Act.put, List.setIfInBounds_toArray, List.set_cons_zero, List.set_cons_succ]
   refine tkH 4 26 (.pointer (some ⟨N, 8, none⟩)) rfl rfl (by kernel_rfl) (by rfl) (by intro Y hY; go_simp; try with_reducible rfl) (fun _ _ _ h => h) hHeld ?_
   try simp only [Act.put, List.setIfInBounds_toArray, List.set_cons_zero, List.set_cons_succ]
   have c8' : wc.drew.cell? ⟨N, 8, none⟩ = some (.int .i64 cnt) := c8
   refine opY 5 rfl (by kernel_rfl) (by rfl) (fun K' hK' => ?_)
   unfold Oper.wp
   go_simp
   refine hK'.out _ _ hHeld (fun hHeld2 => ?_)
   clear hK' hHeld2
   try simp only [Act.put, List.setIfInBounds_toArray, List.set_cons_zero, List.set_cons_succ]
   have rn := RN.out wc.drew (HQ1.out.kept.drew)
   refine clH 6 28 20 #[.pointer (some ⟨c.d, 0, none⟩), .int .i64 cnt] rfl rfl (by kernel_rfl) (by rfl) rfl (by first | rfl | (simp [Act.eval]; done) | (simp [Act.eval, Act.put]; done)) (zt0 _ _) rn ?_
   rintro e Y ⟨ao2, ac2, ko2, kc2, rfl, hA2, hQ2, hK2⟩
   have hkY : Kept (fun k => k < wc.heap.size) wc Y := ((Kept.refl _ wc).drew).trans hK2
   refine ⟨_, rfl, hkY.mono fun k h => h.1, fun hHeld2 => ?_⟩
   replace hHeld := hHeld2
   clear hHeld2
   try simp only [Act.put, List.setIfInBounds_toArray, List.set_cons_zero, List.set_cons_succ]
   refine tkH 7 21 (.tuple #[.agg (nW y ao2 ac2 up2 ko2 q'.length kc2), .int .u16 0]) rfl rfl (by kernel_rfl) (by rfl) (by intro Y hY; go_simp; try with_reducible rfl) (fun _ _ _ h => h) hHeld ?_
   try simp only [Act.put, List.setIfInBounds_toArray, List.set_cons_zero, List.set_cons_succ]
   refine tkH 8 29 (.agg (nW y ao2 ac2 up2 ko2 q'.length kc2)) rfl rfl (by kernel_rfl) (by rfl) (by intro Y hY; go_simp; try with_reducible rfl) (fun _ _ _ h => h) hHeld ?_
   try simp only [Act.put, List.setIfInBounds_toArray, List.set_cons_zero, List.set_cons_succ]
   first
    | refine tkU 9 30 rfl rfl (by kernel_rfl) (by rfl) (fun _ _ _ h => h) hHeld ?_
    | refine tkH 9 30 (.int .u16 0) rfl rfl (by kernel_rfl) (by rfl) (by intro Y hY; go_simp; try with_reducible rfl) (fun _ _ _ h => h) hHeld ?_
   try simp only [Act.put, List.setIfInBounds_toArray, List.set_cons_zero, List.set_cons_succ]
   have hbY : Y.heap[N]? = some (.cells (nW x ao ac up ko q.length kc) 46 (0, 0)) := (hkY.block N (zac HBC.out)).trans HBC.out
   have hSt : Kept (fun k => k < wc.heap.size /\ k ≠ N) wc (Y.setRow N (nW y ao2 ac2 up2 ko2 q'.length kc2)) := zao hHeld (fun h => h.2 rfl) _
   refine opY 10 rfl (by kernel_rfl) (by rfl) (fun K' hK' => ?_)
   refine wp_store_row 46 _ _ rfl N (nW y ao2 ac2 up2 ko2 q'.length kc2) rfl rfl 46 _ hbY (zdu _ rfl) rfl (ztm _ _ _ _ _ _ _) ?_
   refine hK'.out _ _ hSt (fun hHeld2 => ?_)
   clear hK' hHeld2
   refine wpAnyH_done (by kernel_rfl) ?_ _
   have HE : Hid (Zuq w0 o K w c N y q' (l ++ SH) (Y.setRow N (nW y ao2 ac2 up2 ko2 q'.length kc2))) := by
    have hqY := HQ1.out.up hkY
    have hiY : Zaf (fun k => K1 k \/ (wc.heap.size <= k /\ k < Y.heap.size)) Y ko2 q' := hQ2.intsAt fun g hg => .inr ⟨Nat.le_of_not_lt (Zad.out hQ2 hg).1, (Zad.out hQ2 hg).2⟩
    have hNw := zac HBC.out
    refine ⟨_, ao2, ac2, up2, ko2, kc2, fun k h => .inl (HKK.out k h), .inl HNK.out, setRow_heap _ _ _ _ _ _ hbY, fun j hj => ?_, hqY.setN (.inl HNK.out) HN0.out.2 HN0.out.1 _, (HKW.out.trans (HK1.out.mono HKK.out)).trans (zao (hkY.mono fun k h => HQ1.out.lt k (HKK.out k h)) HKN.out _)⟩
    obtain ⟨g, oo, e, hg, hc⟩ := hiY j hj
    have hgN : g ≠ N := fun e' => by
     have h3 : zap ko2 g := by
      rcases hQ2.2.2.2 with ⟨h4, -⟩ | ⟨g2, cur, h4, -⟩
      ·rw [h4] at e; cases e
      ·rw [h4] at e; injection e with e; injection e with e; subst e; exact h4
     have := (Zad.out hQ2 h3).1
     exact this (by rw [e']; exact hNw)
    have hcb : (Y.setRow N (nW y ao2 ac2 up2 ko2 q'.length kc2)).heap[g]? = Y.heap[g]? := setRow_other _ _ _ _ hgN
    exact ⟨g, oo, e, hg, (World.cell?_of_block (w := Y) hcb).trans hc⟩
   clear hHeld hbY hSt rn RN hA2 hQ2 hK2 hkY c8' c8 HP2
   go_wp2_with fail
   go_meet
   case rel => exact HE.out
 case rest =>
 obtain ⟨K2, ao3, ac3, up3, ko3, kc3, hk12, hn2, hb2, hi2, hq2, hkw2⟩ := hcut
 rename World => wd
 clear c8 HQ1 HK1 HBC HIW S0 S1 C0 C1 HKK HNK HKN HN0 HQW HKW HB HSH HCO
 have r := zhu y ao3 ac3 up3 ko3 q'.length kc3 wd
 have HQ2 : Hid (Pq w0 o K2 wd c (l ++ SH)) := hq2
 have HI2 : Hid (Zaf K2 wd ko3 q') := hi2
 have HK12 : Hid (∀ k, K k -> K2 k) := hk12
 have HKW2 : Hid (Kept K w wd) := hkw2
 have HB2 : Hid (wd.heap[N]? = some (.cells (nW y ao3 ac3 up3 ko3 q'.length kc3) 46 (0, 0))) := hb2
 have HN2 : Hid (K2 N) := hn2
 clear hk12 hn2 hi2 hq2 hkw2
 go_wp2_with (refine wpList_load_row rfl 46 _ rfl N rfl 46 (nW y ao3 ac3 up3 ko3 q'.length kc3) (0, 0) _ hb2 Tryz.underlying46 rfl (zdu _ rfl) ?_)
 refine r.mono ?_
 rintro e X ⟨rfl, hKX⟩
 have hqX := HQ2.out.stay hKX
 have hbX : X.heap[N]? = some (.cells (nW y ao3 ac3 up3 ko3 q'.length kc3) 46 (0, 0)) := (hKX.block N (zac HB2.out)).trans HB2.out
 have c5 : X.cell? ⟨N, 5, none⟩ = some (.slice ko3 q'.length kc3) := by rw [zaa hbX]; rfl
 have HQX : Hid (Pq w0 o K2 X c (l ++ SH)) := hqX
 have HIX : Hid (Zaf K2 X ko3 q') := HI2.out.go (fun _ h => h) (hKX.mono HQ2.out.lt)
 have HKX : Hid (Kept K w X) := HKW2.out.trans (hKX.mono fun k h => HQ2.out.lt k (HK12.out k h))
 obtain ⟨raw, hraw⟩ : ∃ b, isR y = b := ⟨_, rfl⟩
 have HKID2 : Hid (∀ k ∈ q', Kid w0 o c raw k (O k) (xs k) (us k) (qs k)) := by rw [<- hraw]; exact HKID.out
 rw [hraw]
 obtain ⟨n, hn⟩ : ∃ n, q'.length = n := ⟨_, rfl⟩
 rw [hn] at c5 hq ⊢
 have HNQ : Hid (q'.length = n) := hn
 clear r hKX hqX hbX HQ2 HI2 HKW2 HB2 HN2 hb2 hraw HKID hn
 have hfo : ∀ j (h : j < q'.length), q'.flatMap O = ((q'.take j).flatMap O ++ O q'[j]) ++ (q'.drop (j + 1)).flatMap O := fun j h => by
  have e1 : q' = q'.take j ++ (q'[j] :: q'.drop (j + 1)) := by rw [List.getElem_cons_drop, List.take_append_drop]
  have e2 := congrArg (List.flatMap O) e1
  rw [List.flatMap_append, List.flatMap_cons] at e2
  rw [e2, List.append_assoc]
 have HFO : Hid _ := hfo
 clear hfo
 go_wp2_with fail
 go_loopg [36] n (fun gm i wr => ∃ j : Nat, gm = n - j /\ j <= n /\ i = .int .i64 j /\ Pq w0 o K2 wr c ((l ++ SH) ++ (q'.take j).flatMap O) /\ Kept K2 X wr)
 case atStart => exact ⟨0, rfl, Nat.zero_le _, rfl, by rw [List.take_zero]; show Pq w0 o K2 X c ((l ++ SH) ++ []); rw [List.append_nil]; exact HQX.out, Kept.refl _ _⟩
 case round =>
  obtain ⟨j, hg, hj, rfl, hP, hK⟩ := hrel
  clear HQX c5
  by_cases hlt : j < n
  ·have hjl : j < q'.length := by rw [HNQ.out]; exact hlt
   obtain ⟨g, oo, hko, hKg, hc⟩ := HIX.out j hjl
   have d0 : wr.cell? ⟨g, oo + j, none⟩ = some (.int .i64 (q'[j] : Int)) := (hK.cell (p := ⟨g, oo + j, none⟩) hKg).trans hc
   subst hko
   have hkid := HKID2.out q'[j] (List.getElem_mem hjl)
   have hkb := HQM.out q'[j] (List.getElem_mem hjl)
   have efo := HFO.out j hjl
   have estep : (q'.take (j + 1)).flatMap O = (q'.take j).flatMap O ++ O q'[j] := by rw [List.take_succ_eq_append_getElem hjl, List.flatMap_append, List.flatMap_singleton]
   obtain ⟨k, hk⟩ : ∃ k, q'[j] = k := ⟨_, rfl⟩
   rw [hk] at d0 hkid hkb efo estep
   have hp2 := hP.pg.cells.1
   have rn := hkid.node wr hP.kept
   have HKI : Hid (Kid w0 o c raw k (O k) (xs k) (us k) (qs k)) := hkid
   have HP : Hid (Pq w0 o K2 wr c ((l ++ SH) ++ (q'.take j).flatMap O)) := hP
   have HK : Hid (Kept K2 X wr) := hK
   have HES : Hid ((q'.take (j + 1)).flatMap O = (q'.take j).flatMap O ++ O k) := estep
   have HLE : Hid (((l ++ SH) ++ (q'.take j).flatMap O).length + (O k).length <= 1099511627776) := by
    have h1 := HL.out
    rw [HKD.out, efo] at h1
    show ((l ++ SH) ++ (q'.take j).flatMap O).length + (O k).length <= 1099511627776
    simp only [List.length_append] at h1 ⊢
    omega
   clear hP hK hk hc hKg hkid efo estep
   go_wp2_with fail
   refine rn.mono ?_
   rintro e w1 ⟨ao4, ac4, ko4, kc4, rfl, hA4, hQ4, hK4⟩
   obtain ⟨V, B, hV, hB, hbB, hkB, hzB⟩ := zae w1 (nW (xs k) ao4 ac4 (us k) ko4 (qs k).length kc4) 46
   have hkV : Kept (fun k => k < wr.heap.size) wr V := hK4.trans (hkB.mono fun k h => ltl h hK4.size)
   have hqV := HP.out.up hkV
   have hiV : Zaf (fun k => K2 k \/ (wr.heap.size <= k /\ k < V.heap.size)) V ko4 (qs k) := by
    have h1 : Zaf (fun k => wr.heap.size <= k /\ k < w1.heap.size) w1 ko4 (qs k) := hQ4.intsAt fun g hg => ⟨Nat.le_of_not_lt (Zad.out hQ4 hg).1, (Zad.out hQ4 hg).2⟩
    exact h1.go (fun k h => .inr ⟨h.1, by omega⟩) (hkB.mono fun k h => h.2)
   have haV : Zah (fun k => K2 k \/ (wr.heap.size <= k /\ k < V.heap.size)) V ao4 (xs k).attrs := by
    have h1 : Zah (fun k => wr.heap.size <= k /\ k < w1.heap.size) w1 ao4 (xs k).attrs := hA4.atsAt (K' := fun k => wr.heap.size <= k /\ k < w1.heap.size) fun g hg => ⟨Nat.le_of_not_lt (Zad.out hA4 hg).1, (Zad.out hA4 hg).2⟩
    exact h1.go (fun k h => .inr ⟨h.1, by omega⟩) (hkB.mono fun k h => h.2)
   have ro := HKI.out.out _ V _ ao4 ac4 ko4 kc4 hqV haV hiV HLE.out
   have HKV : Hid (Kept K2 wr V) := hkV.mono HP.out.lt
   have HV : Hid (w1.alloc (.cells (nW (xs k) ao4 ac4 (us k) ko4 (qs k).length kc4) 46) = V) := hV
   have HBN : Hid (w1.heap.size = B) := hB
   clear rn hA4 hQ4 hK4 hV hB hkB hzB hkV hqV hiV haV hp2
   go_upto_region 11 with fail
   rw [HV.out, HBN.out]
   clear HV HBN d0
   go_wp2_with (refine wpList_load_row rfl 46 _ rfl B rfl 46 (nW (xs k) ao4 ac4 (us k) ko4 (qs k).length kc4) (0, 0) _ hbB Tryz.underlying46 rfl (zdu _ rfl) ?_)
   refine ro.mono ?_
   rintro e Z ⟨rfl, hqZ, hKZ⟩
   have hqz := HP.out.back hqZ fun k h => .inl h
   rw [List.append_assoc, <- HES.out] at hqz
   have HQZ : Hid (Pq w0 o K2 Z c ((l ++ SH) ++ (q'.take (j + 1)).flatMap O)) := hqz
   have HKZ : Hid (Kept K2 X Z) := (HK.out.trans HKV.out).trans (hKZ.mono fun k h => .inl h)
   clear ro hqZ hKZ hqz hbB HP HK HKV HES HLE HKI
   go_wp2
   go_roundg (n - (j + 1))
   case rel => exact ⟨j + 1, rfl, by omega, by go_num, HQZ.out, HKZ.out⟩
   case measure => omega
  ·have hjn : j = n := by omega
   have et : q'.take j = q' := by rw [hjn, <- HNQ.out, List.take_length]
   rw [et, <- HKD.out, HF.out] at hP
   have HQF : Hid (Pq w0 o K wr c F) := HQ.out.back hP HK12.out
   have HKF : Hid (Kept K w wr) := HKX.out.trans (hK.mono HK12.out)
   clear hP hK et hjn
   go_wp2
   go_end0
   exact ⟨rfl, HQF.out, HKF.out⟩
end
end Go.Proofs.YtikaheenjhdpmaaGreat
