/-
  What serial.Inner and serial.Outer answer.
-/
import Derived.Test.YteccdijjpmeeaaaQf
import Derived.Test.YteccdijjpmeeaaaP13
namespace Go.Proofs.Yteccdijjpmeeaaa
open Go.RowKit
set_option linter.unusedVariables false
set_option maxRecDepth 100000
set_option maxHeartbeats 4000000
/-- The options in memory. -/
structure Opt (w : World) where
  sr : Bool
  ra : Option Addr
  rn : Nat
  rc : Nat
  l : List Int
  len : l.length = rn
  few : rn ≤ 100000
  at_ : IntsZ (fun k => k < w.heap.size) w ra l
def Opt.ask {w : World} (o : Opt w) : Ask := ⟨o.sr, askA o.l⟩
abbrev Opt.val {w : World} (o : Opt w) : Value := .agg #[.bool o.sr, .slice o.ra o.rn o.rc]
def Opt.go {w w' : World} (o : Opt w) (h : Kept (fun k => k < w.heap.size) w w') : Opt w' :=
  ⟨o.sr, o.ra, o.rn, o.rc, o.l, o.len, o.few, o.at_.kept h fun g hg => Nat.lt_of_lt_of_le hg h.size⟩
theorem sizeO (cs : Array Value) (h : cs.size = 2) : (Try.prog.info? 37).map (·.size) = some cs.size := by rw [h]; kernel_rfl
theorem enterR (args : Array Value) (X : World) : (callFunc 34 args).run Try.prog X = .ok (.enter 34 args) X := entersE Try.func34 (by kernel_rfl) (c := _) rfl args X
theorem enterO (args : Array Value) (X : World) : (callFunc 33 args).run Try.prog X = .ok (.enter 33 args) X := entersE Try.func33 (by kernel_rfl) (c := _) rfl args X
theorem yieldsN {o : Oper} {a : Act} {X : World} {x : Operand} {N : Nat} {cs : Array Value} (ho : o.op = .load 33 x) (hx : a.eval x = .pointer (some ⟨N, 0, none⟩)) (hb : X.heap[N]? = some (.cells cs 33 (0, 0))) (hc : cs.size = 14) :
    (execOp a.eval o).run Try.prog X = .ok (.value (.agg cs)) X := by
  unfold execOp
  simp only [ho, hx, Instr.loadAt, Instr.sureAddr, Sem.run_bind, Sem.run_pure, Result.andThen_ok, run_loadVar_row X N 33 33 cs (0, 0) _ hb Try.underlying33 rfl (sizeN cs hc)]
section
variable {K : Nat → Prop} {p : Nat} {M : Dm} {R G : Nat → List Nat} {rk : Nat → Nat}
theorem sInner_in (hI : Inv M R G rk) (hn : M.n ≤ 100000) (sz : ∀ i, i < M.n → Szd (M.nd i)) (f i : Nat) (hi : i < M.n) (hf : dn M.n rk i < f) (w : World) (hX : DX K w p M) (o : Opt w) (hl : (innF o.ask M R f i).length ≤ 1099511627776) :
    Calls Try.prog 11 #[.pointer (some ⟨p, 0, none⟩), .int .i64 (i : Int), o.val] w fun e w' => e = .returned (.string ⟨(innF o.ask M R f i).toArray⟩) ∧ Kept (fun k => k < w.heap.size) w w' := by
  have hnd : ∀ i, i < M.n → ∀ V, Kept (fun k => k < w.heap.size) w V → Calls Try.prog 27 #[.pointer (some ⟨p, 0, none⟩), .int .i64 (i : Int)] V fun e w' => Told V (M.nd i) (M.pl i).up (R i) e w' := fun i hi V hV => node_any K p i M R V (hX.kept hV) hI.good.wf hi (by omega) hI.good.few
  have hlen : ∀ X, Kept (fun k => k < w.heap.size) w X → Calls Try.prog 43 #[.pointer (some ⟨p, 0, none⟩)] X fun e w' => e = .returned (.int .i64 (M.n : Int)) ∧ Kept (fun k => k < X.heap.size) X w' := fun X h => by
    obtain ⟨ga, cap, hY⟩ := hX.kept h
    exact (len_any p M.n cap ga X hY.c1).mono fun e w' h => ⟨h.1, by rw [h.2]; exact Kept.refl _ _⟩
  have hpos := hI.core.pos
  obtain ⟨L, hL⟩ : ∃ L, innF o.ask M R f i = L := ⟨_, rfl⟩
  have INN : Hid (∀ c : Cf, c.d = p → c.n = M.n → Inn w o.ask c (M.nd i) (R i) L) := fun c h1 h2 => by
    rw [← hL]
    exact inner_all hI h2 (by omega) sz (by rw [h1]; exact hnd) f i hi hf
  rw [hL] at hl ⊢
  obtain ⟨ask, hask⟩ : ∃ a, o.ask = a := ⟨_, rfl⟩
  rw [hask] at INN
  obtain ⟨sr, ra, rn, rc, l, len, few, at_⟩ := o
  have ha : ask = ⟨sr, askA l⟩ := hask.symm
  have HASK : Hid (ask = ⟨sr, askA l⟩) := ha
  have HAT : Hid (IntsZ (fun k => k < w.heap.size) w ra l) := at_
  have HLEN : Hid _ := hlen
  have HND := hnd i hi
  have HL : Hid (L.length ≤ 1099511627776) := hl
  obtain ⟨W, N, hW, hN, hb, hkW, hzW⟩ := alloc_bx w #[.bool sr, .slice ra rn rc] 37
  have r9 := HND W hkW
  have HW : Hid (w.alloc (.cells #[.bool sr, .slice ra rn rc] 37) = W) := hW
  have HN : Hid (w.heap.size = N) := hN
  have HB : Hid (W.heap[N]? = some (.cells #[.bool sr, .slice ra rn rc] 37 (0, 0))) := hb
  have HKW : Hid (Kept (fun k => k < w.heap.size) w W) := hkW
  obtain ⟨x, hx⟩ : ∃ x, M.nd i = x := ⟨_, rfl⟩
  obtain ⟨q, hq⟩ : ∃ q, R i = q := ⟨_, rfl⟩
  obtain ⟨up, hup⟩ : ∃ u, (M.pl i).up = u := ⟨_, rfl⟩
  rw [hx, hq, hup] at r9
  rw [hx, hq] at INN
  obtain ⟨n, hnn⟩ : ∃ n, M.n = n := ⟨_, rfl⟩
  rw [hnn] at INN hn hpos HLEN hi
  have HLN : Hid (l.length = rn) := len
  show Calls Try.prog 11 #[.pointer (some ⟨p, 0, none⟩), .int .i64 (i : Int), .agg #[.bool sr, .slice ra rn rc]] w _
  clear HND hnd hlen hX sz hI hL hask ha hl at_ hW hN hb hkW hzW hx hq hup hf hnn len
  go_enter Try.func11, Try.ntmps11
  go_upto_region 1 with fail
  rw [HW.out, HN.out]
  clear HW HN
  go_wp2_with fail
  refine r9.mono ?_
  rintro e w1 ⟨ao, ac, ko, kc, rfl, hAt, hQt, hK⟩
  obtain ⟨V, N1, hV, hN1, hb1, hk1, hz1⟩ := alloc_bx w1 (nW x ao ac up ko q.length kc) 33
  have hkV : Kept (fun k => k < W.heap.size) W V := hK.trans (hk1.mono fun k h => Nat.lt_of_lt_of_le h hK.size)
  have hbo : V.heap[N]? = some (.cells #[.bool sr, .slice ra rn rc] 37 (0, 0)) := (hkV.block N (lt_block HB.out)).trans HB.out
  have hwV : Kept (fun k => k < w.heap.size) w V := HKW.out.trans (hkV.mono fun k h => Nat.lt_of_lt_of_le h HKW.out.size)
  have hiV : IntsAt (fun k => k < V.heap.size) V ko q := by
    have h1 : IntsAt (fun k => k < w1.heap.size) w1 ko q := hQt.intsAt fun g hg => (OwnZ.out hQt hg).2
    exact h1.go (fun k h => by omega) hk1
  have rp := newPage_any p n sr ra rn rc l HLN.out few hpos (by omega) V (IntsZ.kept HAT.out hwV fun g hg => Nat.lt_of_lt_of_le hg hwV.size) (fun X hX => HLEN.out X (hwV.trans (hX.mono fun k h => Nat.lt_of_lt_of_le h hwV.size)))
  have HV : Hid (w1.alloc (.cells (nW x ao ac up ko q.length kc) 33) = V) := hV
  have HN1 : Hid (w1.heap.size = N1) := hN1
  have HB1 : Hid (V.heap[N1]? = some (.cells (nW x ao ac up ko q.length kc) 33 (0, 0))) := hb1
  have HWV : Hid (Kept (fun k => k < w.heap.size) w V) := hwV
  have HIV : Hid (IntsAt (fun k => k < V.heap.size) V ko q) := hiV
  clear r9 hAt hQt hK hV hN1 hb1 hk1 hz1 hkV hwV hiV HAT HLEN
  go_upto_region 2 with fail
  rw [HV.out, HN1.out]
  clear HV HN1
  go_wp2_with (refine wpList_load_row rfl 37 _ rfl N rfl 37 #[.bool sr, .slice ra rn rc] (0, 0) _ hbo Try.underlying37 rfl (sizeO _ rfl) ?_)
  refine rp.mono ?_
  rintro e X ⟨b, g, rfl, hg, hgb, hA, hP, hKX⟩
  have hbX : X.heap[N1]? = some (.cells (nW x ao ac up ko q.length kc) 33 (0, 0)) := (hKX.block N1 (lt_block HB1.out)).trans HB1.out
  have hq : Pq w ask (fun k => k < V.heap.size ∨ k = g) X ⟨b, p, sr, g, n⟩ [] :=
    ⟨hP, by rw [HASK.out]; exact hA, .inr rfl, fun k h => .inl (Nat.lt_of_lt_of_le h HWV.out.size), HWV.out.trans (hKX.mono fun k h => Nat.lt_of_lt_of_le h HWV.out.size), by rw [HASK.out]⟩
  have ri := INN.out ⟨b, p, sr, g, n⟩ rfl rfl _ X [] ao ac up ko kc hq (HIV.out.go (fun k h => .inl h) hKX) (by have := HL.out; rw [List.length_nil]; omega)
  rw [List.nil_append] at ri
  have HKX : Hid (Kept (fun k => k < w.heap.size) w X) := HWV.out.trans (hKX.mono fun k h => Nat.lt_of_lt_of_le h HWV.out.size)
  clear rp hg hgb hA hP hKX hq hbo HB HB1 INN HIV
  go_wp2_with (refine wpList_load_row rfl 33 _ rfl N1 rfl 33 (nW x ao ac up ko q.length kc) (0, 0) _ hbX Try.underlying33 rfl (sizeN _ rfl) ?_)
  refine ri.mono ?_
  rintro e Y ⟨rfl, hqY, hKY⟩
  have rs := stringG _ ⟨b, p, sr, g, n⟩ L Y hqY.pg HL.out
  have HKY : Hid (Kept (fun k => k < w.heap.size) w Y) := HKX.out.trans (hKY.mono fun k h => .inl (Nat.lt_of_lt_of_le h HWV.out.size))
  have HOL : Hid (∀ k, k < w.heap.size → k < V.heap.size) := fun k h => Nat.lt_of_lt_of_le h HWV.out.size
  clear ri hqY hKY hbX HKX HWV
  go_wp2_with fail
  refine rs.mono ?_
  rintro e Z ⟨rfl, hKZ⟩
  have HKZ : Hid (Kept (fun k => k < w.heap.size) w Z) := HKY.out.trans (hKZ.mono fun k h => .inl (HOL.out k h))
  clear rs hKZ HKY
  go_wp2
  go_ret
  exact ⟨rfl, HKZ.out⟩
theorem sOuter_in (hI : Inv M R G rk) (hn : M.n ≤ 100000) (sz : ∀ i, i < M.n → Szd (M.nd i)) (f i : Nat) (hi : i < M.n) (hf : dn M.n rk i < f) (w : World) (hX : DX K w p M) (o : Opt w) (y : Nd) (rr : ∀ V, Kept (fun k => k < w.heap.size) w V → Calls Try.prog 27 #[.pointer (some ⟨p, 0, none⟩), .int .i64 (M.pl i).up] V fun e w' => ∃ ao ac up ko kn kc z, e = .returned (.tuple #[.agg (nW y ao ac up ko kn kc), .int .u16 z]) ∧ Kept (fun k => k < V.heap.size) V w') (hup1 : -1 ≤ (M.pl i).up ∧ (M.pl i).up ≤ 1000000) (hl : (outX (innF o.ask M R f i) (M.nd i) (isR y)).length ≤ 1099511627776) :
    Calls Try.prog 14 #[.pointer (some ⟨p, 0, none⟩), .int .i64 (i : Int), o.val] w fun e w' => e = .returned (.string ⟨(outX (innF o.ask M R f i) (M.nd i) (isR y)).toArray⟩) ∧ Kept (fun k => k < w.heap.size) w w' := by
  have hnd : ∀ i, i < M.n → ∀ V, Kept (fun k => k < w.heap.size) w V → Calls Try.prog 27 #[.pointer (some ⟨p, 0, none⟩), .int .i64 (i : Int)] V fun e w' => Told V (M.nd i) (M.pl i).up (R i) e w' := fun i hi V hV => node_any K p i M R V (hX.kept hV) hI.good.wf hi (by omega) hI.good.few
  have hlen : ∀ X, Kept (fun k => k < w.heap.size) w X → Calls Try.prog 43 #[.pointer (some ⟨p, 0, none⟩)] X fun e w' => e = .returned (.int .i64 (M.n : Int)) ∧ Kept (fun k => k < X.heap.size) X w' := fun X h => by
    obtain ⟨ga, cap, hY⟩ := hX.kept h
    exact (len_any p M.n cap ga X hY.c1).mono fun e w' h => ⟨h.1, by rw [h.2]; exact Kept.refl _ _⟩
  have hpos := hI.core.pos
  obtain ⟨L, hL⟩ : ∃ L, outX (innF o.ask M R f i) (M.nd i) (isR y) = L := ⟨_, rfl⟩
  have INN : Hid (∀ c : Cf, c.d = p → c.n = M.n → ∀ (K : Nat → Prop) (V : World) (l : List UInt8) (ao : Option Addr) (ac : Nat) (up : Int) (ko : Option Addr) (kc : Nat), Pq w o.ask K V c l → AtsAt K V ao (M.nd i).attrs → IntsAt K V ko (R i) → l.length + L.length ≤ 1099511627776 → Calls Try.prog 33 #[.pointer (some ⟨c.b, 0, none⟩), .agg (nW (M.nd i) ao ac up ko (R i).length kc), .bool (isR y)] V fun e w' => e = .returned (.tuple #[]) ∧ Pq w o.ask K w' c (l ++ L) ∧ Kept K V w') := fun c h1 h2 K V l ao ac up ko kc hq ha hi' hll => by
    rw [← hL] at hll ⊢
    exact outer_any (sz i hi) (fun _ => inner_all hI h2 (by omega) sz (by rw [h1]; exact hnd) f i hi hf) _ K V l ao ac up ko kc hq ha hi' hll
  rw [hL] at hl ⊢
  have RR : Hid _ := rr
  obtain ⟨ask, hask⟩ : ∃ a, o.ask = a := ⟨_, rfl⟩
  rw [hask] at INN
  obtain ⟨sr, ra, rn, rc, l, len, few, at_⟩ := o
  have ha : ask = ⟨sr, askA l⟩ := hask.symm
  have HASK : Hid (ask = ⟨sr, askA l⟩) := ha
  have HAT : Hid (IntsZ (fun k => k < w.heap.size) w ra l) := at_
  have HLEN : Hid _ := hlen
  have HND := hnd i hi
  have HL : Hid (L.length ≤ 1099511627776) := hl
  obtain ⟨W, N, hW, hN, hb, hkW, hzW⟩ := alloc_bx w #[.bool sr, .slice ra rn rc] 37
  have r9 := HND W hkW
  have HW : Hid (w.alloc (.cells #[.bool sr, .slice ra rn rc] 37) = W) := hW
  have HN : Hid (w.heap.size = N) := hN
  have HB : Hid (W.heap[N]? = some (.cells #[.bool sr, .slice ra rn rc] 37 (0, 0))) := hb
  have HKW : Hid (Kept (fun k => k < w.heap.size) w W) := hkW
  obtain ⟨x, hx⟩ : ∃ x, M.nd i = x := ⟨_, rfl⟩
  obtain ⟨q, hq⟩ : ∃ q, R i = q := ⟨_, rfl⟩
  obtain ⟨up, hup⟩ : ∃ u, (M.pl i).up = u := ⟨_, rfl⟩
  rw [hx, hq, hup] at r9
  rw [hup] at RR hup1
  rw [hx, hq] at INN
  obtain ⟨n, hnn⟩ : ∃ n, M.n = n := ⟨_, rfl⟩
  rw [hnn] at INN hn hpos HLEN hi
  have HLN : Hid (l.length = rn) := len
  show Calls Try.prog 14 #[.pointer (some ⟨p, 0, none⟩), .int .i64 (i : Int), .agg #[.bool sr, .slice ra rn rc]] w _
  clear rr HND hnd hlen hX sz hI hL hask ha hl at_ hW hN hb hkW hzW hx hq hup hf hnn len
  go_enter Try.func14, Try.ntmps14
  go_upto_region 1 with fail
  rw [HW.out, HN.out]
  clear HW HN
  go_wp2_with fail
  refine r9.mono ?_
  rintro e w1 ⟨ao, ac, ko, kc, rfl, hAt, hQt, hK⟩
  obtain ⟨V, N1, hV, hN1, hb1, hk1, hz1⟩ := alloc_bx w1 (nW x ao ac up ko q.length kc) 33
  have hkV : Kept (fun k => k < W.heap.size) W V := hK.trans (hk1.mono fun k h => Nat.lt_of_lt_of_le h hK.size)
  have hbo : V.heap[N]? = some (.cells #[.bool sr, .slice ra rn rc] 37 (0, 0)) := (hkV.block N (lt_block HB.out)).trans HB.out
  have hwV : Kept (fun k => k < w.heap.size) w V := HKW.out.trans (hkV.mono fun k h => Nat.lt_of_lt_of_le h HKW.out.size)
  have hiV : IntsAt (fun k => k < V.heap.size) V ko q := by
    have h1 : IntsAt (fun k => k < w1.heap.size) w1 ko q := hQt.intsAt fun g hg => (OwnZ.out hQt hg).2
    exact h1.go (fun k h => by omega) hk1
  have haV : AtsAt (fun k => k < V.heap.size) V ao x.attrs := by
    have h1 : AtsAt (fun k => k < w1.heap.size) w1 ao x.attrs := hAt.atsAt (K' := fun k => k < w1.heap.size) fun g hg => (OwnZ.out hAt hg).2
    exact h1.go (fun k h => by omega) hk1
  have HAV : Hid (AtsAt (fun k => k < V.heap.size) V ao x.attrs) := haV
  have d4 : V.cell? ⟨N1, 4, none⟩ = some (.int .i64 up) := by rw [cell_block hb1]; rfl
  have r8 := RR.out V hwV
  have HBO : Hid (V.heap[N]? = some (.cells #[.bool sr, .slice ra rn rc] 37 (0, 0))) := hbo
  have HV : Hid (w1.alloc (.cells (nW x ao ac up ko q.length kc) 33) = V) := hV
  have HN1 : Hid (w1.heap.size = N1) := hN1
  have HB1 : Hid (V.heap[N1]? = some (.cells (nW x ao ac up ko q.length kc) 33 (0, 0))) := hb1
  have HWV : Hid (Kept (fun k => k < w.heap.size) w V) := hwV
  have HIV : Hid (IntsAt (fun k => k < V.heap.size) V ko q) := hiV
  clear r9 hAt hQt hK hV hN1 hb1 hk1 hz1 hkV hwV hiV haV hbo RR
  go_upto_region 2 with fail
  rw [HV.out, HN1.out]
  clear HV HN1
  go_wp2_with fail
  refine r8.mono ?_
  rintro e w2 ⟨ao2, ac2, up2, ko2, kn2, kc2, z2, rfl, hK2⟩
  obtain ⟨U, N2, hU, hN2, hb2, hk2, hz2⟩ := alloc_bx w2 (nW y ao2 ac2 up2 ko2 kn2 kc2) 33
  have hVU : Kept (fun k => k < V.heap.size) V U := hK2.trans (hk2.mono fun k h => Nat.lt_of_lt_of_le h hK2.size)
  have hwU : Kept (fun k => k < w.heap.size) w U := HWV.out.trans (hVU.mono fun k h => Nat.lt_of_lt_of_le h HWV.out.size)
  have hbo : U.heap[N]? = some (.cells #[.bool sr, .slice ra rn rc] 37 (0, 0)) := (hVU.block N (lt_block HBO.out)).trans HBO.out
  have rp := newPage_any p n sr ra rn rc l HLN.out few hpos (by omega) U (IntsZ.kept HAT.out hwU fun g hg => Nat.lt_of_lt_of_le hg hwU.size) (fun X hX => HLEN.out X (hwU.trans (hX.mono fun k h => Nat.lt_of_lt_of_le h hwU.size)))
  have HU : Hid (w2.alloc (.cells (nW y ao2 ac2 up2 ko2 kn2 kc2) 33) = U) := hU
  have HN2 : Hid (w2.heap.size = N2) := hN2
  have HB2 : Hid (U.heap[N2]? = some (.cells (nW y ao2 ac2 up2 ko2 kn2 kc2) 33 (0, 0))) := hb2
  have HBU : Hid (U.heap[N1]? = some (.cells (nW x ao ac up ko q.length kc) 33 (0, 0))) := (hVU.block N1 (lt_block HB1.out)).trans HB1.out
  have HWU : Hid (Kept (fun k => k < w.heap.size) w U) := hwU
  have HIU : Hid (IntsAt (fun k => k < U.heap.size) U ko q) := HIV.out.go (fun k h => Nat.lt_of_lt_of_le h hVU.size) hVU
  have HAU : Hid (AtsAt (fun k => k < U.heap.size) U ao x.attrs) := HAV.out.go (fun k h => Nat.lt_of_lt_of_le h hVU.size) hVU
  clear r8 hK2 hU hN2 hb2 hk2 hz2 hVU hwU HAT HLEN HWV HIV HAV HB1 HBO d4
  go_upto_region 5 with fail
  rw [HU.out, HN2.out]
  clear HU HN2
  go_wp2_with (refine wpList_load_row rfl 37 _ rfl N rfl 37 #[.bool sr, .slice ra rn rc] (0, 0) _ hbo Try.underlying37 rfl (sizeO _ rfl) ?_)
  refine rp.mono ?_
  rintro e X ⟨b, g, rfl, hg, hgb, hA, hP, hKX⟩
  have hbX : X.heap[N1]? = some (.cells (nW x ao ac up ko q.length kc) 33 (0, 0)) := (hKX.block N1 (lt_block HBU.out)).trans HBU.out
  have hb2X : X.heap[N2]? = some (.cells (nW y ao2 ac2 up2 ko2 kn2 kc2) 33 (0, 0)) := (hKX.block N2 (lt_block HB2.out)).trans HB2.out
  have hq : Pq w ask (fun k => k < U.heap.size ∨ k = g) X ⟨b, p, sr, g, n⟩ [] :=
    ⟨hP, by rw [HASK.out]; exact hA, .inr rfl, fun k h => .inl (Nat.lt_of_lt_of_le h HWU.out.size), HWU.out.trans (hKX.mono fun k h => Nat.lt_of_lt_of_le h HWU.out.size), by rw [HASK.out]⟩
  have HQX : Hid (Pq w ask (fun k => k < U.heap.size ∨ k = g) X ⟨b, p, sr, g, n⟩ []) := hq
  have HKX : Hid (Kept (fun k => k < U.heap.size) U X) := hKX
  have HL1 : Hid (∀ Y, Kept (fun k => k < U.heap.size ∨ k = g) X Y → Y.heap[N1]? = some (.cells (nW x ao ac up ko q.length kc) 33 (0, 0))) := fun Y hY => (hY.block N1 (.inl (lt_block HBU.out))).trans hbX
  have HL2 : Hid (∀ Y, Kept (fun k => k < U.heap.size ∨ k = g) X Y → Y.heap[N2]? = some (.cells (nW y ao2 ac2 up2 ko2 kn2 kc2) 33 (0, 0))) := fun Y hY => (hY.block N2 (.inl (lt_block HB2.out))).trans hb2X
  clear rp hg hgb hA hP hKX hq hbo HB2 HBU hbX hb2X
  go_upto_region 6 with fail
  refine wp_region_held_drew (S := fun Y => Kept (fun k => k < U.heap.size ∨ k = g) X Y) (by kernel_rfl) ((Kept.refl _ X).drew) (fun hHeld => ?_)
  refine tkH 0 30 (.pointer (some ⟨b, 0, none⟩)) rfl rfl (by kernel_rfl) (by rfl) (by intro Y hY; go_simp; try with_reducible rfl) (fun _ _ _ h => h) hHeld ?_
  try simp only [Act.put, List.setIfInBounds_toArray, List.set_cons_zero, List.set_cons_succ]
  refine tkH 1 31 (.agg (nW x ao ac up ko q.length kc)) rfl rfl (by kernel_rfl) (by rfl) (by intro Y hY; exact yieldsN rfl rfl (HL1.out Y hY) rfl) (fun _ _ _ h => h) hHeld ?_
  try simp only [Act.put, List.setIfInBounds_toArray, List.set_cons_zero, List.set_cons_succ]
  refine tkH 2 32 (.agg (nW y ao2 ac2 up2 ko2 kn2 kc2)) rfl rfl (by kernel_rfl) (by rfl) (by intro Y hY; exact yieldsN rfl rfl (HL2.out Y hY) rfl) (fun _ _ _ h => h) hHeld ?_
  try simp only [Act.put, List.setIfInBounds_toArray, List.set_cons_zero, List.set_cons_succ]
  have rw' := isRaw_any y ao2 ac2 up2 ko2 kn2 kc2 X.drew
  refine clH 3 33 34 #[.agg (nW y ao2 ac2 up2 ko2 kn2 kc2)] rfl rfl (by kernel_rfl) (by rfl) rfl (by first | rfl | (simp [Act.eval]; done) | (simp [Act.eval, Act.put]; done)) (enterR _ _) rw' ?_
  rintro e Y ⟨rfl, hkY⟩
  have hXY : Kept (fun k => k < X.heap.size) X Y := ((Kept.refl _ X).drew).trans hkY
  refine ⟨_, rfl, hXY.mono HQX.out.lt, fun hHeld2 => ?_⟩
  replace hHeld := hHeld2
  clear hHeld2
  try simp only [Act.put, List.setIfInBounds_toArray, List.set_cons_zero, List.set_cons_succ]
  have hUY : Kept (fun k => k < U.heap.size) U Y := HKX.out.trans (hXY.mono fun k h => HQX.out.lt k (.inl h))
  have ro := INN.out ⟨b, p, sr, g, n⟩ rfl rfl _ Y [] ao ac up ko kc (HQX.out.stay hXY) (HAU.out.go (fun k h => .inl h) hUY) (HIU.out.go (fun k h => .inl h) hUY) (by have := HL.out; rw [List.length_nil]; omega)
  rw [List.nil_append] at ro
  refine clH 4 34 33 #[.pointer (some ⟨b, 0, none⟩), .agg (nW x ao ac up ko q.length kc), .bool (isR y)] rfl rfl (by kernel_rfl) (by rfl) rfl (by first | rfl | (simp [Act.eval]; done) | (simp [Act.eval, Act.put]; done)) (enterO _ _) ro ?_
  rintro e Z ⟨rfl, hqZ, hkZ⟩
  refine ⟨_, rfl, hHeld.trans hkZ, fun hHeld2 => ?_⟩
  try simp only [Act.put, List.setIfInBounds_toArray, List.set_cons_zero, List.set_cons_succ]
  refine wpAnyH_done (by kernel_rfl) ?_ _
  have rs := stringG _ ⟨b, p, sr, g, n⟩ L Z hqZ.pg HL.out
  have HKZ : Hid (Kept (fun k => k < w.heap.size) w Z) := (HWU.out.trans (HKX.out.mono fun k h => Nat.lt_of_lt_of_le h HWU.out.size)).trans (hHeld2.mono fun k h => .inl (Nat.lt_of_lt_of_le h HWU.out.size))
  have HOL : Hid (∀ k, k < w.heap.size → k < U.heap.size) := fun k h => Nat.lt_of_lt_of_le h HWU.out.size
  clear hHeld hHeld2 rw' hkY hXY hUY ro hqZ hkZ INN HQX HKX HL1 HL2 HAU HIU HWU
  go_wp2_with fail
  refine rs.mono ?_
  rintro e Z2 ⟨rfl, hKZ⟩
  have HKZ2 : Hid (Kept (fun k => k < w.heap.size) w Z2) := HKZ.out.trans (hKZ.mono fun k h => .inl (HOL.out k h))
  clear rs hKZ HKZ
  go_wp2
  go_ret
  exact ⟨rfl, HKZ2.out⟩
end
end Go.Proofs.Yteccdijjpmeeaaa
