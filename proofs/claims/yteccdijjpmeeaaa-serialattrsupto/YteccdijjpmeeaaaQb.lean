/-
  A page of a document: an element, a node.
-/
import Derived.Test.YteccdijjpmeeaaaQa
namespace Go.Proofs.Yteccdijjpmeeaaa
open Go.RowKit
set_option linter.unusedVariables false
set_option maxRecDepth 100000
set_option maxHeartbeats 4000000
/-- A page that is being written, of a document that lies below. -/
structure Pq (w0 : World) (o : Ask) (K : Nat → Prop) (w : World) (c : Cf) (l : List UInt8) : Prop where
  pg : Pg K w c l
  ask : AskR w c.g c.n o.A
  kg : K c.g
  old : ∀ k, k < w0.heap.size → K k
  kept : Kept (fun k => k < w0.heap.size) w0 w
  sr : c.sr = o.ser
section
variable {w0 : World} {o : Ask} {K K' : Nat → Prop} {w w' V : World} {c : Cf} {l l' : List UInt8}
theorem Pq.lt (h : Pq w0 o K w c l) : ∀ k, K k → k < w.heap.size := h.pg.lt
theorem Pq.up (h : Pq w0 o K w c l) (hk : Kept (fun k => k < w.heap.size) w V) : Pq w0 o (fun k => K k ∨ (w.heap.size ≤ k ∧ k < V.heap.size)) V c l :=
  ⟨h.pg.up hk, h.ask.kept hk (h.lt _ h.kg), .inl h.kg, fun k hk => .inl (h.old k hk), h.kept.trans (hk.mono fun k hk' => h.lt k (h.old k hk')), h.sr⟩
theorem Pq.stay (h : Pq w0 o K w c l) (hk : Kept (fun k => k < w.heap.size) w V) : Pq w0 o K V c l :=
  ⟨(h.pg.up hk).less fun k h => .inl h, h.ask.kept hk (h.lt _ h.kg), h.kg, h.old, h.kept.trans (hk.mono fun k hk' => h.lt k (h.old k hk')), h.sr⟩
theorem Pq.step (h : Pq w0 o K w c l) (hP : Pg K w' c l') (hk : Kept K w w') : Pq w0 o K w' c l' :=
  ⟨hP, h.ask.kept hk h.kg, h.kg, h.old, h.kept.trans (hk.mono h.old), h.sr⟩
theorem Pq.back (h : Pq w0 o K w c l) (h' : Pq w0 o K' w' c l') (hs : ∀ k, K k → K' k) : Pq w0 o K w' c l' :=
  ⟨h'.pg.less hs, h'.ask, h.kg, h.old, h'.kept, h.sr⟩
end
theorem IntsAt.go {K K' : Nat → Prop} {w w' : World} {ko : Option Addr} {l : List Nat} (h : IntsAt K w ko l) (hs : ∀ k, K k → K' k) (hk : Kept K w w') : IntsAt K' w' ko l := fun j hj => by
  obtain ⟨g, o, e, hg, hc⟩ := h j hj
  exact ⟨g, o, e, hs g hg, (hk.cell (p := ⟨g, o + j, none⟩) hg).trans hc⟩
theorem AtsAt.go {K K' : Nat → Prop} {w w' : World} {ao : Option Addr} {l : List Atr} (h : AtsAt K w ao l) (hs : ∀ k, K k → K' k) (hk : Kept K w w') : AtsAt K' w' ao l := fun j hj => by
  obtain ⟨g, o, e, hg, h1, h2⟩ := h j hj
  exact ⟨g, o, e, hs g hg, (hk.cell (p := ⟨g, o + j * 2, none⟩) hg).trans h1, (hk.cell (p := ⟨g, o + j * 2 + 1, none⟩) hg).trans h2⟩
theorem sizeN (cs : Array Value) (h : cs.size = 14) : (Try.prog.info? 33).map (·.size) = some cs.size := by rw [h]; kernel_rfl
/-- What inner answers of a node. -/
def Inn (w0 : World) (o : Ask) (c : Cf) (x : Nd) (q : List Nat) (L : List UInt8) : Prop :=
  ∀ (K : Nat → Prop) (w : World) (l : List UInt8) (ao : Option Addr) (ac : Nat) (up : Int) (ko : Option Addr) (kc : Nat), Pq w0 o K w c l → IntsAt K w ko q → l.length + L.length ≤ 1099511627776 →
    Calls Try.prog 29 #[.pointer (some ⟨c.b, 0, none⟩), .agg (nW x ao ac up ko q.length kc)] w fun e w' => e = .returned (.tuple #[]) ∧ Pq w0 o K w' c (l ++ L) ∧ Kept K w w'
structure Szd (x : Nd) : Prop where
  n : x.attrs.length ≤ 1000
  v : ∀ a ∈ x.attrs, a.value.length < 1000000
  d : x.kind = 2 → x.data.length < 1000000
  k : x.kind ≤ 255
theorem element_any {w0 : World} {o : Ask} {c : Cf} {x : Nd} {q : List Nat} {L : List UInt8} (hk1 : x.kind = 1) (hz : Szd x) (rin : voidP x.name = false → Inn w0 o c x q L) (K : Nat → Prop) (w : World) (l : List UInt8) (ao : Option Addr) (ac : Nat) (up : Int) (ko : Option Addr) (kc : Nat) (h : Pq w0 o K w c l) (ha : AtsAt K w ao x.attrs) (hi : IntsAt K w ko q)
    (hl : l.length + (staL x.name x.attrs ++ (if voidP x.name = true then [] else L ++ endL x.name)).length ≤ 1099511627776) :
    Calls Try.prog 50 #[.pointer (some ⟨c.b, 0, none⟩), .agg (nW x ao ac up ko q.length kc)] w fun e w' => e = .returned (.tuple #[]) ∧ Pq w0 o K w' c (l ++ (staL x.name x.attrs ++ (if voidP x.name = true then [] else L ++ endL x.name))) ∧ Kept K w w' := by
  obtain ⟨W, N, hW, hN, hb, hkW, hzW⟩ := alloc_bx w (nW x ao ac up ko q.length kc) 33
  have hqW := h.up hkW
  have hlt := h.lt
  obtain ⟨K1, hK1⟩ : ∃ K1 : Nat → Prop, (fun k => K k ∨ (w.heap.size ≤ k ∧ k < W.heap.size)) = K1 := ⟨_, rfl⟩
  rw [hK1] at hqW
  have hKK : ∀ k, K k → K1 k := fun k h => by rw [← hK1]; exact .inl h
  have hNK : K1 N := by rw [← hK1]; exact .inr ⟨by omega, by omega⟩
  have haW : AtsAt K1 W ao x.attrs := ha.go hKK (hkW.mono hlt)
  have hiW : IntsAt K1 W ko q := hi.go hKK (hkW.mono hlt)
  obtain ⟨st, hst⟩ : ∃ s, staL x.name x.attrs = s := ⟨_, rfl⟩
  rw [hst, List.length_append] at hl
  have r1 := start_any K1 c x.name x.attrs ao x.attrs.length ac rfl hz.n hz.v l W hqW.pg haW (by rw [hst]; omega)
  rw [hst] at r1 ⊢
  have HQ : Hid (Pq w0 o K w c l) := h
  have HQW : Hid (Pq w0 o K1 W c l) := hqW
  have HIW : Hid (IntsAt K1 W ko q) := hiW
  have HKW : Hid (Kept (fun k => k < w.heap.size) w W) := hkW
  have HB : Hid (W.heap[N]? = some (.cells (nW x ao ac up ko q.length kc) 33 (0, 0))) := hb
  have HNK : Hid (K1 N) := hNK
  have HKK : Hid (∀ k, K k → K1 k) := hKK
  have HLT : Hid (∀ k, K k → k < w.heap.size) := hlt
  have HW : Hid (w.alloc (.cells (nW x ao ac up ko q.length kc) 33) = W) := hW
  have HN : Hid (w.heap.size = N) := hN
  have c1 : W.cell? ⟨N, 1, none⟩ = some (.string ⟨x.name.toArray⟩) := by rw [cell_block hb]; rfl
  have c3 : W.cell? ⟨N, 3, none⟩ = some (.slice ao x.attrs.length ac) := by rw [cell_block hb]; rfl
  have HV : Hid (isV x = voidP x.name) := by show isV x = voidP x.name; unfold isV; rw [hk1]; rfl
  have RIN : Hid (voidP x.name = false → Inn w0 o c x q L) := rin
  obtain ⟨v, hv⟩ : ∃ v, voidP x.name = v := ⟨_, rfl⟩
  rw [hv] at hl ⊢ RIN HV
  clear h ha hi hW hN hb hkW hzW hqW hK1 hKK hNK haW hiW hst hz hlt rin hv
  cases v with
  | true =>
    rw [if_pos rfl, List.append_nil]
    clear hl RIN
    go_enter Try.func50, Try.ntmps50
    go_upto_region 1 with fail
    rw [HW.out, HN.out]
    clear HW HN
    go_wp2_with fail
    refine r1.mono ?_
    rintro e X ⟨rfl, hPX, hKX⟩
    have hbX : X.heap[N]? = some (.cells (nW x ao ac up ko q.length kc) 33 (0, 0)) := (hKX.block N HNK.out).trans HB.out
    have r2 := isVoid_any x ao ac up ko q.length kc X
    rw [HV.out] at r2
    have hqX := HQW.out.step hPX hKX
    have HQX : Hid (Pq w0 o K1 X c (l ++ st)) := hqX
    have HKX : Hid (Kept K1 W X) := hKX
    clear r1 hPX hKX c1 c3 hqX
    go_wp2_with (refine wpList_load_row rfl 33 _ rfl N rfl 33 (nW x ao ac up ko q.length kc) (0, 0) _ hbX Try.underlying33 rfl (sizeN _ rfl) ?_)
    refine r2.mono ?_
    rintro e Y ⟨rfl, hKY⟩
    have HQY : Hid (Pq w0 o K Y c (l ++ st)) := HQ.out.back (HQX.out.stay hKY) HKK.out
    have HKY : Hid (Kept K w Y) := ((HKW.out.mono HLT.out).trans (HKX.out.mono HKK.out)).trans (hKY.mono fun k h => HQX.out.lt k (HKK.out k h))
    clear r2 hKY hbX
    go_wp2
    refine bodyPost_ret (results_none rfl _ _ _) rfl ?_
    exact ⟨rfl, HQY.out, HKY.out⟩
  | false =>
    rw [if_neg (by decide)] at hl ⊢
    rw [List.length_append] at hl
    have rin := RIN.out rfl
    have HRI : Hid (Inn w0 o c x q L) := rin
    have HLL : Hid (l.length + (st.length + (L.length + (endL x.name).length)) ≤ 1099511627776) := hl
    clear RIN rin hl
    obtain ⟨F, hF⟩ : ∃ F, l ++ (st ++ (L ++ endL x.name)) = F := ⟨_, rfl⟩
    rw [hF]
    have HF : Hid (((l ++ st) ++ L) ++ endL x.name = F) := by rw [← hF]; show ((l ++ st) ++ L) ++ endL x.name = _; simp only [List.append_assoc]
    clear hF
    go_enter Try.func50, Try.ntmps50
    go_upto_region 1 with fail
    rw [HW.out, HN.out]
    clear HW HN
    go_wp2_with fail
    refine r1.mono ?_
    rintro e X ⟨rfl, hPX, hKX⟩
    have hbX : X.heap[N]? = some (.cells (nW x ao ac up ko q.length kc) 33 (0, 0)) := (hKX.block N HNK.out).trans HB.out
    have r2 := isVoid_any x ao ac up ko q.length kc X
    rw [HV.out] at r2
    have hqX := HQW.out.step hPX hKX
    have HQX : Hid (Pq w0 o K1 X c (l ++ st)) := hqX
    have HKX : Hid (Kept K1 W X) := hKX
    have HBX : Hid (X.heap[N]? = some (.cells (nW x ao ac up ko q.length kc) 33 (0, 0))) := hbX
    clear r1 hPX hKX c1 c3 hqX
    go_wp2_with (refine wpList_load_row rfl 33 _ rfl N rfl 33 (nW x ao ac up ko q.length kc) (0, 0) _ hbX Try.underlying33 rfl (sizeN _ rfl) ?_)
    refine r2.mono ?_
    rintro e Y ⟨rfl, hKY⟩
    have hqY := HQX.out.stay hKY
    have hbY : Y.heap[N]? = some (.cells (nW x ao ac up ko q.length kc) 33 (0, 0)) := (hKY.block N (lt_block HBX.out)).trans HBX.out
    have hkY1 : Kept K1 W Y := HKX.out.trans (hKY.mono fun k h => HQX.out.lt k h)
    have r3 := HRI.out K1 Y (l ++ st) ao ac up ko kc hqY (HIW.out.go (fun _ h => h) hkY1) (by have := HLL.out; rw [List.length_append]; omega)
    have HKY : Hid (Kept K1 W Y) := hkY1
    have HBY : Hid (Y.heap[N]? = some (.cells (nW x ao ac up ko q.length kc) 33 (0, 0))) := hbY
    clear r2 hKY hqY hkY1 hbX HBX HKX HQX HIW
    go_wp2_with (refine wpList_load_row rfl 33 _ rfl N rfl 33 (nW x ao ac up ko q.length kc) (0, 0) _ hbY Try.underlying33 rfl (sizeN _ rfl) ?_)
    refine r3.mono ?_
    rintro e Z ⟨rfl, hqZ, hKZ⟩
    have hbZ : Z.heap[N]? = some (.cells (nW x ao ac up ko q.length kc) 33 (0, 0)) := (hKZ.block N HNK.out).trans HBY.out
    have d1 : Z.cell? ⟨N, 1, none⟩ = some (.string ⟨x.name.toArray⟩) := by rw [cell_block hbZ]; rfl
    have r4 := end_any K1 c x.name ((l ++ st) ++ L) Z hqZ.pg (by have := HLL.out; rw [List.length_append, List.length_append]; omega)
    rw [HF.out] at r4
    have HQZ : Hid (Pq w0 o K1 Z c ((l ++ st) ++ L)) := hqZ
    have HKZ : Hid (Kept K1 W Z) := HKY.out.trans hKZ
    clear r3 hqZ hKZ hbY hbZ HBY HKY
    go_wp2_with fail
    refine r4.mono ?_
    rintro e U ⟨rfl, hPU, hKU⟩
    have HQU : Hid (Pq w0 o K U c F) := HQ.out.back (HQZ.out.step hPU hKU) HKK.out
    have HKU : Hid (Kept K w U) := (HKW.out.mono HLT.out).trans ((HKZ.out.trans hKU).mono HKK.out)
    clear r4 hPU hKU d1
    go_wp2
    go_end0
    exact ⟨rfl, HQU.out, HKU.out⟩
end Go.Proofs.Yteccdijjpmeeaaa
