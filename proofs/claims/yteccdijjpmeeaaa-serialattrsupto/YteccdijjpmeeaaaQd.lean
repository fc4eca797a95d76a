/-
  A page of a document: a shadow root.
-/
import Derived.Test.YteccdijjpmeeaaaQc
namespace Go.Proofs.Yteccdijjpmeeaaa
open Go.RowKit
set_option linter.unusedVariables false
set_option maxRecDepth 100000
set_option maxHeartbeats 4000000
def rootX (L : List UInt8) (x : Nd) (a sr : Bool) : List UInt8 := if (a || (sr && x.fl.d)) = true then staL tmplN (flA x.fl) ++ (L ++ endL tmplN) else []
theorem flA_len (f : Fg) : (flA f).length ≤ 5 := by
  unfold flA
  simp only [List.length_append, List.length_cons, List.length_nil]
  have : ∀ (q : Bool) (a : Atr), (if q = true then [a] else []).length ≤ 1 := fun q a => by cases q <;> simp
  have h1 := this f.c ⟨deleN, []⟩
  have h2 := this f.d ⟨seriN, []⟩
  have h3 := this f.b ⟨assiN, manuV⟩
  have h4 := this f.e ⟨clonN, []⟩
  omega
theorem flA_val (f : Fg) : ∀ a ∈ flA f, a.value.length < 1000000 := by
  intro a ha
  unfold flA at ha
  have key : ∀ (q : Bool) (b : Atr), b.value.length ≤ 6 → a ∈ (if q = true then [b] else []) → a.value.length ≤ 6 := fun q b hb h => by
    cases q with
    | true => rw [if_pos rfl, List.mem_singleton] at h; rw [h]; exact hb
    | false => rw [if_neg (by decide)] at h; cases h
  have k2 : a.value.length ≤ 6 := by
    rcases List.mem_append.1 ha with h | h
    · rw [List.mem_singleton] at h; rw [h]; show (if f.a = true then closV else openV).length ≤ 6; split <;> decide
    rcases List.mem_append.1 h with h | h
    · exact key _ _ (by decide) h
    rcases List.mem_append.1 h with h | h
    · exact key _ _ (by decide) h
    rcases List.mem_append.1 h with h | h
    · exact key _ _ (by decide) h
    · exact key _ _ (by decide) h
  omega
theorem root_any {w0 : World} {o : Ask} {c : Cf} {x : Nd} {q : List Nat} {L : List UInt8} (rin : Inn w0 o c x q L) (s : Nat) (hs : s < c.n) (hc : c.n ≤ 1000000) (up : Int) (K : Nat → Prop) (w : World) (l : List UInt8) (h : Pq w0 o K w c l)
    (r9 : Calls Try.prog 27 #[.pointer (some ⟨c.d, 0, none⟩), .int .i64 (s : Int)] w fun e w' => Told w x up q e w')
    (hl : l.length + (rootX L x (o.A s) o.ser).length ≤ 1099511627776) :
    Calls Try.prog 45 #[.pointer (some ⟨c.b, 0, none⟩), .int .i64 (s : Int)] w fun e w' => e = .returned (.tuple #[]) ∧ Pq w0 o K w' c (l ++ rootX L x (o.A s) o.ser) ∧ Kept K w w' := by
  obtain ⟨F, hF⟩ : ∃ F, l ++ rootX L x (o.A s) o.ser = F := ⟨_, rfl⟩
  rw [hF]
  have HF : Hid (l ++ rootX L x (o.A s) o.ser = F) := hF
  have HL : Hid (l.length + (rootX L x (o.A s) o.ser).length ≤ 1099511627776) := hl
  have HQ : Hid (Pq w0 o K w c l) := h
  have p2 := h.pg.cells.1
  have hsc : (s : Int) < (c.n : Int) := by omega
  have RI : Hid (Inn w0 o c x q L) := rin
  clear hF hl h rin
  obtain ⟨a, hA⟩ : ∃ a, o.A s = a := ⟨_, rfl⟩
  obtain ⟨sr, hsr⟩ : ∃ b, o.ser = b := ⟨_, rfl⟩
  obtain ⟨⟨fa, fb, fc, fd, fe⟩, hfl⟩ : ∃ f, x.fl = f := ⟨_, rfl⟩
  have HFL : Hid (x.fl = ⟨fa, fb, fc, fd, fe⟩) := hfl
  have HA : Hid (o.A s = a) := hA
  have HSR : Hid (o.ser = sr) := hsr
  have HX : Hid (rootX L x (o.A s) o.ser = if (a || (sr && fd)) = true then staL tmplN (flA x.fl) ++ (L ++ endL tmplN) else []) := by show rootX L x (o.A s) o.ser = _; unfold rootX; rw [hA, hsr, hfl]
  rw [HX.out] at HF HL
  clear hfl hA hsr HX
  cases a with
  | true =>
    rw [if_pos (by rfl)] at HF HL
    go_enter Try.func45, Try.ntmps45
    go_wp2_with fail
    refine r9.mono ?_
    rintro e w1 ⟨ao, ac, ko, kc, rfl, hAt, hQt, hK⟩
    obtain ⟨V, N, hV, hN, hb, hk, hzV⟩ := alloc_bx w1 (nW x ao ac up ko q.length kc) 33
    have hkV : Kept (fun k => k < w.heap.size) w V := hK.trans (hk.mono fun k h => Nat.lt_of_lt_of_le h hK.size)
    have hqV := HQ.out.up hkV
    obtain ⟨K1, hK1⟩ : ∃ K1 : Nat → Prop, (fun k => K k ∨ (w.heap.size ≤ k ∧ k < V.heap.size)) = K1 := ⟨_, rfl⟩
    rw [hK1] at hqV
    have hKK : ∀ k, K k → K1 k := fun k h => by rw [← hK1]; exact .inl h
    have hNK : K1 N := by rw [← hK1]; exact .inr ⟨by have := hK.size; omega, by omega⟩
    have hiV : IntsAt K1 V ko q := by
      have h1 : IntsAt (fun k => w.heap.size ≤ k ∧ k < w1.heap.size) w1 ko q := hQt.intsAt fun g hg => ⟨Nat.le_of_not_lt (OwnZ.out hQt hg).1, (OwnZ.out hQt hg).2⟩
      refine h1.go (fun k h => ?_) (hk.mono fun k h => h.2)
      rw [← hK1]; exact .inr ⟨h.1, by omega⟩
    have g9 : V.cell? ⟨N, 9, none⟩ = some (.bool fa) := by rw [cell_block hb]; show some (Value.bool x.fl.a) = _; rw [HFL.out]
    have g10 : V.cell? ⟨N, 10, none⟩ = some (.bool fb) := by rw [cell_block hb]; show some (Value.bool x.fl.b) = _; rw [HFL.out]
    have g11 : V.cell? ⟨N, 11, none⟩ = some (.bool fc) := by rw [cell_block hb]; show some (Value.bool x.fl.c) = _; rw [HFL.out]
    have g12 : V.cell? ⟨N, 12, none⟩ = some (.bool fd) := by rw [cell_block hb]; show some (Value.bool x.fl.d) = _; rw [HFL.out]
    have g13 : V.cell? ⟨N, 13, none⟩ = some (.bool fe) := by rw [cell_block hb]; show some (Value.bool x.fl.e) = _; rw [HFL.out]
    obtain ⟨-, p3, p4⟩ := hqV.pg.cells
    rw [hqV.sr, HSR.out] at p3
    have pa := hqV.ask.at hs
    rw [HA.out] at pa
    have HQV : Hid (Pq w0 o K1 V c l) := hqV
    have HIV : Hid (IntsAt K1 V ko q) := hiV
    have HKV : Hid (Kept (fun k => k < w.heap.size) w V) := hkV
    have HB : Hid (V.heap[N]? = some (.cells (nW x ao ac up ko q.length kc) 33 (0, 0))) := hb
    have HNK : Hid (K1 N) := hNK
    have HKK : Hid (∀ k, K k → K1 k) := hKK
    have HV : Hid (w1.alloc (.cells (nW x ao ac up ko q.length kc) 33) = V) := hV
    have HN : Hid (w1.heap.size = N) := hN
    clear r9 hAt hQt hK hV hN hb hk hzV hkV hqV hK1 hKK hNK hiV p2
    go_upto_region 1 with fail
    rw [HV.out, HN.out]
    clear HV HN
    have rw' := written_any ⟨fa, fb, fc, fd, fe⟩ V
    go_wp2_with fail
    refine rw'.mono ?_
    rintro e X ⟨wa, wc, rfl, hO, hKX⟩
    have hqX := HQV.out.up hKX
    obtain ⟨K2, hK2⟩ : ∃ K2 : Nat → Prop, (fun k => K1 k ∨ (V.heap.size ≤ k ∧ k < X.heap.size)) = K2 := ⟨_, rfl⟩
    rw [hK2] at hqX
    have hK12 : ∀ k, K1 k → K2 k := fun k h => by rw [← hK2]; exact .inl h
    have haX : AtsAt K2 X wa (flA ⟨fa, fb, fc, fd, fe⟩) := hO.atsAt (K' := K2) fun g hg => by
      rw [← hK2]; exact .inr ⟨Nat.le_of_not_lt (OwnZ.out hO hg).1, (OwnZ.out hO hg).2⟩
    obtain ⟨st, hst⟩ : ∃ t, staL tmplN (flA x.fl) = t := ⟨_, rfl⟩
    have hll := HL.out
    rw [hst, List.length_append, List.length_append] at hll
    have hff := HF.out
    rw [hst] at hff
    rw [HFL.out] at hst
    have rs := start_any K2 c tmplN (flA ⟨fa, fb, fc, fd, fe⟩) wa _ wc rfl (by have := flA_len ⟨fa, fb, fc, fd, fe⟩; omega) (flA_val _) l X hqX.pg haX (by rw [hst]; omega)
    rw [hst] at rs
    have HQX : Hid (Pq w0 o K2 X c l) := hqX
    have H12 : Hid (∀ k, K1 k → K2 k) := hK12
    have HKX : Hid (Kept (fun k => k < V.heap.size) V X) := hKX
    have HLL : Hid (l.length + (st.length + (L.length + (endL tmplN).length)) ≤ 1099511627776) := hll
    have HFF : Hid (l ++ (st ++ (L ++ endL tmplN)) = F) := hff
    clear rw' hO hKX hqX hK2 hK12 haX hst hll hff HF HL g9 g10 g11 g12 g13 p3 p4 pa HFL
    go_wp2_with fail
    refine rs.mono ?_
    rintro e Y ⟨rfl, hPY, hKY⟩
    have hqY := HQX.out.step hPY hKY
    have hVY : Kept K1 V Y := (HKX.out.mono HQV.out.lt).trans (hKY.mono H12.out)
    have hbY : Y.heap[N]? = some (.cells (nW x ao ac up ko q.length kc) 33 (0, 0)) := (hVY.block N HNK.out).trans HB.out
    have hqY1 := HQV.out.back hqY H12.out
    have ri := RI.out K1 Y (l ++ st) ao ac up ko kc hqY1 (HIV.out.go (fun _ h => h) hVY) (by have := HLL.out; rw [List.length_append]; omega)
    have HVY : Hid (Kept K1 V Y) := hVY
    clear rs hPY hKY hqY hVY hqY1
    go_wp2_with (refine wpList_load_row rfl 33 _ rfl N rfl 33 (nW x ao ac up ko q.length kc) (0, 0) _ hbY Try.underlying33 rfl (sizeN _ rfl) ?_)
    refine ri.mono ?_
    rintro e Z ⟨rfl, hqZ, hKZ⟩
    have re := end_any K1 c tmplN ((l ++ st) ++ L) Z hqZ.pg (by have := HLL.out; rw [List.length_append, List.length_append]; omega)
    have HQZ : Hid (Pq w0 o K1 Z c ((l ++ st) ++ L)) := hqZ
    have HKZ : Hid (Kept K1 V Z) := HVY.out.trans hKZ
    clear ri hqZ hKZ hbY HVY
    go_wp2_with fail
    refine re.mono ?_
    rintro e U ⟨rfl, hPU, hKU⟩
    have hqU := HQ.out.back (HQZ.out.step hPU hKU) HKK.out
    rw [List.append_assoc, List.append_assoc, HFF.out] at hqU
    have HQU : Hid (Pq w0 o K U c F) := hqU
    have HKU : Hid (Kept K w U) := (HKV.out.mono HQ.out.lt).trans ((HKZ.out.trans hKU).mono HKK.out)
    clear re hPU hKU hqU
    go_wp2
    go_end0
    exact ⟨rfl, HQU.out, HKU.out⟩
  | false =>
    cases sr with
    | false =>
      rw [if_neg (by simp), List.append_nil] at HF
      go_enter Try.func45, Try.ntmps45
      go_wp2_with fail
      refine r9.mono ?_
      rintro e w1 ⟨ao, ac, ko, kc, rfl, hAt, hQt, hK⟩
      obtain ⟨V, N, hV, hN, hb, hk, hzV⟩ := alloc_bx w1 (nW x ao ac up ko q.length kc) 33
      have hkV : Kept (fun k => k < w.heap.size) w V := hK.trans (hk.mono fun k h => Nat.lt_of_lt_of_le h hK.size)
      have hqV := HQ.out.up hkV
      obtain ⟨K1, hK1⟩ : ∃ K1 : Nat → Prop, (fun k => K k ∨ (w.heap.size ≤ k ∧ k < V.heap.size)) = K1 := ⟨_, rfl⟩
      rw [hK1] at hqV
      have hKK : ∀ k, K k → K1 k := fun k h => by rw [← hK1]; exact .inl h
      have hNK : K1 N := by rw [← hK1]; exact .inr ⟨by have := hK.size; omega, by omega⟩
      have hiV : IntsAt K1 V ko q := by
        have h1 : IntsAt (fun k => w.heap.size ≤ k ∧ k < w1.heap.size) w1 ko q := hQt.intsAt fun g hg => ⟨Nat.le_of_not_lt (OwnZ.out hQt hg).1, (OwnZ.out hQt hg).2⟩
        refine h1.go (fun k h => ?_) (hk.mono fun k h => h.2)
        rw [← hK1]; exact .inr ⟨h.1, by omega⟩
      have g9 : V.cell? ⟨N, 9, none⟩ = some (.bool fa) := by rw [cell_block hb]; show some (Value.bool x.fl.a) = _; rw [HFL.out]
      have g10 : V.cell? ⟨N, 10, none⟩ = some (.bool fb) := by rw [cell_block hb]; show some (Value.bool x.fl.b) = _; rw [HFL.out]
      have g11 : V.cell? ⟨N, 11, none⟩ = some (.bool fc) := by rw [cell_block hb]; show some (Value.bool x.fl.c) = _; rw [HFL.out]
      have g12 : V.cell? ⟨N, 12, none⟩ = some (.bool fd) := by rw [cell_block hb]; show some (Value.bool x.fl.d) = _; rw [HFL.out]
      have g13 : V.cell? ⟨N, 13, none⟩ = some (.bool fe) := by rw [cell_block hb]; show some (Value.bool x.fl.e) = _; rw [HFL.out]
      obtain ⟨-, p3, p4⟩ := hqV.pg.cells
      rw [hqV.sr, HSR.out] at p3
      have pa := hqV.ask.at hs
      rw [HA.out] at pa
      have HQV : Hid (Pq w0 o K1 V c l) := hqV
      have HIV : Hid (IntsAt K1 V ko q) := hiV
      have HKV : Hid (Kept (fun k => k < w.heap.size) w V) := hkV
      have HB : Hid (V.heap[N]? = some (.cells (nW x ao ac up ko q.length kc) 33 (0, 0))) := hb
      have HNK : Hid (K1 N) := hNK
      have HKK : Hid (∀ k, K k → K1 k) := hKK
      have HV : Hid (w1.alloc (.cells (nW x ao ac up ko q.length kc) 33) = V) := hV
      have HN : Hid (w1.heap.size = N) := hN
      clear r9 hAt hQt hK hV hN hb hk hzV hkV hqV hK1 hKK hNK hiV p2
      go_upto_region 1 with fail
      rw [HV.out, HN.out]
      clear HV HN
      go_wp2
      refine bodyPost_ret (results_none rfl _ _ _) rfl ?_
      have hqf := HQ.out.back HQV.out HKK.out
      rw [HF.out] at hqf
      exact ⟨rfl, hqf, HKV.out.mono HQ.out.lt⟩
    | true =>
      cases fd with
      | false =>
        rw [if_neg (by simp), List.append_nil] at HF
        go_enter Try.func45, Try.ntmps45
        go_wp2_with fail
        refine r9.mono ?_
        rintro e w1 ⟨ao, ac, ko, kc, rfl, hAt, hQt, hK⟩
        obtain ⟨V, N, hV, hN, hb, hk, hzV⟩ := alloc_bx w1 (nW x ao ac up ko q.length kc) 33
        have hkV : Kept (fun k => k < w.heap.size) w V := hK.trans (hk.mono fun k h => Nat.lt_of_lt_of_le h hK.size)
        have hqV := HQ.out.up hkV
        obtain ⟨K1, hK1⟩ : ∃ K1 : Nat → Prop, (fun k => K k ∨ (w.heap.size ≤ k ∧ k < V.heap.size)) = K1 := ⟨_, rfl⟩
        rw [hK1] at hqV
        have hKK : ∀ k, K k → K1 k := fun k h => by rw [← hK1]; exact .inl h
        have hNK : K1 N := by rw [← hK1]; exact .inr ⟨by have := hK.size; omega, by omega⟩
        have hiV : IntsAt K1 V ko q := by
          have h1 : IntsAt (fun k => w.heap.size ≤ k ∧ k < w1.heap.size) w1 ko q := hQt.intsAt fun g hg => ⟨Nat.le_of_not_lt (OwnZ.out hQt hg).1, (OwnZ.out hQt hg).2⟩
          refine h1.go (fun k h => ?_) (hk.mono fun k h => h.2)
          rw [← hK1]; exact .inr ⟨h.1, by omega⟩
        have g9 : V.cell? ⟨N, 9, none⟩ = some (.bool fa) := by rw [cell_block hb]; show some (Value.bool x.fl.a) = _; rw [HFL.out]
        have g10 : V.cell? ⟨N, 10, none⟩ = some (.bool fb) := by rw [cell_block hb]; show some (Value.bool x.fl.b) = _; rw [HFL.out]
        have g11 : V.cell? ⟨N, 11, none⟩ = some (.bool fc) := by rw [cell_block hb]; show some (Value.bool x.fl.c) = _; rw [HFL.out]
        have g12 : V.cell? ⟨N, 12, none⟩ = some (.bool false) := by rw [cell_block hb]; show some (Value.bool x.fl.d) = _; rw [HFL.out]
        have g13 : V.cell? ⟨N, 13, none⟩ = some (.bool fe) := by rw [cell_block hb]; show some (Value.bool x.fl.e) = _; rw [HFL.out]
        obtain ⟨-, p3, p4⟩ := hqV.pg.cells
        rw [hqV.sr, HSR.out] at p3
        have pa := hqV.ask.at hs
        rw [HA.out] at pa
        have HQV : Hid (Pq w0 o K1 V c l) := hqV
        have HIV : Hid (IntsAt K1 V ko q) := hiV
        have HKV : Hid (Kept (fun k => k < w.heap.size) w V) := hkV
        have HB : Hid (V.heap[N]? = some (.cells (nW x ao ac up ko q.length kc) 33 (0, 0))) := hb
        have HNK : Hid (K1 N) := hNK
        have HKK : Hid (∀ k, K k → K1 k) := hKK
        have HV : Hid (w1.alloc (.cells (nW x ao ac up ko q.length kc) 33) = V) := hV
        have HN : Hid (w1.heap.size = N) := hN
        clear r9 hAt hQt hK hV hN hb hk hzV hkV hqV hK1 hKK hNK hiV p2
        go_upto_region 1 with fail
        rw [HV.out, HN.out]
        clear HV HN
        go_wp2
        refine bodyPost_ret (results_none rfl _ _ _) rfl ?_
        have hqf := HQ.out.back HQV.out HKK.out
        rw [HF.out] at hqf
        exact ⟨rfl, hqf, HKV.out.mono HQ.out.lt⟩
      | true =>
        rw [if_pos (by rfl)] at HF HL
        go_enter Try.func45, Try.ntmps45
        go_wp2_with fail
        refine r9.mono ?_
        rintro e w1 ⟨ao, ac, ko, kc, rfl, hAt, hQt, hK⟩
        obtain ⟨V, N, hV, hN, hb, hk, hzV⟩ := alloc_bx w1 (nW x ao ac up ko q.length kc) 33
        have hkV : Kept (fun k => k < w.heap.size) w V := hK.trans (hk.mono fun k h => Nat.lt_of_lt_of_le h hK.size)
        have hqV := HQ.out.up hkV
        obtain ⟨K1, hK1⟩ : ∃ K1 : Nat → Prop, (fun k => K k ∨ (w.heap.size ≤ k ∧ k < V.heap.size)) = K1 := ⟨_, rfl⟩
        rw [hK1] at hqV
        have hKK : ∀ k, K k → K1 k := fun k h => by rw [← hK1]; exact .inl h
        have hNK : K1 N := by rw [← hK1]; exact .inr ⟨by have := hK.size; omega, by omega⟩
        have hiV : IntsAt K1 V ko q := by
          have h1 : IntsAt (fun k => w.heap.size ≤ k ∧ k < w1.heap.size) w1 ko q := hQt.intsAt fun g hg => ⟨Nat.le_of_not_lt (OwnZ.out hQt hg).1, (OwnZ.out hQt hg).2⟩
          refine h1.go (fun k h => ?_) (hk.mono fun k h => h.2)
          rw [← hK1]; exact .inr ⟨h.1, by omega⟩
        have g9 : V.cell? ⟨N, 9, none⟩ = some (.bool fa) := by rw [cell_block hb]; show some (Value.bool x.fl.a) = _; rw [HFL.out]
        have g10 : V.cell? ⟨N, 10, none⟩ = some (.bool fb) := by rw [cell_block hb]; show some (Value.bool x.fl.b) = _; rw [HFL.out]
        have g11 : V.cell? ⟨N, 11, none⟩ = some (.bool fc) := by rw [cell_block hb]; show some (Value.bool x.fl.c) = _; rw [HFL.out]
        have g12 : V.cell? ⟨N, 12, none⟩ = some (.bool true) := by rw [cell_block hb]; show some (Value.bool x.fl.d) = _; rw [HFL.out]
        have g13 : V.cell? ⟨N, 13, none⟩ = some (.bool fe) := by rw [cell_block hb]; show some (Value.bool x.fl.e) = _; rw [HFL.out]
        obtain ⟨-, p3, p4⟩ := hqV.pg.cells
        rw [hqV.sr, HSR.out] at p3
        have pa := hqV.ask.at hs
        rw [HA.out] at pa
        have HQV : Hid (Pq w0 o K1 V c l) := hqV
        have HIV : Hid (IntsAt K1 V ko q) := hiV
        have HKV : Hid (Kept (fun k => k < w.heap.size) w V) := hkV
        have HB : Hid (V.heap[N]? = some (.cells (nW x ao ac up ko q.length kc) 33 (0, 0))) := hb
        have HNK : Hid (K1 N) := hNK
        have HKK : Hid (∀ k, K k → K1 k) := hKK
        have HV : Hid (w1.alloc (.cells (nW x ao ac up ko q.length kc) 33) = V) := hV
        have HN : Hid (w1.heap.size = N) := hN
        clear r9 hAt hQt hK hV hN hb hk hzV hkV hqV hK1 hKK hNK hiV p2
        go_upto_region 1 with fail
        rw [HV.out, HN.out]
        clear HV HN
        have rw' := written_any ⟨fa, fb, fc, true, fe⟩ V
        go_wp2_with fail
        refine rw'.mono ?_
        rintro e X ⟨wa, wc, rfl, hO, hKX⟩
        have hqX := HQV.out.up hKX
        obtain ⟨K2, hK2⟩ : ∃ K2 : Nat → Prop, (fun k => K1 k ∨ (V.heap.size ≤ k ∧ k < X.heap.size)) = K2 := ⟨_, rfl⟩
        rw [hK2] at hqX
        have hK12 : ∀ k, K1 k → K2 k := fun k h => by rw [← hK2]; exact .inl h
        have haX : AtsAt K2 X wa (flA ⟨fa, fb, fc, true, fe⟩) := hO.atsAt (K' := K2) fun g hg => by
          rw [← hK2]; exact .inr ⟨Nat.le_of_not_lt (OwnZ.out hO hg).1, (OwnZ.out hO hg).2⟩
        obtain ⟨st, hst⟩ : ∃ t, staL tmplN (flA x.fl) = t := ⟨_, rfl⟩
        have hll := HL.out
        rw [hst, List.length_append, List.length_append] at hll
        have hff := HF.out
        rw [hst] at hff
        rw [HFL.out] at hst
        have rs := start_any K2 c tmplN (flA ⟨fa, fb, fc, true, fe⟩) wa _ wc rfl (by have := flA_len ⟨fa, fb, fc, true, fe⟩; omega) (flA_val _) l X hqX.pg haX (by rw [hst]; omega)
        rw [hst] at rs
        have HQX : Hid (Pq w0 o K2 X c l) := hqX
        have H12 : Hid (∀ k, K1 k → K2 k) := hK12
        have HKX : Hid (Kept (fun k => k < V.heap.size) V X) := hKX
        have HLL : Hid (l.length + (st.length + (L.length + (endL tmplN).length)) ≤ 1099511627776) := hll
        have HFF : Hid (l ++ (st ++ (L ++ endL tmplN)) = F) := hff
        clear rw' hO hKX hqX hK2 hK12 haX hst hll hff HF HL g9 g10 g11 g12 g13 p3 p4 pa HFL
        go_wp2_with fail
        refine rs.mono ?_
        rintro e Y ⟨rfl, hPY, hKY⟩
        have hqY := HQX.out.step hPY hKY
        have hVY : Kept K1 V Y := (HKX.out.mono HQV.out.lt).trans (hKY.mono H12.out)
        have hbY : Y.heap[N]? = some (.cells (nW x ao ac up ko q.length kc) 33 (0, 0)) := (hVY.block N HNK.out).trans HB.out
        have hqY1 := HQV.out.back hqY H12.out
        have ri := RI.out K1 Y (l ++ st) ao ac up ko kc hqY1 (HIV.out.go (fun _ h => h) hVY) (by have := HLL.out; rw [List.length_append]; omega)
        have HVY : Hid (Kept K1 V Y) := hVY
        clear rs hPY hKY hqY hVY hqY1
        go_wp2_with (refine wpList_load_row rfl 33 _ rfl N rfl 33 (nW x ao ac up ko q.length kc) (0, 0) _ hbY Try.underlying33 rfl (sizeN _ rfl) ?_)
        refine ri.mono ?_
        rintro e Z ⟨rfl, hqZ, hKZ⟩
        have re := end_any K1 c tmplN ((l ++ st) ++ L) Z hqZ.pg (by have := HLL.out; rw [List.length_append, List.length_append]; omega)
        have HQZ : Hid (Pq w0 o K1 Z c ((l ++ st) ++ L)) := hqZ
        have HKZ : Hid (Kept K1 V Z) := HVY.out.trans hKZ
        clear ri hqZ hKZ hbY HVY
        go_wp2_with fail
        refine re.mono ?_
        rintro e U ⟨rfl, hPU, hKU⟩
        have hqU := HQ.out.back (HQZ.out.step hPU hKU) HKK.out
        rw [List.append_assoc, List.append_assoc, HFF.out] at hqU
        have HQU : Hid (Pq w0 o K U c F) := hqU
        have HKU : Hid (Kept K w U) := (HKV.out.mono HQ.out.lt).trans ((HKZ.out.trans hKU).mono HKK.out)
        clear re hPU hKU hqU
        go_wp2
        go_end0
        exact ⟨rfl, HQU.out, HKU.out⟩
end Go.Proofs.Yteccdijjpmeeaaa
