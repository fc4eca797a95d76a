/-
  The stack of the tree's builder: a func value that answers so (Ans), end, endTop, deep, push.
-/
import Derived.Test.YtffllhohlfblnaaBX
import Derived.Test.YtffllhohlfblnaaBC
import Derived.Test.YtffllhohlfblnaaBK
import Derived.Deep.RegionLaw
import Derived.Deep.Cut
import Derived.Laws.EntriesVeiled
namespace Go.Proofs.Ytffllhohlfblnaa
open Go.RowKit

/-- A func value that answers a question about a name: in w, and wherever w's blocks are as they were. -/
def Ans (w : World) (v : Value) (F : List UInt8 → Bool) : Prop :=
  ∃ f caps, v = .func (.func f) #[] caps ∧ (∀ args X, (callFunc f args).run Try.prog X = .ok (.enter f args) X) ∧
    ∀ X, Kept (fun k => k < w.heap.size) w X → ∀ s : ByteArray, Calls Try.prog f (#[.string s] ++ caps) X fun e Y => e = .returned (.bool (F s.toList)) ∧ Kept (fun k => k < X.heap.size) X Y
theorem Ans.kept {w w' : World} {v : Value} {F : List UInt8 → Bool} (h : Ans w v F) (hk : Kept (fun k => k < w.heap.size) w w') : Ans w' v F := by
  obtain ⟨f, caps, h1, h2, h3⟩ := h
  exact ⟨f, caps, h1, h2, fun X hX s => h3 X (hk.trans (hX.mono fun k h => Nat.lt_of_lt_of_le h hk.size)) s⟩
theorem seek_snoc (so ba : List UInt8 → Bool) (l : List (List UInt8)) (x : List UInt8) : seek so ba (l ++ [x]) = if so x = true then some l.length else if ba x = true then none else seek so ba l := by
  unfold seek
  rw [List.reverse_append]
  simp only [List.reverse_cons, List.reverse_nil, List.nil_append, List.singleton_append, seekR, List.length_reverse]
theorem seek_take (so ba : List UInt8 → Bool) (l : List (List UInt8)) (k : Nat) (h : k < l.length) : seek so ba (l.take (k + 1)) = if so l[k] = true then some k else if ba l[k] = true then none else seek so ba (l.take k) := by
  rw [List.take_succ_eq_append_getElem h, seek_snoc, List.length_take, Nat.min_eq_left (by omega)]
/-- What was ended. -/
def endedL (l : List (List UInt8)) : Option Nat → List (List UInt8)
  | none => []
  | some k => l.drop k

set_option maxRecDepth 20000 in
set_option maxHeartbeats 1000000 in
theorem end_any (K : Nat → Prop) (p : Nat) (st : BS) (w : World) (h : BX K w p st) (hl : st.opn.length ≤ 1000000) (so ba : List UInt8 → Bool) (vs vb : Value) (hs : Ans w vs so) (hb : Ans w vb ba) :
    Calls Try.prog 59 #[.pointer (some ⟨p, 0, none⟩), vs, vb] w fun e w' => (∃ la cap, e = .returned (.slice la (endedL st.opn (seek so ba st.opn)).length cap) ∧ (endedL st.opn (seek so ba st.opn)).length ≤ cap ∧ NamesAt w' la (endedL st.opn (seek so ba st.opn))) ∧ BX K w' p (st.fin so ba) ∧ Kept K w w' := by
  obtain ⟨f1, c1, rfl, e1, r1⟩ := hs
  obtain ⟨f2, c2, rfl, e2, r2⟩ := hb
  obtain ⟨N, hN⟩ : ∃ N, st.opn.length = N := ⟨_, rfl⟩
  obtain ⟨q, hq⟩ : ∃ q, seek so ba st.opn = q := ⟨_, rfl⟩
  have HQ : Hid (seek so ba st.opn = q) := hq
  have HN : Hid (st.opn.length = N) := hN
  have HX : Hid (BX K w p st) := h
  have H1 : Hid (∀ X, Kept (fun k => k < w.heap.size) w X → ∀ s : ByteArray, Calls Try.prog f1 (#[.string s] ++ c1) X fun e Y => e = .returned (.bool (so s.toList)) ∧ Kept (fun k => k < X.heap.size) X Y) := r1
  have H2 : Hid (∀ X, Kept (fun k => k < w.heap.size) w X → ∀ s : ByteArray, Calls Try.prog f2 (#[.string s] ++ c2) X fun e Y => e = .returned (.bool (ba s.toList)) ∧ Kept (fun k => k < X.heap.size) X Y) := r2
  obtain ⟨oa, oc, ia, ic, fa, fc, k0, -, -⟩ := h.cells
  rw [hN] at k0 hl
  rw [hq]
  clear hN hq h r1 r2
  go_enter Try.func59, Try.ntmps59
  go_upto_region 2 with fail
  go_loopg [7] N (fun g v wr => ∃ k : Nat, g = k ∧ k ≤ N ∧ v = .int .i64 ((k : Int) - 1) ∧ seek so ba (st.opn.take k) = q ∧ Kept (fun x => x < w.heap.size) w wr)
  case atStart => exact ⟨N, rfl, Nat.le_refl _, rfl, by rw [List.take_of_length_le (by rw [HN.out]; exact Nat.le_refl _)]; exact HQ.out, Kept.refl _ _⟩
  case round =>
    obtain ⟨k, hgk, hk, rfl, hsk, hkw⟩ := hrel
    have HS : Hid (seek so ba (st.opn.take k) = q) := hsk
    have HKW : Hid (Kept (fun x => x < w.heap.size) w wr) := hkw
    have HX1 : Hid (BX K wr p st) := HX.out.kept hkw
    clear hsk hkw
    cases k with
    | zero =>
      have hq : q = none := by rw [← HS.out]; rfl
      subst hq
      clear k0 e1 e2
      go_wp2
      go_ret
      refine ⟨⟨none, 0, rfl, Nat.zero_le _, fun j hj => absurd hj (Nat.not_lt_zero _)⟩, ?_, ?_⟩
      · unfold BS.fin
        rw [HQ.out]
        exact HX1.out
      · exact HKW.out.mono HX.out.lt
    | succ k =>
      have hkN : k < st.opn.length := by rw [HN.out]; omega
      have ei : (((k + 1 : Nat) : Int) - 1) = (k : Int) := by omega
      rw [ei]
      clear ei
      obtain ⟨g, oc1, m0, hoc, mc, hgl, hgp, -, -, -⟩ := HX1.out.cutO hkN
      have mk := mc k hkN
      obtain ⟨S, hS⟩ : ∃ S : ByteArray, (⟨st.opn[k].toArray⟩ : ByteArray) = S := ⟨_, rfl⟩
      have hSl : S.toList = st.opn[k] := by rw [ByteArray.toList_eq, ← hS]
      replace mk : wr.cell? ⟨g, k, none⟩ = some (.string S) := by rw [← hS]; exact mk
      rw [HN.out] at m0 hoc
      have hsk := HS.out
      rw [seek_take so ba st.opn k hkN, ← hSl] at hsk
      have HS' : Hid ((if so S.toList = true then some k else if ba S.toList = true then none else seek so ba (st.opn.take k)) = q) := hsk
      have q1 := H1.out wr HKW.out S
      have HQ1 : Hid (Calls Try.prog f1 (#[.string S] ++ c1) wr fun e Y => e = .returned (.bool (so S.toList)) ∧ Kept (fun k => k < wr.heap.size) wr Y) := q1
      clear hsk mc hS HS k0 q1
      go_wp2_with fail
      refine HQ1.out.mono ?_
      rintro e w1 ⟨rfl, k1⟩
      have HK1 : Hid (Kept (fun x => x < w.heap.size) w w1) := HKW.out.trans (k1.mono fun x hx => Nat.lt_of_lt_of_le hx HKW.out.size)
      have HX2 : Hid (BX K w1 p st) := HX1.out.kept k1
      clear m0 hoc hgl hgp mk HX1 HQ1 k1
      obtain ⟨a1, ha1⟩ : ∃ a, so S.toList = a := ⟨_, rfl⟩
      rw [ha1]
      cases a1 with
      | true =>
        have hq : q = some k := by rw [← HS'.out, ha1]; rfl
        subst hq
        obtain ⟨g1, oc2, m0, hoc, mc, hgl, hgp, hX3, kX3, hN3⟩ := HX2.out.cutO hkN
        have f0 := HX2.out.frz 0
        rw [HN.out] at m0 hoc
        have HX3 : Hid (BX K (w1.setCell ⟨p, 0, none⟩ (.slice (some ⟨g1, 0, none⟩) k oc2)) p { st with opn := st.opn.take k }) := hX3
        have HK3 : Hid (Kept K w1 (w1.setCell ⟨p, 0, none⟩ (.slice (some ⟨g1, 0, none⟩) k oc2))) := kX3
        have HN3 : Hid (NamesAt (w1.setCell ⟨p, 0, none⟩ (.slice (some ⟨g1, 0, none⟩) k oc2)) (some ⟨g1, k, none⟩) (st.opn.drop k)) := hN3
        clear mc hX3 kX3 hN3 ha1 hSl HS' HX2 H1 H2 e1 e2
        have hk2 : k ≤ oc2 := by omega
        go_wp2
        go_ret
        have hlen : (endedL st.opn (some k)).length = N - k := by
          show (st.opn.drop k).length = _
          rw [List.length_drop, HN.out]
        refine ⟨⟨some ⟨g1, k, none⟩, oc2 - k, by rw [hlen]; rfl, by rw [hlen]; omega, HN3.out⟩, ?_, (HK1.out.mono HX.out.lt).trans HK3.out⟩
        unfold BS.fin
        rw [HQ.out]
        exact HX3.out
      | false =>
        have hsk := HS'.out
        rw [ha1] at hsk
        have HS2 : Hid ((if ba S.toList = true then none else seek so ba (st.opn.take k)) = q) := hsk
        have HQ2 : Hid (Calls Try.prog f2 (#[.string S] ++ c2) w1 fun e Y => e = .returned (.bool (ba S.toList)) ∧ Kept (fun k => k < w1.heap.size) w1 Y) := H2.out w1 HK1.out S
        clear hsk HS' ha1 hSl
        go_wp2_with fail
        refine HQ2.out.mono ?_
        rintro e w2 ⟨rfl, k2⟩
        have HK2 : Hid (Kept (fun x => x < w.heap.size) w w2) := HK1.out.trans (k2.mono fun x hx => Nat.lt_of_lt_of_le hx HK1.out.size)
        have HX3 : Hid (BX K w2 p st) := HX2.out.kept k2
        clear HX2 HQ2 k2 HK1
        obtain ⟨a2, ha2⟩ : ∃ a, ba S.toList = a := ⟨_, rfl⟩
        rw [ha2]
        cases a2 with
        | true =>
          have hq : q = none := by rw [← HS2.out, ha2]; rfl
          subst hq
          clear ha2 HS2
          go_wp2
          go_ret
          refine ⟨⟨none, 0, rfl, Nat.zero_le _, fun j hj => absurd hj (Nat.not_lt_zero _)⟩, ?_, ?_⟩
          · unfold BS.fin
            rw [HQ.out]
            exact HX3.out
          · exact HK2.out.mono HX.out.lt
        | false =>
          have hsk := HS2.out
          rw [ha2] at hsk
          have HS3 : Hid (seek so ba (st.opn.take k) = q) := hsk
          clear hsk HS2 ha2
          go_wp2
          go_roundg k
          case rel => exact ⟨k, rfl, by omega, by go_num, HS3.out, HK2.out⟩
          case measure => omega

/-- A call of a function that has a body. -/
theorem entersB {f : FuncId} {fn : Func} {c : Code} (hf : Try.prog.funcs[f]? = some fn) (hname : (fn.name == "runtime.NumGoroutine") = false) (hb : fn.body = some c) (args : Array Value) (w : World) :
    (callFunc f args).run Try.prog w = .ok (.enter f args) w := by
  have hname : ¬ fn.name = "runtime.NumGoroutine" := by simpa using hname
  simp [callFunc, hf, hb, hname]
theorem Ans.congr {w : World} {v : Value} {F G : List UInt8 → Bool} (h : Ans w v F) (e : ∀ s, F s = G s) : Ans w v G := by
  have : F = G := funext e
  rw [← this]; exact h
theorem Ans.any (w : World) : Ans w (.func (.func 99) #[] #[]) anyN :=
  ⟨99, #[], rfl, fun args X => entersB Try.func99 (by kernel_rfl) (c := _) rfl args X, fun X _ s => (anything_any s X).mono fun e Y ⟨h1, h2⟩ => ⟨h1, by rw [h2]; exact Kept.refl _ _⟩⟩
theorem Ans.heads (w : World) : Ans w (.func (.func 82) #[] #[]) (isIn headL) :=
  ⟨82, #[], rfl, fun args X => entersB Try.func82 (by kernel_rfl) (c := _) rfl args X, fun X _ s => heading_any s _ X⟩
theorem OneOf.ans {w : World} {v : Value} {L : List (List UInt8)} (h : OneOf w v L) : Ans w v (isIn L) := by
  obtain ⟨h0, b, la, cap, h1, h2, h3, h4⟩ := h
  refine ⟨84, #[.pointer (some ⟨b, 0, none⟩)], h1, fun args X => entersB Try.func84 (by kernel_rfl) (c := _) rfl args X, fun X hX s => ?_⟩
  exact oneOf1_any L la cap s h0 _ (fun k => k < w.heap.size) b X (by rw [hX.cell (p := ⟨b, 0, none⟩) h2]; exact h3) (h4.kept hX fun _ h => h)
/-- Names in a block that was laid just now. -/
theorem strs_new (X : World) (N : Nat) (L : List (List UInt8)) (cur : Array Value) (hN : N = X.heap.size) (hc : cur.toList = svs L) : StrsIn (fun k => k < (X.alloc (.cells cur 9)).heap.size) (X.alloc (.cells cur 9)) (some ⟨N, 0, none⟩) L := by
  subst hN
  intro j hj
  refine ⟨X.heap.size, rfl, by simp, ?_⟩
  rw [cell_block (heap_alloc_new X _), ← Array.getElem?_toList, hc]
  simp [svs, hj]
theorem oneOf_is (L : List (List UInt8)) (la : Option Addr) (cap : Nat) (w : World) (hn : L.length ≤ 1000000) (h : StrsIn (fun k => k < w.heap.size) w la L) :
    Calls Try.prog 60 #[.slice la L.length cap] w fun e w' => (∃ b, e = .returned (.func (.func 84) #[] #[.pointer (some ⟨b, 0, none⟩)]) ∧ OneOf w' (.func (.func 84) #[] #[.pointer (some ⟨b, 0, none⟩)]) L) ∧ Kept (fun k => k < w.heap.size) w w' := by
  refine (oneOf_any la L.length cap w).mono ?_
  rintro e w' ⟨rfl, rfl⟩
  have hk : Kept (fun k => k < w.heap.size) w (w.alloc (.cells #[.slice la L.length cap] 46)) := (Kept.refl _ w).alloc (fun _ h => h) _
  refine ⟨⟨_, rfl, hn, w.heap.size, la, cap, rfl, by simp, by rw [cell_block (heap_alloc_new w _)]; rfl, h.kept hk fun k hk' => Nat.lt_of_lt_of_le hk' hk.size⟩, hk⟩

set_option maxRecDepth 20000 in
set_option maxHeartbeats 1000000 in
theorem bounds_is (L : List (List UInt8)) (la : Option Addr) (cap : Nat) (w : World) (hn : L.length ≤ 1000000) (h : StrsIn (fun k => k < w.heap.size) w la L) :
    Calls Try.prog 61 #[.slice la L.length cap] w fun e w' => (∃ f caps, e = .returned (.func (.func f) #[] caps) ∧ Ans w' (.func (.func f) #[] caps) (fun s => isIn boundL s || isIn L s)) ∧ Kept (fun k => k < w.heap.size) w w' := by
  have r1 := fun X N hN => oneOf_is boundL (some ⟨N, 0, none⟩) 3 _ (by decide) (strs_new X N boundL #[sv [116, 101, 109, 112, 108, 97, 116, 101], sv [98, 117, 116, 116, 111, 110], sv [111, 98, 106, 101, 99, 116]] hN rfl)
  have HH : Hid (StrsIn (fun k => k < w.heap.size) w la L) := h
  clear h
  go_enter Try.func61, Try.ntmps61
  go_wp2_with fail
  refine (r1 w w.heap.size rfl).mono ?_
  rintro e w1 ⟨⟨b1, rfl, o1⟩, k1⟩
  have HO1 : Hid (OneOf w1 (.func (.func 84) #[] #[.pointer (some ⟨b1, 0, none⟩)]) boundL) := o1
  have HK1 : Hid (Kept (fun k => k < w.heap.size) w w1) := ((Kept.refl _ w).alloc (fun _ h => h) _).trans (k1.mono fun k h => by simp; omega)
  clear r1 o1 k1
  go_wp2_with fail
  obtain ⟨W, hW⟩ : ∃ W, w1.alloc (.cells #[.func (.func 84) #[] #[.pointer (some ⟨b1, 0, none⟩)]] 51) = W := ⟨_, rfl⟩
  have kW : Kept (fun k => k < w1.heap.size) w1 W := by rw [← hW]; exact (Kept.refl _ w1).alloc (fun _ h => h) _
  have cW : W.cell? ⟨w1.heap.size, 0, none⟩ = some (.func (.func 84) #[] #[.pointer (some ⟨b1, 0, none⟩)]) := by rw [← hW, cell_block (heap_alloc_new w1 _)]; rfl
  have sW : w1.heap.size < W.heap.size := by rw [← hW]; simp
  have hKW : Kept (fun k => k < w.heap.size) w W := HK1.out.trans (kW.mono fun k h => Nat.lt_of_lt_of_le h HK1.out.size)
  rw [hW]
  refine (oneOf_is L la cap W hn (HH.out.kept hKW fun k h => Nat.lt_of_lt_of_le h hKW.size)).mono ?_
  rintro e w2 ⟨⟨b2, rfl, o2⟩, k2⟩
  have c1 : w2.cell? ⟨w1.heap.size, 0, none⟩ = some (.func (.func 84) #[] #[.pointer (some ⟨b1, 0, none⟩)]) := by rw [k2.cell (p := ⟨w1.heap.size, 0, none⟩) sW]; exact cW
  have O1 : OneOf w2 (.func (.func 84) #[] #[.pointer (some ⟨b1, 0, none⟩)]) boundL := (HO1.out.kept kW).kept k2
  have k2' : Kept (fun k => k < w.heap.size) w w2 := hKW.trans (k2.mono fun k h => Nat.lt_of_lt_of_le h hKW.size)
  have hs2 : w1.heap.size < w2.heap.size := Nat.lt_of_lt_of_le sW k2.size
  have HC1 : Hid (w2.cell? ⟨w1.heap.size, 0, none⟩ = some (.func (.func 84) #[] #[.pointer (some ⟨b1, 0, none⟩)])) := c1
  have HO2 : Hid (OneOf w2 (.func (.func 84) #[] #[.pointer (some ⟨b2, 0, none⟩)]) L) := o2
  have HO1' : Hid (OneOf w2 (.func (.func 84) #[] #[.pointer (some ⟨b1, 0, none⟩)]) boundL) := O1
  have HK2 : Hid (Kept (fun k => k < w.heap.size) w w2) := k2'
  obtain ⟨d1, hd1⟩ : ∃ d, w1.heap.size = d := ⟨_, rfl⟩
  rw [hd1] at HC1 hs2 ⊢
  clear c1 O1 k2' o2 k2 hKW sW cW kW hW HO1 HK1 HH hd1
  go_wp2
  go_ret
  obtain ⟨X, hX⟩ : ∃ X, w2.alloc (.cells #[.func (.func 84) #[] #[.pointer (some ⟨b2, 0, none⟩)]] 51) = X := ⟨_, rfl⟩
  rw [hX]
  have kX : Kept (fun k => k < w2.heap.size) w2 X := by rw [← hX]; exact (Kept.refl _ w2).alloc (fun _ h => h) _
  have cX : X.cell? ⟨w2.heap.size, 0, none⟩ = some (.func (.func 84) #[] #[.pointer (some ⟨b2, 0, none⟩)]) := by rw [← hX, cell_block (heap_alloc_new w2 _)]; rfl
  have sX : w2.heap.size < X.heap.size := by rw [← hX]; simp
  refine ⟨⟨86, #[.pointer (some ⟨d1, 0, none⟩), .pointer (some ⟨w2.heap.size, 0, none⟩)], rfl, 86, _, rfl, fun args Y => entersB Try.func86 (by kernel_rfl) (c := _) rfl args Y, fun Y hY s => ?_⟩, HK2.out.trans (kX.mono fun k h => Nat.lt_of_lt_of_le h HK2.out.size)⟩
  refine (bounds1_any boundL L s _ _ d1 w2.heap.size Y ?_ ?_ (Nat.lt_of_lt_of_le sX hY.size) ((HO1'.out.kept kX).kept hY) ((HO2.out.kept kX).kept hY))
  · rw [hY.cell (p := ⟨d1, 0, none⟩) (Nat.lt_trans hs2 sX), kX.cell (p := ⟨d1, 0, none⟩) hs2]
    exact HC1.out
  · rw [hY.cell (p := ⟨w2.heap.size, 0, none⟩) sX]
    exact cX

set_option maxRecDepth 20000 in
set_option maxHeartbeats 1000000 in
theorem endTop_any (K : Nat → Prop) (p : Nat) (st : BS) (w : World) (h : BX K w p st) (hl : st.opn.length ≤ 1000000) (so : List UInt8 → Bool) (f : FuncId) (caps : Array Value) (hs : Ans w (.func (.func f) #[] caps) so) :
    Calls Try.prog 80 #[.pointer (some ⟨p, 0, none⟩), .func (.func f) #[] caps] w fun e w' => (∃ la cap, e = .returned (.slice la (endedL st.opn (seek so anyN st.opn)).length cap) ∧ (endedL st.opn (seek so anyN st.opn)).length ≤ cap ∧ NamesAt w' la (endedL st.opn (seek so anyN st.opn))) ∧ BX K w' p (st.fin so anyN) ∧ Kept K w w' := by
  have r := end_any K p st w h hl so anyN _ _ hs (Ans.any w)
  obtain ⟨L, hL⟩ : ∃ L, endedL st.opn (seek so anyN st.opn) = L := ⟨_, rfl⟩
  rw [hL] at r ⊢
  obtain ⟨n, hn⟩ : ∃ n, L.length = n := ⟨_, rfl⟩
  rw [hn] at r ⊢
  clear h hs hl hL hn
  go_enter Try.func80, Try.ntmps80
  go_wp2_with fail
  refine r.mono ?_
  rintro e w1 ⟨⟨la, cap, rfl, hc, hA⟩, hX, hK⟩
  have HA : Hid (n ≤ cap ∧ NamesAt w1 la L) := ⟨hc, hA⟩
  clear r hc hA
  go_wp2
  go_ret
  exact ⟨⟨la, cap, rfl, HA.out⟩, hX, hK⟩

set_option maxRecDepth 20000 in
theorem deep_any (K : Nat → Prop) (p : Nat) (st : BS) (w : World) (h : BX K w p st) :
    Calls Try.prog 63 #[.pointer (some ⟨p, 0, none⟩)] w fun e w' => e = .returned (.int .i64 (st.opn.length : Int)) ∧ w' = w := by
  obtain ⟨oa, oc, ia, ic, fa, fc, k0, -, -⟩ := h.cells
  obtain ⟨n, hn⟩ : ∃ n, st.opn.length = n := ⟨_, rfl⟩
  rw [hn] at k0 ⊢
  clear h hn
  go_enter Try.func63, Try.ntmps63
  go_wp2
  go_ret
  exact ⟨rfl, rfl⟩

set_option maxRecDepth 20000 in
set_option maxHeartbeats 1000000 in
theorem push_any (K : Nat → Prop) (p : Nat) (st : BS) (w : World) (h : BX K w p st) (hn : st.opn.length ≤ 1000000) (s : List UInt8) :
    Calls Try.prog 64 #[.pointer (some ⟨p, 0, none⟩), sv s] w fun e w' => e = .returned (.tuple #[]) ∧ BX K w' p { st with opn := st.opn ++ [s] } ∧ Kept K w w' := by
  obtain ⟨oa, oc, c0, c0a, oa', oc', w', hr, d0, f0, hX, hK⟩ := h.appO (by omega) s
  have HX : Hid (BX K (w'.setCell ⟨p, 0, none⟩ (.slice oa' (st.opn.length + 1) oc')) p { st with opn := st.opn ++ [s] }) := hX
  have HK : Hid (Kept K w (w'.setCell ⟨p, 0, none⟩ (.slice oa' (st.opn.length + 1) oc'))) := hK
  obtain ⟨n, hne⟩ : ∃ n, st.opn.length = n := ⟨_, rfl⟩
  rw [hne] at c0 c0a hr d0 HX HK
  clear h hn hX hK hne
  go_enter Try.func64, Try.ntmps64
  go_wp2_with (at_builtin; refine wpList_appR (w' := w') rfl (.tmp 8) (.tmp 10) 46 46 rfl _ _ (.slice oa' (n + 1) oc') rfl rfl hr ?_)
  go_end0
  exact ⟨rfl, HX.out, HK.out⟩
end Go.Proofs.Ytffllhohlfblnaa
