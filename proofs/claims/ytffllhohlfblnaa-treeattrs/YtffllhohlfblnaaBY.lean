/-
  The tree's builder: takeStart.
-/
import Derived.Test.YtffllhohlfblnaaBQ
import Derived.Test.YtffllhohlfblnaaBV
namespace Go.Proofs.Ytffllhohlfblnaa
open Go.RowKit

theorem finF_b (b : BS) (so ba : List UInt8 → Bool) (a : Nat) : (b.finF so ba a).opn.length ≤ b.opn.length ∧ (b.finF so ba a).flts.length ≤ b.flts.length + 1 ∧ (b.finF so ba a).items = b.items := by
  have h := fin_opn b so ba
  unfold BS.finF
  split
  · refine ⟨h.1, ?_, h.2.2⟩
    show ((b.fin so ba).flts ++ [_]).length ≤ _
    rw [h.2.1]
    simp
  · exact ⟨Nat.le_refl _, by omega, rfl⟩
theorem fin_b (b : BS) (so ba : List UInt8 → Bool) : (b.fin so ba).opn.length ≤ b.opn.length ∧ (b.fin so ba).flts.length ≤ b.flts.length + 1 ∧ (b.fin so ba).items = b.items := by
  have h := fin_opn b so ba
  exact ⟨h.1, by rw [h.2.1]; omega, h.2.2⟩
theorem first_b (b : BS) (n : List UInt8) (a : Nat) : (b.first n a).opn.length ≤ b.opn.length ∧ (b.first n a).flts.length ≤ b.flts.length + 1 ∧ (b.first n a).items = b.items := by
  unfold BS.first
  split
  · exact fin_b _ _ _
  split
  · exact fin_b _ _ _
  split
  · exact fin_b _ _ _
  split
  · have h1 := fin_opn b (isIn [[111, 112, 116, 105, 111, 110]]) anyN
    have h2 := fin_opn (b.fin (isIn [[111, 112, 116, 105, 111, 110]]) anyN) (isIn [[111, 112, 116, 103, 114, 111, 117, 112]]) anyN
    exact ⟨by omega, by rw [h2.2.1, h1.2.1]; omega, by rw [h2.2.2, h1.2.2]⟩
  split
  · exact finF_b _ _ _ _
  split
  · exact finF_b _ _ _ _
  · exact ⟨Nat.le_refl _, by omega, rfl⟩
theorem para_b (b : BS) (n : List UInt8) : (b.para n).opn.length ≤ b.opn.length ∧ (b.para n).flts = b.flts ∧ (b.para n).items = b.items := by
  unfold BS.para
  split
  · exact fin_opn _ _ _
  · exact ⟨Nat.le_refl _, rfl, rfl⟩
/-- add, of an element. -/
theorem badd_el (K B : Nat → Prop) (p : Nat) (st : BS) (w : World) (h : BX (fun k => K k ∨ B k) w p st) (hBK : ∀ k, B k → ¬ K k) (hn : st.items.length ≤ 1000000) (nm : List UInt8) (l : List Atr) (aa : Option Addr) (ac : Nat) (ha : AtsIn B w aa l) (hac : l.length ≤ ac) :
    Calls Try.prog 41 #[.pointer (some ⟨p, 0, none⟩), .agg #[.int .i64 0, .int .u8 1, sv nm, .string ⟨#[]⟩, .slice aa l.length ac]] w fun e w' => e = .returned (.tuple #[]) ∧ BX K w' p (st.item 1 nm l []) ∧ Kept K w w' :=
  badd_any K B p st w h hBK hn 1 nm [] l aa ac ha hac

set_option maxRecDepth 20000 in
set_option maxHeartbeats 2000000 in
theorem takeStart_bad (K : Nat → Prop) (p : Nat) (st : BS) (w : World) (h : BX K w p st) (_hl : st.opn.length ≤ 100000) (_hi : st.items.length ≤ 900000) (l : List Atr) (hn : st.flts.length + l.length ≤ 700000) (hsz : ∀ x ∈ l, x.name.length ≤ 1000000000 ∧ x.value.length ≤ 1000000000) (kd : Nat) (nm : List UInt8) (hv : validP nm = false) (aa : Option Addr) (ac : Nat) (sf : Bool) (dt : List UInt8) (a : Nat) (ha : AtsIn K w aa l) :
    Calls Try.prog 39 #[.pointer (some ⟨p, 0, none⟩), tokV kd nm aa l.length ac sf dt a] w fun e w' => e = .returned (.tuple #[]) ∧ BX K w' p (st.flt 4 a) ∧ Kept K w w' := by
  obtain ⟨W, hW⟩ : ∃ W, w.alloc (.cells #[.int .u8 (kd : Int), sv nm, .slice aa l.length ac, .bool sf, sv dt, .int .i64 (a : Int)] 43) = W := ⟨_, rfl⟩
  obtain ⟨d, hd⟩ : ∃ d, w.heap.size = d := ⟨_, rfl⟩
  have kW : Kept (fun k => k < w.heap.size) w W := by rw [← hW]; exact (Kept.refl _ w).alloc (fun _ h => h) _
  have sW : W.heap.size = d + 1 := by rw [← hW, ← hd]; simp
  have hcW : ∀ i u, #[.int .u8 (kd : Int), sv nm, .slice aa l.length ac, .bool sf, sv dt, .int .i64 (a : Int)].toList[i]? = some u → W.cell? ⟨d, i, none⟩ = some u := by
    intro i u hi
    rw [← hW, ← hd, cell_block (heap_alloc_new w _), ← Array.getElem?_toList]
    exact hi
  have HNW : Hid (Nr (fun k => K k ∨ k = d) p st W W) := by
    refine ⟨h.more kW ?_ ?_, Kept.refl _ _⟩
    · rintro k (hk | rfl)
      · exact .inl hk
      · exact .inr (by omega)
    · rintro k (hk | rfl)
      · have := h.lt k hk; omega
      · omega
  have HK1 : Hid (Kept K w W) := kW.mono h.lt
  have HA1 : Hid (AtsIn K W aa l) := ha.kept (kW.mono h.lt) fun _ h => h
  have HSZ : Hid (∀ x ∈ l, x.name.length ≤ 1000000000 ∧ x.value.length ≤ 1000000000) := hsz
  have HC : Hid (∀ i u, #[.int .u8 (kd : Int), sv nm, .slice aa l.length ac, .bool sf, sv dt, .int .i64 (a : Int)].toList[i]? = some u → W.cell? ⟨d, i, none⟩ = some u) := hcW
  have HW : Hid (w.alloc (.cells #[.int .u8 (kd : Int), sv nm, .slice aa l.length ac, .bool sf, sv dt, .int .i64 (a : Int)] 43) = W) := hW
  have HD : Hid (w.heap.size = d) := hd
  have t0W := hcW 0 _ rfl
  have t1W := hcW 1 _ rfl
  have t2W := hcW 2 _ rfl
  have t3W := hcW 3 _ rfl
  have t4W := hcW 4 _ rfl
  have t5W := hcW 5 _ rfl
  have rv := valid_any ⟨nm.toArray⟩ (fun k => k < W.heap.size) W (fun _ h => h)
  have eN : ByteArray.toList ⟨nm.toArray⟩ = nm := by rw [ByteArray.toList_eq]
  rw [eN] at rv
  rw [hv] at rv
  clear h hW hd kW sW hcW ha hsz eN hv
  go_enter Try.func39, Try.ntmps39
  go_upto_region 1 with fail
  rw [HW.out, HD.out]
  clear HW HD
  go_wp2_with fail
  refine (rv).mono ?_
  rintro e w2 ⟨rfl, kw2⟩
  have HNw2 : Hid (Nr (fun k => K k ∨ k = d) p st W w2) := Nr.kept HNW.out kw2
  have t0w2 : w2.cell? ⟨d, 0, none⟩ = _ := (HNw2.out.kp.cell (p := ⟨d, 0, none⟩) (.inr rfl)).trans (HC.out 0 _ rfl)
  have t1w2 : w2.cell? ⟨d, 1, none⟩ = _ := (HNw2.out.kp.cell (p := ⟨d, 1, none⟩) (.inr rfl)).trans (HC.out 1 _ rfl)
  have t2w2 : w2.cell? ⟨d, 2, none⟩ = _ := (HNw2.out.kp.cell (p := ⟨d, 2, none⟩) (.inr rfl)).trans (HC.out 2 _ rfl)
  have t3w2 : w2.cell? ⟨d, 3, none⟩ = _ := (HNw2.out.kp.cell (p := ⟨d, 3, none⟩) (.inr rfl)).trans (HC.out 3 _ rfl)
  have t4w2 : w2.cell? ⟨d, 4, none⟩ = _ := (HNw2.out.kp.cell (p := ⟨d, 4, none⟩) (.inr rfl)).trans (HC.out 4 _ rfl)
  have t5w2 : w2.cell? ⟨d, 5, none⟩ = _ := (HNw2.out.kp.cell (p := ⟨d, 5, none⟩) (.inr rfl)).trans (HC.out 5 _ rfl)
  clear kw2 t0W t1W t2W t3W t4W t5W
  go_wp2_with fail
  refine (bfault_any (fun k => K k ∨ k = d) p st w2 HNw2.out.bx (by omega) 4 kd nm aa l.length ac sf dt a).mono ?_
  rintro e w3 ⟨rfl, hX3, hK3⟩
  have HX3 : Hid (BX K w3 p (st.flt 4 a)) := hX3.weaken fun _ h => .inl h
  have HK3 : Hid (Kept K w w3) := HK1.out.trans ((HNw2.out.kp.mono fun _ h => .inl h).trans (hK3.mono fun _ h => .inl h))
  clear hX3 hK3 t0w2 t1w2 t2w2 t3w2 t4w2 t5w2
  go_wp2
  refine bodyPost_ret (results_none rfl _ _ _) rfl ?_
  exact ⟨rfl, HX3.out, HK3.out⟩

set_option maxRecDepth 20000 in
set_option maxHeartbeats 2000000 in
theorem takeStart_plain (K : Nat → Prop) (p : Nat) (st : BS) (w : World) (h : BX K w p st) (hl : st.opn.length ≤ 100000) (hi : st.items.length ≤ 900000) (l : List Atr) (hn : st.flts.length + l.length ≤ 700000) (hsz : ∀ x ∈ l, x.name.length ≤ 1000000000 ∧ x.value.length ≤ 1000000000) (kd : Nat) (nm : List UInt8) (hv : validP nm = true) (hq : (blockP nm || isIn [[108, 105], [100, 100], [100, 116]] nm) = false) (aa : Option Addr) (ac : Nat) (sf : Bool) (dt : List UInt8) (a : Nat) (ha : AtsIn K w aa l) :
    Calls Try.prog 39 #[.pointer (some ⟨p, 0, none⟩), tokV kd nm aa l.length ac sf dt a] w fun e w' => e = .returned (.tuple #[]) ∧ BX K w' p (st.start nm l a) ∧ Kept K w w' := by
  obtain ⟨W, hW⟩ : ∃ W, w.alloc (.cells #[.int .u8 (kd : Int), sv nm, .slice aa l.length ac, .bool sf, sv dt, .int .i64 (a : Int)] 43) = W := ⟨_, rfl⟩
  obtain ⟨d, hd⟩ : ∃ d, w.heap.size = d := ⟨_, rfl⟩
  have kW : Kept (fun k => k < w.heap.size) w W := by rw [← hW]; exact (Kept.refl _ w).alloc (fun _ h => h) _
  have sW : W.heap.size = d + 1 := by rw [← hW, ← hd]; simp
  have hcW : ∀ i u, #[.int .u8 (kd : Int), sv nm, .slice aa l.length ac, .bool sf, sv dt, .int .i64 (a : Int)].toList[i]? = some u → W.cell? ⟨d, i, none⟩ = some u := by
    intro i u hi
    rw [← hW, ← hd, cell_block (heap_alloc_new w _), ← Array.getElem?_toList]
    exact hi
  have HNW : Hid (Nr (fun k => K k ∨ k = d) p st W W) := by
    refine ⟨h.more kW ?_ ?_, Kept.refl _ _⟩
    · rintro k (hk | rfl)
      · exact .inl hk
      · exact .inr (by omega)
    · rintro k (hk | rfl)
      · have := h.lt k hk; omega
      · omega
  have HK1 : Hid (Kept K w W) := kW.mono h.lt
  have HA1 : Hid (AtsIn K W aa l) := ha.kept (kW.mono h.lt) fun _ h => h
  have HSZ : Hid (∀ x ∈ l, x.name.length ≤ 1000000000 ∧ x.value.length ≤ 1000000000) := hsz
  have HC : Hid (∀ i u, #[.int .u8 (kd : Int), sv nm, .slice aa l.length ac, .bool sf, sv dt, .int .i64 (a : Int)].toList[i]? = some u → W.cell? ⟨d, i, none⟩ = some u) := hcW
  have HW : Hid (w.alloc (.cells #[.int .u8 (kd : Int), sv nm, .slice aa l.length ac, .bool sf, sv dt, .int .i64 (a : Int)] 43) = W) := hW
  have HD : Hid (w.heap.size = d) := hd
  have t0W := hcW 0 _ rfl
  have t1W := hcW 1 _ rfl
  have t2W := hcW 2 _ rfl
  have t3W := hcW 3 _ rfl
  have t4W := hcW 4 _ rfl
  have t5W := hcW 5 _ rfl
  have rv := valid_any ⟨nm.toArray⟩ (fun k => k < W.heap.size) W (fun _ h => h)
  have eN : ByteArray.toList ⟨nm.toArray⟩ = nm := by rw [ByteArray.toList_eq]
  rw [eN] at rv
  have HV : Hid (validP nm = true) := hv
  rw [hv] at rv
  clear h hW hd kW sW hcW ha hsz eN hv
  go_enter Try.func39, Try.ntmps39
  go_upto_region 1 with fail
  rw [HW.out, HD.out]
  clear HW HD
  go_wp2_with fail
  refine (rv).mono ?_
  rintro e w2 ⟨rfl, kw2⟩
  have HNw2 : Hid (Nr (fun k => K k ∨ k = d) p st W w2) := Nr.kept HNW.out kw2
  have t0w2 : w2.cell? ⟨d, 0, none⟩ = _ := (HNw2.out.kp.cell (p := ⟨d, 0, none⟩) (.inr rfl)).trans (HC.out 0 _ rfl)
  have t1w2 : w2.cell? ⟨d, 1, none⟩ = _ := (HNw2.out.kp.cell (p := ⟨d, 1, none⟩) (.inr rfl)).trans (HC.out 1 _ rfl)
  have t2w2 : w2.cell? ⟨d, 2, none⟩ = _ := (HNw2.out.kp.cell (p := ⟨d, 2, none⟩) (.inr rfl)).trans (HC.out 2 _ rfl)
  have t3w2 : w2.cell? ⟨d, 3, none⟩ = _ := (HNw2.out.kp.cell (p := ⟨d, 3, none⟩) (.inr rfl)).trans (HC.out 3 _ rfl)
  have t4w2 : w2.cell? ⟨d, 4, none⟩ = _ := (HNw2.out.kp.cell (p := ⟨d, 4, none⟩) (.inr rfl)).trans (HC.out 4 _ rfl)
  have t5w2 : w2.cell? ⟨d, 5, none⟩ = _ := (HNw2.out.kp.cell (p := ⟨d, 5, none⟩) (.inr rfl)).trans (HC.out 5 _ rfl)
  clear kw2 t0W t1W t2W t3W t4W t5W
  go_wp2_with fail
  refine (endAhead_any (fun k => K k ∨ k = d) p st w2 HNw2.out.bx (by omega) (by omega) nm kd aa l.length ac sf dt a).mono ?_
  rintro e w3 ⟨rfl, hX3, hK3⟩
  have HNw3 : Hid (Nr (fun k => K k ∨ k = d) p (st.first nm a) W w3) := ⟨hX3, HNw2.out.kp.trans hK3⟩
  have t0w3 : w3.cell? ⟨d, 0, none⟩ = _ := (HNw3.out.kp.cell (p := ⟨d, 0, none⟩) (.inr rfl)).trans (HC.out 0 _ rfl)
  have t1w3 : w3.cell? ⟨d, 1, none⟩ = _ := (HNw3.out.kp.cell (p := ⟨d, 1, none⟩) (.inr rfl)).trans (HC.out 1 _ rfl)
  have t2w3 : w3.cell? ⟨d, 2, none⟩ = _ := (HNw3.out.kp.cell (p := ⟨d, 2, none⟩) (.inr rfl)).trans (HC.out 2 _ rfl)
  have t3w3 : w3.cell? ⟨d, 3, none⟩ = _ := (HNw3.out.kp.cell (p := ⟨d, 3, none⟩) (.inr rfl)).trans (HC.out 3 _ rfl)
  have t4w3 : w3.cell? ⟨d, 4, none⟩ = _ := (HNw3.out.kp.cell (p := ⟨d, 4, none⟩) (.inr rfl)).trans (HC.out 4 _ rfl)
  have t5w3 : w3.cell? ⟨d, 5, none⟩ = _ := (HNw3.out.kp.cell (p := ⟨d, 5, none⟩) (.inr rfl)).trans (HC.out 5 _ rfl)
  clear hX3 hK3 rv HNw2 t0w2 t1w2 t2w2 t3w2 t4w2 t5w2
  have rp := endsParagraph_any ⟨nm.toArray⟩ (fun k => k < w3.heap.size) w3
  have eN : ByteArray.toList ⟨nm.toArray⟩ = nm := by rw [ByteArray.toList_eq]
  rw [eN, hq] at rp
  have HQ : Hid ((blockP nm || isIn [[108, 105], [100, 100], [100, 116]] nm) = false) := hq
  clear eN hq
  go_wp2_with fail
  refine rp.mono ?_
  rintro e w4 ⟨rfl, k4⟩
  have HNw4 : Hid (Nr (fun k => K k ∨ k = d) p (st.first nm a) W w4) := HNw3.out.kept k4
  have t0w4 : w4.cell? ⟨d, 0, none⟩ = _ := (HNw4.out.kp.cell (p := ⟨d, 0, none⟩) (.inr rfl)).trans (HC.out 0 _ rfl)
  have t1w4 : w4.cell? ⟨d, 1, none⟩ = _ := (HNw4.out.kp.cell (p := ⟨d, 1, none⟩) (.inr rfl)).trans (HC.out 1 _ rfl)
  have t2w4 : w4.cell? ⟨d, 2, none⟩ = _ := (HNw4.out.kp.cell (p := ⟨d, 2, none⟩) (.inr rfl)).trans (HC.out 2 _ rfl)
  have t3w4 : w4.cell? ⟨d, 3, none⟩ = _ := (HNw4.out.kp.cell (p := ⟨d, 3, none⟩) (.inr rfl)).trans (HC.out 3 _ rfl)
  have t4w4 : w4.cell? ⟨d, 4, none⟩ = _ := (HNw4.out.kp.cell (p := ⟨d, 4, none⟩) (.inr rfl)).trans (HC.out 4 _ rfl)
  have t5w4 : w4.cell? ⟨d, 5, none⟩ = _ := (HNw4.out.kp.cell (p := ⟨d, 5, none⟩) (.inr rfl)).trans (HC.out 5 _ rfl)
  clear k4 rp HNw3 t0w3 t1w3 t2w3 t3w3 t4w3 t5w3
  have HNw5 : Hid (Nr (fun k => K k ∨ k = d) p ((st.first nm a).para nm) W w4) := by
    show Nr _ _ _ _ _
    unfold BS.para
    rw [if_neg (by rw [HQ.out]; exact Bool.false_ne_true)]
    exact HNw4.out
  clear HNw4
  have HAc : Hid (AtsIn (fun k => K k ∨ k = d) w4 aa l) := AtsIn.kept (K := K) HA1.out (HNw5.out.kp.mono fun _ h => .inl h) (fun _ h => .inl h)
  obtain ⟨st2, hst2⟩ : ∃ s, (st.first nm a).para nm = s := ⟨_, rfl⟩
  have HS2 : Hid ((st.first nm a).para nm = st2) := hst2
  have hb2 : st2.opn.length ≤ 100000 ∧ st2.items.length ≤ 900000 ∧ st2.flts.length + l.length ≤ 700001 := by
    rw [← hst2]
    have h1 := first_b st nm a
    have h2 := para_b (st.first nm a) nm
    exact ⟨by omega, by rw [h2.2.2, h1.2.2]; exact hi, by rw [h2.2.1]; omega⟩
  have HN2 : Hid (Nr (fun k => K k ∨ k = d) p st2 W w4) := by rw [← hst2]; exact HNw5.out
  have hk1 := keepA_len l []
  obtain ⟨m, hm⟩ : ∃ m, (keepA [] l).length = m := ⟨_, rfl⟩
  have HM : Hid ((keepA [] l).length = m) := hm
  clear hst2 hm HNw5
  go_upto_region 6 with fail
  go_region_held3 (fun w' => w'.cell? ⟨d, 0, none⟩ = some (.int .u8 (kd : Int)) ∧ w'.cell? ⟨d, 1, none⟩ = some (sv nm) ∧ w'.cell? ⟨d, 2, none⟩ = some (.slice aa l.length ac) ∧ w'.cell? ⟨d, 3, none⟩ = some (.bool sf) ∧ w'.cell? ⟨d, 4, none⟩ = some (sv dt) ∧ w'.cell? ⟨d, 5, none⟩ = some (.int .i64 (a : Int))) (go_keep) ((first
    | (go_at_call 62
       go_must (refine (attributes_any (fun k => K k ∨ k = d) p st2 _ (by repeat (first | exact HN2.out.bx | refine BX.drew ?_)) l (by omega) HSZ.out kd nm aa ac sf dt a (by first | exact HAc.out | exact HAc.out.kept (Kept.refl _ _).drew (fun _ h => h))).mono ?_)
       rintro e w6 ⟨oa, oc, rfl, hoc, hX6, hB6, hA6, hK6⟩
       have K6 : Kept (fun k => K k ∨ k = d) W w6 := HN2.out.kp.trans ((Kept.refl _ w4).drew.trans hK6)
       have t0w6 : w6.cell? ⟨d, 0, none⟩ = _ := (K6.cell (p := ⟨d, 0, none⟩) (.inr rfl)).trans (HC.out 0 _ rfl)
       have t1w6 : w6.cell? ⟨d, 1, none⟩ = _ := (K6.cell (p := ⟨d, 1, none⟩) (.inr rfl)).trans (HC.out 1 _ rfl)
       have t2w6 : w6.cell? ⟨d, 2, none⟩ = _ := (K6.cell (p := ⟨d, 2, none⟩) (.inr rfl)).trans (HC.out 2 _ rfl)
       have t3w6 : w6.cell? ⟨d, 3, none⟩ = _ := (K6.cell (p := ⟨d, 3, none⟩) (.inr rfl)).trans (HC.out 3 _ rfl)
       have t4w6 : w6.cell? ⟨d, 4, none⟩ = _ := (K6.cell (p := ⟨d, 4, none⟩) (.inr rfl)).trans (HC.out 4 _ rfl)
       have t5w6 : w6.cell? ⟨d, 5, none⟩ = _ := (K6.cell (p := ⟨d, 5, none⟩) (.inr rfl)).trans (HC.out 5 _ rfl)
       have HX6 : Hid (BX (fun k => (fun k => K k ∨ k = d) k ∨ blkOf oa k) w6 p (st2.flts' (l.length - (keepA [] l).length) 5 a)) := hX6
       have HB6 : Hid (∀ k, blkOf oa k → ¬ (fun k => K k ∨ k = d) k) := hB6
       have HA6 : Hid (AtsIn (blkOf oa) w6 oa (keepA [] l)) := hA6
       have HK6 : Hid (Kept (fun k => K k ∨ k = d) W w6) := K6
       have HO6 : Hid ((keepA [] l).length ≤ oc) := hoc
       clear hX6 hB6 hA6 hK6 K6 hoc)
    | (go_at_call 41
       go_must (refine (badd_el (fun k => K k ∨ k = d) (blkOf oa) p _ w6 HX6.out HB6.out (by show st2.items.length ≤ 1000000; omega) nm (keepA [] l) oa oc HA6.out HO6.out).mono ?_)
       rintro e w7 ⟨rfl, hX7, hK7⟩
       have HN7 : Hid (Nr (fun k => K k ∨ k = d) p ((st2.flts' (l.length - (keepA [] l).length) 5 a).item 1 nm (keepA [] l) []) W w7) := ⟨hX7, HK6.out.trans hK7⟩
       have t0w7 : w7.cell? ⟨d, 0, none⟩ = _ := (HN7.out.kp.cell (p := ⟨d, 0, none⟩) (.inr rfl)).trans (HC.out 0 _ rfl)
       have t1w7 : w7.cell? ⟨d, 1, none⟩ = _ := (HN7.out.kp.cell (p := ⟨d, 1, none⟩) (.inr rfl)).trans (HC.out 1 _ rfl)
       have t2w7 : w7.cell? ⟨d, 2, none⟩ = _ := (HN7.out.kp.cell (p := ⟨d, 2, none⟩) (.inr rfl)).trans (HC.out 2 _ rfl)
       have t3w7 : w7.cell? ⟨d, 3, none⟩ = _ := (HN7.out.kp.cell (p := ⟨d, 3, none⟩) (.inr rfl)).trans (HC.out 3 _ rfl)
       have t4w7 : w7.cell? ⟨d, 4, none⟩ = _ := (HN7.out.kp.cell (p := ⟨d, 4, none⟩) (.inr rfl)).trans (HC.out 4 _ rfl)
       have t5w7 : w7.cell? ⟨d, 5, none⟩ = _ := (HN7.out.kp.cell (p := ⟨d, 5, none⟩) (.inr rfl)).trans (HC.out 5 _ rfl)
       clear hX7 hK7)))
  clear HX6 HB6 HA6 HK6 HO6 t0w6 t1w6 t2w6 t3w6 t4w6 t5w6 t0w4 t1w4 t2w4 t3w4 t4w4 t5w4 HN2 HAc
  have rvo := void_any ⟨nm.toArray⟩ (fun k => k < w7.heap.size) w7
  have eN : ByteArray.toList ⟨nm.toArray⟩ = nm := by rw [ByteArray.toList_eq]
  rw [eN] at rvo
  clear eN
  obtain ⟨qv, hqv⟩ : ∃ q, voidP nm = q := ⟨_, rfl⟩
  rw [hqv] at rvo
  have HQV : Hid (voidP nm = qv) := hqv
  clear hqv
  have ho : ((st2.flts' (l.length - (keepA [] l).length) 5 a).item 1 nm (keepA [] l) []).opn.length = st2.opn.length := rfl
  obtain ⟨st3, hst3⟩ : ∃ s, (st2.flts' (l.length - (keepA [] l).length) 5 a).item 1 nm (keepA [] l) [] = s := ⟨_, rfl⟩
  have HE3 : Hid ((st2.flts' (l.length - (keepA [] l).length) 5 a).item 1 nm (keepA [] l) [] = st3) := hst3
  rw [hst3] at ho HN7
  obtain ⟨n3, hn3⟩ : ∃ n, st3.opn.length = n := ⟨_, rfl⟩
  have HN3 : Hid (st3.opn.length = n3) := hn3
  have hn3b : n3 ≤ 100000 := by omega
  have HPOST : Hid (st.start nm l a = st3.open1 nm) := by
    show st.start nm l a = st3.open1 nm
    rw [← hst3, ← HS2.out]
    unfold BS.start
    rw [if_pos HV.out]
  clear hst3 ho hn3 hb2 hk1
  cases qv with
  | true =>
    go_wp2_with fail
    refine rvo.mono ?_
    rintro e w8 ⟨rfl, k8⟩
    have HN8 : Hid (Nr (fun k => K k ∨ k = d) p st3 W w8) := HN7.out.kept k8
    clear rvo k8 t0w7 t1w7 t2w7 t3w7 t4w7 t5w7
    go_wp2
    go_end0
    rw [HPOST.out]
    unfold BS.open1
    rw [if_neg (by rw [HQV.out]; rintro ⟨h, -⟩; cases h)]
    exact ⟨rfl, HN8.out.bx.weaken fun _ h => .inl h, HK1.out.trans (HN8.out.kp.mono fun _ h => .inl h)⟩
  | false =>
    by_cases h100 : n3 < 100
    · have h100' : (n3 : Int) < 100 := by omega
      go_wp2_with fail
      refine rvo.mono ?_
      rintro e w8 ⟨rfl, k8⟩
      have HN8 : Hid (Nr (fun k => K k ∨ k = d) p st3 W w8) := HN7.out.kept k8
      have t0w8 : w8.cell? ⟨d, 0, none⟩ = _ := (HN8.out.kp.cell (p := ⟨d, 0, none⟩) (.inr rfl)).trans (HC.out 0 _ rfl)
      have t1w8 : w8.cell? ⟨d, 1, none⟩ = _ := (HN8.out.kp.cell (p := ⟨d, 1, none⟩) (.inr rfl)).trans (HC.out 1 _ rfl)
      have t2w8 : w8.cell? ⟨d, 2, none⟩ = _ := (HN8.out.kp.cell (p := ⟨d, 2, none⟩) (.inr rfl)).trans (HC.out 2 _ rfl)
      have t3w8 : w8.cell? ⟨d, 3, none⟩ = _ := (HN8.out.kp.cell (p := ⟨d, 3, none⟩) (.inr rfl)).trans (HC.out 3 _ rfl)
      have t4w8 : w8.cell? ⟨d, 4, none⟩ = _ := (HN8.out.kp.cell (p := ⟨d, 4, none⟩) (.inr rfl)).trans (HC.out 4 _ rfl)
      have t5w8 : w8.cell? ⟨d, 5, none⟩ = _ := (HN8.out.kp.cell (p := ⟨d, 5, none⟩) (.inr rfl)).trans (HC.out 5 _ rfl)
      clear rvo k8 t0w7 t1w7 t2w7 t3w7 t4w7 t5w7
      have rd := deep_any (fun k => K k ∨ k = d) p st3 w8 HN8.out.bx
      rw [HN3.out] at rd
      go_wp2_with fail
      refine rd.mono ?_
      rintro e w9 ⟨rfl, rfl⟩
      clear rd
      have rp := fun X hX => push_any (fun k => K k ∨ k = d) p st3 X hX (by rw [HN3.out]; omega) nm
      go_upto_region 8 with fail
      go_region_with (first
        | (go_at_call 64
           go_must (refine (rp _ ?_).mono ?_)
           · repeat (first | exact HN8.out.bx | refine BX.drew ?_)
           rintro e w10 ⟨rfl, hX10, hK10⟩
           have HX10 : Hid (BX K w10 p { st3 with opn := st3.opn ++ [nm] }) := hX10.weaken fun _ h => .inl h
           have HK10 : Hid (Kept K w w10) := HK1.out.trans ((HN8.out.kp.mono fun _ h => .inl h).trans ((Kept.refl _ w9).drew.trans (hK10.mono fun _ h => .inl h)))
           clear hX10 hK10))
      all_goals
        go_wp2
        go_end0
        rw [HPOST.out]
        unfold BS.open1
        rw [if_pos ⟨HQV.out, by rw [HN3.out]; exact h100⟩]
        exact ⟨rfl, HX10.out, HK10.out⟩
    · have h100' : decide ((n3 : Int) < 100) = false := decide_eq_false (by omega)
      go_wp2_with fail
      refine rvo.mono ?_
      rintro e w8 ⟨rfl, k8⟩
      have HN8 : Hid (Nr (fun k => K k ∨ k = d) p st3 W w8) := HN7.out.kept k8
      clear rvo k8 t0w7 t1w7 t2w7 t3w7 t4w7 t5w7
      have rd := deep_any (fun k => K k ∨ k = d) p st3 w8 HN8.out.bx
      rw [HN3.out] at rd
      go_wp2_with fail
      refine rd.mono ?_
      rintro e w9 ⟨rfl, rfl⟩
      clear rd
      go_wp2
      go_end0
      rw [HPOST.out]
      unfold BS.open1
      rw [if_neg (by rw [HN3.out]; rintro ⟨-, h⟩; exact h100 h)]
      exact ⟨rfl, HN8.out.bx.weaken fun _ h => .inl h, HK1.out.trans (HN8.out.kp.mono fun _ h => .inl h)⟩

set_option maxRecDepth 20000 in
set_option maxHeartbeats 2000000 in
theorem takeStart_para (K : Nat → Prop) (p : Nat) (st : BS) (w : World) (h : BX K w p st) (hl : st.opn.length ≤ 100000) (hi : st.items.length ≤ 900000) (l : List Atr) (hn : st.flts.length + l.length ≤ 700000) (hsz : ∀ x ∈ l, x.name.length ≤ 1000000000 ∧ x.value.length ≤ 1000000000) (kd : Nat) (nm : List UInt8) (hv : validP nm = true) (hq : (blockP nm || isIn [[108, 105], [100, 100], [100, 116]] nm) = true) (aa : Option Addr) (ac : Nat) (sf : Bool) (dt : List UInt8) (a : Nat) (ha : AtsIn K w aa l) :
    Calls Try.prog 39 #[.pointer (some ⟨p, 0, none⟩), tokV kd nm aa l.length ac sf dt a] w fun e w' => e = .returned (.tuple #[]) ∧ BX K w' p (st.start nm l a) ∧ Kept K w w' := by
  obtain ⟨W, hW⟩ : ∃ W, w.alloc (.cells #[.int .u8 (kd : Int), sv nm, .slice aa l.length ac, .bool sf, sv dt, .int .i64 (a : Int)] 43) = W := ⟨_, rfl⟩
  obtain ⟨d, hd⟩ : ∃ d, w.heap.size = d := ⟨_, rfl⟩
  have kW : Kept (fun k => k < w.heap.size) w W := by rw [← hW]; exact (Kept.refl _ w).alloc (fun _ h => h) _
  have sW : W.heap.size = d + 1 := by rw [← hW, ← hd]; simp
  have hcW : ∀ i u, #[.int .u8 (kd : Int), sv nm, .slice aa l.length ac, .bool sf, sv dt, .int .i64 (a : Int)].toList[i]? = some u → W.cell? ⟨d, i, none⟩ = some u := by
    intro i u hi
    rw [← hW, ← hd, cell_block (heap_alloc_new w _), ← Array.getElem?_toList]
    exact hi
  have HNW : Hid (Nr (fun k => K k ∨ k = d) p st W W) := by
    refine ⟨h.more kW ?_ ?_, Kept.refl _ _⟩
    · rintro k (hk | rfl)
      · exact .inl hk
      · exact .inr (by omega)
    · rintro k (hk | rfl)
      · have := h.lt k hk; omega
      · omega
  have HK1 : Hid (Kept K w W) := kW.mono h.lt
  have HA1 : Hid (AtsIn K W aa l) := ha.kept (kW.mono h.lt) fun _ h => h
  have HSZ : Hid (∀ x ∈ l, x.name.length ≤ 1000000000 ∧ x.value.length ≤ 1000000000) := hsz
  have HC : Hid (∀ i u, #[.int .u8 (kd : Int), sv nm, .slice aa l.length ac, .bool sf, sv dt, .int .i64 (a : Int)].toList[i]? = some u → W.cell? ⟨d, i, none⟩ = some u) := hcW
  have HW : Hid (w.alloc (.cells #[.int .u8 (kd : Int), sv nm, .slice aa l.length ac, .bool sf, sv dt, .int .i64 (a : Int)] 43) = W) := hW
  have HD : Hid (w.heap.size = d) := hd
  have t0W := hcW 0 _ rfl
  have t1W := hcW 1 _ rfl
  have t2W := hcW 2 _ rfl
  have t3W := hcW 3 _ rfl
  have t4W := hcW 4 _ rfl
  have t5W := hcW 5 _ rfl
  have rv := valid_any ⟨nm.toArray⟩ (fun k => k < W.heap.size) W (fun _ h => h)
  have eN : ByteArray.toList ⟨nm.toArray⟩ = nm := by rw [ByteArray.toList_eq]
  rw [eN] at rv
  have HV : Hid (validP nm = true) := hv
  rw [hv] at rv
  clear h hW hd kW sW hcW ha hsz eN hv
  go_enter Try.func39, Try.ntmps39
  go_upto_region 1 with fail
  rw [HW.out, HD.out]
  clear HW HD
  go_wp2_with fail
  refine (rv).mono ?_
  rintro e w2 ⟨rfl, kw2⟩
  have HNw2 : Hid (Nr (fun k => K k ∨ k = d) p st W w2) := Nr.kept HNW.out kw2
  have t0w2 : w2.cell? ⟨d, 0, none⟩ = _ := (HNw2.out.kp.cell (p := ⟨d, 0, none⟩) (.inr rfl)).trans (HC.out 0 _ rfl)
  have t1w2 : w2.cell? ⟨d, 1, none⟩ = _ := (HNw2.out.kp.cell (p := ⟨d, 1, none⟩) (.inr rfl)).trans (HC.out 1 _ rfl)
  have t2w2 : w2.cell? ⟨d, 2, none⟩ = _ := (HNw2.out.kp.cell (p := ⟨d, 2, none⟩) (.inr rfl)).trans (HC.out 2 _ rfl)
  have t3w2 : w2.cell? ⟨d, 3, none⟩ = _ := (HNw2.out.kp.cell (p := ⟨d, 3, none⟩) (.inr rfl)).trans (HC.out 3 _ rfl)
  have t4w2 : w2.cell? ⟨d, 4, none⟩ = _ := (HNw2.out.kp.cell (p := ⟨d, 4, none⟩) (.inr rfl)).trans (HC.out 4 _ rfl)
  have t5w2 : w2.cell? ⟨d, 5, none⟩ = _ := (HNw2.out.kp.cell (p := ⟨d, 5, none⟩) (.inr rfl)).trans (HC.out 5 _ rfl)
  clear kw2 t0W t1W t2W t3W t4W t5W
  go_wp2_with fail
  refine (endAhead_any (fun k => K k ∨ k = d) p st w2 HNw2.out.bx (by omega) (by omega) nm kd aa l.length ac sf dt a).mono ?_
  rintro e w3 ⟨rfl, hX3, hK3⟩
  have HNw3 : Hid (Nr (fun k => K k ∨ k = d) p (st.first nm a) W w3) := ⟨hX3, HNw2.out.kp.trans hK3⟩
  have t0w3 : w3.cell? ⟨d, 0, none⟩ = _ := (HNw3.out.kp.cell (p := ⟨d, 0, none⟩) (.inr rfl)).trans (HC.out 0 _ rfl)
  have t1w3 : w3.cell? ⟨d, 1, none⟩ = _ := (HNw3.out.kp.cell (p := ⟨d, 1, none⟩) (.inr rfl)).trans (HC.out 1 _ rfl)
  have t2w3 : w3.cell? ⟨d, 2, none⟩ = _ := (HNw3.out.kp.cell (p := ⟨d, 2, none⟩) (.inr rfl)).trans (HC.out 2 _ rfl)
  have t3w3 : w3.cell? ⟨d, 3, none⟩ = _ := (HNw3.out.kp.cell (p := ⟨d, 3, none⟩) (.inr rfl)).trans (HC.out 3 _ rfl)
  have t4w3 : w3.cell? ⟨d, 4, none⟩ = _ := (HNw3.out.kp.cell (p := ⟨d, 4, none⟩) (.inr rfl)).trans (HC.out 4 _ rfl)
  have t5w3 : w3.cell? ⟨d, 5, none⟩ = _ := (HNw3.out.kp.cell (p := ⟨d, 5, none⟩) (.inr rfl)).trans (HC.out 5 _ rfl)
  clear hX3 hK3 rv HNw2 t0w2 t1w2 t2w2 t3w2 t4w2 t5w2
  have rp := endsParagraph_any ⟨nm.toArray⟩ (fun k => k < w3.heap.size) w3
  have eN : ByteArray.toList ⟨nm.toArray⟩ = nm := by rw [ByteArray.toList_eq]
  rw [eN, hq] at rp
  have HQ : Hid ((blockP nm || isIn [[108, 105], [100, 100], [100, 116]] nm) = true) := hq
  clear eN hq
  go_wp2_with fail
  refine rp.mono ?_
  rintro e w4 ⟨rfl, k4⟩
  have HNw4 : Hid (Nr (fun k => K k ∨ k = d) p (st.first nm a) W w4) := HNw3.out.kept k4
  have t0w4 : w4.cell? ⟨d, 0, none⟩ = _ := (HNw4.out.kp.cell (p := ⟨d, 0, none⟩) (.inr rfl)).trans (HC.out 0 _ rfl)
  have t1w4 : w4.cell? ⟨d, 1, none⟩ = _ := (HNw4.out.kp.cell (p := ⟨d, 1, none⟩) (.inr rfl)).trans (HC.out 1 _ rfl)
  have t2w4 : w4.cell? ⟨d, 2, none⟩ = _ := (HNw4.out.kp.cell (p := ⟨d, 2, none⟩) (.inr rfl)).trans (HC.out 2 _ rfl)
  have t3w4 : w4.cell? ⟨d, 3, none⟩ = _ := (HNw4.out.kp.cell (p := ⟨d, 3, none⟩) (.inr rfl)).trans (HC.out 3 _ rfl)
  have t4w4 : w4.cell? ⟨d, 4, none⟩ = _ := (HNw4.out.kp.cell (p := ⟨d, 4, none⟩) (.inr rfl)).trans (HC.out 4 _ rfl)
  have t5w4 : w4.cell? ⟨d, 5, none⟩ = _ := (HNw4.out.kp.cell (p := ⟨d, 5, none⟩) (.inr rfl)).trans (HC.out 5 _ rfl)
  clear k4 rp HNw3 t0w3 t1w3 t2w3 t3w3 t4w3 t5w3
  have hlf : (st.first nm a).opn.length ≤ 1000000 := by have := (first_b st nm a).1; omega
  go_upto_region 5 with fail
  go_region_with (first
    | (go_at_call 60
       go_must (refine (oneOf_is [[112]] _ 1 _ (by decide) (by refine strs1 _ _ _ ?_ ?_ <;> (first | (simp; done) | (simp; omega) | (refine Nat.lt_of_lt_of_le ?_ k0.size; simp; done) | (refine Nat.lt_of_lt_of_le ?_ k0.size; simp; omega) | (refine (k0.cell ?_).trans ?_ <;> first | (simp; done) | (simp; omega))))).mono ?_)
       rintro e w5 ⟨⟨b1, rfl, o1⟩, k1⟩
       go_must (have HN5 : Hid (Nr (fun k => K k ∨ k = d) p (st.first nm a) W w5) := Nr.kept (by repeat (first | exact HNw4.out | refine Nr.drew ?_ | refine Nr.alloc ?_ _)) k1)
       have HO5 : Hid (Ans w5 (.func (.func 84) #[] #[.pointer (some ⟨b1, 0, none⟩)]) (isIn [[112]])) := o1.ans
       clear o1)
    | (go_at_call 61
       go_must (refine (bounds_is [] none 0 _ (by decide) (fun j hj => absurd hj (Nat.not_lt_zero _))).mono ?_)
       rintro e w6 ⟨⟨f2, caps2, rfl, o2⟩, k2⟩
       go_must (have HN6 : Hid (Nr (fun k => K k ∨ k = d) p (st.first nm a) W w6) := Nr.kept (by repeat (first | exact HN5.out | refine Nr.drew ?_ | refine Nr.alloc ?_ _)) k2)
       go_must (have HO6 : Hid (Ans w6 (.func (.func 84) #[] #[.pointer (some ⟨b1, 0, none⟩)]) (isIn [[112]])) := Ans.kept (by repeat (first | exact HO5.out | refine Ans.drew ?_ | refine Ans.alloc ?_ _)) k2)
       have HB : Hid (Ans w6 (.func (.func f2) #[] caps2) (isIn boundL)) := o2.congr (fun s => by simp [isIn])
       clear o2)
    | (go_at_call 59
       go_must (refine (end_any (fun k => K k ∨ k = d) p (st.first nm a) _ HN6.out.bx hlf _ _ _ _ HO6.out HB.out).mono ?_)
       rintro e w5 ⟨⟨la, cap, rfl, -, -⟩, hX4, hK4⟩
       have HNy : Hid (Nr (fun k => K k ∨ k = d) p ((st.first nm a).fin (isIn [[112]]) (isIn boundL)) W w5) := ⟨hX4, HN6.out.kp.trans hK4⟩
       clear hX4 hK4))
  have HNw5 : Hid (Nr (fun k => K k ∨ k = d) p ((st.first nm a).para nm) W w5) := by
    show Nr _ _ _ _ _
    unfold BS.para
    rw [if_pos HQ.out]
    exact HNy.out
  have t0w5 : w5.cell? ⟨d, 0, none⟩ = _ := (HNw5.out.kp.cell (p := ⟨d, 0, none⟩) (.inr rfl)).trans (HC.out 0 _ rfl)
  have t1w5 : w5.cell? ⟨d, 1, none⟩ = _ := (HNw5.out.kp.cell (p := ⟨d, 1, none⟩) (.inr rfl)).trans (HC.out 1 _ rfl)
  have t2w5 : w5.cell? ⟨d, 2, none⟩ = _ := (HNw5.out.kp.cell (p := ⟨d, 2, none⟩) (.inr rfl)).trans (HC.out 2 _ rfl)
  have t3w5 : w5.cell? ⟨d, 3, none⟩ = _ := (HNw5.out.kp.cell (p := ⟨d, 3, none⟩) (.inr rfl)).trans (HC.out 3 _ rfl)
  have t4w5 : w5.cell? ⟨d, 4, none⟩ = _ := (HNw5.out.kp.cell (p := ⟨d, 4, none⟩) (.inr rfl)).trans (HC.out 4 _ rfl)
  have t5w5 : w5.cell? ⟨d, 5, none⟩ = _ := (HNw5.out.kp.cell (p := ⟨d, 5, none⟩) (.inr rfl)).trans (HC.out 5 _ rfl)
  clear HNy HNw4 HN5 HN6 HO5 HO6 HB k1 k2 hlf t0w4 t1w4 t2w4 t3w4 t4w4 t5w4
  have HAc : Hid (AtsIn (fun k => K k ∨ k = d) w5 aa l) := AtsIn.kept (K := K) HA1.out (HNw5.out.kp.mono fun _ h => .inl h) (fun _ h => .inl h)
  obtain ⟨st2, hst2⟩ : ∃ s, (st.first nm a).para nm = s := ⟨_, rfl⟩
  have HS2 : Hid ((st.first nm a).para nm = st2) := hst2
  have hb2 : st2.opn.length ≤ 100000 ∧ st2.items.length ≤ 900000 ∧ st2.flts.length + l.length ≤ 700001 := by
    rw [← hst2]
    have h1 := first_b st nm a
    have h2 := para_b (st.first nm a) nm
    exact ⟨by omega, by rw [h2.2.2, h1.2.2]; exact hi, by rw [h2.2.1]; omega⟩
  have HN2 : Hid (Nr (fun k => K k ∨ k = d) p st2 W w5) := by rw [← hst2]; exact HNw5.out
  have hk1 := keepA_len l []
  obtain ⟨m, hm⟩ : ∃ m, (keepA [] l).length = m := ⟨_, rfl⟩
  have HM : Hid ((keepA [] l).length = m) := hm
  clear hst2 hm HNw5
  go_upto_region 6 with fail
  go_region_held3 (fun w' => w'.cell? ⟨d, 0, none⟩ = some (.int .u8 (kd : Int)) ∧ w'.cell? ⟨d, 1, none⟩ = some (sv nm) ∧ w'.cell? ⟨d, 2, none⟩ = some (.slice aa l.length ac) ∧ w'.cell? ⟨d, 3, none⟩ = some (.bool sf) ∧ w'.cell? ⟨d, 4, none⟩ = some (sv dt) ∧ w'.cell? ⟨d, 5, none⟩ = some (.int .i64 (a : Int))) (go_keep) ((first
    | (go_at_call 62
       go_must (refine (attributes_any (fun k => K k ∨ k = d) p st2 _ (by repeat (first | exact HN2.out.bx | refine BX.drew ?_)) l (by omega) HSZ.out kd nm aa ac sf dt a (by first | exact HAc.out | exact HAc.out.kept (Kept.refl _ _).drew (fun _ h => h))).mono ?_)
       rintro e w6 ⟨oa, oc, rfl, hoc, hX6, hB6, hA6, hK6⟩
       have K6 : Kept (fun k => K k ∨ k = d) W w6 := HN2.out.kp.trans ((Kept.refl _ w5).drew.trans hK6)
       have t0w6 : w6.cell? ⟨d, 0, none⟩ = _ := (K6.cell (p := ⟨d, 0, none⟩) (.inr rfl)).trans (HC.out 0 _ rfl)
       have t1w6 : w6.cell? ⟨d, 1, none⟩ = _ := (K6.cell (p := ⟨d, 1, none⟩) (.inr rfl)).trans (HC.out 1 _ rfl)
       have t2w6 : w6.cell? ⟨d, 2, none⟩ = _ := (K6.cell (p := ⟨d, 2, none⟩) (.inr rfl)).trans (HC.out 2 _ rfl)
       have t3w6 : w6.cell? ⟨d, 3, none⟩ = _ := (K6.cell (p := ⟨d, 3, none⟩) (.inr rfl)).trans (HC.out 3 _ rfl)
       have t4w6 : w6.cell? ⟨d, 4, none⟩ = _ := (K6.cell (p := ⟨d, 4, none⟩) (.inr rfl)).trans (HC.out 4 _ rfl)
       have t5w6 : w6.cell? ⟨d, 5, none⟩ = _ := (K6.cell (p := ⟨d, 5, none⟩) (.inr rfl)).trans (HC.out 5 _ rfl)
       have HX6 : Hid (BX (fun k => (fun k => K k ∨ k = d) k ∨ blkOf oa k) w6 p (st2.flts' (l.length - (keepA [] l).length) 5 a)) := hX6
       have HB6 : Hid (∀ k, blkOf oa k → ¬ (fun k => K k ∨ k = d) k) := hB6
       have HA6 : Hid (AtsIn (blkOf oa) w6 oa (keepA [] l)) := hA6
       have HK6 : Hid (Kept (fun k => K k ∨ k = d) W w6) := K6
       have HO6 : Hid ((keepA [] l).length ≤ oc) := hoc
       clear hX6 hB6 hA6 hK6 K6 hoc)
    | (go_at_call 41
       go_must (refine (badd_el (fun k => K k ∨ k = d) (blkOf oa) p _ w6 HX6.out HB6.out (by show st2.items.length ≤ 1000000; omega) nm (keepA [] l) oa oc HA6.out HO6.out).mono ?_)
       rintro e w7 ⟨rfl, hX7, hK7⟩
       have HN7 : Hid (Nr (fun k => K k ∨ k = d) p ((st2.flts' (l.length - (keepA [] l).length) 5 a).item 1 nm (keepA [] l) []) W w7) := ⟨hX7, HK6.out.trans hK7⟩
       have t0w7 : w7.cell? ⟨d, 0, none⟩ = _ := (HN7.out.kp.cell (p := ⟨d, 0, none⟩) (.inr rfl)).trans (HC.out 0 _ rfl)
       have t1w7 : w7.cell? ⟨d, 1, none⟩ = _ := (HN7.out.kp.cell (p := ⟨d, 1, none⟩) (.inr rfl)).trans (HC.out 1 _ rfl)
       have t2w7 : w7.cell? ⟨d, 2, none⟩ = _ := (HN7.out.kp.cell (p := ⟨d, 2, none⟩) (.inr rfl)).trans (HC.out 2 _ rfl)
       have t3w7 : w7.cell? ⟨d, 3, none⟩ = _ := (HN7.out.kp.cell (p := ⟨d, 3, none⟩) (.inr rfl)).trans (HC.out 3 _ rfl)
       have t4w7 : w7.cell? ⟨d, 4, none⟩ = _ := (HN7.out.kp.cell (p := ⟨d, 4, none⟩) (.inr rfl)).trans (HC.out 4 _ rfl)
       have t5w7 : w7.cell? ⟨d, 5, none⟩ = _ := (HN7.out.kp.cell (p := ⟨d, 5, none⟩) (.inr rfl)).trans (HC.out 5 _ rfl)
       clear hX7 hK7)))
  clear HX6 HB6 HA6 HK6 HO6 t0w6 t1w6 t2w6 t3w6 t4w6 t5w6 t0w5 t1w5 t2w5 t3w5 t4w5 t5w5 HN2 HAc
  have rvo := void_any ⟨nm.toArray⟩ (fun k => k < w7.heap.size) w7
  have eN : ByteArray.toList ⟨nm.toArray⟩ = nm := by rw [ByteArray.toList_eq]
  rw [eN] at rvo
  clear eN
  obtain ⟨qv, hqv⟩ : ∃ q, voidP nm = q := ⟨_, rfl⟩
  rw [hqv] at rvo
  have HQV : Hid (voidP nm = qv) := hqv
  clear hqv
  have ho : ((st2.flts' (l.length - (keepA [] l).length) 5 a).item 1 nm (keepA [] l) []).opn.length = st2.opn.length := rfl
  obtain ⟨st3, hst3⟩ : ∃ s, (st2.flts' (l.length - (keepA [] l).length) 5 a).item 1 nm (keepA [] l) [] = s := ⟨_, rfl⟩
  have HE3 : Hid ((st2.flts' (l.length - (keepA [] l).length) 5 a).item 1 nm (keepA [] l) [] = st3) := hst3
  rw [hst3] at ho HN7
  obtain ⟨n3, hn3⟩ : ∃ n, st3.opn.length = n := ⟨_, rfl⟩
  have HN3 : Hid (st3.opn.length = n3) := hn3
  have hn3b : n3 ≤ 100000 := by omega
  have HPOST : Hid (st.start nm l a = st3.open1 nm) := by
    show st.start nm l a = st3.open1 nm
    rw [← hst3, ← HS2.out]
    unfold BS.start
    rw [if_pos HV.out]
  clear hst3 ho hn3 hb2 hk1
  cases qv with
  | true =>
    go_wp2_with fail
    refine rvo.mono ?_
    rintro e w8 ⟨rfl, k8⟩
    have HN8 : Hid (Nr (fun k => K k ∨ k = d) p st3 W w8) := HN7.out.kept k8
    clear rvo k8 t0w7 t1w7 t2w7 t3w7 t4w7 t5w7
    go_wp2
    go_end0
    rw [HPOST.out]
    unfold BS.open1
    rw [if_neg (by rw [HQV.out]; rintro ⟨h, -⟩; cases h)]
    exact ⟨rfl, HN8.out.bx.weaken fun _ h => .inl h, HK1.out.trans (HN8.out.kp.mono fun _ h => .inl h)⟩
  | false =>
    by_cases h100 : n3 < 100
    · have h100' : (n3 : Int) < 100 := by omega
      go_wp2_with fail
      refine rvo.mono ?_
      rintro e w8 ⟨rfl, k8⟩
      have HN8 : Hid (Nr (fun k => K k ∨ k = d) p st3 W w8) := HN7.out.kept k8
      have t0w8 : w8.cell? ⟨d, 0, none⟩ = _ := (HN8.out.kp.cell (p := ⟨d, 0, none⟩) (.inr rfl)).trans (HC.out 0 _ rfl)
      have t1w8 : w8.cell? ⟨d, 1, none⟩ = _ := (HN8.out.kp.cell (p := ⟨d, 1, none⟩) (.inr rfl)).trans (HC.out 1 _ rfl)
      have t2w8 : w8.cell? ⟨d, 2, none⟩ = _ := (HN8.out.kp.cell (p := ⟨d, 2, none⟩) (.inr rfl)).trans (HC.out 2 _ rfl)
      have t3w8 : w8.cell? ⟨d, 3, none⟩ = _ := (HN8.out.kp.cell (p := ⟨d, 3, none⟩) (.inr rfl)).trans (HC.out 3 _ rfl)
      have t4w8 : w8.cell? ⟨d, 4, none⟩ = _ := (HN8.out.kp.cell (p := ⟨d, 4, none⟩) (.inr rfl)).trans (HC.out 4 _ rfl)
      have t5w8 : w8.cell? ⟨d, 5, none⟩ = _ := (HN8.out.kp.cell (p := ⟨d, 5, none⟩) (.inr rfl)).trans (HC.out 5 _ rfl)
      clear rvo k8 t0w7 t1w7 t2w7 t3w7 t4w7 t5w7
      have rd := deep_any (fun k => K k ∨ k = d) p st3 w8 HN8.out.bx
      rw [HN3.out] at rd
      go_wp2_with fail
      refine rd.mono ?_
      rintro e w9 ⟨rfl, rfl⟩
      clear rd
      have rp := fun X hX => push_any (fun k => K k ∨ k = d) p st3 X hX (by rw [HN3.out]; omega) nm
      go_upto_region 8 with fail
      go_region_with (first
        | (go_at_call 64
           go_must (refine (rp _ ?_).mono ?_)
           · repeat (first | exact HN8.out.bx | refine BX.drew ?_)
           rintro e w10 ⟨rfl, hX10, hK10⟩
           have HX10 : Hid (BX K w10 p { st3 with opn := st3.opn ++ [nm] }) := hX10.weaken fun _ h => .inl h
           have HK10 : Hid (Kept K w w10) := HK1.out.trans ((HN8.out.kp.mono fun _ h => .inl h).trans ((Kept.refl _ w9).drew.trans (hK10.mono fun _ h => .inl h)))
           clear hX10 hK10))
      all_goals
        go_wp2
        go_end0
        rw [HPOST.out]
        unfold BS.open1
        rw [if_pos ⟨HQV.out, by rw [HN3.out]; exact h100⟩]
        exact ⟨rfl, HX10.out, HK10.out⟩
    · have h100' : decide ((n3 : Int) < 100) = false := decide_eq_false (by omega)
      go_wp2_with fail
      refine rvo.mono ?_
      rintro e w8 ⟨rfl, k8⟩
      have HN8 : Hid (Nr (fun k => K k ∨ k = d) p st3 W w8) := HN7.out.kept k8
      clear rvo k8 t0w7 t1w7 t2w7 t3w7 t4w7 t5w7
      have rd := deep_any (fun k => K k ∨ k = d) p st3 w8 HN8.out.bx
      rw [HN3.out] at rd
      go_wp2_with fail
      refine rd.mono ?_
      rintro e w9 ⟨rfl, rfl⟩
      clear rd
      go_wp2
      go_end0
      rw [HPOST.out]
      unfold BS.open1
      rw [if_neg (by rw [HN3.out]; rintro ⟨-, h⟩; exact h100 h)]
      exact ⟨rfl, HN8.out.bx.weaken fun _ h => .inl h, HK1.out.trans (HN8.out.kp.mono fun _ h => .inl h)⟩

theorem takeStart_any (K : Nat → Prop) (p : Nat) (st : BS) (w : World) (h : BX K w p st) (hl : st.opn.length ≤ 100000) (hi : st.items.length ≤ 900000) (l : List Atr) (hn : st.flts.length + l.length ≤ 700000) (hsz : ∀ x ∈ l, x.name.length ≤ 1000000000 ∧ x.value.length ≤ 1000000000) (kd : Nat) (nm : List UInt8) (aa : Option Addr) (ac : Nat) (sf : Bool) (dt : List UInt8) (a : Nat) (ha : AtsIn K w aa l) :
    Calls Try.prog 39 #[.pointer (some ⟨p, 0, none⟩), tokV kd nm aa l.length ac sf dt a] w fun e w' => e = .returned (.tuple #[]) ∧ BX K w' p (st.start nm l a) ∧ Kept K w w' := by
  cases hv : validP nm with
  | false =>
    have e : st.start nm l a = st.flt 4 a := by
      unfold BS.start
      rw [if_neg (by rw [hv]; exact Bool.false_ne_true)]
    rw [e]
    exact takeStart_bad K p st w h hl hi l hn hsz kd nm hv aa ac sf dt a ha
  | true =>
    cases hq : (blockP nm || isIn [[108, 105], [100, 100], [100, 116]] nm) with
    | false => exact takeStart_plain K p st w h hl hi l hn hsz kd nm hv hq aa ac sf dt a ha
    | true => exact takeStart_para K p st w h hl hi l hn hsz kd nm hv hq aa ac sf dt a ha
end Go.Proofs.Ytffllhohlfblnaa
