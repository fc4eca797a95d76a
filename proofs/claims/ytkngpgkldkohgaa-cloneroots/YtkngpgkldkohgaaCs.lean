/-
  The walk of CloneRoots.
-/
import Derived.Test.YtkngpgkldkohgaaCr
import Derived.Deep.LoopGhost
import Derived.Laws.StructEq
namespace Go.Proofs.Ytkngpgkldkohgaa
open Go.RowKit
set_option linter.unusedVariables false
set_option maxRecDepth 100000
set_option maxHeartbeats 8000000
theorem eqFl (a b c d e : Bool) (X : World) : (binOp .eql 23 (.agg #[.bool a, .bool b, .bool c, .bool d, .bool e]) (.agg #[.bool a, .bool b, .bool c, .bool d, .bool e])).run Try.prog X = .ok (.bool true) X := by
  have hS : Try.prog.underlying 23 = some (.struct (Try.prog.fieldsOf 23)) := by kernel_rfl
  have hp : Try.prog.stoodInHeld 23 = false := by kernel_rfl
  rw [run_eql_struct, show (10000 : Nat) = 9999 + 1 from rfl, run_equalIn_agg X 9999 23 _ _ hS hp]
  have u3 := Try.underlying4
  have z3 : Try.prog.cellsOf 4 = 1 := by kernel_rfl
  simp only [Program.fieldsOf, Try.underlying23]
  go_simp
theorem grdFl : Try.prog.eqGuardType Try.prog.depth 23 = false := by kernel_rfl
def bN : Nd := (Mk.nd ⟨1, [98], [], []⟩).new
def XS (f : Fg) (j : Nat) : List Nd := [frag0.new, { divN.new with shadow := 2 }, rtN f 1] ++ List.replicate j bN
def QS (j : Nat) : Nat → List Nat := fun u => if u = 2 then (List.range j).map (· + 3) else []
theorem XS_len (f : Fg) (j : Nat) : (XS f j).length = 3 + j := by unfold XS; simp; omega
theorem XS_succ (f : Fg) (j : Nat) : XS f (j + 1) = XS f j ++ [bN] := by unfold XS; rw [List.replicate_succ', List.append_assoc]
theorem XS_b (f : Fg) (j k : Nat) (h3 : 3 ≤ k) (hk : k < (XS f j).length) : (XS f j)[k] = bN := by
  unfold XS at hk ⊢
  rw [List.getElem_append_right (by simp; omega)]
  exact List.getElem_replicate _
theorem QS_succ (j : Nat) : updR (QS j) 2 (QS j 2 ++ [3 + j]) = QS (j + 1) := by
  funext u
  by_cases c : u = 2
  · subst c
    rw [updR_same]
    show (List.range j).map (· + 3) ++ [3 + j] = (List.range (j + 1)).map (· + 3)
    rw [List.range_succ, List.map_append]
    simp [Nat.add_comm]
  · rw [updR_ne _ _ c]
    unfold QS
    rw [if_neg c, if_neg c]
theorem QS_ne {j u : Nat} (h : u ≠ 2) : QS j u = [] := if_neg h
theorem bB_list : (⟨#[98]⟩ : ByteArray).toList = [98] := by rw [ByteArray.toList_eq]
theorem sound_b : soundN ⟨1, [98], [], []⟩ = true := by kernel_rfl
section
variable {K : Nat → Prop} {w : World} {p : Nat}
theorem dstDiv (h : Dst K w p [frag0.new] (fun _ => [])) : Calls Try.prog 5 #[.pointer (some ⟨p, 0, none⟩), plainV 1 divB ⟨#[]⟩] w fun e w' => e = .returned (.tuple #[.int .i64 1, .int .u16 0]) ∧ Dst K w' p [frag0.new, divN.new] (fun _ => []) ∧ Kept K w w' :=
  h.make 1 1 divB ⟨#[]⟩ [100, 105, 118] [] rfl divB_list empB_list sound_div (by decide) rfl (by decide) (by decide)
theorem dstRoot (h : Dst K w p [frag0.new, divN.new] (fun _ => [])) (f : Fg) : Calls Try.prog 6 #[.pointer (some ⟨p, 0, none⟩), .int .i64 1, fgV f] w fun e w' => e = .returned (.tuple #[.int .i64 2, .int .u16 0]) ∧ Dst K w' p (XS f 0) (QS 0) ∧ Kept K w w' := by
  refine (h.root 1 f (by decide) rfl rfl rfl (by decide)).mono ?_
  rintro e w' ⟨rfl, hd, hk⟩
  have e : (fun _ => [] : Nat → List Nat) = QS 0 := by funext u; unfold QS; split <;> rfl
  rw [e] at hd
  exact ⟨rfl, hd, hk⟩
theorem dstB {f : Fg} {j : Nat} (h : Dst K w p (XS f j) (QS j)) (hj : j < 30) : Calls Try.prog 5 #[.pointer (some ⟨p, 0, none⟩), plainV 1 ⟨#[98]⟩ ⟨#[]⟩] w fun e w' => e = .returned (.tuple #[.int .i64 ((3 + j : Nat) : Int), .int .u16 0]) ∧ Dst K w' p (XS f (j + 1)) (QS j) ∧ Kept K w w' := by
  refine (h.make 1 1 ⟨#[98]⟩ ⟨#[]⟩ [98] [] rfl bB_list empB_list sound_b (by decide) (QS_ne (by rw [XS_len]; omega)) (by rw [XS_len]; omega) (by decide)).mono ?_
  rintro e w' ⟨rfl, hd, hk⟩
  rw [XS_len]
  refine ⟨rfl, ?_, hk⟩
  rw [XS_succ]
  exact hd
theorem dstIn {f : Fg} {j : Nat} (h : Dst K w p (XS f (j + 1)) (QS j)) (hj : j < 30) : Calls Try.prog 7 #[.pointer (some ⟨p, 0, none⟩), .int .i64 2, .int .i64 ((3 + j : Nat) : Int), .int .i64 (-1)] w fun e w' => e = .returned (.int .u16 0) ∧ Dst K w' p (XS f (j + 1)) (QS (j + 1)) ∧ Kept K w w' := by
  have hl := XS_len f (j + 1)
  have hb : ∀ h, (XS f (j + 1))[3 + j]'h = bN := fun h => XS_b f (j + 1) (3 + j) (by omega) h
  refine (h.ins 2 (3 + j) (by omega) (by omega) (by omega) rfl (by omega) (by rw [hb]; decide) (by rw [hb]; decide) (fun u hu hm => ?_) (QS_ne (by omega)) (fun k hk hh => ?_)).mono ?_
  · unfold QS at hm
    by_cases c : u = 2
    · rw [if_pos c] at hm
      obtain ⟨a, ha, e⟩ := List.mem_map.1 hm
      have := List.mem_range.1 ha
      omega
    · rw [if_neg c] at hm; cases hm
  · by_cases c : 3 ≤ k
    · rw [XS_b f (j + 1) k c hk] at hh
      have : (-1 : Int) = ((3 + j : Nat) : Int) := hh
      omega
    · have hk3 : k = 0 ∨ k = 1 ∨ k = 2 := by omega
      rcases hk3 with rfl | rfl | rfl
      · have : (-1 : Int) = ((3 + j : Nat) : Int) := hh
        omega
      · have : (-1 : Int) = ((3 + j : Nat) : Int) := hh
        omega
      · have : ((1 : Nat) : Int) = ((3 + j : Nat) : Int) := hh
        omega
  · rintro e w' ⟨rfl, hd, hk⟩
    rw [QS_succ] at hd
    exact ⟨rfl, hd, hk⟩
theorem dstRt {f : Fg} {many : Nat} (h : Dst K w p (XS f many) (QS many)) (hm : many < 30) : ∃ s, Rt s f many ∧ DX K w p s.M := by
  obtain ⟨M, R, G, hK, hd⟩ := h
  have hl := XS_len f many
  have hn : M.n = 3 + many := by rw [hd.n]; exact hl
  have e1 : M.nd 1 = { divN.new with shadow := 2 } := hd.nd 1 (by omega)
  have e2 : M.nd 2 = rtN f 1 := hd.nd 2 (by omega)
  have hr := hd.r
  subst hr
  refine ⟨⟨M, QS many, G⟩, ⟨hK.inv, hd.lim, hn, hm, ?_, ?_, rfl, ?_, fun k hk => ?_⟩, hK.d⟩
  · show (M.nd 1).kind = 1 ∧ _; rw [e1]; exact ⟨rfl, rfl, rfl⟩
  · show (M.nd 2).kind = 5 ∧ (M.nd 2).fl = f; rw [e2]; exact ⟨rfl, rfl⟩
  · show ((List.range many).map (· + 3)).length = many; simp
  · have hk' : k ∈ (List.range many).map (· + 3) := hk
    obtain ⟨a, ha, rfl⟩ := List.mem_map.1 hk'
    have ha' := List.mem_range.1 ha
    have eb : M.nd (a + 3) = bN := (hd.nd (a + 3) (by omega)).trans (XS_b f many (a + 3) (by omega) (by omega))
    show (M.nd (a + 3)).shadow = -1 ∧ (M.nd (a + 3)).content = -1 ∧ _
    rw [eb]
    exact ⟨rfl, rfl, QS_ne (j := many) (u := a + 3) (by omega)⟩
end
theorem roots_go (f : Fg) (n many : Nat) (hn : n < 256) (hmany : n % 30 = many) (deep : Bool) (w : World) : Calls Try.prog 3 #[fgV f, .int .u8 (n : Int), .bool deep] w fun e w' => e = .returned (.bool true) ∧ Kept (fun k => k < w.heap.size) w w' := by
  have hm30 : many < 30 := by omega
  obtain ⟨W, N, hW, hN, hb, hkW, hszW⟩ := alloc_box w #[.bool f.a, .bool f.b, .bool f.c, .bool f.d, .bool f.e] 23
  have r0 := new_yes 300 W (by decide) (by decide)
  have HW : Hid (w.alloc (.cells #[.bool f.a, .bool f.b, .bool f.c, .bool f.d, .bool f.e] 23) = W) := hW
  have HN : Hid (w.heap.size = N) := hN
  have HB : Hid (W.heap[N]? = some (.cells #[.bool f.a, .bool f.b, .bool f.c, .bool f.d, .bool f.e] 23 (0, 0))) := hb
  have HNW : Hid (N < W.heap.size) := lt_block hb
  have HKW : Hid (Kept (fun k => k < w.heap.size) w W) := hkW
  clear hW hN hb hkW hszW
  go_enter Try.func3, Try.ntmps3
  go_upto_region 1 with fail
  rw [HW.out, HN.out]
  clear HW HN
  go_wp2_with fail
  refine r0.mono ?_
  rintro e w1 ⟨p, rfl, hp, hX1, hK1⟩
  have r1 := dstDiv (Dst.start hX1)
  have HK1 : Hid (Kept (fun k => k < W.heap.size) W w1) := hK1
  clear r0 hX1 hK1 hp
  go_wp2_with fail
  refine r1.mono ?_
  rintro e w2 ⟨rfl, s2, hK2⟩
  have r2 := dstRoot s2 f
  have HK2 : Hid (Kept (fun k => k < W.heap.size) W w2) := HK1.out.trans hK2
  have hb2 : w2.heap[N]? = some (.cells #[.bool f.a, .bool f.b, .bool f.c, .bool f.d, .bool f.e] 23 (0, 0)) := (HK2.out.block N HNW.out).trans HB.out
  clear r1 s2 hK2 HK1
  go_wp2_with (refine wpList_load_row rfl 23 _ rfl N rfl 23 #[.bool f.a, .bool f.b, .bool f.c, .bool f.d, .bool f.e] (0, 0) _ hb2 Try.underlying23 rfl (size23 _ rfl) ?_)
  refine r2.mono ?_
  rintro e w3 ⟨rfl, s3, hK3⟩
  have HS3 : Hid (Dst (fun k => k < W.heap.size) w3 p (XS f 0) (QS 0)) := s3
  have HK3 : Hid (Kept (fun k => k < W.heap.size) W w3) := HK2.out.trans hK3
  have HMN : Hid (n % 30 = many) := hmany
  clear r2 s3 hK3 HK2 hb2 hmany
  go_upto_region 8 with fail
  rw [show ((n : Int) % 30) = (many : Int) by rw [← HMN.out]; rfl]
  go_loopg [11] many (fun gh v wr => ∃ j : Nat, gh = many - j ∧ j ≤ many ∧ v = .int .i64 (j : Int) ∧ Dst (fun k => k < W.heap.size) wr p (XS f j) (QS j) ∧ Kept (fun k => k < W.heap.size) W wr)
  case atStart => exact ⟨0, rfl, Nat.zero_le _, rfl, HS3.out, HK3.out⟩
  case round =>
    obtain ⟨j, hg, hj, rfl, hS, hK⟩ := hrel
    clear HS3 HK3
    by_cases hlt : j < many
    · have r3 := dstB hS (by omega)
      have HK4 : Hid (Kept (fun k => k < W.heap.size) W wr) := hK
      clear hS hK
      go_wp2_with fail
      refine r3.mono ?_
      rintro e w4 ⟨rfl, s4, hK4⟩
      have r4 := dstIn s4 (by omega)
      have HK5 : Hid (Kept (fun k => k < W.heap.size) W w4) := HK4.out.trans hK4
      clear r3 s4 hK4 HK4
      go_wp2_with fail
      refine r4.mono ?_
      rintro e w5 ⟨rfl, s5, hK5⟩
      have HS5 : Hid (Dst (fun k => k < W.heap.size) w5 p (XS f (j + 1)) (QS (j + 1))) := s5
      have HK6 : Hid (Kept (fun k => k < W.heap.size) W w5) := HK5.out.trans hK5
      clear r4 s5 hK5 HK5
      go_wp2
      go_roundg (many - (j + 1))
      case rel => exact ⟨j + 1, rfl, by omega, by go_num, HS5.out, HK6.out⟩
      case measure => omega
    · have hjm : j = many := by omega
      have HND : Hid (¬ j < many) := hlt
      rw [hjm] at hS
      obtain ⟨s, hR, hX⟩ := dstRt hS hm30
      have r5 := hR.clone hX deep
      have HK4 : Hid (Kept (fun k => k < W.heap.size) W wr) := hK
      clear hjm hS hK hR hX
      go_wp2_with fail
      refine r5.mono ?_
      rintro e w6 ⟨rfl, ⟨s', hok, hX', hlt', hle', hno, hyes⟩, hK6⟩
      obtain ⟨rk', hI'⟩ := hok
      have HX' : Hid (DX (fun k => k < W.heap.size) w6 p s'.M) := hX'
      have HI' : Hid (Inv s'.M s'.R s'.G rk') := hI'
      have HK6 : Hid (Kept (fun k => k < W.heap.size) W w6) := HK4.out.trans hK6
      have HNO : Hid _ := hno
      have HYES : Hid _ := hyes
      have HLE : Hid (s'.M.n ≤ 300) := hle'
      have r6 := node_any _ p (3 + many) s'.M s'.R w6 hX' hI'.good.wf hlt' (by omega) hI'.good.few
      clear r5 hK6 hX' hI' HK4 hno hyes hlt' hle'
      go_wp2_with fail
      refine r6.mono ?_
      rintro e w7 ⟨ao, ac, ko, kc, rfl, hA, hQ, hK⟩
      obtain ⟨x, hx⟩ : ∃ x, s'.M.nd (3 + many) = x := ⟨_, rfl⟩
      obtain ⟨up, hup⟩ : ∃ x, (s'.M.pl (3 + many)).up = x := ⟨_, rfl⟩
      obtain ⟨ln, hln⟩ : ∃ x, (s'.R (3 + many)).length = x := ⟨_, rfl⟩
      rw [hx, hup, hln]
      have HX : Hid (s'.M.nd (3 + many) = x) := hx
      obtain ⟨V, N1, hV, hN1, hb1, hk1, hsz1⟩ := alloc_box w7 (nV x ao ac up ko ln kc) 33
      have hkV : Kept (fun k => k < w6.heap.size) w6 V := hK.trans (hk1.mono fun k h => Nat.lt_of_lt_of_le h hK.size)
      have c6 : V.cell? ⟨N1, 6, none⟩ = some (.int .i64 x.shadow) := by rw [cell_block hb1]; rfl
      have hXV := HX'.out.kept hkV
      have HXV : Hid (DX (fun k => k < W.heap.size) V p s'.M) := hXV
      have HKV : Hid (Kept (fun k => k < W.heap.size) W V) := HK6.out.trans (hkV.mono fun k h => HX'.out.lt k h)
      have HBV : Hid (V.heap[N]? = some (.cells #[.bool f.a, .bool f.b, .bool f.c, .bool f.d, .bool f.e] 23 (0, 0))) := (HKV.out.block N HNW.out).trans HB.out
      have HN1 : Hid (w7.heap.size = N1) := hN1
      have HV : Hid (w7.alloc (.cells (nV x ao ac up ko ln kc) 33) = V) := hV
      have HN1W : Hid (W.heap.size ≤ N1 ∧ N1 < V.heap.size) := ⟨by rw [← hN1]; exact Nat.le_trans HK6.out.size hK.size, lt_block hb1⟩
      have c4 : V.cell? ⟨N, 4, none⟩ = some (.bool f.e) := by rw [cell_block HBV.out]; rfl
      clear r6 hA hQ hK hx hup hln hV hN1 hb1 hk1 hsz1 hkV hXV HX'
      go_upto_region 14 with fail
      rw [HV.out, HN1.out]
      clear HV HN1
      obtain ⟨fe, hfe⟩ : ∃ b, f.e = b := ⟨_, rfl⟩
      have HFE : Hid (f.e = fe) := hfe
      rw [hfe] at c4
      clear hfe
      have hlenV : ∀ X, Kept (fun k => k < V.heap.size) V X → Calls Try.prog 11 #[.pointer (some ⟨p, 0, none⟩)] X fun e w' => e = .returned (.int .i64 (s'.M.n : Int)) ∧ w' = X := fun X hX => by
        obtain ⟨ga, cap, hY⟩ := HXV.out.kept hX
        exact len_any p s'.M.n cap ga X hY.c1
      have HLEN : Hid _ := hlenV
      clear hlenV
      cases fe with
      | false =>
        obtain ⟨e1, e2⟩ := HNO.out HFE.out
        have hsh : x.shadow = -1 := by rw [← HX.out]; exact e2
        rw [hsh] at c6
        have rk := cknown_any V
        clear hsh e2
        go_upto_region 15 with fail
        go_wp2_with fail
        refine rk.mono ?_
        rintro e w8 ⟨rfl, hk8⟩
        have c68 : w8.cell? ⟨N1, 6, none⟩ = some (.int .i64 (-1)) := (hk8.cell (p := ⟨N1, 6, none⟩) HN1W.out.2).trans c6
        have rl := HLEN.out w8 hk8
        rw [e1] at rl
        have HK8 : Hid (Kept (fun k => k < w.heap.size) w w8) := (HKW.out.trans (HKV.out.mono fun k h => Nat.lt_of_lt_of_le h HKW.out.size)).trans (hk8.mono fun k h => Nat.lt_of_lt_of_le h (Nat.le_trans HKW.out.size HKV.out.size))
        clear rk hk8 c6 c4 e1
        go_wp2_with fail
        refine rl.mono ?_
        rintro e w9 ⟨rfl, hw⟩
        replace hw := hw.symm
        subst hw
        clear rl
        go_wp2
        go_ret
        exact ⟨rfl, HK8.out⟩
      | true =>
        obtain ⟨e1, e2, e3, e4, e5⟩ := HYES.out HFE.out
        have hsh : x.shadow = ((4 + many : Nat) : Int) := by rw [← HX.out]; exact e2
        rw [hsh] at c6
        have r7 := node_any _ p (4 + many) s'.M s'.R V HXV.out HI'.out.good.wf (by omega) (by omega) HI'.out.good.few
        have H1 : Hid (s'.M.n = 5 + 2 * many) := e1
        have H3 : Hid ((s'.M.nd (4 + many)).fl = f) := e3
        have H4 : Hid ((s'.M.nd (4 + many)).host = ((3 + many : Nat) : Int)) := e4
        have H5 : Hid ((s'.R (4 + many)).length = many) := e5
        clear hsh e1 e2 e3 e4 e5
        go_wp2_with fail
        refine r7.mono ?_
        rintro e w8 ⟨ao2, ac2, ko2, kc2, rfl, hA, hQ, hK⟩
        obtain ⟨y, hy⟩ : ∃ x, s'.M.nd (4 + many) = x := ⟨_, rfl⟩
        obtain ⟨up2, hup⟩ : ∃ x, (s'.M.pl (4 + many)).up = x := ⟨_, rfl⟩
        rw [hy, hup, H5.out]
        obtain ⟨V2, N2, hV2, hN2, hb2, hk2, hsz2⟩ := alloc_box w8 (nV y ao2 ac2 up2 ko2 many kc2) 33
        have hkV2 : Kept (fun k => k < V.heap.size) V V2 := hK.trans (hk2.mono fun k h => Nat.lt_of_lt_of_le h hK.size)
        have hyf : y.fl = f := by rw [← hy]; exact H3.out
        have HY7 : Hid (y.host = ((3 + many : Nat) : Int)) := by rw [← hy]; exact H4.out
        have HB2 : Hid (V2.heap[N2]? = some (.cells (nV y ao2 ac2 up2 ko2 many kc2) 33 (0, 0))) := hb2
        have HYF : Hid (y.fl = f) := hyf
        have HV2 : Hid (w8.alloc (.cells (nV y ao2 ac2 up2 ko2 many kc2) 33) = V2) := hV2
        have HN2 : Hid (w8.heap.size = N2) := hN2
        have HN2L : Hid (N2 < V2.heap.size) := lt_block hb2
        have HKV2 : Hid (Kept (fun k => k < V.heap.size) V V2) := hkV2
        have rk := cknown_any V2
        clear r7 hA hQ hK hy hup hyf hV2 hN2 hb2 hk2 hsz2 hkV2
        go_upto_region 17 with fail
        rw [HV2.out, HN2.out]
        clear HV2 HN2 c6 c4
        go_wp2_with fail
        refine rk.mono ?_
        rintro e w9 ⟨rfl, hk9⟩
        have hk9V : Kept (fun k => k < V.heap.size) V w9 := HKV2.out.trans (hk9.mono fun k h => Nat.lt_of_lt_of_le h HKV2.out.size)
        have hc : ∀ t, w9.cell? ⟨N2, t, none⟩ = (nV y ao2 ac2 up2 ko2 many kc2)[t]? := fun t => (hk9.cell (p := ⟨N2, t, none⟩) HN2L.out).trans (cell_block HB2.out t)
        have hcN : ∀ t, w9.cell? ⟨N, t, none⟩ = #[Value.bool f.a, .bool f.b, .bool f.c, .bool f.d, .bool f.e][t]? := fun t => (hk9V.cell (p := ⟨N, t, none⟩) (Nat.lt_of_lt_of_le HNW.out HKV.out.size)).trans (cell_block HBV.out t)
        obtain ⟨⟨fa, fb, fc, fd, fe⟩, hff⟩ : ∃ g, f = g := ⟨_, rfl⟩
        have hyf := HYF.out.trans hff
        have g9 : w9.cell? ⟨N2, 9, none⟩ = some (.bool fa) := (hc 9).trans (by show some (Value.bool y.fl.a) = _; rw [hyf])
        have g10 : w9.cell? ⟨N2, 10, none⟩ = some (.bool fb) := (hc 10).trans (by show some (Value.bool y.fl.b) = _; rw [hyf])
        have g11 : w9.cell? ⟨N2, 11, none⟩ = some (.bool fc) := (hc 11).trans (by show some (Value.bool y.fl.c) = _; rw [hyf])
        have g12 : w9.cell? ⟨N2, 12, none⟩ = some (.bool fd) := (hc 12).trans (by show some (Value.bool y.fl.d) = _; rw [hyf])
        have g13 : w9.cell? ⟨N2, 13, none⟩ = some (.bool fe) := (hc 13).trans (by show some (Value.bool y.fl.e) = _; rw [hyf])
        have g5 : w9.cell? ⟨N2, 5, none⟩ = some (.slice ko2 many kc2) := hc 5
        have g7 : w9.cell? ⟨N2, 7, none⟩ = some (.int .i64 ((3 + many : Nat) : Int)) := (hc 7).trans (by show some (Value.int .i64 y.host) = _; rw [HY7.out])
        have n0 : w9.cell? ⟨N, 0, none⟩ = some (.bool fa) := (hcN 0).trans (by rw [hff]; rfl)
        have n1 : w9.cell? ⟨N, 1, none⟩ = some (.bool fb) := (hcN 1).trans (by rw [hff]; rfl)
        have n2 : w9.cell? ⟨N, 2, none⟩ = some (.bool fc) := (hcN 2).trans (by rw [hff]; rfl)
        have n3 : w9.cell? ⟨N, 3, none⟩ = some (.bool fd) := (hcN 3).trans (by rw [hff]; rfl)
        have n4 : w9.cell? ⟨N, 4, none⟩ = some (.bool fe) := (hcN 4).trans (by rw [hff]; rfl)
        have rl := HLEN.out w9 hk9V
        rw [H1.out] at rl
        have eqf : ∀ X, (binOp .eql 23 (.agg #[.bool fa, .bool fb, .bool fc, .bool fd, .bool fe]) (.agg #[.bool fa, .bool fb, .bool fc, .bool fd, .bool fe])).run Try.prog X = .ok (.bool true) X := fun X => eqFl fa fb fc fd fe X
        have hgd := grdFl
        have HK9 : Hid (Kept (fun k => k < w.heap.size) w w9) := (HKW.out.trans (HKV.out.mono fun k h => Nat.lt_of_lt_of_le h HKW.out.size)).trans (hk9V.mono fun k h => Nat.lt_of_lt_of_le h (Nat.le_trans HKW.out.size HKV.out.size))
        clear rk hk9 hk9V hc hcN hff hyf
        go_wp2_with fail
        refine rl.mono ?_
        rintro e w10 ⟨rfl, hw⟩
        replace hw := hw.symm
        subst hw
        clear rl g5 g7 g9 g10 g11 g12 g13 n0 n1 n2 n3 n4 eqf hgd
        go_wp2
        go_ret
        exact ⟨rfl, HK9.out⟩
end Go.Proofs.Ytkngpgkldkohgaa
