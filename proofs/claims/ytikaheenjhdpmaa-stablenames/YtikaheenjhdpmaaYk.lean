/-
  The walk of StableNames.
-/
import Derived.Test.YtikaheenjhdpmaaYj
namespace Go.Proofs.Ytikaheenjhdpmaa
open Go.RowKit Go.Sort
set_option linter.unusedVariables false
set_option maxRecDepth 100000
set_option maxHeartbeats 16000000
def nam10 : List ByteArray := [⟨#[100, 105, 118]⟩, ⟨#[112]⟩, ⟨#[115, 112, 97, 110]⟩, ⟨#[108, 105]⟩, ⟨#[120, 45, 97]⟩, ⟨#[115, 99, 114, 105, 112, 116]⟩, ⟨#[98]⟩, ⟨#[102, 111, 110, 116, 45, 102, 97, 99, 101]⟩, ⟨#[115, 108, 111, 116]⟩, ⟨#[97]⟩]
abbrev nam10C : Array Value := #[.string ⟨#[100, 105, 118]⟩, .string ⟨#[112]⟩, .string ⟨#[115, 112, 97, 110]⟩, .string ⟨#[108, 105]⟩, .string ⟨#[120, 45, 97]⟩, .string ⟨#[115, 99, 114, 105, 112, 116]⟩, .string ⟨#[98]⟩, .string ⟨#[102, 111, 110, 116, 45, 102, 97, 99, 101]⟩, .string ⟨#[115, 108, 111, 116]⟩, .string ⟨#[97]⟩]
abbrev nam10L : List Value := [.string ⟨#[100, 105, 118]⟩, .string ⟨#[112]⟩, .string ⟨#[115, 112, 97, 110]⟩, .string ⟨#[108, 105]⟩, .string ⟨#[120, 45, 97]⟩, .string ⟨#[115, 99, 114, 105, 112, 116]⟩, .string ⟨#[98]⟩, .string ⟨#[102, 111, 110, 116, 45, 102, 97, 99, 101]⟩, .string ⟨#[115, 108, 111, 116]⟩, .string ⟨#[97]⟩]
/-- What is asked of each of the ten names. -/
theorem nam10_ok : ∀ r, r < 10 → ∃ s : ByteArray, nam10L[r]? = some (.string s) ∧ soundN ⟨1, s.toList, [], []⟩ = true ∧ s.toList ≠ [116, 101, 109, 112, 108, 97, 116, 101] ∧ stabN s.toList = decide (r % 2 = 0) := by
  intro r hr
  match r, hr with
  | 0, _ => exact ⟨⟨#[100, 105, 118]⟩, rfl, by decide +kernel, by decide +kernel, by decide +kernel⟩
  | 1, _ => exact ⟨⟨#[112]⟩, rfl, by decide +kernel, by decide +kernel, by decide +kernel⟩
  | 2, _ => exact ⟨⟨#[115, 112, 97, 110]⟩, rfl, by decide +kernel, by decide +kernel, by decide +kernel⟩
  | 3, _ => exact ⟨⟨#[108, 105]⟩, rfl, by decide +kernel, by decide +kernel, by decide +kernel⟩
  | 4, _ => exact ⟨⟨#[120, 45, 97]⟩, rfl, by decide +kernel, by decide +kernel, by decide +kernel⟩
  | 5, _ => exact ⟨⟨#[115, 99, 114, 105, 112, 116]⟩, rfl, by decide +kernel, by decide +kernel, by decide +kernel⟩
  | 6, _ => exact ⟨⟨#[98]⟩, rfl, by decide +kernel, by decide +kernel, by decide +kernel⟩
  | 7, _ => exact ⟨⟨#[102, 111, 110, 116, 45, 102, 97, 99, 101]⟩, rfl, by decide +kernel, by decide +kernel, by decide +kernel⟩
  | 8, _ => exact ⟨⟨#[115, 108, 111, 116]⟩, rfl, by decide +kernel, by decide +kernel, by decide +kernel⟩
  | 9, _ => exact ⟨⟨#[97]⟩, rfl, by decide +kernel, by decide +kernel, by decide +kernel⟩
def okC (cm : Bool) (c : UInt8) : Bool := !(c == 0) && !(cm && (c == 45 || c == 62))
theorem ok_t (l : List UInt8) : (l.all (okC false)) = !nullP l := by
  unfold nullP
  induction l with
  | nil => rfl
  | cons a l ih => rw [List.all_cons, List.any_cons, ih]; cases h : (a == 0) <;> simp [okC, h]
theorem ok_c (l : List UInt8) : (l.all (okC true)) = !l.any s3B := by
  induction l with
  | nil => rfl
  | cons a l ih => rw [List.all_cons, List.any_cons, ih]; cases h : (a == 0) <;> cases h1 : (a == 45) <;> cases h2 : (a == 62) <;> simp [okC, s3B, h, h1, h2]
theorem sound_t (d : List UInt8) : soundN ⟨2, [], d, []⟩ = true := by rw [soundN_2]; rfl
theorem sound_cm (d : List UInt8) : soundN ⟨3, [], d, []⟩ = true := by
  rw [soundN_o 3 (by decide) (by decide)]; simp [soundL, soundP, kindP]
abbrev xsS (kd : Nat) (nl dl : List UInt8) : List Nd := [frag0.new, elN [100, 105, 118], elN nl, lfN kd dl]
theorem noHost (kd : Nat) (nl dl : List UInt8) (i : Int) (hi : i ≠ -1) : ∀ k (h : k < (xsS kd nl dl).length), (xsS kd nl dl)[k].host ≠ i := by
  intro k h
  match k, h with
  | 0, _ => exact fun e => hi e.symm
  | 1, _ => exact fun e => hi e.symm
  | 2, _ => exact fun e => hi e.symm
  | 3, _ => exact fun e => hi e.symm
theorem xsS_sz (kd : Nat) (nl dl : List UInt8) (h : dl.length ≤ 4000000000) : ∀ x ∈ xsS kd nl dl, x.data.length ≤ 4000000000 := by
  intro x hx
  simp only [xsS, List.mem_cons, List.not_mem_nil, or_false] at hx
  rcases hx with rfl | rfl | rfl | rfl
  · decide
  · exact Nat.zero_le _
  · exact Nat.zero_le _
  · exact h
theorem backQ : updR (updR (fun _ => []) 1 ((fun _ => []) 1 ++ [2])) 1 ((updR (fun _ => []) 1 ((fun _ => ([] : List Nat)) 1 ++ [2]) 1).erase 2) = fun _ => [] := by
  funext k
  unfold updR
  split
  · simp
  · rfl
theorem okC_n (cm : Bool) (c : UInt8) : okC cm c = (!(decide (c.toNat = 0)) && !(cm && (decide (c.toNat = 45) || decide (c.toNat = 62)))) := by
  have e : ∀ k : UInt8, (c == k) = decide (c.toNat = k.toNat) := fun k => by
    rw [Bool.eq_iff_iff, beq_iff_eq, decide_eq_true_eq, ← UInt8.toNat_inj]
  unfold okC
  rw [e 0, e 45, e 62]
  rfl
theorem all_step (f0 : Bool) (f : UInt8 → Bool) (data : ByteArray) (dl : List UInt8) (hd : data.toList = dl) (j : Nat) (hj : j < data.size) (c : UInt8) (hc : data[j] = c) (vv : Bool) (h : (f0 && (dl.take j).all f) = vv) : (f0 && (dl.take (j + 1)).all f) = (vv && f c) := by
  subst hd
  rw [ByteArray.toList_eq] at h ⊢
  have h1 : j < data.data.toList.length := hj
  have e : data.data.toList[j] = c := hc
  rw [List.take_succ_eq_append_getElem h1, List.all_append, ← Bool.and_assoc, h, e]
  simp
theorem nam_long (kz : Int) (data : ByteArray) (cm : Bool) (hd : 500 < data.size) (w : World) : Calls Try.prog 3 #[.int .u8 kz, .string data, .bool cm] w fun e w' => e = .returned (.bool true) ∧ Kept (fun k => k < w.heap.size) w w' := by
  have r0 := new_yes 20 w (by decide) (by decide)
  have e1 : decide ((data.size : Int) > 500) = true := decide_eq_true (by omega)
  go_enter Try.func3, Try.ntmps3
  go_wp2_with fail
  refine r0.mono ?_
  rintro e w1 ⟨p, rfl, hp, hX1, hK1⟩
  have rk := known17_any w1
  have HK1 : Hid (Kept (fun k => k < w.heap.size) w w1) := hK1
  clear r0 hX1 hK1 hp
  go_wp2_with fail
  refine rk.mono ?_
  rintro e w2 ⟨rfl, hK2⟩
  have HK2 : Hid (Kept (fun k => k < w.heap.size) w w2) := HK1.out.trans (hK2.mono fun k h => Nat.lt_of_lt_of_le h HK1.out.size)
  clear rk hK2 HK1
  go_wp2
  go_ret
  exact ⟨rfl, HK2.out⟩
theorem nam_t (kz : Nat) (data : ByteArray) (hd : data.size ≤ 500) (w : World) : Calls Try.prog 3 #[.int .u8 (kz : Int), .string data, .bool false] w fun e w' => e = .returned (.bool true) ∧ Kept (fun k => k < w.heap.size) w w' := by
  have r0 := new_yes 20 w (by decide) (by decide)
  have e1 : decide ((data.size : Int) > 500) = false := decide_eq_false (by omega)
  obtain ⟨r, hr⟩ : ∃ r, kz % 10 = r := ⟨_, rfl⟩
  have hr10 : r < 10 := by omega
  have hm1 : (kz : Int).tmod 10 = (r : Int) := by rw [← hr]; rfl
  have hm2 : (kz : Int) % 10 = (r : Int) := by omega
  obtain ⟨r2, hr2⟩ : ∃ r, kz % 2 = r := ⟨_, rfl⟩
  have hn1 : (kz : Int).tmod 2 = (r2 : Int) := by rw [← hr2]; rfl
  have hn2 : (kz : Int) % 2 = (r2 : Int) := by omega
  obtain ⟨nm, hnm, hsn, htn, hst⟩ := nam10_ok r hr10
  obtain ⟨bb, hbb⟩ : ∃ b, decide (r % 2 = 0) = b := ⟨_, rfl⟩
  have hb2 : ((r2 : Int) == 0) = bb := by
    rw [← hbb, Bool.eq_iff_iff, beq_iff_eq, decide_eq_true_eq]; omega
  rw [hbb] at hst
  obtain ⟨nl, hnl⟩ : ∃ l, nm.toList = l := ⟨_, rfl⟩
  rw [hnl] at hsn htn hst
  obtain ⟨dl, hdl⟩ : ∃ l, data.toList = l := ⟨_, rfl⟩
  have hds : dl.length = data.size := by rw [← hdl, ByteArray.toList_eq]; simp
  have HDL : Hid (data.toList = dl) := hdl
  have HDS : Hid (dl.length = data.size) := hds
  have HNL : Hid (nm.toList = nl) := hnl
  have HSN : Hid (soundN ⟨1, nl, [], []⟩ = true) := hsn
  have HTN : Hid (nl ≠ [116, 101, 109, 112, 108, 97, 116, 101]) := htn
  have HST : Hid (stabN nl = bb) := hst
  have HNM : Hid (nam10L[r]? = some (.string nm)) := hnm
  have HD5 : Hid (data.size ≤ 500) := hd
  clear hr hr2 hbb hnl hdl hds hsn htn hst hnm
  go_enter Try.func3, Try.ntmps3
  go_wp2_with fail
  refine r0.mono ?_
  rintro e w1 ⟨p, rfl, hp, hX1, hK1⟩
  have s1 := Dq.start (by decide) (by decide) hX1
  obtain ⟨V, N, hV, hN, hb, hkV, hzV⟩ := alloc_bx w1 nam10C 9
  have r1 := (s1.kept hkV).makeA 1 ⟨#[100, 105, 118]⟩ ⟨#[]⟩ [] none 0 0 rest0 [100, 105, 118] [] (by rw [ByteArray.toList_eq]) (by rw [ByteArray.toList_eq]) rfl (by decide) (AtsAt.nil _ _ _) (by decide) (by decide +kernel) (by decide) rfl (by decide) (by decide)
  have HK1 : Hid (Kept (fun k => k < w.heap.size) w V) := hK1.trans (hkV.mono fun k h => Nat.lt_of_lt_of_le h hK1.size)
  have HV : Hid (w1.alloc (.cells nam10C 9) = V) := hV
  have HN : Hid (w1.heap.size = N) := hN
  clear r0 hp hX1 hK1 s1 hV hN hb hkV hzV
  have hq : ∀ h : r < nam10L.length, nam10L[r]'h = .string nm := fun h => by
    have e : nam10L[r]? = some (nam10L[r]'h) := List.getElem?_eq_getElem h
    have e2 := HNM.out
    rw [e] at e2
    exact Option.some.inj e2
  go_upto_region 5 with fail
  rw [HV.out]
  clear HV HN hq
  go_wp2_with fail
  refine r1.mono ?_
  rintro e w2 ⟨rfl, s2, hK2⟩
  have r2 := s2.makeA 1 nm ⟨#[]⟩ [] none 0 0 rest0 nl [] HNL.out (by rw [ByteArray.toList_eq]) rfl (by decide) (AtsAt.nil _ _ _) (by decide) HSN.out (fun h => HTN.out h.2) rfl (by decide) (fun h => by cases h)
  have HK2 : Hid (Kept (fun k => k < w.heap.size) w w2) := HK1.out.trans hK2
  clear r1 s2 hK2 HK1
  go_wp2_with fail
  refine r2.mono ?_
  rintro e w3 ⟨rfl, s3, hK3⟩
  obtain ⟨V9, N9, hV9, hN9, hb9, hkV9, hzV9⟩ := alloc_bx w3 #[.int .u8 2, .string ⟨#[]⟩, .string data, .slice none 0 0, .int .i64 0, .slice none 0 0, .int .i64 0, .int .i64 0, .int .i64 0, .bool false, .bool false, .bool false, .bool false, .bool false] 35
  have HV9 : Hid (w3.alloc (.cells #[.int .u8 2, .string ⟨#[]⟩, .string data, .slice none 0 0, .int .i64 0, .slice none 0 0, .int .i64 0, .int .i64 0, .int .i64 0, .bool false, .bool false, .bool false, .bool false, .bool false] 35) = V9) := hV9
  have HN9 : Hid (w3.heap.size = N9) := hN9
  have S3 : Hid _ := s3
  have HKV : Hid (Kept (fun k => k < w3.heap.size) w3 V9) := hkV9
  have HB9 : Hid (V9.heap[N9]? = some (.cells #[.int .u8 2, .string ⟨#[]⟩, .string data, .slice none 0 0, .int .i64 0, .slice none 0 0, .int .i64 0, .int .i64 0, .int .i64 0, .bool false, .bool false, .bool false, .bool false, .bool false] 35 (0, 0))) := hb9
  have HK23 : Hid (Kept (fun k => k < w.heap.size) w w3) := HK2.out.trans hK3
  clear hb9 s3
  clear r2 hK3 HK2 hV9 hN9 hzV9 hkV9
  go_upto_region 10 with fail
  rw [HV9.out, HN9.out]
  have hb9 := HB9.out
  have s3u := Dq.kept S3.out HKV.out
  have hK3' : Kept (fun k => k < w.heap.size) w V9 := HK23.out.trans (HKV.out.mono fun k h => Nat.lt_of_lt_of_le h HK23.out.size)
  have HK3 : Hid (Kept (fun k => k < w.heap.size) w V9) := hK3'
  clear S3 HKV HB9 HK23 hK3'
  clear HV9 HN9
  have r3 := s3u.makeA 2 ⟨#[]⟩ data [] none 0 0 rest0 [] dl (by rw [ByteArray.toList_eq]) HDL.out rfl (by decide) (AtsAt.nil _ _ _) (by decide) (sound_t dl) (by decide) rfl (by simp) (by decide)
  clear s3u
  go_upto_region 11 with (first | (refine wpList_load_row rfl 35 _ rfl N9 rfl 35 #[.int .u8 2, .string ⟨#[]⟩, .string data, .slice none 0 0, .int .i64 0, .slice none 0 0, .int .i64 0, .int .i64 0, .int .i64 0, .bool false, .bool false, .bool false, .bool false, .bool false] (0, 0) _ hb9 Try.underlying35 rfl (sizeN _ rfl) ?_) | (go_at_call 6; refine r3.mono ?_; rintro e w4 ⟨rfl, s4, hK4⟩))
  clear hb9
  have s4' : Dq 20 (fun k => k < w.heap.size) w4 p (xsS 2 nl dl) (fun _ => []) := s4
  have r4 := Dq.ins s4' 1 2 (by simp) (by simp) (by decide) (by decide +kernel : holdB (elN [100, 105, 118]) = true) (by decide) (by decide : (1 : Nat) ≠ 5) (by decide : (1 : Nat) ≠ 4) (fun u hu h => by cases h) rfl (noHost 2 nl dl 2 (by decide))
  have hsz : ∀ x ∈ xsS 2 nl dl, x.data.length ≤ 4000000000 := xsS_sz 2 nl dl (by have := HD5.out; rw [HDS.out]; omega)
  have HSZ : Hid _ := hsz
  have HK4 : Hid (Kept (fun k => k < w.heap.size) w w4) := HK3.out.trans hK4
  clear r3 s4 s4' hK4 HK3 hsz
  go_wp2_with fail
  refine r4.mono ?_
  rintro e w5 ⟨rfl, s5, hK5⟩
  have r5 : Calls Try.prog 8 #[.pointer (some ⟨p, 0, none⟩), .int .i64 1] w5 fun e w' => e = .returned (.bool bb) ∧ Kept (fun k => k < w5.heap.size) w5 w' := Dq.stable s5 HSZ.out 1 (by simp) bb (fun M R G rk hI hd => (hd.stab_one hI (k := 2) (by simp) (by simp) rfl rfl rfl rfl).trans (by
    show (bareP (elN [100, 105, 118]) && (stabN nl && !atrNull [])) = bb
    rw [HST.out]
    cases bb <;> decide))
  have S5 : Hid _ := s5
  have HK5 : Hid (Kept (fun k => k < w.heap.size) w w5) := HK4.out.trans hK5
  clear r4 s5 hK5 HK4
  go_upto_region 13 with (go_at_call 8; refine r5.mono ?_; rintro e w6 ⟨rfl, hK6⟩)
  have s6 := Dq.kept S5.out hK6
  have r6 := Dq.remove s6 2 1 (by simp) (by simp) (by simp [updR])
  have HK6 : Hid (Kept (fun k => k < w.heap.size) w w6) := HK5.out.trans (hK6.mono fun k h => Nat.lt_of_lt_of_le h HK5.out.size)
  clear r5 hK6 s6 S5 HK5
  go_wp2_with fail
  refine r6.mono ?_
  rintro e w7 ⟨rfl, s7, hK7⟩
  rw [backQ] at s7
  have r7 := Dq.ins s7 1 3 (by simp) (by simp) (by decide) (by decide +kernel : holdB (elN [100, 105, 118]) = true) (by decide) (by decide : (2 : Nat) ≠ 5) (by decide : (2 : Nat) ≠ 4) (fun u hu h => by cases h) rfl (noHost 2 nl dl 3 (by decide))
  have HK7 : Hid (Kept (fun k => k < w.heap.size) w w7) := HK6.out.trans hK7
  clear r6 s7 hK7 HK6
  go_wp2_with fail
  refine r7.mono ?_
  rintro e w8 ⟨rfl, s8, hK8⟩
  have S8 : Hid (Dq 20 (fun k => k < w.heap.size) w8 p (xsS 2 nl dl) (updR (fun _ => []) 1 ([] ++ [3]))) := s8
  have HK8 : Hid (Kept (fun k => k < w.heap.size) w w8) := HK7.out.trans hK8
  clear r7 s8 hK8 HK7
  go_upto_region 17 with fail
  obtain ⟨f0, hf0⟩ : ∃ b, (!data.toList.isEmpty) = b := ⟨_, rfl⟩
  have HF0 : Hid (f0 = (dl != [])) := by
    show f0 = (dl != [])
    rw [← hf0, HDL.out]
    cases dl <;> rfl
  rw [hf0]
  clear hf0
  go_loopg [11, 12, 13] data.size (fun gm vf vi vc wr => ∃ j : Nat, gm = data.size - j ∧ j ≤ data.size ∧ vi = .int .i64 j ∧ vf = .bool (f0 && (dl.take j).all (okC false)) ∧ wr = w8)
  case atStart => exact ⟨0, rfl, Nat.zero_le _, rfl, by rw [List.take_zero, List.all_nil, Bool.and_true], rfl⟩
  case round =>
    obtain ⟨j, hg, hj, rfl, rfl, rfl⟩ := hrel
    obtain ⟨vv, hvv⟩ : ∃ b, (f0 && (dl.take j).all (okC false)) = b := ⟨_, rfl⟩
    have HVV : Hid ((f0 && (dl.take j).all (okC false)) = vv) := hvv
    rw [hvv]
    clear hvv
    by_cases hlt : j < data.size
    · have HN : Hid ((f0 && (dl.take (j + 1)).all (okC false)) = (vv && okC false data[j])) := all_step f0 (okC false) data dl HDL.out j hlt data[j] rfl vv HVV.out
      clear HVV
      cases vv
      · go_wp2
        go_roundg (data.size - (j + 1))
        case rel => exact ⟨j + 1, rfl, by omega, by go_num, by rw [HN.out]; rfl, rfl⟩
        case measure => omega
      · by_cases c0 : data[j].toNat = 0
        · have p0 : ((data[j].toNat : Int) != 0) = false := by rw [c0]; rfl
          have HO : Hid (okC false data[j] = false) := by show okC false data[j] = _; rw [okC_n]; simp [c0]
          go_wp2
          go_roundg (data.size - (j + 1))
          case rel => exact ⟨j + 1, rfl, by omega, by go_num, by rw [HN.out, HO.out]; rfl, rfl⟩
          case measure => omega
        · have n0 : ¬ data[j].toNat = 0 := c0
          have m0 : ((data[j].toNat : Int) == 0) = false := by simp; omega
          have p0 : ((data[j].toNat : Int) != 0) = true := by simp; omega
          have HO : Hid (okC false data[j] = true) := by show okC false data[j] = _; rw [okC_n]; simp [c0]
          go_wp2
          go_roundg (data.size - (j + 1))
          case rel => exact ⟨j + 1, rfl, by omega, by go_num, by rw [HN.out, HO.out]; rfl, rfl⟩
          case measure => omega
    · obtain rfl : j = data.size := by omega
      have hff : vv = readP (lfN 2 dl) := by
        rw [← HVV.out, ← HDS.out, List.take_length, ok_t]
        rw [HF0.out]
        rfl
      have R8 : Hid (∀ X, Kept (fun k => k < wr.heap.size) wr X → Calls Try.prog 8 #[.pointer (some ⟨p, 0, none⟩), .int .i64 1] X fun e w' => e = .returned (.bool vv) ∧ Kept (fun k => k < X.heap.size) X w') := fun X hX =>
        Dq.stable (Dq.kept S8.out hX) HSZ.out 1 (by simp) vv (fun M R G rk hI hd => (hd.stab_one hI (k := 3) (by simp) (by simp) rfl rfl rfl rfl).trans (by
          rw [hff]
          show (bareP (elN [100, 105, 118]) && readP (lfN 2 dl)) = readP (lfN 2 dl)
          rw [show bareP (elN [100, 105, 118]) = true by decide, Bool.true_and]))
      have R9 : Hid (∀ X, Kept (fun k => k < wr.heap.size) wr X → Calls Try.prog 8 #[.pointer (some ⟨p, 0, none⟩), .int .i64 0] X fun e w' => e = .returned (.bool false) ∧ Kept (fun k => k < X.heap.size) X w') := fun X hX =>
        Dq.stable (Dq.kept S8.out hX) HSZ.out 0 (by simp) false (fun M R G rk hI hd => hd.stab_bad (by simp) rfl)
      have R10 : Hid (∀ X, Kept (fun k => k < wr.heap.size) wr X → Calls Try.prog 8 #[.pointer (some ⟨p, 0, none⟩), .int .i64 3] X fun e w' => e = .returned (.bool false) ∧ Kept (fun k => k < X.heap.size) X w') := fun X hX =>
        Dq.stable (Dq.kept S8.out hX) HSZ.out 3 (by simp) false (fun M R G rk hI hd => hd.stab_bad (by simp) rfl)
      have rk := known17_any wr
      clear hff HVV
      go_wp2_with fail
      refine rk.mono ?_
      rintro e w9 ⟨rfl, hK9⟩
      have r9 := R8.out w9 hK9
      have H9 : Hid (Kept (fun k => k < wr.heap.size) wr w9) := hK9
      clear rk hK9 R8
      go_wp2_with fail
      refine r9.mono ?_
      rintro e wA ⟨rfl, hKA⟩
      have HA : Hid (Kept (fun k => k < wr.heap.size) wr wA) := H9.out.trans (hKA.mono fun k h => Nat.lt_of_lt_of_le h H9.out.size)
      have rA := R9.out wA HA.out
      clear r9 hKA H9 R9
      go_wp2_with fail
      refine rA.mono ?_
      rintro e wB ⟨rfl, hKB⟩
      have HB : Hid (Kept (fun k => k < wr.heap.size) wr wB) := HA.out.trans (hKB.mono fun k h => Nat.lt_of_lt_of_le h HA.out.size)
      have rB := R10.out wB HB.out
      clear rA hKB HA R10
      go_wp2_with fail
      refine rB.mono ?_
      rintro e wC ⟨rfl, hKC⟩
      have HC : Hid (Kept (fun k => k < w.heap.size) w wC) := HK8.out.trans ((HB.out.trans (hKC.mono fun k h => Nat.lt_of_lt_of_le h HB.out.size)).mono fun k h => Nat.lt_of_lt_of_le h HK8.out.size)
      clear rB hKC HB
      go_wp2
      go_ret
      exact ⟨rfl, HC.out⟩
theorem nam_c (kz : Nat) (data : ByteArray) (hd : data.size ≤ 500) (w : World) : Calls Try.prog 3 #[.int .u8 (kz : Int), .string data, .bool true] w fun e w' => e = .returned (.bool true) ∧ Kept (fun k => k < w.heap.size) w w' := by
  have r0 := new_yes 20 w (by decide) (by decide)
  have e1 : decide ((data.size : Int) > 500) = false := decide_eq_false (by omega)
  obtain ⟨r, hr⟩ : ∃ r, kz % 10 = r := ⟨_, rfl⟩
  have hr10 : r < 10 := by omega
  have hm1 : (kz : Int).tmod 10 = (r : Int) := by rw [← hr]; rfl
  have hm2 : (kz : Int) % 10 = (r : Int) := by omega
  obtain ⟨r2, hr2⟩ : ∃ r, kz % 2 = r := ⟨_, rfl⟩
  have hn1 : (kz : Int).tmod 2 = (r2 : Int) := by rw [← hr2]; rfl
  have hn2 : (kz : Int) % 2 = (r2 : Int) := by omega
  obtain ⟨nm, hnm, hsn, htn, hst⟩ := nam10_ok r hr10
  obtain ⟨bb, hbb⟩ : ∃ b, decide (r % 2 = 0) = b := ⟨_, rfl⟩
  have hb2 : ((r2 : Int) == 0) = bb := by
    rw [← hbb, Bool.eq_iff_iff, beq_iff_eq, decide_eq_true_eq]; omega
  rw [hbb] at hst
  obtain ⟨nl, hnl⟩ : ∃ l, nm.toList = l := ⟨_, rfl⟩
  rw [hnl] at hsn htn hst
  obtain ⟨dl, hdl⟩ : ∃ l, data.toList = l := ⟨_, rfl⟩
  have hds : dl.length = data.size := by rw [← hdl, ByteArray.toList_eq]; simp
  have HDL : Hid (data.toList = dl) := hdl
  have HDS : Hid (dl.length = data.size) := hds
  have HNL : Hid (nm.toList = nl) := hnl
  have HSN : Hid (soundN ⟨1, nl, [], []⟩ = true) := hsn
  have HTN : Hid (nl ≠ [116, 101, 109, 112, 108, 97, 116, 101]) := htn
  have HST : Hid (stabN nl = bb) := hst
  have HNM : Hid (nam10L[r]? = some (.string nm)) := hnm
  have HD5 : Hid (data.size ≤ 500) := hd
  clear hr hr2 hbb hnl hdl hds hsn htn hst hnm
  go_enter Try.func3, Try.ntmps3
  go_wp2_with fail
  refine r0.mono ?_
  rintro e w1 ⟨p, rfl, hp, hX1, hK1⟩
  have s1 := Dq.start (by decide) (by decide) hX1
  obtain ⟨V, N, hV, hN, hb, hkV, hzV⟩ := alloc_bx w1 nam10C 9
  have r1 := (s1.kept hkV).makeA 1 ⟨#[100, 105, 118]⟩ ⟨#[]⟩ [] none 0 0 rest0 [100, 105, 118] [] (by rw [ByteArray.toList_eq]) (by rw [ByteArray.toList_eq]) rfl (by decide) (AtsAt.nil _ _ _) (by decide) (by decide +kernel) (by decide) rfl (by decide) (by decide)
  have HK1 : Hid (Kept (fun k => k < w.heap.size) w V) := hK1.trans (hkV.mono fun k h => Nat.lt_of_lt_of_le h hK1.size)
  have HV : Hid (w1.alloc (.cells nam10C 9) = V) := hV
  have HN : Hid (w1.heap.size = N) := hN
  clear r0 hp hX1 hK1 s1 hV hN hb hkV hzV
  have hq : ∀ h : r < nam10L.length, nam10L[r]'h = .string nm := fun h => by
    have e : nam10L[r]? = some (nam10L[r]'h) := List.getElem?_eq_getElem h
    have e2 := HNM.out
    rw [e] at e2
    exact Option.some.inj e2
  go_upto_region 5 with fail
  rw [HV.out]
  clear HV HN hq
  go_wp2_with fail
  refine r1.mono ?_
  rintro e w2 ⟨rfl, s2, hK2⟩
  have r2 := s2.makeA 1 nm ⟨#[]⟩ [] none 0 0 rest0 nl [] HNL.out (by rw [ByteArray.toList_eq]) rfl (by decide) (AtsAt.nil _ _ _) (by decide) HSN.out (fun h => HTN.out h.2) rfl (by decide) (fun h => by cases h)
  have HK2 : Hid (Kept (fun k => k < w.heap.size) w w2) := HK1.out.trans hK2
  clear r1 s2 hK2 HK1
  go_wp2_with fail
  refine r2.mono ?_
  rintro e w3 ⟨rfl, s3, hK3⟩
  obtain ⟨V9, N9, hV9, hN9, hb9, hkV9, hzV9⟩ := alloc_bx w3 #[.int .u8 3, .string ⟨#[]⟩, .string data, .slice none 0 0, .int .i64 0, .slice none 0 0, .int .i64 0, .int .i64 0, .int .i64 0, .bool false, .bool false, .bool false, .bool false, .bool false] 35
  have HV9 : Hid (w3.alloc (.cells #[.int .u8 3, .string ⟨#[]⟩, .string data, .slice none 0 0, .int .i64 0, .slice none 0 0, .int .i64 0, .int .i64 0, .int .i64 0, .bool false, .bool false, .bool false, .bool false, .bool false] 35) = V9) := hV9
  have HN9 : Hid (w3.heap.size = N9) := hN9
  have S3 : Hid _ := s3
  have HKV : Hid (Kept (fun k => k < w3.heap.size) w3 V9) := hkV9
  have HB9 : Hid (V9.heap[N9]? = some (.cells #[.int .u8 3, .string ⟨#[]⟩, .string data, .slice none 0 0, .int .i64 0, .slice none 0 0, .int .i64 0, .int .i64 0, .int .i64 0, .bool false, .bool false, .bool false, .bool false, .bool false] 35 (0, 0))) := hb9
  have HK23 : Hid (Kept (fun k => k < w.heap.size) w w3) := HK2.out.trans hK3
  clear hb9 s3
  clear r2 hK3 HK2 hV9 hN9 hzV9 hkV9
  go_upto_region 10 with fail
  rw [HV9.out, HN9.out]
  have hb9 := HB9.out
  have s3u := Dq.kept S3.out HKV.out
  have hK3' : Kept (fun k => k < w.heap.size) w V9 := HK23.out.trans (HKV.out.mono fun k h => Nat.lt_of_lt_of_le h HK23.out.size)
  have HK3 : Hid (Kept (fun k => k < w.heap.size) w V9) := hK3'
  clear S3 HKV HB9 HK23 hK3'
  clear HV9 HN9
  have r3 := s3u.makeA 3 ⟨#[]⟩ data [] none 0 0 rest0 [] dl (by rw [ByteArray.toList_eq]) HDL.out rfl (by decide) (AtsAt.nil _ _ _) (by decide) (sound_cm dl) (by decide) rfl (by simp) (by decide)
  clear s3u
  go_upto_region 11 with (first | (refine wpList_load_row rfl 35 _ rfl N9 rfl 35 #[.int .u8 3, .string ⟨#[]⟩, .string data, .slice none 0 0, .int .i64 0, .slice none 0 0, .int .i64 0, .int .i64 0, .int .i64 0, .bool false, .bool false, .bool false, .bool false, .bool false] (0, 0) _ hb9 Try.underlying35 rfl (sizeN _ rfl) ?_) | (go_at_call 6; refine r3.mono ?_; rintro e w4 ⟨rfl, s4, hK4⟩))
  clear hb9
  have s4' : Dq 20 (fun k => k < w.heap.size) w4 p (xsS 3 nl dl) (fun _ => []) := s4
  have r4 := Dq.ins s4' 1 2 (by simp) (by simp) (by decide) (by decide +kernel : holdB (elN [100, 105, 118]) = true) (by decide) (by decide : (1 : Nat) ≠ 5) (by decide : (1 : Nat) ≠ 4) (fun u hu h => by cases h) rfl (noHost 3 nl dl 2 (by decide))
  have hsz : ∀ x ∈ xsS 3 nl dl, x.data.length ≤ 4000000000 := xsS_sz 3 nl dl (by have := HD5.out; rw [HDS.out]; omega)
  have HSZ : Hid _ := hsz
  have HK4 : Hid (Kept (fun k => k < w.heap.size) w w4) := HK3.out.trans hK4
  clear r3 s4 s4' hK4 HK3 hsz
  go_wp2_with fail
  refine r4.mono ?_
  rintro e w5 ⟨rfl, s5, hK5⟩
  have r5 : Calls Try.prog 8 #[.pointer (some ⟨p, 0, none⟩), .int .i64 1] w5 fun e w' => e = .returned (.bool bb) ∧ Kept (fun k => k < w5.heap.size) w5 w' := Dq.stable s5 HSZ.out 1 (by simp) bb (fun M R G rk hI hd => (hd.stab_one hI (k := 2) (by simp) (by simp) rfl rfl rfl rfl).trans (by
    show (bareP (elN [100, 105, 118]) && (stabN nl && !atrNull [])) = bb
    rw [HST.out]
    cases bb <;> decide))
  have S5 : Hid _ := s5
  have HK5 : Hid (Kept (fun k => k < w.heap.size) w w5) := HK4.out.trans hK5
  clear r4 s5 hK5 HK4
  go_upto_region 13 with (go_at_call 8; refine r5.mono ?_; rintro e w6 ⟨rfl, hK6⟩)
  have s6 := Dq.kept S5.out hK6
  have r6 := Dq.remove s6 2 1 (by simp) (by simp) (by simp [updR])
  have HK6 : Hid (Kept (fun k => k < w.heap.size) w w6) := HK5.out.trans (hK6.mono fun k h => Nat.lt_of_lt_of_le h HK5.out.size)
  clear r5 hK6 s6 S5 HK5
  go_wp2_with fail
  refine r6.mono ?_
  rintro e w7 ⟨rfl, s7, hK7⟩
  rw [backQ] at s7
  have r7 := Dq.ins s7 1 3 (by simp) (by simp) (by decide) (by decide +kernel : holdB (elN [100, 105, 118]) = true) (by decide) (by decide : (3 : Nat) ≠ 5) (by decide : (3 : Nat) ≠ 4) (fun u hu h => by cases h) rfl (noHost 3 nl dl 3 (by decide))
  have HK7 : Hid (Kept (fun k => k < w.heap.size) w w7) := HK6.out.trans hK7
  clear r6 s7 hK7 HK6
  go_wp2_with fail
  refine r7.mono ?_
  rintro e w8 ⟨rfl, s8, hK8⟩
  have S8 : Hid (Dq 20 (fun k => k < w.heap.size) w8 p (xsS 3 nl dl) (updR (fun _ => []) 1 ([] ++ [3]))) := s8
  have HK8 : Hid (Kept (fun k => k < w.heap.size) w w8) := HK7.out.trans hK8
  clear r7 s8 hK8 HK7
  go_upto_region 17 with fail
  go_loopg [11, 12, 13] data.size (fun gm vf vi vc wr => ∃ j : Nat, gm = data.size - j ∧ j ≤ data.size ∧ vi = .int .i64 j ∧ vf = .bool (true && (dl.take j).all (okC true)) ∧ wr = w8)
  case atStart => exact ⟨0, rfl, Nat.zero_le _, rfl, by rw [List.take_zero, List.all_nil, Bool.and_true], rfl⟩
  case round =>
    obtain ⟨j, hg, hj, rfl, rfl, rfl⟩ := hrel
    obtain ⟨vv, hvv⟩ : ∃ b, (true && (dl.take j).all (okC true)) = b := ⟨_, rfl⟩
    have HVV : Hid ((true && (dl.take j).all (okC true)) = vv) := hvv
    rw [hvv]
    clear hvv
    by_cases hlt : j < data.size
    · have HN : Hid ((true && (dl.take (j + 1)).all (okC true)) = (vv && okC true data[j])) := all_step true (okC true) data dl HDL.out j hlt data[j] rfl vv HVV.out
      clear HVV
      cases vv
      · go_wp2
        go_roundg (data.size - (j + 1))
        case rel => exact ⟨j + 1, rfl, by omega, by go_num, by rw [HN.out]; rfl, rfl⟩
        case measure => omega
      · by_cases c0 : data[j].toNat = 0
        · have p0 : ((data[j].toNat : Int) != 0) = false := by rw [c0]; rfl
          have HO : Hid (okC true data[j] = false) := by show okC true data[j] = _; rw [okC_n]; simp [c0]
          go_wp2
          go_roundg (data.size - (j + 1))
          case rel => exact ⟨j + 1, rfl, by omega, by go_num, by rw [HN.out, HO.out]; rfl, rfl⟩
          case measure => omega
        · by_cases c45 : data[j].toNat = 45
          · have p45 : ((data[j].toNat : Int) != 0) = true := by rw [c45]; rfl
            have HO : Hid (okC true data[j] = false) := by show okC true data[j] = _; rw [okC_n]; simp [c45]
            go_wp2
            go_roundg (data.size - (j + 1))
            case rel => exact ⟨j + 1, rfl, by omega, by go_num, by rw [HN.out, HO.out]; rfl, rfl⟩
            case measure => omega
          · by_cases c62 : data[j].toNat = 62
            · have p62 : ((data[j].toNat : Int) != 0) = true := by rw [c62]; rfl
              have HO : Hid (okC true data[j] = false) := by show okC true data[j] = _; rw [okC_n]; simp [c62]
              go_wp2
              go_roundg (data.size - (j + 1))
              case rel => exact ⟨j + 1, rfl, by omega, by go_num, by rw [HN.out, HO.out]; rfl, rfl⟩
              case measure => omega
            · have n0 : ¬ data[j].toNat = 0 := c0
              have m0 : ((data[j].toNat : Int) == 0) = false := by simp; omega
              have p0 : ((data[j].toNat : Int) != 0) = true := by simp; omega
              have n45 : ¬ data[j].toNat = 45 := c45
              have m45 : ((data[j].toNat : Int) == 45) = false := by simp; omega
              have p45 : ((data[j].toNat : Int) != 45) = true := by simp; omega
              have n62 : ¬ data[j].toNat = 62 := c62
              have m62 : ((data[j].toNat : Int) == 62) = false := by simp; omega
              have p62 : ((data[j].toNat : Int) != 62) = true := by simp; omega
              have HO : Hid (okC true data[j] = true) := by show okC true data[j] = _; rw [okC_n]; simp [c0, c45, c62]
              go_wp2
              go_roundg (data.size - (j + 1))
              case rel => exact ⟨j + 1, rfl, by omega, by go_num, by rw [HN.out, HO.out]; rfl, rfl⟩
              case measure => omega
    · obtain rfl : j = data.size := by omega
      have hff : vv = readP (lfN 3 dl) := by
        rw [← HVV.out, ← HDS.out, List.take_length, ok_c]
        rfl
      have R8 : Hid (∀ X, Kept (fun k => k < wr.heap.size) wr X → Calls Try.prog 8 #[.pointer (some ⟨p, 0, none⟩), .int .i64 1] X fun e w' => e = .returned (.bool vv) ∧ Kept (fun k => k < X.heap.size) X w') := fun X hX =>
        Dq.stable (Dq.kept S8.out hX) HSZ.out 1 (by simp) vv (fun M R G rk hI hd => (hd.stab_one hI (k := 3) (by simp) (by simp) rfl rfl rfl rfl).trans (by
          rw [hff]
          show (bareP (elN [100, 105, 118]) && readP (lfN 3 dl)) = readP (lfN 3 dl)
          rw [show bareP (elN [100, 105, 118]) = true by decide, Bool.true_and]))
      have R9 : Hid (∀ X, Kept (fun k => k < wr.heap.size) wr X → Calls Try.prog 8 #[.pointer (some ⟨p, 0, none⟩), .int .i64 0] X fun e w' => e = .returned (.bool false) ∧ Kept (fun k => k < X.heap.size) X w') := fun X hX =>
        Dq.stable (Dq.kept S8.out hX) HSZ.out 0 (by simp) false (fun M R G rk hI hd => hd.stab_bad (by simp) rfl)
      have R10 : Hid (∀ X, Kept (fun k => k < wr.heap.size) wr X → Calls Try.prog 8 #[.pointer (some ⟨p, 0, none⟩), .int .i64 3] X fun e w' => e = .returned (.bool false) ∧ Kept (fun k => k < X.heap.size) X w') := fun X hX =>
        Dq.stable (Dq.kept S8.out hX) HSZ.out 3 (by simp) false (fun M R G rk hI hd => hd.stab_bad (by simp) rfl)
      have rk := known17_any wr
      clear hff HVV
      go_wp2_with fail
      refine rk.mono ?_
      rintro e w9 ⟨rfl, hK9⟩
      have r9 := R8.out w9 hK9
      have H9 : Hid (Kept (fun k => k < wr.heap.size) wr w9) := hK9
      clear rk hK9 R8
      go_wp2_with fail
      refine r9.mono ?_
      rintro e wA ⟨rfl, hKA⟩
      have HA : Hid (Kept (fun k => k < wr.heap.size) wr wA) := H9.out.trans (hKA.mono fun k h => Nat.lt_of_lt_of_le h H9.out.size)
      have rA := R9.out wA HA.out
      clear r9 hKA H9 R9
      go_wp2_with fail
      refine rA.mono ?_
      rintro e wB ⟨rfl, hKB⟩
      have HB : Hid (Kept (fun k => k < wr.heap.size) wr wB) := HA.out.trans (hKB.mono fun k h => Nat.lt_of_lt_of_le h HA.out.size)
      have rB := R10.out wB HB.out
      clear rA hKB HA R10
      go_wp2_with fail
      refine rB.mono ?_
      rintro e wC ⟨rfl, hKC⟩
      have HC : Hid (Kept (fun k => k < w.heap.size) w wC) := HK8.out.trans ((HB.out.trans (hKC.mono fun k h => Nat.lt_of_lt_of_le h HB.out.size)).mono fun k h => Nat.lt_of_lt_of_le h HK8.out.size)
      clear rB hKC HB
      go_wp2
      go_ret
      exact ⟨rfl, HC.out⟩
end Go.Proofs.Ytikaheenjhdpmaa
