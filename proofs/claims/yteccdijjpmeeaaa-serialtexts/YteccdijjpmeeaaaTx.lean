/-
  The walk of SerialTexts.
-/
import Derived.Test.YteccdijjpmeeaaaDk
import Derived.Test.YteccdijjpmeeaaaEd
namespace Go.Proofs.Yteccdijjpmeeaaa
open Go.RowKit
set_option linter.unusedVariables false
set_option maxRecDepth 100000
set_option maxHeartbeats 4000000
theorem writ_q {n : List UInt8} {d : List UInt8} (hn : writP ⟨n, []⟩ = true) (hd : d.length ≤ 2000) : writP ⟨n, d⟩ = true := by
  unfold writP at hn ⊢
  simp only [Bool.and_eq_true] at hn ⊢
  exact ⟨hn.1, decide_eq_true hd⟩
theorem sound_q {nm : List UInt8} {d : List UInt8} (hv : validP nm = true) (hd : d.length ≤ 2000) : soundN ⟨1, nm, [], [⟨[113], d⟩]⟩ = true := by
  have hw : writP ⟨[113], d⟩ = true := writ_q (by decide +kernel) hd
  refine soundN_el (x := ⟨1, nm, [], [⟨[113], d⟩], ⟨false, false, false, false, false⟩, 0, 0, 0⟩) rfl rfl hv ?_
  unfold soundA allW
  rw [hw]
  rfl
theorem sound_t (d : List UInt8) : soundN ⟨2, [], d, []⟩ = true := by rw [soundN_2]; rfl
/-- What SerialTexts looks at. -/
theorem texts_of (name : ByteArray) (nm : List UInt8) (hname : name.toList = nm) (data : ByteArray) (d : List UInt8) (hdata : data.toList = d) (hd : d.length ≤ 1000) (hv : validP nm = true) (hvo : voidP nm = false) (hh : holdB (elx nm []) = true) (ht : nm ≠ [116, 101, 109, 112, 108, 97, 116, 101]) (w : World) {p : Nat} {K : Nat → Prop} (h : Dq 9 K w p [frag0.new] (fun _ => [])) (W : World) (N : Nat) (hW : w.alloc (.cells #[.string ⟨#[113]⟩, .string data] 47) = W) (hN : w.heap.size = N) :
    Calls Try.prog 8 #[.pointer (some ⟨p, 0, none⟩), nodeV 1 name ⟨#[]⟩ (some ⟨N, 0, none⟩) 1 1 rest0] W fun e w1 => (∃ v, e = .returned v) ∧ Kept K w w1 ∧ Calls Try.prog 8 #[.pointer (some ⟨p, 0, none⟩), nodeV 2 ⟨#[]⟩ data none 0 0 rest0] w1 fun e w2 => (∃ v, e = .returned v) ∧ Kept K w w2 ∧ Calls Try.prog 10 #[.pointer (some ⟨p, 0, none⟩), .int .i64 1, .int .i64 2, .int .i64 (-1)] w2 fun e w3 => e = .returned (.int .u16 0) ∧ Kept K w w3 ∧ Calls Try.prog 14 #[.pointer (some ⟨p, 0, none⟩), .int .i64 1, .agg #[.bool false, .slice none 0 0]] w3 fun e w' => e = .returned (.string ⟨(staL nm [⟨[113], d⟩] ++ ((if rawP nm = true then d else esc false d) ++ endL nm)).toArray⟩) ∧ Kept K w w' := by
  have hdl : (⟨d.toArray⟩ : ByteArray) = data := by apply ByteArray.ext; rw [← hdata, ByteArray.toList_eq]
  obtain ⟨V, N', hV, hN', hb, hkV, hzV⟩ := alloc_bx w #[sv [113], sv d] 47
  have eW : W = V := by rw [← hW, ← hV]; unfold sv; rw [hdl]
  have eN : N = N' := by omega
  subst eW
  subst eN
  have hlt := h.lt
  refine ((h.kept hkV).makeA 1 name ⟨#[]⟩ [⟨[113], d⟩] (some ⟨N, 0, none⟩) 1 1 rest0 nm [] hname (by rw [ByteArray.toList_eq]) rfl (by decide) (AtsAt.one hb (lt_block hb)) (fun x hx => by rw [List.mem_singleton] at hx; subst hx; exact ⟨by simp, by show d.length ≤ _; omega⟩) (sound_q hv (by omega)) (fun e => ht e.2) rfl (by simp) (fun e => by cases e)).mono ?_
  rintro e w1 ⟨rfl, s1, hK1⟩
  have k1 : Kept K w w1 := (hkV.mono hlt).trans hK1
  refine ⟨⟨_, rfl⟩, k1, (s1.makeA 2 ⟨#[]⟩ data [] none 0 0 rest0 [] d (by rw [ByteArray.toList_eq]) hdata rfl (by decide) (AtsAt.nil _ _ _) (fun x hx => by cases hx) (sound_t d) (fun e => by cases e.1) rfl (by simp) (fun e => by cases e)).mono ?_⟩
  rintro e w2 ⟨rfl, s2, hK2⟩
  have k2 : Kept K w w2 := k1.trans hK2
  refine ⟨⟨_, rfl⟩, k2, (dq_ins12 (nm := nm) (l := [⟨[113], d⟩]) (d := d) s2 hh).mono ?_⟩
  rintro e w3 ⟨rfl, s3, hK3⟩
  have k3 : Kept K w w3 := k2.trans hK3
  have hnl : nm.length ≤ 60 := by
    unfold validP at hv
    simp only [Bool.and_eq_true, decide_eq_true_eq] at hv
    exact hv.1.2
  have he := esc_short false d
  have he2 := esc_short true d
  refine ⟨rfl, k3, (s3.outer ?_ 1 (by simp) false (.inr ⟨fun u _ => free12 u, rfl⟩) (opt0 w3) (staL nm [⟨[113], d⟩] ++ ((if rawP nm = true then d else esc false d) ++ endL nm)) ?_ fun M F h => out12 h hvo).mono ?_⟩
  · intro x hx
    simp only [List.mem_cons, List.not_mem_nil, or_false] at hx
    rcases hx with rfl | rfl | rfl
    · exact szd_frag
    · exact szd_new (by simp) (fun a ha => by rw [List.mem_singleton] at ha; subst ha; show d.length < _; omega) (by simp) (by simp)
    · exact szd_new (by simp) (fun a ha => by cases ha) (by show d.length < _; omega) (by simp)
  · have : (if rawP nm = true then d else esc false d).length ≤ 6000 := by split <;> omega
    unfold staL endL atsL atrL
    simp only [List.length_append, List.flatMap_cons, List.flatMap_nil, List.length_cons, List.length_nil]
    omega
  · rintro e w' ⟨rfl, hk⟩
    exact ⟨rfl, k3.trans (hk.mono s3.lt)⟩
theorem texts_go (data : ByteArray) (raw : Bool) (w : World) : Calls Try.prog 5 #[.string data, .bool raw] w fun e w' => e = .returned (.bool true) ∧ Kept (fun k => k < w.heap.size) w w' := by
  have r0 := new_yes 9 w (by decide) (by decide)
  by_cases hd : 1000 < data.size
  · have e1 : decide ((data.size : Int) > 1000) = true := decide_eq_true (by omega)
    go_enter Try.func5, Try.ntmps5
    go_wp2_with fail
    refine r0.mono ?_
    rintro e w1 ⟨p, rfl, hp, hX1, hK1⟩
    have rk := known_any w1
    have HK1 : Hid (Kept (fun k => k < w.heap.size) w w1) := hK1
    clear r0 hX1 hK1 hp
    go_wp2_with fail
    refine rk.mono ?_
    rintro e w2 ⟨rfl, hK2⟩
    have HK2 : Hid (Kept (fun k => k < w.heap.size) w w2) := HK1.out.trans (hK2.mono fun k h => Nat.lt_of_lt_of_le h HK1.out.size)
    clear rk hK2 HK1
    go_wp2
    go_ret
    exact ⟨rfl, HK2.out⟩
  · have e1 : decide ((data.size : Int) > 1000) = false := decide_eq_false (by omega)
    have hsz : data.toList.length = data.size := by rw [ByteArray.toList_eq]; rfl
    have key : ∀ (name : ByteArray) (nm : List UInt8) (want : ByteArray), name.toList = nm → want.toList = (if rawP nm = true then data.toList else esc false data.toList) → ((⟨(staL nm [⟨[113], data.toList⟩] ++ ((if rawP nm = true then data.toList else esc false data.toList) ++ endL nm)).toArray⟩ : ByteArray).toList == ((((((((⟨#[60]⟩ : ByteArray) ++ name) ++ ⟨#[32, 113, 61, 34]⟩) ++ ⟨(esc true data.data.toList).toArray⟩) ++ ⟨#[34, 62]⟩) ++ want) ++ ⟨#[60, 47]⟩) ++ name ++ ⟨#[62]⟩).toList) = true := fun name nm want h1 h2 => by
      rw [beq_iff_eq]
      rw [← h2, ← h1]
      simp only [ByteArray.toList_eq, ByteArray.data_append, Array.toList_append]
      unfold staL endL atsL atrL
      simp
    have KEY : Hid _ := key
    clear key
    go_enter Try.func5, Try.ntmps5
    go_wp2_with fail
    refine r0.mono ?_
    rintro e w1 ⟨p, rfl, hp, hX1, hK1⟩
    have rk := known_any w1
    have HK1 : Hid (Kept (fun k => k < w.heap.size) w w1) := hK1
    have HX1 : Hid (DX (fun k => k < w.heap.size) w1 p (Dm.new 9)) := hX1
    clear r0 hX1 hK1 hp
    go_wp2_with fail
    refine rk.mono ?_
    rintro e w2 ⟨rfl, hK2⟩
    have HK2 : Hid (Kept (fun k => k < w.heap.size) w w2) := HK1.out.trans (hK2.mono fun k h => Nat.lt_of_lt_of_le h HK1.out.size)
    have HX2 : Hid (DX (fun k => k < w.heap.size) w2 p (Dm.new 9)) := HX1.out.kept hK2
    have rt := rtext_any data w2 (by omega)
    clear rk hK2 HK1 HX1
    go_wp2_with fail
    refine rt.mono ?_
    rintro e w3 ⟨rfl, hw3⟩
    replace hw3 := hw3.symm
    subst hw3
    clear rt
    have rv : ∀ X, Calls Try.prog 16 #[.string data] X fun e w' => e = .returned (.string ⟨(esc true data.data.toList).toArray⟩) ∧ w' = X := fun X => rvalue_any data X (by omega)
    have RV : Hid _ := rv
    clear rv
    have hdd : data.data.toList.length = data.size := rfl
    have hb1 : (esc true data.data.toList).length ≤ 6000 := by have := esc_short true data.data.toList; omega
    have hb2 : (esc false data.data.toList).length ≤ 6000 := by have := esc_short false data.data.toList; omega
    clear hdd
    obtain ⟨V, N, hV, hN, hb, hkV, hzV⟩ := alloc_bx w2 #[.string ⟨#[113]⟩, .string data] 47
    cases raw with
    | true =>
      have rm := texts_of ⟨#[115, 116, 121, 108, 101]⟩ [115, 116, 121, 108, 101] (by rw [ByteArray.toList_eq]) data data.toList rfl (by omega) (by decide +kernel) (by decide +kernel) (by decide +kernel) (by decide) w2 (Dq.start (by decide) (by decide) HX2.out) V N hV hN
      have HKE : Hid _ := KEY.out ⟨#[115, 116, 121, 108, 101]⟩ [115, 116, 121, 108, 101] data (by rw [ByteArray.toList_eq]) (by rw [if_pos (by decide +kernel)])
      have HV : Hid (w2.alloc (.cells #[.string ⟨#[113]⟩, .string data] 47) = V) := hV
      have HN : Hid (w2.heap.size = N) := hN
      obtain ⟨T, hT⟩ : ∃ T : ByteArray, ⟨(staL [115, 116, 121, 108, 101] [⟨[113], data.toList⟩] ++ ((if rawP [115, 116, 121, 108, 101] = true then data.toList else esc false data.toList) ++ endL [115, 116, 121, 108, 101])).toArray⟩ = T := ⟨_, rfl⟩
      rw [hT] at rm HKE
      clear hV hN hb hkV hzV KEY HX2 hT
      go_upto_region 9 with fail
      go_wp2_with fail
      rw [HV.out, HN.out]
      refine rm.mono ?_
      rintro e w4 ⟨⟨v4, rfl⟩, hK4, rm4⟩
      clear rm hK4 HV HN
      go_wp2_with fail
      refine rm4.mono ?_
      rintro e w5 ⟨⟨v5, rfl⟩, hK5, rm5⟩
      clear rm4 hK5
      go_wp2_with fail
      refine rm5.mono ?_
      rintro e w6 ⟨rfl, hK6, rm6⟩
      clear rm5 hK6
      go_wp2_with fail
      refine rm6.mono ?_
      rintro e w7 ⟨rfl, hK7⟩
      have rv' := RV.out w7
      have HK7 : Hid (Kept (fun k => k < w.heap.size) w w7) := HK2.out.trans hK7
      clear rm6 hK7
      go_wp2_with fail
      refine rv'.mono ?_
      rintro e w8 ⟨rfl, hw8⟩
      replace hw8 := hw8.symm
      subst hw8
      clear rv' RV
      go_wp2
      go_ret
      exact ⟨congrArg (fun b => Ending.returned (Value.bool b)) HKE.out, HK7.out⟩
    | false =>
      have rm := texts_of ⟨#[100, 105, 118]⟩ [100, 105, 118] (by rw [ByteArray.toList_eq]) data data.toList rfl (by omega) (by decide +kernel) (by decide +kernel) (by decide +kernel) (by decide) w2 (Dq.start (by decide) (by decide) HX2.out) V N hV hN
      have HKE : Hid _ := KEY.out ⟨#[100, 105, 118]⟩ [100, 105, 118] ⟨(esc false data.data.toList).toArray⟩ (by rw [ByteArray.toList_eq]) (by rw [if_neg (by decide +kernel), lis, ByteArray.toList_eq])
      have HV : Hid (w2.alloc (.cells #[.string ⟨#[113]⟩, .string data] 47) = V) := hV
      have HN : Hid (w2.heap.size = N) := hN
      obtain ⟨T, hT⟩ : ∃ T : ByteArray, ⟨(staL [100, 105, 118] [⟨[113], data.toList⟩] ++ ((if rawP [100, 105, 118] = true then data.toList else esc false data.toList) ++ endL [100, 105, 118])).toArray⟩ = T := ⟨_, rfl⟩
      rw [hT] at rm HKE
      clear hV hN hb hkV hzV KEY HX2 hT
      go_upto_region 9 with fail
      go_wp2_with fail
      rw [HV.out, HN.out]
      refine rm.mono ?_
      rintro e w4 ⟨⟨v4, rfl⟩, hK4, rm4⟩
      clear rm hK4 HV HN
      go_wp2_with fail
      refine rm4.mono ?_
      rintro e w5 ⟨⟨v5, rfl⟩, hK5, rm5⟩
      clear rm4 hK5
      go_wp2_with fail
      refine rm5.mono ?_
      rintro e w6 ⟨rfl, hK6, rm6⟩
      clear rm5 hK6
      go_wp2_with fail
      refine rm6.mono ?_
      rintro e w7 ⟨rfl, hK7⟩
      have rv' := RV.out w7
      have HK7 : Hid (Kept (fun k => k < w.heap.size) w w7) := HK2.out.trans hK7
      clear rm6 hK7
      go_wp2_with fail
      refine rv'.mono ?_
      rintro e w8 ⟨rfl, hw8⟩
      replace hw8 := hw8.symm
      subst hw8
      clear rv' RV
      go_wp2
      go_ret
      exact ⟨congrArg (fun b => Ending.returned (Value.bool b)) HKE.out, HK7.out⟩
end Go.Proofs.Yteccdijjpmeeaaa
