/-
  The chapter's example.
-/
import Derived.Test.YteccdijjpmeeaaaDa
namespace Go.Proofs.Yteccdijjpmeeaaa
open Go.RowKit
set_option linter.unusedVariables false
set_option maxRecDepth 100000
set_option maxHeartbeats 4000000
theorem innF_el {o : Ask} {M : Dm} {Q : Nat → List Nat} {F i : Nat} {x : Nd} (e : M.nd i = x) (hv : isV x = false) (hc : x.content = -1) : innF o M Q (F + 1) i = shadW o M (innF o M Q F) x ++ kidsW M (innF o M Q F) (isR x) (Q i) := by
  show innW o M Q (innF o M Q F) i = _
  unfold innW
  rw [e, if_neg (by rw [hv]; decide)]
  have : srcN x i = i := if_pos hc
  rw [this, e]
theorem shadW_no {o : Ask} {M : Dm} {inn : Nat → List UInt8} {x : Nd} (h : x.shadow = -1) : shadW o M inn x = [] := if_pos h
theorem kidsW_one {M : Dm} {inn : Nat → List UInt8} {raw : Bool} {k : Nat} : kidsW M inn raw [k] = outX (inn k) (M.nd k) raw := by
  unfold kidsW; rw [List.flatMap_singleton]; rfl
theorem szd_new {x : Mk} (h1 : x.attrs.length ≤ 1000) (h2 : ∀ a ∈ x.attrs, a.value.length < 1000000) (h3 : x.data.length < 1000000) (h4 : x.kind ≤ 255) : Szd x.nd.new := ⟨h1, h2, fun _ => h3, h4⟩
theorem szd_frag : Szd frag0.new := ⟨by decide, fun a h => (by cases h), fun _ => (by decide), by decide⟩
/-- An element with one text in it. -/
def elx (nm : List UInt8) (l : List Atr) : Nd := (Mk.nd ⟨1, nm, [], l⟩).new
def txx (d : List UInt8) : Nd := (Mk.nd ⟨2, [], d, []⟩).new
abbrev q12 : Nat → List Nat := updR (fun _ => []) 1 ((fun _ => [] : Nat → List Nat) 1 ++ [2])
theorem inn12 {o : Ask} {M : Dm} {F : Nat} {nm : List UInt8} {l : List Atr} {d : List UInt8} (h : ∀ k (h : k < [frag0.new, elx nm l, txx d].length), M.nd k = [frag0.new, elx nm l, txx d][k]) (hv : voidP nm = false) : innF o M q12 (F + 3) 1 = if rawP nm = true then d else esc false d := by
  have e1 : M.nd 1 = elx nm l := h 1 (by simp)
  have e2 : M.nd 2 = txx d := h 2 (by simp)
  rw [innF_el e1 (by show (true && voidP nm) = false; rw [hv]; rfl) rfl, shadW_no rfl]
  have hq : q12 1 = [2] := rfl
  rw [hq, kidsW_one, e2, List.nil_append]
  have hr : isR (elx nm l) = rawP nm := by show (true && rawP nm) = _; rw [Bool.true_and]
  rw [hr]
  rfl
theorem out12 {o : Ask} {M : Dm} {F : Nat} {nm : List UInt8} {l : List Atr} {d : List UInt8} (h : ∀ k (h : k < [frag0.new, elx nm l, txx d].length), M.nd k = [frag0.new, elx nm l, txx d][k]) (hv : voidP nm = false) : outX (innF o M q12 (F + 3) 1) (elx nm l) false = staL nm l ++ ((if rawP nm = true then d else esc false d) ++ endL nm) := by
  rw [inn12 h hv]
  show staL nm l ++ (if voidP nm = true then [] else _ ++ endL nm) = _
  rw [if_neg (by rw [hv]; decide)]
theorem free12 (u : Nat) : 1 ∉ q12 u := fun hm => by
  by_cases c : u = 1
  · subst c; rw [show q12 1 = [2] from rfl] at hm; simp at hm
  · rw [show q12 u = [] from updR_ne _ _ c] at hm; cases hm
section
variable {L : Nat} {K : Nat → Prop} {w w' : World} {p : Nat}
theorem AtsAt.one {K : Nat → Prop} {w : World} {g : Nat} {a b : List UInt8} {t : TypeId} (hb : w.heap[g]? = some (.cells #[sv a, sv b] t (0, 0))) (hK : K g) : AtsAt K w (some ⟨g, 0, none⟩) [⟨a, b⟩] := fun j hj => by
  have : j = 0 := by simp at hj; omega
  subst this
  exact ⟨g, 0, rfl, hK, by rw [cell_block hb]; rfl, by rw [cell_block hb]; rfl⟩
theorem dq_ins12 {nm : List UInt8} {l : List Atr} {d : List UInt8} (h : Dq L K w p [frag0.new, elx nm l, txx d] (fun _ => [])) (hh : holdB (elx nm l) = true) :
    Calls Try.prog 10 #[.pointer (some ⟨p, 0, none⟩), .int .i64 1, .int .i64 2, .int .i64 (-1)] w fun e w' => e = .returned (.int .u16 0) ∧ Dq L K w' p [frag0.new, elx nm l, txx d] q12 ∧ Kept K w w' := by
  refine h.ins 1 2 (by simp) (by simp) (by decide) hh (by decide) (by show (2 : Nat) ≠ 5; decide) (by show (2 : Nat) ≠ 4; decide) (fun u _ hm => by cases hm) rfl (fun k hk => ?_)
  have hk3 : k = 0 ∨ k = 1 ∨ k = 2 := by simp at hk; omega
  rcases hk3 with rfl | rfl | rfl <;> (show (-1 : Int) ≠ ((2 : Nat) : Int); decide)
end
theorem holdB_el (nm : List UInt8) (l : List Atr) : holdB (elx nm l) = holdB (elx nm []) := rfl
theorem known_any (w : World) : Calls Try.prog 12 #[] w fun e w' => e = .returned (.bool true) ∧ Kept (fun k => k < w.heap.size) w w' := by
  have r0 := new_yes 9 w (by decide) (by decide)
  go_enter Try.func12, Try.ntmps12
  go_wp2_with fail
  refine r0.mono ?_
  rintro e w1 ⟨p, rfl, hp, hX1, hK1⟩
  have s1 := Dq.start (by decide) (by decide) hX1
  obtain ⟨V, N, hV, hN, hb, hkV, hzV⟩ := alloc_bx w1 #[sv [105, 100], sv [97]] 47
  have r1 := (s1.kept hkV).makeA 1 ⟨#[100, 105, 118]⟩ ⟨#[]⟩ [⟨[105, 100], [97]⟩] (some ⟨N, 0, none⟩) 1 1 rest0 [100, 105, 118] [] (by rw [ByteArray.toList_eq]) (by rw [ByteArray.toList_eq]) rfl (by decide) (AtsAt.one hb (lt_block hb)) (by decide) (by decide +kernel) (by decide) rfl (by decide) (by decide)
  have HK1 : Hid (Kept (fun k => k < w.heap.size) w V) := hK1.trans (hkV.mono fun k h => Nat.lt_of_lt_of_le h hK1.size)
  have HV : Hid (w1.alloc (.cells #[sv [105, 100], sv [97]] 47) = V) := hV
  have HN : Hid (w1.heap.size = N) := hN
  clear r0 hp hX1 hK1 s1 hV hN hb hkV hzV
  go_upto_region 4 with fail
  go_wp2_with fail
  rw [HV.out, HN.out]
  clear HV HN
  refine r1.mono ?_
  rintro e w2 ⟨rfl, s2, hK2⟩
  have r2 := s2.makeA 2 ⟨#[]⟩ ⟨#[120, 60]⟩ [] none 0 0 rest0 [] [120, 60] (by rw [ByteArray.toList_eq]) (by rw [ByteArray.toList_eq]) rfl (by decide) (AtsAt.nil _ _ _) (by decide) (by decide +kernel) (by decide) rfl (by decide) (by decide)
  have HK2 : Hid (Kept (fun k => k < w.heap.size) w w2) := HK1.out.trans hK2
  clear r1 s2 hK2 HK1
  go_wp2_with fail
  refine r2.mono ?_
  rintro e w3 ⟨rfl, s3, hK3⟩
  have r3 := dq_ins12 (nm := [100, 105, 118]) (l := [⟨[105, 100], [97]⟩]) (d := [120, 60]) s3 (by decide +kernel)
  have HK3 : Hid (Kept (fun k => k < w.heap.size) w w3) := HK2.out.trans hK3
  clear r2 s3 hK3 HK2
  go_wp2_with fail
  refine r3.mono ?_
  rintro e w4 ⟨rfl, s4, hK4⟩
  have hsz : ∀ x ∈ [frag0.new, elx [100, 105, 118] [⟨[105, 100], [97]⟩], txx [120, 60]], Szd x := by
    intro x hx
    simp only [List.mem_cons, List.not_mem_nil, or_false] at hx
    rcases hx with rfl | rfl | rfl
    · exact szd_frag
    · exact szd_new (by decide) (by decide) (by decide) (by decide)
    · exact szd_new (by decide) (by decide) (by decide) (by decide)
  have ro : ∀ X, Kept (fun k => k < w4.heap.size) w4 X → Calls Try.prog 14 #[.pointer (some ⟨p, 0, none⟩), .int .i64 1, .agg #[.bool false, .slice none 0 0]] X fun e w' => e = .returned (.string ⟨#[60, 100, 105, 118, 32, 105, 100, 61, 34, 97, 34, 62, 120, 38, 108, 116, 59, 60, 47, 100, 105, 118, 62]⟩) ∧ Kept (fun k => k < X.heap.size) X w' := fun X hX =>
    (s4.kept hX).outer hsz 1 (by simp) false (.inr ⟨fun u _ => free12 u, rfl⟩) (opt0 X) [60, 100, 105, 118, 32, 105, 100, 61, 34, 97, 34, 62, 120, 38, 108, 116, 59, 60, 47, 100, 105, 118, 62] (by decide) fun M F h => (out12 h (by decide +kernel)).trans (by decide +kernel)
  have ri : ∀ X, Kept (fun k => k < w4.heap.size) w4 X → Calls Try.prog 11 #[.pointer (some ⟨p, 0, none⟩), .int .i64 1, .agg #[.bool false, .slice none 0 0]] X fun e w' => e = .returned (.string ⟨#[120, 38, 108, 116, 59]⟩) ∧ Kept (fun k => k < X.heap.size) X w' := fun X hX =>
    (s4.kept hX).inner hsz 1 (by simp) (opt0 X) [120, 38, 108, 116, 59] (by decide) fun M F h => (inn12 h (by decide +kernel)).trans (by decide +kernel)
  have ro' := ro w4 (Kept.refl _ _)
  have RI : Hid _ := ri
  have HK4 : Hid (Kept (fun k => k < w.heap.size) w w4) := HK3.out.trans hK4
  clear r3 s4 hK4 HK3 hsz ro ri
  go_wp2_with fail
  refine ro'.mono ?_
  rintro e w5 ⟨rfl, hK5⟩
  have ri' := RI.out w5 hK5
  have HK5 : Hid (Kept (fun k => k < w.heap.size) w w5) := HK4.out.trans (hK5.mono fun k h => Nat.lt_of_lt_of_le h HK4.out.size)
  clear ro' hK5 RI HK4
  go_wp2_with fail
  refine ri'.mono ?_
  rintro e w6 ⟨rfl, hK6⟩
  have HK6 : Hid (Kept (fun k => k < w.heap.size) w w6) := HK5.out.trans (hK6.mono fun k h => Nat.lt_of_lt_of_le h HK5.out.size)
  clear ri' hK6 HK5
  go_wp2
  go_ret
  exact ⟨rfl, HK6.out⟩
end Go.Proofs.Yteccdijjpmeeaaa
