/-
  The tree's builder: what an end ends (endedBy), slices.IndexFunc and ContainsFunc over names.
-/
import Derived.Test.YtffllhohlfblnaaBQ
namespace Go.Proofs.Ytffllhohlfblnaa
open Go.RowKit

theorem Ans.needs (w : World) : Ans w (.func (.func 67) #[] #[]) (fun s => !isIn looseL s) :=
  ⟨67, #[], rfl, fun args X => entersB Try.func67 (by kernel_rfl) (c := _) rfl args X, fun X _ s => needsEnd_any s _ X⟩

set_option maxRecDepth 20000 in
set_option maxHeartbeats 1000000 in
theorem indexFunc_any (l : List (List UInt8)) (la : Option Addr) (n cap : Nat) (hn : n ≤ 1000000) (hln : l.length = n) (w : World) (ha : NamesAt w la l) (f : FuncId) (caps : Array Value) (F : List UInt8 → Bool) (hf : Ans w (.func (.func f) #[] caps) F) :
    Calls Try.prog 87 #[.slice la n cap, .func (.func f) #[] caps] w fun e w' => (∃ z : Int, e = .returned (.int .i64 z) ∧ decide (z ≥ 0) = l.any F) ∧ Kept (fun k => k < w.heap.size) w w' := by
  obtain ⟨f', caps', he, e1, r1⟩ := hf
  injection he with h1 h2 h3
  injection h1 with h1
  subst h1
  subst h3
  obtain ⟨A, hA⟩ : ∃ A, l.any F = A := ⟨_, rfl⟩
  rw [hA]
  have HA0 : Hid ((l.drop 0).any F = A) := hA
  have HI : Hid (NamesAt w la l) := ha
  have HN : Hid (l.length = n) := hln
  have HR : Hid (∀ X, Kept (fun k => k < w.heap.size) w X → ∀ s : ByteArray, Calls Try.prog f (#[.string s] ++ caps) X fun e Y => e = .returned (.bool (F s.toList)) ∧ Kept (fun k => k < X.heap.size) X Y) := r1
  clear hA ha hln r1 h2
  go_enter Try.func87, Try.ntmps87
  go_wp2_with fail
  go_loopg [8] n (fun g v wr => ∃ k : Nat, g = n - k ∧ k ≤ n ∧ v = .int .i64 k ∧ (l.drop k).any F = A ∧ Kept (fun k => k < w.heap.size) w wr)
  case atStart => exact ⟨0, rfl, Nat.zero_le _, rfl, HA0.out, Kept.refl _ _⟩
  case round =>
    clear HA0
    obtain ⟨k, hgk, hk, rfl, HA, hkw⟩ := hrel
    have HK : Hid (Kept (fun k => k < w.heap.size) w wr) := hkw
    clear hkw
    by_cases hlt : k < n
    · have hl : k < l.length := by rw [HN.out]; exact hlt
      obtain ⟨g, o, hg, hgl, c0⟩ := HI.out k hl
      subst hg
      rw [List.drop_eq_getElem_cons hl, List.any_cons] at HA
      obtain ⟨S, hS⟩ : ∃ S : ByteArray, (⟨l[k].toArray⟩ : ByteArray) = S := ⟨_, rfl⟩
      have c1 : wr.cell? ⟨g, o + k, none⟩ = some (.string S) := by rw [HK.out.cell (p := ⟨g, o + k, none⟩) hgl, ← hS]; exact c0
      have hSl : S.toList = l[k] := by rw [ByteArray.toList_eq, ← hS]
      rw [← hSl] at HA
      obtain ⟨q, hq⟩ : ∃ q, F S.toList = q := ⟨_, rfl⟩
      rw [hq] at HA
      have HA' : Hid ((q || (l.drop (k + 1)).any F) = A) := HA
      have r := HR.out wr HK.out S
      rw [hq] at r
      clear HA hS hSl hl c0 hq hgl
      go_wp2_with fail
      refine r.mono ?_
      rintro e w1 ⟨rfl, k1⟩
      have HK1 : Hid (Kept (fun k => k < w.heap.size) w w1) := HK.out.trans (k1.mono fun x hx => Nat.lt_of_lt_of_le hx HK.out.size)
      clear r k1 c1 HK
      cases q with
      | true =>
        have hA : A = true := HA'.out.symm
        subst hA
        clear HA'
        go_wp2
        go_ret
        exact ⟨⟨_, rfl, decide_eq_true (by omega)⟩, HK1.out⟩
      | false =>
        go_wp2
        go_roundg (n - (k + 1))
        case rel => exact ⟨k + 1, rfl, by omega, by go_num, HA'.out, HK1.out⟩
        case measure => omega
    · have hkk : k = n := by omega
      subst hkk
      have hA : A = false := by rw [← HA, List.drop_eq_nil_of_le (by rw [HN.out]; exact Nat.le_refl _)]; rfl
      subst hA
      clear HA HI HN
      go_wp2
      go_ret
      exact ⟨⟨_, rfl, rfl⟩, HK.out⟩

set_option maxRecDepth 20000 in
set_option maxHeartbeats 1000000 in
theorem containsFunc_any (l : List (List UInt8)) (la : Option Addr) (n cap : Nat) (hn : n ≤ 1000000) (hln : l.length = n) (w : World) (ha : NamesAt w la l) (f : FuncId) (caps : Array Value) (F : List UInt8 → Bool) (hf : Ans w (.func (.func f) #[] caps) F) :
    Calls Try.prog 66 #[.slice la n cap, .func (.func f) #[] caps] w fun e w' => e = .returned (.bool (l.any F)) ∧ Kept (fun k => k < w.heap.size) w w' := by
  have h := indexFunc_any l la n cap hn hln w ha f caps F hf
  obtain ⟨A, hA⟩ : ∃ A, l.any F = A := ⟨_, rfl⟩
  rw [hA] at h ⊢
  clear hA ha hf
  go_enter Try.func66, Try.ntmps66
  go_wp2_with fail
  refine h.mono ?_
  rintro e w1 ⟨⟨z, rfl, hz⟩, k1⟩
  clear h
  go_wp2
  go_ret
  subst hz
  exact ⟨rfl, k1⟩

theorem isIn_one (n : List UInt8) (h : isIn headL n = false) : soughtBy n = isIn [n] := by
  unfold soughtBy
  rw [if_neg (by rw [h]; exact Bool.false_ne_true)]

set_option maxRecDepth 20000 in
set_option maxHeartbeats 1000000 in
theorem endedBy_any (nm : List UInt8) (w : World) :
    Calls Try.prog 65 #[sv nm] w fun e w' => (∃ f1 c1 f2 c2, e = .returned (.tuple #[.func (.func f1) #[] c1, .func (.func f2) #[] c2]) ∧ Ans w' (.func (.func f1) #[] c1) (soughtBy nm) ∧ Ans w' (.func (.func f2) #[] c2) (barredBy nm)) ∧ Kept (fun k => k < w.heap.size) w w' := by
  by_cases hp : nm = [112]
  · subst hp
    have e1 : soughtBy [112] = isIn [[112]] := rfl
    have e2 : barredBy [112] = isIn boundL := rfl
    rw [e1, e2]
    clear e1 e2
    go_enter Try.func65, Try.ntmps65
    go_wp2_with fail
    refine (oneOf_is [[112]] _ 1 _ (by decide) (strs1 _ _ _ (by simp) (by simp))).mono ?_
    rintro e w1 ⟨⟨b1, rfl, o1⟩, k1⟩
    have HO1 : Hid (Ans w1 (.func (.func 84) #[] #[.pointer (some ⟨b1, 0, none⟩)]) (isIn [[112]])) := o1.ans
    have HK1 : Hid (Kept (fun k => k < w.heap.size) w w1) := ((Kept.refl _ w).alloc (fun _ h => h) _).trans (k1.mono fun k h => by simp; omega)
    clear o1 k1
    go_wp2_with fail
    refine (bounds_is [] none 0 _ (by decide) (fun j hj => absurd hj (Nat.not_lt_zero _))).mono ?_
    rintro e w2 ⟨⟨f2, c2, rfl, o2⟩, k2⟩
    have HO2 : Hid (Ans w2 (.func (.func f2) #[] c2) (isIn boundL)) := o2.congr (fun s => by simp [isIn])
    have HO1' : Hid (Ans w2 (.func (.func 84) #[] #[.pointer (some ⟨b1, 0, none⟩)]) (isIn [[112]])) := HO1.out.kept k2
    have HK2 : Hid (Kept (fun k => k < w.heap.size) w w2) := HK1.out.trans (k2.mono fun k h => Nat.lt_of_lt_of_le h HK1.out.size)
    clear o2 k2 HO1 HK1
    go_wp2
    go_ret2
    exact ⟨⟨84, _, f2, c2, rfl, HO1'.out, HO2.out⟩, HK2.out⟩
  · have hp' := ba_ne hp
    have e2 : barredBy nm = isIn [[116, 101, 109, 112, 108, 97, 116, 101]] := by
      unfold barredBy
      rw [if_neg hp]
    rw [e2]
    clear e2
    have eN : ByteArray.toList ⟨nm.toArray⟩ = nm := by rw [ByteArray.toList_eq]
    have rh := heading_any ⟨nm.toArray⟩ (fun k => k < w.heap.size) w
    rw [eN] at rh
    obtain ⟨q, hq⟩ : ∃ q, isIn headL nm = q := ⟨_, rfl⟩
    rw [hq] at rh
    have HQ : Hid (isIn headL nm = q) := hq
    show Calls Try.prog 65 #[.string ⟨nm.toArray⟩] w _
    obtain ⟨S, hS⟩ : ∃ S : ByteArray, (⟨nm.toArray⟩ : ByteArray) = S := ⟨_, rfl⟩
    rw [hS] at hp' rh ⊢
    have HS : Hid ((⟨nm.toArray⟩ : ByteArray) = S) := hS
    clear hq eN hp hS
    cases q with
    | true =>
      go_enter Try.func65, Try.ntmps65
      go_wp2_with fail
      refine rh.mono ?_
      rintro e w1 ⟨rfl, k1⟩
      have HK1 : Hid (Kept (fun k => k < w.heap.size) w w1) := k1
      clear k1 rh
      go_wp2_with fail
      refine (oneOf_is [[116, 101, 109, 112, 108, 97, 116, 101]] _ 1 _ (by decide) (strs1 _ _ _ (by simp) (by simp))).mono ?_
      rintro e w2 ⟨⟨b2, rfl, o2⟩, k2⟩
      have HO2 : Hid (Ans w2 (.func (.func 84) #[] #[.pointer (some ⟨b2, 0, none⟩)]) (isIn [[116, 101, 109, 112, 108, 97, 116, 101]])) := o2.ans
      have HK2 : Hid (Kept (fun k => k < w.heap.size) w w2) := HK1.out.trans (((Kept.refl (fun k => k < w1.heap.size) w1).alloc (fun _ h => h) _).trans (k2.mono fun k (h : k < w1.heap.size) => by simp; omega) |>.mono fun k h => Nat.lt_of_lt_of_le h HK1.out.size)
      clear o2 k2 HK1
      go_wp2
      go_ret2
      refine ⟨⟨82, #[], 84, _, rfl, ?_, HO2.out⟩, HK2.out⟩
      unfold soughtBy
      rw [if_pos HQ.out]
      exact Ans.heads _
    | false =>
      rw [isIn_one nm HQ.out]
      go_enter Try.func65, Try.ntmps65
      go_wp2_with fail
      refine rh.mono ?_
      rintro e w1 ⟨rfl, k1⟩
      have HK1 : Hid (Kept (fun k => k < w.heap.size) w w1) := k1
      clear k1 rh
      go_wp2_with fail
      refine (oneOf_is [nm] _ 1 _ (by simp) (strs1 _ _ _ (by show _ = some (Value.string ⟨nm.toArray⟩); rw [HS.out]; simp) (by simp))).mono ?_
      rintro e w2 ⟨⟨b2, rfl, o2⟩, k2⟩
      have HO2 : Hid (Ans w2 (.func (.func 84) #[] #[.pointer (some ⟨b2, 0, none⟩)]) (isIn [nm])) := o2.ans
      have HK2 : Hid (Kept (fun k => k < w.heap.size) w w2) := HK1.out.trans (((Kept.refl (fun k => k < w1.heap.size) w1).alloc (fun _ h => h) _).trans (k2.mono fun k (h : k < w1.heap.size) => by simp; omega) |>.mono fun k h => Nat.lt_of_lt_of_le h HK1.out.size)
      clear o2 k2 HK1
      go_wp2_with fail
      refine (oneOf_is [[116, 101, 109, 112, 108, 97, 116, 101]] _ 1 _ (by decide) (strs1 _ _ _ (by simp) (by simp))).mono ?_
      rintro e w3 ⟨⟨b3, rfl, o3⟩, k3⟩
      have HO3 : Hid (Ans w3 (.func (.func 84) #[] #[.pointer (some ⟨b3, 0, none⟩)]) (isIn [[116, 101, 109, 112, 108, 97, 116, 101]])) := o3.ans
      have kk : Kept (fun k => k < w2.heap.size) w2 w3 := ((Kept.refl (fun k => k < w2.heap.size) w2).alloc (fun _ h => h) _).trans (k3.mono fun k (h : k < w2.heap.size) => by simp; omega)
      have HO2' : Hid (Ans w3 (.func (.func 84) #[] #[.pointer (some ⟨b2, 0, none⟩)]) (isIn [nm])) := HO2.out.kept kk
      have HK3 : Hid (Kept (fun k => k < w.heap.size) w w3) := HK2.out.trans (kk.mono fun k h => Nat.lt_of_lt_of_le h HK2.out.size)
      clear o3 k3 kk HK2 HO2
      go_wp2
      go_ret2
      exact ⟨⟨84, _, 84, _, rfl, HO2'.out, HO3.out⟩, HK3.out⟩
end Go.Proofs.Ytffllhohlfblnaa
