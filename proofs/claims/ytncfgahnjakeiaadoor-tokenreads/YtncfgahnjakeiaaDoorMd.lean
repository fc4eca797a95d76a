/-
  Several texts, one behind the other: TkH, TkI, TkJ.
-/
import Derived.Test.YtncfgahnjakeiaaDoorTkG
import Derived.Lib.QuietBelow
import Derived.BigQuiet
section
namespace Go.Proofs.YtncfgahnjakeiaaDoor
open Go.RowKit

set_option maxRecDepth 20000 in
theorem letter_any (l : List UInt8) (w : World) :
    Calls Tryd.prog 45 #[sv l] w fun e w' => e = .returned (.bool (begL l)) ∧ w' = w := by
  cases l with
  | nil =>
    go_enter Tryd.func45, Tryd.ntmps45
    go_wp2
    go_ret
    exact ⟨rfl, rfl⟩
  | cons c r =>
    have cls : c.toNat < 65 ∨ (65 ≤ c.toNat ∧ c.toNat ≤ 90) ∨ (90 < c.toNat ∧ c.toNat < 97) ∨ (97 ≤ c.toNat ∧ c.toNat ≤ 122) ∨ 122 < c.toNat := by omega
    rcases cls with g | g | g | g | g
    · have e0 : decide ((97 : Int) ≤ (((⟨(c :: r).toArray⟩ : ByteArray)[0]'(by simp [ByteArray.size])).toNat : Int)) = false := decide_eq_false (by show ¬ ((97 : Int) ≤ (c.toNat : Int)); omega)
      have e1 : decide ((((⟨(c :: r).toArray⟩ : ByteArray)[0]'(by simp [ByteArray.size])).toNat : Int) ≤ 122) = true := decide_eq_true (by show ((c.toNat : Int) ≤ 122); omega)
      have e2 : decide ((65 : Int) ≤ (((⟨(c :: r).toArray⟩ : ByteArray)[0]'(by simp [ByteArray.size])).toNat : Int)) = false := decide_eq_false (by show ¬ ((65 : Int) ≤ (c.toNat : Int)); omega)
      have e3 : decide ((((⟨(c :: r).toArray⟩ : ByteArray)[0]'(by simp [ByteArray.size])).toNat : Int) ≤ 90) = true := decide_eq_true (by show ((c.toNat : Int) ≤ 90); omega)
      have HB : Hid (begL (c :: r) = false) := by show letterP c = _; unfold letterP; simp; omega
      clear g
      go_enter Tryd.func45, Tryd.ntmps45
      go_wp2
      go_ret
      exact ⟨by rw [HB.out]; rfl, rfl⟩
    · have e0 : decide ((97 : Int) ≤ (((⟨(c :: r).toArray⟩ : ByteArray)[0]'(by simp [ByteArray.size])).toNat : Int)) = false := decide_eq_false (by show ¬ ((97 : Int) ≤ (c.toNat : Int)); omega)
      have e1 : decide ((((⟨(c :: r).toArray⟩ : ByteArray)[0]'(by simp [ByteArray.size])).toNat : Int) ≤ 122) = true := decide_eq_true (by show ((c.toNat : Int) ≤ 122); omega)
      have e2 : decide ((65 : Int) ≤ (((⟨(c :: r).toArray⟩ : ByteArray)[0]'(by simp [ByteArray.size])).toNat : Int)) = true := decide_eq_true (by show ((65 : Int) ≤ (c.toNat : Int)); omega)
      have e3 : decide ((((⟨(c :: r).toArray⟩ : ByteArray)[0]'(by simp [ByteArray.size])).toNat : Int) ≤ 90) = true := decide_eq_true (by show ((c.toNat : Int) ≤ 90); omega)
      have HB : Hid (begL (c :: r) = true) := by show letterP c = _; unfold letterP; simp; omega
      clear g
      go_enter Tryd.func45, Tryd.ntmps45
      go_wp2
      go_ret
      exact ⟨by rw [HB.out]; rfl, rfl⟩
    · have e0 : decide ((97 : Int) ≤ (((⟨(c :: r).toArray⟩ : ByteArray)[0]'(by simp [ByteArray.size])).toNat : Int)) = false := decide_eq_false (by show ¬ ((97 : Int) ≤ (c.toNat : Int)); omega)
      have e1 : decide ((((⟨(c :: r).toArray⟩ : ByteArray)[0]'(by simp [ByteArray.size])).toNat : Int) ≤ 122) = true := decide_eq_true (by show ((c.toNat : Int) ≤ 122); omega)
      have e2 : decide ((65 : Int) ≤ (((⟨(c :: r).toArray⟩ : ByteArray)[0]'(by simp [ByteArray.size])).toNat : Int)) = true := decide_eq_true (by show ((65 : Int) ≤ (c.toNat : Int)); omega)
      have e3 : decide ((((⟨(c :: r).toArray⟩ : ByteArray)[0]'(by simp [ByteArray.size])).toNat : Int) ≤ 90) = false := decide_eq_false (by show ¬ ((c.toNat : Int) ≤ 90); omega)
      have HB : Hid (begL (c :: r) = false) := by show letterP c = _; unfold letterP; simp; omega
      clear g
      go_enter Tryd.func45, Tryd.ntmps45
      go_wp2
      go_ret
      exact ⟨by rw [HB.out]; rfl, rfl⟩
    · have e0 : decide ((97 : Int) ≤ (((⟨(c :: r).toArray⟩ : ByteArray)[0]'(by simp [ByteArray.size])).toNat : Int)) = true := decide_eq_true (by show ((97 : Int) ≤ (c.toNat : Int)); omega)
      have e1 : decide ((((⟨(c :: r).toArray⟩ : ByteArray)[0]'(by simp [ByteArray.size])).toNat : Int) ≤ 122) = true := decide_eq_true (by show ((c.toNat : Int) ≤ 122); omega)
      have e2 : decide ((65 : Int) ≤ (((⟨(c :: r).toArray⟩ : ByteArray)[0]'(by simp [ByteArray.size])).toNat : Int)) = true := decide_eq_true (by show ((65 : Int) ≤ (c.toNat : Int)); omega)
      have e3 : decide ((((⟨(c :: r).toArray⟩ : ByteArray)[0]'(by simp [ByteArray.size])).toNat : Int) ≤ 90) = false := decide_eq_false (by show ¬ ((c.toNat : Int) ≤ 90); omega)
      have HB : Hid (begL (c :: r) = true) := by show letterP c = _; unfold letterP; simp; omega
      clear g
      go_enter Tryd.func45, Tryd.ntmps45
      go_wp2
      go_ret
      exact ⟨by rw [HB.out]; rfl, rfl⟩
    · have e0 : decide ((97 : Int) ≤ (((⟨(c :: r).toArray⟩ : ByteArray)[0]'(by simp [ByteArray.size])).toNat : Int)) = true := decide_eq_true (by show ((97 : Int) ≤ (c.toNat : Int)); omega)
      have e1 : decide ((((⟨(c :: r).toArray⟩ : ByteArray)[0]'(by simp [ByteArray.size])).toNat : Int) ≤ 122) = false := decide_eq_false (by show ¬ ((c.toNat : Int) ≤ 122); omega)
      have e2 : decide ((65 : Int) ≤ (((⟨(c :: r).toArray⟩ : ByteArray)[0]'(by simp [ByteArray.size])).toNat : Int)) = true := decide_eq_true (by show ((65 : Int) ≤ (c.toNat : Int)); omega)
      have e3 : decide ((((⟨(c :: r).toArray⟩ : ByteArray)[0]'(by simp [ByteArray.size])).toNat : Int) ≤ 90) = false := decide_eq_false (by show ¬ ((c.toNat : Int) ≤ 90); omega)
      have HB : Hid (begL (c :: r) = false) := by show letterP c = _; unfold letterP; simp; omega
      clear g
      go_enter Tryd.func45, Tryd.ntmps45
      go_wp2
      go_ret
      exact ⟨by rw [HB.out]; rfl, rfl⟩
end Go.Proofs.YtncfgahnjakeiaaDoor
end
section
namespace Go.Proofs.YtncfgahnjakeiaaDoor
open Go.RowKit Go.Sort

theorem Kept.regrown {K : Nat → Prop} {w : World} (hK : ∀ k, K k → k < w.heap.size) (d : Nat) (os : Array Obj) : Kept K w (grow (redrawn w d) os) := (Below.kept (below_regrown w d os)).mono hK
/-- A contract that keeps all that was there, met in a region that is walked once. -/
theorem regrown_calls {f : FuncId} {args : Array Value} {w : World} {v : Value} (h : ∀ X, Calls Tryd.prog f args X fun e w' => e = .returned v ∧ Kept (fun k => k < X.heap.size) X w') (d : Nat) (os : Array Obj) :
    Calls Tryd.prog f args (grow (redrawn w d) os) fun e w'' => e = .returned v ∧ ∃ p : Regrown, w'' = grow (redrawn w p.d) p.os :=
  Calls.regrown_of ((h _).mono fun _ _ ⟨h1, h2⟩ => ⟨h1, h2.below⟩)

set_option maxRecDepth 20000 in
set_option maxHeartbeats 1000000 in
theorem anySize_any (l : List UInt8) (f : UInt8) (fr : List UInt8) (hl : l.length ≤ 1000000) (hf : fr.length < 10000) (K : Nat → Prop) (w : World) (hK : ∀ k, K k → k < w.heap.size) :
    Calls Tryd.prog 50 #[sv l, sv (f :: fr)] w fun e w' => e = .returned (.bool (anyG (f :: fr) l)) ∧ Kept K w w' := by
  obtain ⟨S, hS⟩ : ∃ S : ByteArray, (⟨l.toArray⟩ : ByteArray) = S := ⟨_, rfl⟩
  obtain ⟨T, hT⟩ : ∃ S : ByteArray, (⟨(f :: fr).toArray⟩ : ByteArray) = S := ⟨_, rfl⟩
  have sS : S.size = l.length := by rw [← hS]; exact sv_size _
  have sT : T.size = (f :: fr).length := by rw [← hT]; exact sv_size _
  have sT' : T.size = fr.length + 1 := by rw [sT]; rfl
  have z2 : 0 < T.size := by omega
  have HT : Hid ((f :: fr) = T.data.toList) := by show _ = _; rw [← hT]
  show Calls Tryd.prog 50 #[.string ⟨l.toArray⟩, .string ⟨(f :: fr).toArray⟩] w _
  by_cases h1 : (f :: fr).length ≤ l.length
  · have e1 : decide ((S.size : Int) ≥ (T.size : Int)) = true := decide_eq_true (by omega)
    cases l with
    | nil => simp at h1
    | cons c r =>
      have z1 : 0 < S.size := by simp at sS; omega
      have z3 : T.size ≤ S.size := by omega
      have z4 : S.size ≤ 1000000 := by omega
      have g0 : S[0]'z1 = c := by subst hS; rfl
      have g1 : T[0]'z2 = f := by subst hT; rfl
      by_cases h2 : c = f
      · have hU : ∀ X, Calls Tryd.prog 77 #[.string (S.extract 0 T.size)] X fun e w' => e = .returned (sv (lowL ((c :: r).take (f :: fr).length))) ∧ Kept (fun k => k < X.heap.size) X w' := by
          intro X
          have := lower_any (S.extract 0 T.size) (fun k => k < X.heap.size) X (fun _ h => h) (by rw [ByteArray.size_extract]; omega)
          have e : (S.extract 0 T.size).data.toList = (c :: r).take (f :: fr).length := by
            rw [sT, ← hS, sv_extract]
            simp
          rw [e] at this
          exact this
        have e2 : (((S[0]'z1).toNat : Int) == ((T[0]'z2).toNat : Int)) = true := by rw [g0, g1, h2]; simp
        have HR : Hid (anyG (f :: fr) (c :: r) = (lowL ((c :: r).take (f :: fr).length) == f :: fr)) := by
          show anyG _ _ = _
          unfold anyG
          rw [decide_eq_true h1, h2]
          simp
        rw [hS, hT]
        obtain ⟨U, hUe⟩ : ∃ U : ByteArray, (⟨(lowL ((c :: r).take (f :: fr).length)).toArray⟩ : ByteArray) = U := ⟨_, rfl⟩
        have hU : ∀ d os, Calls Tryd.prog 77 #[.string (S.extract 0 T.size)] (grow (redrawn w d) os) fun e w'' => e = .returned (.string U) ∧ ∃ p : Regrown, w'' = grow (redrawn w p.d) p.os := by rw [← hUe]; exact regrown_calls hU
        have HU : Hid (lowL ((c :: r).take (f :: fr).length) = U.data.toList) := by show _ = _; rw [← hUe]
        obtain ⟨q, hq⟩ : ∃ q, anyG (f :: fr) (c :: r) = q := ⟨_, rfl⟩
        rw [hq] at HR ⊢
        have HQ : Hid (q = (U.data.toList == T.data.toList)) := by show q = _; rw [HR.out, HU.out, ← HT.out]
        clear h2 hS hT sS sT sT' h1 hl hf g0 g1 HT HR HU hUe hq
        go_enter Tryd.func50, Tryd.ntmps50
        go_wp2_with fail
        refine wp_region_quiet_below (by kernel_rfl) (by kernel_rfl) ?_
        repeat (go_big_quiet_step (exact hU _ _))
        refine wpQuiet_nil ?_
        intro _ hw'
        obtain ⟨⟨dq, osq⟩, hw''⟩ := hw'
        subst hw''
        go_wp2
        go_ret
        exact ⟨by rw [HQ.out, ← ByteArray.toList_eq, ← ByteArray.toList_eq]; rfl, Kept.regrown hK _ _⟩
      · have e2 : (((S[0]'z1).toNat : Int) == ((T[0]'z2).toNat : Int)) = false := by
          rw [g0, g1]
          simp
          intro e
          exact h2 (UInt8.toNat_inj.1 (by omega))
        have HR : Hid (anyG (f :: fr) (c :: r) = false) := by
          show anyG _ _ = _
          unfold anyG
          simp [h2]
        rw [hS, hT]
        obtain ⟨q, hq⟩ : ∃ q, anyG (f :: fr) (c :: r) = q := ⟨_, rfl⟩
        rw [hq] at HR ⊢
        clear h2 hS hT sS sT sT' h1 hl hf g0 g1 HT hq
        go_enter Tryd.func50, Tryd.ntmps50
        go_wp2_with fail
        go_quiet (fail)
        go_wp2
        go_ret
        exact ⟨by rw [HR.out]; rfl, (Kept.refl K w).drewN _⟩
  · have e1 : decide ((S.size : Int) ≥ (T.size : Int)) = false := decide_eq_false (by omega)
    have z4 : S.size ≤ 1000000 := by omega
    have z5 : T.size ≤ 1000000 := by omega
    have z6 : S.size < T.size := by omega
    have z7 : ¬ T.size ≤ S.size := by omega
    have HR : Hid (anyG (f :: fr) l = false) := by
      show anyG _ _ = _
      unfold anyG
      rw [decide_eq_false h1]
      rfl
    rw [hS, hT]
    obtain ⟨q, hq⟩ : ∃ q, anyG (f :: fr) l = q := ⟨_, rfl⟩
    rw [hq] at HR ⊢
    clear hS hT sS sT sT' h1 hl hf HT hq
    go_enter Tryd.func50, Tryd.ntmps50
    go_wp2_with fail
    go_quiet (fail)
    go_wp2
    go_ret
    exact ⟨by rw [HR.out]; rfl, (Kept.refl K w).drewN _⟩

theorem sv_get (l : List UInt8) (k : Nat) (h : k < (⟨l.toArray⟩ : ByteArray).size) : (⟨l.toArray⟩ : ByteArray)[k]'h = l[k]'(by rw [← sv_size l]; exact h) := rfl

set_option maxRecDepth 20000 in
set_option maxHeartbeats 1000000 in
theorem endOf1_any (name l : List UInt8) (b : Nat) (hl : l.length ≤ 1000000) (hn : name.length < 9000) (K : Nat → Prop) (w : World) (hK : ∀ k, K k → k < w.heap.size) (hbK : K b) (hc : w.cell? ⟨b, 0, none⟩ = some (sv (60 :: 47 :: name))) :
    Calls Tryd.prog 104 #[sv l, .pointer (some ⟨b, 0, none⟩)] w fun e w' => e = .returned (.bool (endOfP name l)) ∧ Kept K w w' := by
  have h1 := anySize_any l 60 (47 :: name) hl (by simp; omega) K w hK
  have HE : Hid (endOfP name l = (anyG (60 :: 47 :: name) l && (decide (name.length + 2 < l.length) && hdIn [9, 10, 12, 32, 47, 62] (l.drop (name.length + 2))))) := rfl
  obtain ⟨q, hq⟩ : ∃ q, endOfP name l = q := ⟨_, rfl⟩
  rw [hq] at HE ⊢
  obtain ⟨a, ha⟩ : ∃ a, anyG (60 :: 47 :: name) l = a := ⟨_, rfl⟩
  rw [ha] at h1 HE
  obtain ⟨S, hS⟩ : ∃ S : ByteArray, (⟨l.toArray⟩ : ByteArray) = S := ⟨_, rfl⟩
  obtain ⟨T, hT⟩ : ∃ S : ByteArray, (⟨(60 :: 47 :: name).toArray⟩ : ByteArray) = S := ⟨_, rfl⟩
  have sS : S.size = l.length := by rw [← hS]; exact sv_size _
  have sT : T.size = name.length + 2 := by rw [← hT]; exact sv_size _
  replace h1 : Calls Tryd.prog 50 #[.string S, .string T] w fun e w' => e = .returned (.bool a) ∧ Kept K w w' := by rw [← hS, ← hT]; exact h1
  replace hc : w.cell? ⟨b, 0, none⟩ = some (.string T) := by rw [← hT]; exact hc
  show Calls Tryd.prog 104 #[.string ⟨l.toArray⟩, .pointer (some ⟨b, 0, none⟩)] w _
  rw [hS]
  clear hq ha hT
  cases a with
  | false =>
    replace HE : Hid (q = false) := HE.out
    clear hS sS sT
    go_enter Tryd.func104, Tryd.ntmps104
    go_wp2_with fail
    refine h1.mono ?_
    rintro e w1 ⟨rfl, hk1⟩
    go_wp2
    go_ret
    exact ⟨by rw [HE.out]; rfl, hk1⟩
  | true =>
    by_cases h2 : name.length + 2 < l.length
    · have e2 : decide ((S.size : Int) > (T.size : Int)) = true := decide_eq_true (by omega)
      have z : T.size < S.size := by omega
      have z4 : S.size ≤ 1000000 := by omega
      have g : S[T.size]'z = l[name.length + 2]'h2 := by
        subst hS
        simp only [sT]
        rfl
      have hd : hdIn [9, 10, 12, 32, 47, 62] (l.drop (name.length + 2)) = [9, 10, 12, 32, 47, 62].contains (S[T.size]'z) := by
        rw [g, List.drop_eq_getElem_cons h2]
        rfl
      have hi := idx_in [9, 10, 12, 32, 47, 62] (S[T.size]'z)
      replace HE : Hid (q = [9, 10, 12, 32, 47, 62].contains (S[T.size]'z)) := by
        show q = _
        rw [HE.out, decide_eq_true h2, hd]
        rfl
      obtain ⟨u, hu⟩ : ∃ u, [9, 10, 12, 32, 47, 62].contains (S[T.size]'z) = u := ⟨_, rfl⟩
      rw [hu] at hi HE
      have hib := fun X => ib_q ⟨#[9, 10, 12, 32, 47, 62]⟩ (S[T.size]'z) X
      clear hS sS sT hd g h2 hl hn hu
      go_enter Tryd.func104, Tryd.ntmps104
      go_wp2_with fail
      refine h1.mono ?_
      rintro e w1 ⟨rfl, hk1⟩
      have hc1 : w1.cell? ⟨b, 0, none⟩ = some (.string T) := by rw [hk1.cell (p := ⟨b, 0, none⟩) hbK]; exact hc
      clear hc h1
      go_wp2_with fail
      refine (hib _).mono ?_
      rintro e w2 ⟨rfl, m, rfl⟩
      go_wp2
      go_ret
      exact ⟨by rw [HE.out]; rfl, hk1.drewN m⟩
    · have e2 : decide ((S.size : Int) > (T.size : Int)) = false := decide_eq_false (by omega)
      have z6 : S.size ≤ T.size := by omega
      have z7 : ¬ T.size < S.size := by omega
      have z4 : S.size ≤ 1000000 := by omega
      have z5 : T.size ≤ 1000000 := by omega
      replace HE : Hid (q = false) := by
        show q = _
        rw [HE.out, decide_eq_false h2]
        rfl
      clear hS sS sT h2 hl hn
      go_enter Tryd.func104, Tryd.ntmps104
      go_wp2_with fail
      refine h1.mono ?_
      rintro e w1 ⟨rfl, hk1⟩
      have hc1 : w1.cell? ⟨b, 0, none⟩ = some (.string T) := by rw [hk1.cell (p := ⟨b, 0, none⟩) hbK]; exact hc
      clear hc h1
      go_wp2
      go_ret
      exact ⟨by rw [HE.out]; rfl, hk1⟩

theorem endOf_any (name : List UInt8) (hn : name.length < 9000) (w : World) :
    Calls Tryd.prog 95 #[sv name] w fun e w' => e = .returned (.func (.func 104) #[] #[.pointer (some ⟨w.heap.size, 0, none⟩)]) ∧ w' = w.alloc (.cells #[sv (60 :: 47 :: name)] 9) := by
  have e1 : (⟨#[60, 47]⟩ : ByteArray) ++ ⟨name.toArray⟩ = ⟨(60 :: 47 :: name).toArray⟩ := by
    apply ByteArray.ext
    rw [ByteArray.data_append]
    simp
  have hz : (⟨name.toArray⟩ : ByteArray).size = name.length := sv_size name
  go_enter Tryd.func95, Tryd.ntmps95
  go_wp2
  go_ret
  exact ⟨rfl, rfl⟩

theorem cmt1_any (l : List UInt8) (w : World) :
    Calls Tryd.prog 76 #[sv l] w fun e w' => e = .returned (.bool (endsC l)) ∧ w' = w := by
  have h1 := pre_any ⟨l.toArray⟩ ⟨#[45, 45, 62]⟩ w
  have h2 := pre_any ⟨l.toArray⟩ ⟨#[45, 45, 33, 62]⟩ w
  have e1 : preS ⟨#[45, 45, 62]⟩ ⟨l.toArray⟩ = pre [45, 45, 62] l := rfl
  have e2 : preS ⟨#[45, 45, 33, 62]⟩ ⟨l.toArray⟩ = pre [45, 45, 33, 62] l := rfl
  rw [e1] at h1
  rw [e2] at h2
  have HE : Hid (endsC l = (pre [45, 45, 62] l || pre [45, 45, 33, 62] l)) := rfl
  obtain ⟨a, ha⟩ : ∃ a, pre [45, 45, 62] l = a := ⟨_, rfl⟩
  obtain ⟨b, hb⟩ : ∃ b, pre [45, 45, 33, 62] l = b := ⟨_, rfl⟩
  rw [ha, hb] at HE
  rw [ha] at h1
  rw [hb] at h2
  clear ha hb e1 e2
  cases a with
  | true =>
    go_enter Tryd.func76, Tryd.ntmps76
    go_wp2_with fail
    refine h1.mono ?_
    rintro e w1 ⟨rfl, rfl⟩
    go_wp2
    go_ret
    exact ⟨by rw [HE.out]; rfl, rfl⟩
  | false =>
    go_enter Tryd.func76, Tryd.ntmps76
    go_wp2_with fail
    refine h1.mono ?_
    rintro e w1 ⟨rfl, rfl⟩
    go_wp2_with fail
    refine h2.mono ?_
    rintro e w1 ⟨rfl, rfl⟩
    go_wp2
    go_ret
    exact ⟨by rw [HE.out]; rfl, rfl⟩
end Go.Proofs.YtncfgahnjakeiaaDoor
end
section
namespace Go.Proofs.YtncfgahnjakeiaaDoor
open Go.RowKit

theorem suf_any (l : List UInt8) (hl : l.length ≤ 1000000) (w : World) :
    Calls Tryd.prog 89 #[sv l, .string ⟨#[47]⟩] w fun e w' => e = .returned (.bool (l.getLast? == some 47)) ∧ w' = w := by
  rcases List.eq_nil_or_concat l with rfl | ⟨i, c, rfl⟩
  · go_enter Tryd.func89, Tryd.ntmps89
    go_wp2
    go_ret
    exact ⟨rfl, rfl⟩
  · rw [List.concat_eq_append] at hl ⊢
    have hq : ((i ++ [c]).getLast? == some 47) = (c == 47) := by simp
    obtain ⟨S, hS⟩ : ∃ S : ByteArray, (⟨(i ++ [c]).toArray⟩ : ByteArray) = S := ⟨_, rfl⟩
    have sS : S.size = i.length + 1 := by rw [← hS, sv_size]; simp
    have hx : S.extract i.length S.size = ⟨#[c]⟩ := by
      rw [sS, ← hS, sv_extract]
      rw [List.take_of_length_le (by simp), List.drop_left]
    show Calls Tryd.prog 89 #[.string ⟨(i ++ [c]).toArray⟩, .string ⟨#[47]⟩] w _
    rw [hS]
    simp only [hq]
    have z4 : S.size ≤ 1000000 := by simp at hl; omega
    have hsub : (S.size : Int) - 1 = (i.length : Int) := by omega
    have hle : i.length ≤ S.size := by omega
    have z1 : 1 ≤ S.size := by omega
    clear hS hl hq sS
    go_enter Tryd.func89, Tryd.ntmps89
    go_wp2
    go_ret
    exact ⟨rfl, rfl⟩
theorem suffix_any (l : List UInt8) (hl : l.length ≤ 1000000) (w : World) :
    Calls Tryd.prog 71 #[sv l, .string ⟨#[47]⟩] w fun e w' => e = .returned (.bool (l.getLast? == some 47)) ∧ w' = w := by
  have h := suf_any l hl w
  obtain ⟨q, hq⟩ : ∃ q, (l.getLast? == some 47) = q := ⟨_, rfl⟩
  rw [hq] at h ⊢
  clear hq
  go_enter Tryd.func71, Tryd.ntmps71
  go_wp2_with fail
  refine h.mono ?_
  rintro e w1 ⟨rfl, rfl⟩
  go_wp2
  go_ret
  exact ⟨rfl, rfl⟩

theorem hasN_snoc (l : List Atr) (a : Atr) (name : List UInt8) : hasN (l ++ [a]) name = (hasN l name || (a.name == name)) := by
  unfold hasN
  rw [List.any_append]
  simp

set_option maxRecDepth 20000 in
set_option maxHeartbeats 1000000 in
theorem has_any (attrs : List Atr) (name : List UInt8) (aa : Option Addr) (ac : Nat) (hn : attrs.length ≤ 100) (K : Nat → Prop) (w : World) (hK : ∀ k, K k → k < w.heap.size) (ha : AtsIn K w aa attrs) :
    Calls Tryd.prog 91 #[.slice aa attrs.length ac, sv name] w fun e w' => e = .returned (.bool (hasN attrs name)) ∧ Kept K w w' := by
  obtain ⟨T, hT⟩ : ∃ S : ByteArray, (⟨name.toArray⟩ : ByteArray) = S := ⟨_, rfl⟩
  have HA : Hid (∀ X, Kept K w X → AtsIn K X aa attrs) := fun X hX => ha.kept hX (fun _ h => h)
  have HQ : Hid (∀ U : List UInt8, ((⟨U.toArray⟩ : ByteArray).toList == T.toList) = (U == name)) := by
    intro U
    rw [← hT, ByteArray.toList_eq, ByteArray.toList_eq]
  show Calls Tryd.prog 91 #[.slice aa attrs.length ac, .string ⟨name.toArray⟩] w _
  rw [hT]
  have HF : Hid (hasN (attrs.take attrs.length) name = hasN attrs name) := by show hasN _ _ = _; rw [List.take_length]
  have HS : Hid (∀ k (h : k < attrs.length), hasN (attrs.take (k + 1)) name = (hasN (attrs.take k) name || (attrs[k].name == name))) := by
    intro k h
    rw [List.take_succ_eq_append_getElem h, hasN_snoc]
  have HT : Hid (∀ k (h : k < attrs.length), (attrs[k].name == name) = true → hasN attrs name = true) := by
    intro k h he
    unfold hasN
    rw [List.any_eq_true]
    exact ⟨attrs[k], List.getElem_mem h, he⟩
  clear ha hT
  go_enter Tryd.func91, Tryd.ntmps91
  go_wp2_with fail
  go_loopg [9] attrs.length (fun gm i wr => ∃ k : Nat, gm = attrs.length - k ∧ k ≤ attrs.length ∧ i = .int .i64 k ∧ hasN (attrs.take k) name = false ∧ Kept K w wr)
  case atStart => exact ⟨0, rfl, Nat.zero_le _, rfl, rfl, Kept.refl _ _⟩
  case round =>
    obtain ⟨k, hgk, hk, rfl, hno, hkp⟩ := hrel
    have HN : Hid (hasN (attrs.take k) name = false) := hno
    clear hno
    by_cases hlt : k < attrs.length
    · obtain ⟨g, rfl, hKg, c0, c1⟩ := HA.out wr hkp k hlt
      have hq := HQ.out attrs[k].name
      have HS1 : Hid (hasN (attrs.take (k + 1)) name = (attrs[k].name == name)) := by
        show hasN _ _ = _
        rw [HS.out k hlt, HN.out]
        rfl
      have HT1 : Hid ((attrs[k].name == name) = true → hasN attrs name = true) := HT.out k hlt
      obtain ⟨q, hqe⟩ : ∃ q, (attrs[k].name == name) = q := ⟨_, rfl⟩
      rw [hqe] at hq HS1 HT1
      obtain ⟨U, hU⟩ : ∃ S : ByteArray, (⟨attrs[k].name.toArray⟩ : ByteArray) = S := ⟨_, rfl⟩
      replace c0 : wr.cell? ⟨g, k * 2, none⟩ = some (.string U) := by rw [← hU]; exact c0
      rw [hU] at hq
      obtain ⟨V, hV⟩ : ∃ S : ByteArray, (⟨attrs[k].value.toArray⟩ : ByteArray) = S := ⟨_, rfl⟩
      replace c1 : wr.cell? ⟨g, k * 2 + 1, none⟩ = some (.string V) := by rw [← hV]; exact c1
      have hka : ∀ o, Kept K w (wr.alloc o) := fun o => hkp.alloc (fun k hk => Nat.lt_of_lt_of_le (hK k hk) hkp.size) o
      clear hU hqe HN HS HT HQ hV HA
      cases q with
      | true =>
        go_wp2
        go_ret
        exact ⟨by rw [HT1.out trivial]; rfl, hka _⟩
      | false =>
        go_wp2
        go_roundg (attrs.length - (k + 1))
        case rel => exact ⟨k + 1, rfl, by omega, by go_num, HS1.out, hka _⟩
        case measure => omega
    · have hkk : k = attrs.length := by omega
      subst hkk
      have HR : Hid (hasN attrs name = false) := HF.out.symm.trans HN.out
      clear HA HS HT HN HQ
      go_wp2
      go_ret
      exact ⟨by rw [HR.out]; rfl, hkp⟩
end Go.Proofs.YtncfgahnjakeiaaDoor
end
