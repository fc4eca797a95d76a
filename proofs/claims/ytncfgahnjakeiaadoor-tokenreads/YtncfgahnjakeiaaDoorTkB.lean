/-
  What is sought: oneOf, noneOf, and the functions that they make.
-/
import Derived.Test.YtncfgahnjakeiaaDoorTkA
import Derived.Test.YtncfgahnjakeiaaDoorIdx
import Derived.Deep.LoopGhost
namespace Go.Proofs.YtncfgahnjakeiaaDoor
open Go.RowKit

theorem ibs_any (s : ByteArray) (c : UInt8) (w : World) :
    Calls Tryd.prog 82 #[.string s, .int .u8 c.toNat] w fun e w' => e = .returned (.int .i64 (firstIdx s c)) ∧ w' = w := by
  have h := run_ibs s c.toNat w
  have e : ((c.toNat : Int)).toNat.toUInt8 = c := by simp
  rw [e] at h
  go_enter Tryd.func82, Tryd.ntmps82
  go_wp2
  go_ret
  exact ⟨rfl, rfl⟩
theorem ib_q (s : ByteArray) (c : UInt8) (w : World) :
    Calls Tryd.prog 57 #[.string s, .int .u8 c.toNat] w fun e w' => e = .returned (.int .i64 (firstIdx s c)) ∧ ∃ m, w' = w.drewN m := by
  have h := ibs_any s c w
  go_enter Tryd.func57, Tryd.ntmps57
  go_wp2_with fail
  refine h.mono ?_
  rintro e w1 ⟨rfl, rfl⟩
  go_wp2
  go_ret
  exact ⟨rfl, 0, rfl⟩
theorem idx_in (set : List UInt8) (c : UInt8) : decide (firstIdx ⟨set.toArray⟩ c ≥ 0) = set.contains c := by
  have := firstIdx_nonneg ⟨set.toArray⟩ c
  have e : (set.any fun x => x == c) = set.contains c := by
    rw [Bool.eq_iff_iff]
    simp
  exact this.trans e
theorem idx_out (set : List UInt8) (c : UInt8) : decide (firstIdx ⟨set.toArray⟩ c < 0) = !set.contains c := by
  rw [← idx_in]
  by_cases h : firstIdx ⟨set.toArray⟩ c < 0
  · rw [decide_eq_true h, decide_eq_false (by omega)]; rfl
  · rw [decide_eq_false h, decide_eq_true (by omega)]; rfl

theorem oneOf_any (set : List UInt8) (w : World) :
    Calls Tryd.prog 31 #[sv set] w fun e w' => e = .returned (.func (.func 56) #[] #[.pointer (some ⟨w.heap.size, 0, none⟩)]) ∧ w' = w.alloc (.cells #[sv set] 9) := by
  go_enter Tryd.func31, Tryd.ntmps31
  go_wp2
  go_ret
  exact ⟨rfl, rfl⟩
theorem noneOf_any (set : List UInt8) (w : World) :
    Calls Tryd.prog 70 #[sv set] w fun e w' => e = .returned (.func (.func 88) #[] #[.pointer (some ⟨w.heap.size, 0, none⟩)]) ∧ w' = w.alloc (.cells #[sv set] 9) := by
  go_enter Tryd.func70, Tryd.ntmps70
  go_wp2
  go_ret
  exact ⟨rfl, rfl⟩

theorem oneOf1_any (set : List UInt8) (c : UInt8) (r : List UInt8) (b : Nat) (w : World) (hc : w.cell? ⟨b, 0, none⟩ = some (sv set)) :
    Calls Tryd.prog 56 #[sv (c :: r), .pointer (some ⟨b, 0, none⟩)] w fun e w' => e = .returned (.bool (hdIn set (c :: r))) ∧ ∃ m, w' = w.drewN m := by
  have hib := fun X => ib_q ⟨set.toArray⟩ c X
  have hd := idx_in set c
  have HQ : Hid (hdIn set (c :: r) = set.contains c) := rfl
  obtain ⟨q, hq⟩ : ∃ q, set.contains c = q := ⟨_, rfl⟩
  rw [hq] at hd HQ
  clear hq
  go_enter Tryd.func56, Tryd.ntmps56
  go_wp2_with fail
  go_quiet ((go_at_call 57; exact Calls.quiet_of (hib _)))
  go_wp2
  go_ret
  exact ⟨by rw [HQ.out]; rfl, _, rfl⟩
theorem noneOf1_any (set : List UInt8) (c : UInt8) (r : List UInt8) (b : Nat) (w : World) (hc : w.cell? ⟨b, 0, none⟩ = some (sv set)) :
    Calls Tryd.prog 88 #[sv (c :: r), .pointer (some ⟨b, 0, none⟩)] w fun e w' => e = .returned (.bool (hdOut set (c :: r))) ∧ ∃ m, w' = w.drewN m := by
  have hib := fun X => ib_q ⟨set.toArray⟩ c X
  have hd := idx_out set c
  have HQ : Hid (hdOut set (c :: r) = !set.contains c) := rfl
  obtain ⟨q, hq⟩ : ∃ q, (!set.contains c) = q := ⟨_, rfl⟩
  rw [hq] at hd HQ
  clear hq
  go_enter Tryd.func88, Tryd.ntmps88
  go_wp2_with fail
  go_quiet ((go_at_call 57; exact Calls.quiet_of (hib _)))
  go_wp2
  go_ret
  exact ⟨by rw [HQ.out]; rfl, _, rfl⟩

theorem upTo_cons (p : List UInt8 → Bool) (c : UInt8) (r : List UInt8) : upTo p (c :: r) = if p (c :: r) = true then 0 else upTo p r + 1 := rfl
theorem upTo_drop {p : List UInt8 → Bool} : ∀ (l : List UInt8) (k : Nat), k ≤ upTo p l → upTo p l = k + upTo p (l.drop k)
  | _, 0, _ => by simp
  | [], k + 1, h => by cases h
  | c :: r, k + 1, h => by
    rw [upTo_cons] at h ⊢
    split at h
    · omega
    · rename_i hc
      rw [if_neg hc, upTo_drop r k (by omega), List.drop_succ_cons]
      omega

/-- A call of a function that has a body. -/
theorem enters {f : FuncId} {fn : Func} {c : Code} (hf : Tryd.prog.funcs[f]? = some fn) (hname : (fn.name == "runtime.NumGoroutine") = false) (hb : fn.body = some c) (args : Array Value) (w : World) :
    (callFunc f args).run Tryd.prog w = .ok (.enter f args) w := by
  have hname : ¬ fn.name = "runtime.NumGoroutine" := by simpa using hname
  simp [callFunc, hf, hb, hname]

set_option maxRecDepth 20000 in
set_option maxHeartbeats 1000000 in
/-- cutTo with a function that answers p. -/
theorem cutTo_any (K A : Nat → Prop) (pb : Nat) (st : TS) (w : World) (h : TK K A w pb st) (hKl : ∀ k, K k → k < w.heap.size) (hs : st.pl + st.rest.length ≤ 1000000)
    (p : List UInt8 → Bool) (F : Nat) (caps : Array Value) (hE : ∀ args X, (callFunc F args).run Tryd.prog X = .ok (.enter F args) X)
    (hF : ∀ X, Kept (fun k => k < w.heap.size) w X → ∀ l, l ≠ [] → l.length ≤ 1000000 → Calls Tryd.prog F (#[sv l] ++ caps) X fun e X' => e = .returned (.bool (p l)) ∧ Kept (fun k => k < w.heap.size) X X') :
    Calls Tryd.prog 30 #[.pointer (some ⟨pb, 0, none⟩), .func (.func F) #[] caps] w fun e w' => e = .returned (sv (st.front p)) ∧ TK K A w' pb (st.cutTo p) ∧ Kept K w w' := by
  have H : Hid (∀ X, Kept (fun k => k < w.heap.size) w X → TK K A X pb st) := fun X hX => h.kept hX hKl
  obtain ⟨B, hB⟩ : ∃ B : Nat → Prop, (fun k => k < w.heap.size) = B := ⟨_, rfl⟩
  rw [hB] at H hF
  have hBK : ∀ k, K k → B k := fun k hk => by rw [← hB]; exact hKl k hk
  have HC : Hid (∀ n X, n ≤ st.rest.length → Kept B w X → Calls Tryd.prog 28 #[.pointer (some ⟨pb, 0, none⟩), .int .i64 n] X fun e w' => e = .returned (sv (st.rest.take n)) ∧ TK K A w' pb (st.cut n) ∧ Kept K X w') := fun n X hn hX => cut_any K A pb st X (H.out X hX) n hn hs
  have hul := upTo_le p st.rest
  have HF : Hid (sv (st.front p) = sv (st.rest.take (upTo p st.rest)) ∧ st.cutTo p = st.cut (upTo p st.rest)) := ⟨rfl, rfl⟩
  clear h hB
  go_enter Tryd.func30, Tryd.ntmps30
  go_wp2_with fail
  go_loopg [5] st.rest.length (fun gm i wr => ∃ k : Nat, gm = st.rest.length - k ∧ k ≤ upTo p st.rest ∧ i = .int .i64 k ∧ Kept B w wr)
  case atStart => exact ⟨0, rfl, Nat.zero_le _, rfl, Kept.refl _ _⟩
  case round =>
    obtain ⟨k, hgk, hk, rfl, hkp⟩ := hrel
    obtain ⟨c0, _⟩ := (H.out wr hkp).cells
    by_cases hlt : k < st.rest.length
    · have hne : st.rest.drop k ≠ [] := by rw [List.drop_eq_getElem_cons hlt]; exact List.cons_ne_nil _ _
      have hcall := hF wr hkp (st.rest.drop k) hne (by rw [List.length_drop]; omega)
      have e2 := sv_extract st.rest k st.rest.length
      rw [List.take_length] at e2
      have HU := upTo_drop st.rest k hk
      rw [List.drop_eq_getElem_cons hlt, upTo_cons, ← List.drop_eq_getElem_cons hlt] at HU
      obtain ⟨q, hq⟩ : ∃ q, p (st.rest.drop k) = q := ⟨_, rfl⟩
      rw [hq] at hcall HU
      clear hq hF
      cases q with
      | true =>
        rw [if_pos rfl, Nat.add_zero] at HU
        have HU : Hid (upTo p st.rest = k) := HU
        have hc := fun X hX => HC.out k X (by omega) hX
        clear HC hne
        go_wp2_with fail
        refine hcall.mono ?_
        rintro e w1 ⟨rfl, hk1⟩
        have hk2 := hkp.trans hk1
        have hc := hc w1 hk2
        clear hcall hk1 c0
        go_wp2_with fail
        refine hc.mono ?_
        rintro e w2 ⟨rfl, ht, hk3⟩
        go_wp2
        go_ret
        refine ⟨?_, ?_, (hk2.mono hBK).trans hk3⟩
        · rw [HF.out.1, HU.out]; rfl
        · rw [HF.out.2, HU.out]; exact ht
      | false =>
        rw [if_neg (by decide)] at HU
        have hk' : k + 1 ≤ upTo p st.rest := by omega
        clear HC hne HU HF
        go_wp2_with fail
        refine hcall.mono ?_
        rintro e w1 ⟨rfl, hk1⟩
        have hk2 := hkp.trans hk1
        clear hcall hk1 c0
        go_wp2
        go_roundg (st.rest.length - (k + 1))
        case rel => exact ⟨k + 1, rfl, hk', by go_num, hk2⟩
        case measure => omega
    · have HU : Hid (upTo p st.rest = k) := by show upTo p st.rest = k; omega
      have hc := HC.out k wr (by omega) hkp
      clear HC hF
      go_wp2_with fail
      refine hc.mono ?_
      rintro e w2 ⟨rfl, ht, hk3⟩
      go_wp2
      go_ret
      refine ⟨?_, ?_, (hkp.mono hBK).trans hk3⟩
      · rw [HF.out.1, HU.out]; rfl
      · rw [HF.out.2, HU.out]; exact ht

theorem enter56 (args : Array Value) (X : World) : (callFunc 56 args).run Tryd.prog X = .ok (.enter 56 args) X := enters Tryd.func56 (by kernel_rfl) (c := _) rfl args X
theorem enter88 (args : Array Value) (X : World) : (callFunc 88 args).run Tryd.prog X = .ok (.enter 88 args) X := enters Tryd.func88 (by kernel_rfl) (c := _) rfl args X
theorem enter76 (args : Array Value) (X : World) : (callFunc 76 args).run Tryd.prog X = .ok (.enter 76 args) X := enters Tryd.func76 (by kernel_rfl) (c := _) rfl args X
theorem enter104 (args : Array Value) (X : World) : (callFunc 104 args).run Tryd.prog X = .ok (.enter 104 args) X := enters Tryd.func104 (by kernel_rfl) (c := _) rfl args X

/-- cutTo(oneOf(set)), with the function that oneOf has made. -/
theorem cutOne_any (K A : Nat → Prop) (pb : Nat) (st : TS) (w : World) (h : TK K A w pb st) (hKl : ∀ k, K k → k < w.heap.size) (hs : st.pl + st.rest.length ≤ 1000000) (set : List UInt8) (b : Nat) (hb : b < w.heap.size) (hc : w.cell? ⟨b, 0, none⟩ = some (sv set)) :
    Calls Tryd.prog 30 #[.pointer (some ⟨pb, 0, none⟩), .func (.func 56) #[] #[.pointer (some ⟨b, 0, none⟩)]] w fun e w' => e = .returned (sv (st.front (hdIn set))) ∧ TK K A w' pb (st.cutTo (hdIn set)) ∧ Kept K w w' := by
  refine cutTo_any K A pb st w h hKl hs (hdIn set) 56 _ enter56 fun X hX l hl hll => ?_
  cases l with
  | nil => exact absurd rfl hl
  | cons c r =>
    refine (oneOf1_any set c r b X (by rw [hX.cell (p := ⟨b, 0, none⟩) hb]; exact hc)).mono ?_
    rintro e w' ⟨rfl, m, rfl⟩
    exact ⟨rfl, (Kept.refl _ X).drewN m⟩
theorem cutNone_any (K A : Nat → Prop) (pb : Nat) (st : TS) (w : World) (h : TK K A w pb st) (hKl : ∀ k, K k → k < w.heap.size) (hs : st.pl + st.rest.length ≤ 1000000) (set : List UInt8) (b : Nat) (hb : b < w.heap.size) (hc : w.cell? ⟨b, 0, none⟩ = some (sv set)) :
    Calls Tryd.prog 30 #[.pointer (some ⟨pb, 0, none⟩), .func (.func 88) #[] #[.pointer (some ⟨b, 0, none⟩)]] w fun e w' => e = .returned (sv (st.front (hdOut set))) ∧ TK K A w' pb (st.cutTo (hdOut set)) ∧ Kept K w w' := by
  refine cutTo_any K A pb st w h hKl hs (hdOut set) 88 _ enter88 fun X hX l hl hll => ?_
  cases l with
  | nil => exact absurd rfl hl
  | cons c r =>
    refine (noneOf1_any set c r b X (by rw [hX.cell (p := ⟨b, 0, none⟩) hb]; exact hc)).mono ?_
    rintro e w' ⟨rfl, m, rfl⟩
    exact ⟨rfl, (Kept.refl _ X).drewN m⟩
end Go.Proofs.YtncfgahnjakeiaaDoor
