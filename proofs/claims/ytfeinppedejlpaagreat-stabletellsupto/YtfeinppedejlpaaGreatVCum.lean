/-
  What names.Custom answers. strings.ContainsAny, asked for '-', '>' and the byte 0: the first of three ways, a text of eight bytes at most.
-/
import Derived.Test.YtfeinppedejlpaaGreatVW22
import Derived.Laws.StandIn
import Derived.Laws.Externs
import Derived.Laws.Runes
import Derived.Test.YtfeinppedejlpaaGreatVIx
import Derived.RangeFuncRecord
namespace Go.Proofs.YtfeinppedejlpaaGreat
section
set_option maxHeartbeats 8000000
set_option maxRecDepth 100000
open Go.RowKit
def zn0 : List (List UInt8) := [[97, 110, 110, 111, 116, 97, 116, 105, 111, 110, 45, 120, 109, 108], [99, 111, 108, 111, 114, 45, 112, 114, 111, 102, 105, 108, 101], [102, 111, 110, 116, 45, 102, 97, 99, 101], [102, 111, 110, 116, 45, 102, 97, 99, 101, 45, 115, 114, 99], [102, 111, 110, 116, 45, 102, 97, 99, 101, 45, 117, 114, 105], [102, 111, 110, 116, 45, 102, 97, 99, 101, 45, 102, 111, 114, 109, 97, 116], [102, 111, 110, 116, 45, 102, 97, 99, 101, 45, 110, 97, 109, 101], [109, 105, 115, 115, 105, 110, 103, 45, 103, 108, 121, 112, 104]]
def zfg (l : List UInt8) : Bool := zn0.any (l == ·)
def zg1 (l : List UInt8) : Bool := l.any (· == 45)
def zbt (l : List UInt8) : Bool := zaz l && zg1 l && !zfg l
theorem zne (s : ByteArray) (K : Nat -> Prop) (w : World) :
  Calls Tryz.prog 276 #[.string s] w fun e w' => e = .returned (.bool (zfg s.toList)) /\ Kept K w w' := by
 go_enter Tryz.func276, Tryz.ntmps276
 go_wp2
 all_goals first | (simp_all; done) | (go_ret; exact ⟨by simp [zfg, zn0, *], Kept.refl _ _⟩)
theorem zpk (s : ByteArray) (c : Int) (w : World) : (callFunc 293 #[.string s, .int .u8 c]).run Tryz.prog w = .ok (.value (.int .i64 (firstIdx s c.toNat.toUInt8))) w := by
 rw [run_callFunc_indexByte Tryz.func293 (by kernel_rfl) (by kernel_rfl) (by kernel_rfl) (by kernel_rfl), run_indexByte_string]
 rfl
theorem zrb (s : ByteArray) (K : Nat -> Prop) (w : World) :
  Calls Tryz.prog 277 #[.string s, .int .u8 45] w fun e w' => e = .returned (.int .i64 (firstIdx s 45)) /\ Kept K w w' := by
 have h1 := fun X => zpk s 45 X
 go_enter Tryz.func277, Tryz.ntmps277
 go_wp2_with fail
 go_ret
 exact ⟨rfl, Kept.refl _ _⟩
def zhu (s : ByteArray) : Int := if ([45] == s.toList) = true then 0 else firstIdx s 45
theorem zpn (s : ByteArray) : decide (zhu s >= 0) = zg1 s.toList := by
 unfold zhu zg1
 by_cases h : ([45] == s.toList) = true
 ·rw [if_pos h]
  have : [45] = s.toList := by simpa using h
  rw [<- this]
  rfl
 ·rw [if_neg h, ByteArray.toList_eq]
  exact firstIdx_nonneg s 45
theorem zhe (s : ByteArray) (K : Nat -> Prop) (w : World) :
  Calls Tryz.prog 304 #[.string s, .string ⟨#[45]⟩] w fun e w' => e = .returned (.int .i64 (zhu s)) /\ Kept K w w' := by
 have h1 := fun X => zrb s K X
 by_cases h0 : ([45] == s.toList) = true
 ·have hd : zhu s = 0 := by unfold zhu; rw [if_pos h0]
  rw [hd]
  go_enter Tryz.func304, Tryz.ntmps304
  go_wp2
  go_ret
  exact ⟨rfl, Kept.refl _ _⟩
 ·have hd : zhu s = firstIdx s 45 := by unfold zhu; rw [if_neg h0]
  rw [hd]
  have h0 : ([45] == s.toList) = false := by simpa using h0
  go_enter Tryz.func304, Tryz.ntmps304
  go_wp2_with fail
  refine (h1 _).mono ?_
  rintro e w1 ⟨rfl, hk1⟩
  go_wp2
  go_ret
  exact ⟨rfl, hk1⟩
theorem zl9 (s : ByteArray) (K : Nat -> Prop) (w : World) :
  Calls Tryz.prog 292 #[.string s, .string ⟨#[45]⟩] w fun e w' => e = .returned (.int .i64 (zhu s)) /\ Kept K w w' := by
 have h1 := fun X => zhe s K X
 go_enter Tryz.func292, Tryz.ntmps292
 go_wp2_with fail
 refine (h1 _).mono ?_
 rintro e w1 ⟨rfl, hk1⟩
 go_wp2
 go_ret
 exact ⟨rfl, hk1⟩
theorem zgy (s : ByteArray) (K : Nat -> Prop) (w : World) :
  Calls Tryz.prog 275 #[.string s, .string ⟨#[45]⟩] w fun e w' => e = .returned (.bool (zg1 s.toList)) /\ Kept K w w' := by
 have h1 := fun X => zl9 s K X
 rw [<- zpn]
 go_enter Tryz.func275, Tryz.ntmps275
 go_wp2_with fail
 refine (h1 _).mono ?_
 rintro e w1 ⟨rfl, hk1⟩
 go_wp2
 go_ret
 exact ⟨rfl, hk1⟩
theorem zk7 (s : ByteArray) (K : Nat -> Prop) (w : World) (hK : ∀ k, K k -> k < w.heap.size) :
  Calls Tryz.prog 254 #[.string s] w fun e w' => e = .returned (.bool (zbt s.toList)) /\ Kept K w w' := by
 have h1 := zid s K w hK
 have h2 := fun X => zgy s K X
 have h3 := fun X => zne s K X
 unfold zbt
 obtain ⟨v, hv⟩ : ∃ v, zaz s.toList = v := ⟨_, rfl⟩
 obtain ⟨d, hd⟩ : ∃ v, zg1 s.toList = v := ⟨_, rfl⟩
 obtain ⟨t, ht⟩ : ∃ v, zfg s.toList = v := ⟨_, rfl⟩
 rw [hv] at h1 ⊢
 rw [hd] at h2 ⊢
 rw [ht] at h3 ⊢
 clear hv hd ht
 cases v with
 | false =>
  go_enter Tryz.func254, Tryz.ntmps254
  go_wp2_with fail
  refine h1.mono ?_
  rintro e w1 ⟨rfl, hk1⟩
  go_wp2
  go_ret
  exact ⟨by simp, hk1⟩
 | true =>
  cases d with
  | false =>
   go_enter Tryz.func254, Tryz.ntmps254
   go_wp2_with fail
   refine h1.mono ?_
   rintro e w1 ⟨rfl, hk1⟩
   go_wp2_with fail
   refine (h2 _).mono ?_
   rintro e w2 ⟨rfl, hk2⟩
   go_wp2
   go_ret
   exact ⟨by simp, hk1.trans hk2⟩
  | true =>
   go_enter Tryz.func254, Tryz.ntmps254
   go_wp2_with fail
   refine h1.mono ?_
   rintro e w1 ⟨rfl, hk1⟩
   go_wp2_with fail
   refine (h2 _).mono ?_
   rintro e w2 ⟨rfl, hk2⟩
   go_wp2_with fail
   refine (h3 _).mono ?_
   rintro e w3 ⟨rfl, hk3⟩
   go_wp2
   go_ret
   exact ⟨by simp, (hk1.trans hk2).trans hk3⟩
end
section
open Go.RowKit
set_option linter.unusedVariables false
set_option maxRecDepth 100000
set_option maxHeartbeats 8000000
def s3B (c : UInt8) : Bool := c == 45 || c == 62 || c == 0
theorem ztk (c : UInt8) : decide (0 <= firstIdx cS3 c) = s3B c := by
 rw [firstIdx_nonneg]
 show ([45, 62, 0] : List UInt8).any (· == c) = _
 unfold s3B
 simp only [List.any_cons, List.any_nil, Bool.or_false]
 rw [Bool.eq_iff_iff]
 simp only [Bool.or_eq_true, beq_iff_eq, or_assoc]
 constructor
 ·rintro (h | h | h)
  ·exact .inl h.symm
  ·exact .inr (.inl h.symm)
  ·exact .inr (.inr h.symm)
 ·rintro (h | h | h)
  ·exact .inl h.symm
  ·exact .inr (.inl h.symm)
  ·exact .inr (.inr h.symm)
theorem zi3 (s : ByteArray) (i : Nat) (h : i < s.size) (ha : 128 <= (s[i]'h).toNat) : ∀ k, k < (Utf8.decode s i).2 -> i + k < s.size /\ 128 <= (s.get! (i + k)).toNat := by
 have h0 : 128 <= (s.get! (i + 0)).toNat := by rw [get_at s i h]; exact ha
 have hn : ¬ (s.get! (i + 0)).toNat < 128 := by omega
 intro k hk
 have one : ∀ k, k < 1 -> i + k < s.size /\ 128 <= (s.get! (i + k)).toNat := fun k hk => by
  obtain rfl : k = 0 := by omega
  exact ⟨h, h0⟩
 simp only [Utf8.decode, hn, if_false] at hk
 split at hk
 ·rename_i c
  simp only [Bool.and_eq_true, decide_eq_true_eq, beq_iff_eq] at c
  split at hk
  ·match k, hk with
   | 0, _ => exact ⟨h, h0⟩
   | 1, _ => exact ⟨c.2.1, by omega⟩
  ·exact one k hk
 ·split at hk
  ·rename_i c
   simp only [Bool.and_eq_true, decide_eq_true_eq, beq_iff_eq] at c
   split at hk
   ·match k, hk with
    | 0, _ => exact ⟨h, h0⟩
    | 1, _ => exact ⟨c.1.2.1, by omega⟩
    | 2, _ => exact ⟨c.2.1, by omega⟩
   ·exact one k hk
  ·split at hk
   ·rename_i c
    simp only [Bool.and_eq_true, decide_eq_true_eq, beq_iff_eq] at c
    split at hk
    ·match k, hk with
     | 0, _ => exact ⟨h, h0⟩
     | 1, _ => exact ⟨c.1.1.2.1, by omega⟩
     | 2, _ => exact ⟨c.1.2.1, by omega⟩
     | 3, _ => exact ⟨c.2.1, by omega⟩
    ·exact one k hk
   ·exact one k hk
def NoS (s : ByteArray) (i : Nat) : Prop := i <= s.size /\ ∀ j, j < i -> s3B (s.get! j) = false
theorem zmi {c : UInt8} (h : 128 <= c.toNat) : s3B c = false := by
 unfold s3B
 have h1 : c ≠ 45 := fun e => by subst e; exact absurd h (by decide)
 have h2 : c ≠ 62 := fun e => by subst e; exact absurd h (by decide)
 have h3 : c ≠ 0 := fun e => by subst e; exact absurd h (by decide)
 simp [h1, h2, h3]
theorem NoS.next {s : ByteArray} {i : Nat} (h : NoS s i) (hi : i < s.size) (hc : s3B (s[i]'hi) = false) : NoS s (i + (Utf8.decode s i).2) := by
 by_cases ha : (s[i]'hi).toNat < 128
 ·rw [decode_ascii s i hi ha]
  refine ⟨hi, fun j hj => ?_⟩
  by_cases c : j = i
  ·subst c
   have := get_at s j hi
   rw [Nat.add_zero] at this
   rw [this]; exact hc
  ·exact h.2 j (by omega)
 ·have sp := zi3 s i hi (by omega)
  refine ⟨?_, fun j hj => ?_⟩
  ·obtain ⟨n, hn⟩ : ∃ n, (Utf8.decode s i).2 = n := ⟨_, rfl⟩
   rw [hn] at sp ⊢
   by_cases c : n = 0
   ·omega
   ·have := (sp (n - 1) (by omega)).1; omega
  ·by_cases c : j < i
   ·exact h.2 j c
   ·have := (sp (j - i) (by omega)).2
    rw [show i + (j - i) = j by omega] at this
    exact zmi this
theorem zts (s : ByteArray) : s.data.toList.any s3B = false ↔ ∀ j, j < s.size -> s3B (s.get! j) = false := by
 have hg : ∀ j (h : j < s.size), s.get! j = s.data.toList[j]'(by simpa using h) := fun j h => by
  have := get_at s j h
  rw [Nat.add_zero] at this
  rw [this]; simp; rfl
 rw [List.any_eq_false]
 constructor
 ·intro h j hj
  have := h _ (List.getElem_mem (l := s.data.toList) (n := j) (by simpa using hj))
  rw [hg j hj]; simpa using this
 ·intro h x hx
  obtain ⟨j, hj, e⟩ := List.getElem_of_mem hx
  have hj' : j < s.size := by simpa using hj
  rw [<- e, <- hg j hj', h j hj']
  decide
theorem NoS.all {s : ByteArray} (h : NoS s s.size) : s.data.toList.any s3B = false := (zts s).2 fun j hj => h.2 j hj
theorem zs9 {s : ByteArray} {i : Nat} (hi : i < s.size) (hc : s3B (s[i]'hi) = true) : s.data.toList.any s3B = true := by
 rw [List.any_eq_true]
 exact ⟨s[i]'hi, Array.getElem_mem_toList (xs := s.data) hi, hc⟩
theorem zi7 {P : Program} (W : World) (N : Nat) (s : ByteArray) (pos : Nat) (ty : TypeId) (h : W.heap[N]? = some (.stringIter s pos)) (hp : pos < s.size) :
  (Instr.next (.pointer (some ⟨N, 0, none⟩)) true ty).run P W = .ok (.tuple #[.bool true, .int .i64 pos, .int .i32 (Utf8.decode s pos).1]) (W.putObj N (.stringIter s (pos + (Utf8.decode s pos).2))) := by
 simp only [Instr.next, getObj, setObj, Sem.run_bind, Sem.run, h, Result.andThen, hp, if_true]
 simp [goInt, World.putObj]
theorem zgs {P : Program} (W : World) (N : Nat) (s : ByteArray) (pos : Nat) (ty : TypeId) (h : W.heap[N]? = some (.stringIter s pos)) (hp : ¬ pos < s.size) :
  (Instr.next (.pointer (some ⟨N, 0, none⟩)) true ty).run P W = .ok (.tuple #[.bool false]) W := by
 simp [Instr.next, getObj, Sem.run, h, hp]
theorem Kept.putObj {K : Nat -> Prop} {w W : World} {N : Nat} (h : Kept K w W) (hN : ¬ K N) (o : Obj) : Kept K w (W.putObj N o) :=
 ⟨h.os, h.tape, h.output, by rw [World.putObj_size]; exact h.size, fun k hk => (World.putObj_heap_other (fun e => hN (by rw [<- e]; exact hk))).trans (h.block k hk)⟩
theorem zpz (c : UInt8) (h : c.toNat < 128) (w : World) : Calls Tryz.prog 278 #[.string cS3, .int .i32 (c.toNat : Int)] w fun e w' => e = .returned (.int .i64 (firstIdx cS3 c)) /\ Kept (fun k => k < w.heap.size) w w' := by
 have r1 := zbx cS3 (c.toNat : Int) w
 rw [Int.toNat_natCast, show c.toNat.toUInt8 = c by simp] at r1
 obtain ⟨z, hz⟩ : ∃ z, firstIdx cS3 c = z := ⟨_, rfl⟩
 rw [hz] at r1 ⊢
 obtain ⟨n, hn⟩ : ∃ n, c.toNat = n := ⟨_, rfl⟩
 rw [hn] at r1 h ⊢
 obtain ⟨S, hS⟩ : ∃ S, cS3 = S := ⟨_, rfl⟩
 rw [hS] at r1 ⊢
 have d0 : decide ((n : Int) < 128) = true := decide_eq_true (by omega)
 have d1 : decide ((0 : Int) <= (n : Int)) = true := decide_eq_true (by omega)
 clear hS hz hn
 go_enter Tryz.func278, Tryz.ntmps278
 go_wp2_with (go_at_call 255; refine r1.mono ?_; rintro e1 w3 ⟨rfl, hw3⟩; replace hw3 := hw3.symm; subst hw3)
 go_ret
 exact ⟨rfl, Kept.refl _ _⟩
theorem zsw (s : ByteArray) (i : Nat) (hi : i < s.size) (w : World) : Calls Tryz.prog 278 #[.string cS3, .int .i32 ((Utf8.decode s i).1 : Int)] w fun e w' => (∃ z : Int, e = .returned (.int .i64 z) /\ decide (0 <= z) = s3B (s[i]'hi)) /\ Kept (fun k => k < w.heap.size) w w' := by
 by_cases ha : (s[i]'hi).toNat < 128
 ·rw [decode_ascii s i hi ha]
  exact (zpz (s[i]'hi) ha w).mono fun e w' h => ⟨⟨_, h.1, ztk _⟩, h.2⟩
 ·have h1 := (decode_high s i hi (by omega)).1
  have e1 : s3B (s[i]'hi) = false := zmi (by omega)
  rw [e1]
  by_cases c : (Utf8.decode s i).1 = 65533
  ·rw [c]
   exact (ztd w).mono fun e w' h => ⟨⟨_, h.1, by decide⟩, h.2⟩
  ·exact (zoy _ (by omega) (by omega) w).mono fun e w' h => ⟨⟨_, h.1, by decide⟩, h.2⟩
end
end Go.Proofs.YtfeinppedejlpaaGreat
