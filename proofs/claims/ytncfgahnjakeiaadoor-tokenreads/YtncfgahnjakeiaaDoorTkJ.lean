/-
  What HasSuffix of a slash, and has, answer.
-/
import Derived.Test.YtncfgahnjakeiaaDoorTkI
namespace Go.Proofs.YtncfgahnjakeiaaDoor
open Go.RowKit

theorem suf_any (l : List UInt8) (hl : l.length ≤ 1000000) (w : World) :
    Calls Tryd.prog 89 #[sv l, .string ⟨#[47]⟩] w fun e w' => e = .returned (.bool (l.getLast? == some 47)) ∧ w' = w := by
  rcases List.eq_nil_or_concat l with rfl | ⟨i, c, rfl⟩
  · go_enter Tryd.func89, Tryd.ntmps89
    go_wp2
    go_ret
    exact ⟨rfl, rfl⟩
  · rw [List.concat_eq_append] at hl ⊢
    have hq : ((i ++ [c]).getLast? == some 47) = (c == 47) := by simp
    obtain ⟨S, hS⟩ : ∃ S : ByteArray, (⟨(i ++ [c]).toArray⟩ : ByteArray) = S := ⟨_, rfl⟩
    have sS : S.size = i.length + 1 := by rw [← hS, sv_size]; simp
    have hx : S.extract i.length S.size = ⟨#[c]⟩ := by
      rw [sS, ← hS, sv_extract]
      rw [List.take_of_length_le (by simp), List.drop_left]
    show Calls Tryd.prog 89 #[.string ⟨(i ++ [c]).toArray⟩, .string ⟨#[47]⟩] w _
    rw [hS]
    simp only [hq]
    have z4 : S.size ≤ 1000000 := by simp at hl; omega
    have hsub : (S.size : Int) - 1 = (i.length : Int) := by omega
    have hle : i.length ≤ S.size := by omega
    have z1 : 1 ≤ S.size := by omega
    clear hS hl hq sS
    go_enter Tryd.func89, Tryd.ntmps89
    go_wp2
    go_ret
    exact ⟨rfl, rfl⟩
theorem suffix_any (l : List UInt8) (hl : l.length ≤ 1000000) (w : World) :
    Calls Tryd.prog 71 #[sv l, .string ⟨#[47]⟩] w fun e w' => e = .returned (.bool (l.getLast? == some 47)) ∧ w' = w := by
  have h := suf_any l hl w
  obtain ⟨q, hq⟩ : ∃ q, (l.getLast? == some 47) = q := ⟨_, rfl⟩
  rw [hq] at h ⊢
  clear hq
  go_enter Tryd.func71, Tryd.ntmps71
  go_wp2_with fail
  refine h.mono ?_
  rintro e w1 ⟨rfl, rfl⟩
  go_wp2
  go_ret
  exact ⟨rfl, rfl⟩

theorem hasN_snoc (l : List Atr) (a : Atr) (name : List UInt8) : hasN (l ++ [a]) name = (hasN l name || (a.name == name)) := by
  unfold hasN
  rw [List.any_append]
  simp

set_option maxRecDepth 20000 in
set_option maxHeartbeats 1000000 in
theorem has_any (attrs : List Atr) (name : List UInt8) (aa : Option Addr) (ac : Nat) (hn : attrs.length ≤ 100) (K : Nat → Prop) (w : World) (hK : ∀ k, K k → k < w.heap.size) (ha : AtsIn K w aa attrs) :
    Calls Tryd.prog 91 #[.slice aa attrs.length ac, sv name] w fun e w' => e = .returned (.bool (hasN attrs name)) ∧ Kept K w w' := by
  obtain ⟨T, hT⟩ : ∃ S : ByteArray, (⟨name.toArray⟩ : ByteArray) = S := ⟨_, rfl⟩
  have HA : Hid (∀ X, Kept K w X → AtsIn K X aa attrs) := fun X hX => ha.kept hX (fun _ h => h)
  have HQ : Hid (∀ U : List UInt8, ((⟨U.toArray⟩ : ByteArray).toList == T.toList) = (U == name)) := by
    intro U
    rw [← hT, ByteArray.toList_eq, ByteArray.toList_eq]
  show Calls Tryd.prog 91 #[.slice aa attrs.length ac, .string ⟨name.toArray⟩] w _
  rw [hT]
  have HF : Hid (hasN (attrs.take attrs.length) name = hasN attrs name) := by show hasN _ _ = _; rw [List.take_length]
  have HS : Hid (∀ k (h : k < attrs.length), hasN (attrs.take (k + 1)) name = (hasN (attrs.take k) name || (attrs[k].name == name))) := by
    intro k h
    rw [List.take_succ_eq_append_getElem h, hasN_snoc]
  have HT : Hid (∀ k (h : k < attrs.length), (attrs[k].name == name) = true → hasN attrs name = true) := by
    intro k h he
    unfold hasN
    rw [List.any_eq_true]
    exact ⟨attrs[k], List.getElem_mem h, he⟩
  clear ha hT
  go_enter Tryd.func91, Tryd.ntmps91
  go_wp2_with fail
  go_loopg [9] attrs.length (fun gm i wr => ∃ k : Nat, gm = attrs.length - k ∧ k ≤ attrs.length ∧ i = .int .i64 k ∧ hasN (attrs.take k) name = false ∧ Kept K w wr)
  case atStart => exact ⟨0, rfl, Nat.zero_le _, rfl, rfl, Kept.refl _ _⟩
  case round =>
    obtain ⟨k, hgk, hk, rfl, hno, hkp⟩ := hrel
    have HN : Hid (hasN (attrs.take k) name = false) := hno
    clear hno
    by_cases hlt : k < attrs.length
    · obtain ⟨g, rfl, hKg, c0, c1⟩ := HA.out wr hkp k hlt
      have hq := HQ.out attrs[k].name
      have HS1 : Hid (hasN (attrs.take (k + 1)) name = (attrs[k].name == name)) := by
        show hasN _ _ = _
        rw [HS.out k hlt, HN.out]
        rfl
      have HT1 : Hid ((attrs[k].name == name) = true → hasN attrs name = true) := HT.out k hlt
      obtain ⟨q, hqe⟩ : ∃ q, (attrs[k].name == name) = q := ⟨_, rfl⟩
      rw [hqe] at hq HS1 HT1
      obtain ⟨U, hU⟩ : ∃ S : ByteArray, (⟨attrs[k].name.toArray⟩ : ByteArray) = S := ⟨_, rfl⟩
      replace c0 : wr.cell? ⟨g, k * 2, none⟩ = some (.string U) := by rw [← hU]; exact c0
      rw [hU] at hq
      obtain ⟨V, hV⟩ : ∃ S : ByteArray, (⟨attrs[k].value.toArray⟩ : ByteArray) = S := ⟨_, rfl⟩
      replace c1 : wr.cell? ⟨g, k * 2 + 1, none⟩ = some (.string V) := by rw [← hV]; exact c1
      have hka : ∀ o, Kept K w (wr.alloc o) := fun o => hkp.alloc (fun k hk => Nat.lt_of_lt_of_le (hK k hk) hkp.size) o
      clear hU hqe HN HS HT HQ hV HA
      cases q with
      | true =>
        go_wp2
        go_ret
        exact ⟨by rw [HT1.out trivial]; rfl, hka _⟩
      | false =>
        go_wp2
        go_roundg (attrs.length - (k + 1))
        case rel => exact ⟨k + 1, rfl, by omega, by go_num, HS1.out, hka _⟩
        case measure => omega
    · have hkk : k = attrs.length := by omega
      subst hkk
      have HR : Hid (hasN attrs name = false) := HF.out.symm.trans HN.out
      clear HA HS HT HN HQ
      go_wp2
      go_ret
      exact ⟨by rw [HR.out]; rfl, hkp⟩
end Go.Proofs.YtncfgahnjakeiaaDoor
