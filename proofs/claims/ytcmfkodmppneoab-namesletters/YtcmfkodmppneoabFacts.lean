/-
  What holds of the plain functions: kinds apart, small letters twice, names that grow.
-/
import Derived.Test.YtcmfkodmppneoabLower
import Derived.Test.YtcmfkodmppneoabPure
namespace Go.Proofs.Ytcmfkodmppneoab
open Go.RowKit

theorem u8_of {i : Int} (h : (Lit.int .u8 i).wf = true) : ∃ k : UInt8, i = (k.toNat : Int) := by
  have h1 : IntKind.min .u8 ≤ i ∧ i ≤ IntKind.max .u8 := by simpa [Lit.wf] using h
  have h2 : 0 ≤ i ∧ i ≤ 255 := h1
  refine ⟨UInt8.ofNat i.toNat, ?_⟩
  rw [UInt8.toNat_ofNat']
  omega

theorem conv_new (X : World) (n : Int) (N : Nat) (hN : N = X.heap.size) : (convert 25 9 (.slice (some ⟨N, 0, none⟩) 1 1)).run Try.prog (X.alloc (.cells #[.int .u8 n] 5)) = .ok (.string ⟨#[UInt8.ofNat n.toNat]⟩) (X.alloc (.cells #[.int .u8 n] 5)) := by
  subst hN
  rw [run_convert_bytes_string _ 25 9 5 _ 1 1 Try.underlying25 Try.underlying5 Try.underlying9]
  have hl := run_loadCells_list (P := Try.prog) (X.alloc (.cells #[.int .u8 n] 5)) ⟨X.heap.size, 0, none⟩ ([n].map (Value.int .u8)) (fun j v hj => by
    match j, hj with
    | 0, hj =>
      simp at hj
      subst hj
      rw [Addr.add_lit]
      simp)
  exact run_bytesToString _ _ 1 1 [n] hl

theorem conv_drew (X : World) (c : UInt8) : (convert 25 9 (.slice (some ⟨X.heap.size, 0, none⟩) 1 1)).run Try.prog (X.alloc (.cells #[.int .u8 (c.toNat : Int)] 5)).drew = .ok (.string ⟨#[c]⟩) (X.alloc (.cells #[.int .u8 (c.toNat : Int)] 5)).drew := by
  have h := conv_new X.drew (c.toNat : Int) X.heap.size rfl
  rw [Int.toNat_natCast, UInt8.ofNat_toNat] at h
  exact h

theorem lowT_size (s : ByteArray) : (⟨(lowL s.data.toList).toArray⟩ : ByteArray).size = s.size := by
  show (lowL s.data.toList).toArray.size = s.size
  rw [List.size_toArray]
  unfold lowL
  rw [List.length_map]
  rfl
theorem lowB_twice (c : UInt8) : lowB (lowB c) = lowB c := by
  by_cases h : 65 ≤ c.toNat ∧ c.toNat ≤ 90
  · have e : (lowB c).toNat = c.toNat + 32 := by
      unfold lowB
      rw [if_pos h, UInt8.toNat_add]
      show (c.toNat + 32) % 256 = _
      omega
    unfold lowB at e ⊢
    rw [if_neg]
    omega
  · have e : lowB c = c := if_neg h
    rw [e, e]
theorem lowL_twice (l : List UInt8) : lowL (lowL l) = lowL l := by
  unfold lowL
  rw [List.map_map]
  exact List.map_congr_left fun c _ => lowB_twice c
theorem lowT_twice (s : ByteArray) : (⟨(lowL (ByteArray.mk (lowL s.data.toList).toArray).data.toList).toArray⟩ : ByteArray) = ⟨(lowL s.data.toList).toArray⟩ := by
  show (⟨(lowL (lowL s.data.toList)).toArray⟩ : ByteArray) = _
  rw [lowL_twice]

theorem softP_host : ∀ x ∈ softL, hostsP x = false := by decide
theorem apart (l : List UInt8) :
    (voidP l = true ∧ rawP l = false ∧ softP l = false ∧ customP l = false ∧ hostP l = false ∧ validP l = true) ∨
    (voidP l = false ∧ rawP l = true ∧ softP l = false ∧ customP l = false ∧ hostP l = false ∧ validP l = true) ∨
    (voidP l = false ∧ rawP l = false ∧ softP l = true ∧ customP l = false ∧ hostP l = false ∧ validP l = true) ∨
    (voidP l = false ∧ rawP l = false ∧ softP l = false ∧ customP l = true ∧ hostP l = true ∧ blockP l = false ∧ validP l = true) ∨
    (voidP l = false ∧ rawP l = false ∧ softP l = false ∧ customP l = false ∧ hostP l = true ∧ validP l = true) ∨
    (voidP l = false ∧ rawP l = false ∧ softP l = false ∧ customP l = false ∧ hostP l = false ∧ blockP l = true ∧ validP l = true) ∨
    (voidP l = false ∧ rawP l = false ∧ softP l = false ∧ customP l = false ∧ hostP l = false ∧ blockP l = false) := by
  have cu : ∀ {x : List UInt8}, dashP x = false → customP x = false := by
    intro x h
    unfold customP
    rw [h, Bool.and_false, Bool.false_and]
  cases hv : voidP l
  case true =>
    obtain ⟨h1, h2, h3, h4, h5⟩ := voidP_valid l (any_mem hv)
    refine .inl ⟨rfl, h3, h4, cu h2, ?_, h1⟩
    unfold hostP
    rw [h5, cu h2]
    rfl
  case false =>
    cases hr : rawP l
    case true =>
      obtain ⟨h1, h2, h3, h4, _⟩ := rawP_valid l (any_mem hr)
      refine .inr (.inl ⟨rfl, rfl, h3, cu h2, ?_, h1⟩)
      unfold hostP
      rw [h4, cu h2]
      rfl
    case false =>
      cases hf : softP l
      case true =>
        obtain ⟨h1, h2⟩ := softP_valid l (any_mem hf)
        refine .inr (.inr (.inl ⟨rfl, rfl, rfl, cu h2, ?_, h1⟩))
        unfold hostP
        rw [softP_host l (any_mem hf), cu h2]
        rfl
      case false =>
        cases hc : customP l
        case true =>
          have hvd : validP l = true ∧ dashP l = true := by
            unfold customP at hc
            simp at hc
            exact hc.1
          refine .inr (.inr (.inr (.inl ⟨rfl, rfl, rfl, rfl, ?_, ?_, hvd.1⟩)))
          · unfold hostP
            rw [hc, Bool.or_true]
          · cases hb : blockP l
            · rfl
            · have := (blockP_valid l (any_mem hb)).2
              rw [hvd.2] at this
              cases this
        case false =>
          cases hh : hostP l
          case true =>
            have : hostsP l = true := by
              unfold hostP at hh
              rwa [hc, Bool.or_false] at hh
            exact .inr (.inr (.inr (.inr (.inl ⟨rfl, rfl, rfl, rfl, rfl, (hostsP_valid l (any_mem this)).1⟩))))
          case false =>
            cases hb : blockP l
            · exact .inr (.inr (.inr (.inr (.inr (.inr ⟨rfl, rfl, rfl, rfl, rfl, rfl⟩)))))
            · exact .inr (.inr (.inr (.inr (.inr (.inl ⟨rfl, rfl, rfl, rfl, rfl, rfl, (blockP_valid l (any_mem hb)).1⟩)))))
end Go.Proofs.Ytcmfkodmppneoab
