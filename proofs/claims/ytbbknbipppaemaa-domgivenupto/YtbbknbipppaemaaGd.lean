/-
  The walk of DomGiven.
-/
import Derived.Test.YtbbknbipppaemaaGc
namespace Go.Proofs.Ytbbknbipppaemaa
open Go.RowKit
set_option linter.unusedVariables false

abbrev slotB : ByteArray := ⟨#[115, 108, 111, 116]⟩
def slotNd : Nd := Mk.nd ⟨1, slotN, [], []⟩
theorem sound_slot : soundN ⟨1, slotN, [], []⟩ = true := by kernel_rfl
structure SG (M : Dm) (j : Nat) : Prop where
  len : M.n = 11 + j
  lim : M.limit = 300
  divs : ∀ k, 0 < k → k < 11 → M.nd k = divN.new
  slots : ∀ k, 11 ≤ k → k < 11 + j → M.nd k = slotNd.new
  none : NoGifts M
theorem SG.add {M : Dm} {j : Nat} (h : SG M j) : SG (M.add slotNd) (j + 1) := by
  refine ⟨by show M.n + 1 = _; rw [h.len]; omega, h.lim, fun k h0 h1 => ?_, fun k h0 h1 => ?_, h.none.add _⟩
  · show (if k = M.n then slotNd.new else M.nd k) = _
    rw [if_neg (by rw [h.len]; omega)]; exact h.divs k h0 h1
  · show (if k = M.n then slotNd.new else M.nd k) = _
    by_cases c : k = M.n
    · rw [if_pos c]
    · rw [if_neg c]; rw [h.len] at c; exact h.slots k h0 (by omega)
def tot (R : Nat → List UInt8) : Nat → Nat
  | 0 => 0
  | i + 1 => tot R i + ((R i).length + 1)
theorem tot_mono (R : Nat → List UInt8) : ∀ {j i : Nat}, i ≤ j → tot R i + (j - i) ≤ tot R j
  | 0, i, h => by
    have : i = 0 := by omega
    subst this
    exact Nat.le_refl _
  | j + 1, i, h => by
    by_cases c : i = j + 1
    · subst c; omega
    · have := tot_mono R (j := j) (i := i) (by omega)
      show _ ≤ tot R j + ((R j).length + 1)
      omega
/-- Rows of bytes that came in. -/
structure RowsU (w : World) (a : Option Addr) (len : Nat) (A : Nat → Option Addr) (C : Nat → Nat) (R : Nat → List UInt8) : Prop where
  top : ∀ r, r < len → ∃ g o, a = some ⟨g, o, none⟩ ∧ g < w.heap.size ∧ w.cell? ⟨g, o + r, none⟩ = some (.slice (A r) (R r).length (C r))
  row : ∀ r, r < len → ∀ j (h : j < (R r).length), ∃ x o, A r = some ⟨x, o, none⟩ ∧ x < w.heap.size ∧ w.cell? ⟨x, o + j, none⟩ = some (.int .u8 ((R r)[j].toNat : Int))

set_option maxRecDepth 20000 in
set_option maxHeartbeats 1000000 in
theorem given_many (a : Option Addr) (len cap : Nat) (A : Nat → Option Addr) (C : Nat → Nat) (R : Nat → List UInt8) (w : World) (hr : RowsU w a len A C R) (ht : tot R len ≤ 2000000) (hb : 150 < tot R len) :
    Calls Try.prog 7 #[.slice a len cap] w fun e w' => e = .returned (.bool true) ∧ Kept (fun k => k < w.heap.size) w w' := by
  have rk := known_any w
  have HR : Hid (RowsU w a len A C R) := hr
  have HT : Hid (tot R len ≤ 2000000) := ht
  have hlen : len ≤ 2000000 := by have := tot_mono R (Nat.zero_le len); omega
  clear hr ht
  go_enter Try.func7, Try.ntmps7
  go_upto_region 3 with fail
  go_loopg [3, 4] len (fun gh v3 v4 wr => ∃ i : Nat, gh = len - i ∧ i ≤ len ∧ v4 = .int .i64 (i : Int) ∧ v3 = .int .i64 (tot R i : Int) ∧ wr = w)
  case atStart => exact ⟨0, rfl, Nat.zero_le _, rfl, rfl, rfl⟩
  case round =>
    obtain ⟨i, hgi, hi, rfl, rfl, rfl⟩ := hrel
    by_cases hlt : i < len
    · obtain ⟨g, o, rfl, -, hc⟩ := HR.out.top i hlt
      have h1 : tot R (i + 1) ≤ 2000000 := by have := tot_mono R (show i + 1 ≤ len by omega); have := HT.out; omega
      have h2 : tot R (i + 1) = tot R i + ((R i).length + 1) := rfl
      have HE : Hid (tot R (i + 1) = tot R i + ((R i).length + 1)) := h2
      obtain ⟨L, hL⟩ : ∃ L, (R i).length = L := ⟨_, rfl⟩
      obtain ⟨T, hT⟩ : ∃ T, tot R i = T := ⟨_, rfl⟩
      rw [hL] at hc HE
      rw [hL, hT] at h2
      rw [hT] at HE ⊢
      have hs : T + (L + 1) ≤ 2000000 := by omega
      clear h1 h2 hL hT
      go_wp2
      go_roundg (len - (i + 1))
      case rel => exact ⟨i + 1, rfl, by omega, by go_num, by rw [HE.out]; go_num, rfl⟩
      case measure => omega
    · have hin : i = len := by omega
      subst hin
      have hgt : decide ((tot R i : Int) > 150) = true := decide_eq_true (by omega)
      go_wp2_with (go_at_call 8; refine rk.mono ?_; rintro e w1 ⟨rfl, hk1⟩)
      go_ret
      exact ⟨rfl, hk1⟩
end Go.Proofs.Ytbbknbipppaemaa
