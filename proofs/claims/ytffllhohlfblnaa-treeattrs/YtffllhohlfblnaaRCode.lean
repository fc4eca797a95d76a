/-
  What the document's code answers.
-/
import Derived.Test.YtffllhohlfblnaaLead
import Derived.Deep.QuietTactic
import Derived.BigQuiet
namespace Go.Proofs.Ytffllhohlfblnaa
open Go.RowKit
def bareS : ByteArray := ⟨#[98, 98, 98, 98, 46, 98, 98, 98, 46, 46, 46, 46, 46, 46, 46, 46, 98, 98, 98, 98, 98, 46]⟩
theorem code_at (k : Nat) (h : k < 22) : (names.map fun r => Value.int .i32 (r.code : Int))[k]'h = .int .i32 (names[k]'h).code := List.getElem_map ..
theorem name_at (k : Nat) (h : k < 22) : (names.map fun r => Value.string (nmB r))[k]'h = .string (nmB (names[k]'h)) := List.getElem_map ..
theorem bare_at (k : Nat) (h : k < 22) : Value.bool ((((bareS[k]'h).toNat : Int)) == 98) = .bool (names[k]'h).bare := by
  have key : ∀ k : Fin 22, ((((bareS[k.val]'k.isLt).toNat : Int)) == 98) = (names[k.val]'k.isLt).bare := by decide
  exact congrArg Value.bool (key ⟨k, h⟩)
theorem tup_of {a b c a' b' c' : Value} (h1 : a = a') (h2 : b = b') (h3 : c = c') : Ending.returned (.tuple #[a, b, c]) = Ending.returned (.tuple #[a', b', c']) := by rw [h1, h2, h3]
set_option maxRecDepth 20000 in
set_option maxHeartbeats 4000000 in
theorem rcode_any (k : Nat) (hk : k < 22) (K : Nat → Prop) (w : World) (hK : ∀ k, K k → k < w.heap.size) :
    Calls Try.prog 37 #[.int .i64 k] w fun e w' => e = .returned (.tuple #[.int .i32 (names[k]'hk).code, .string (nmB (names[k]'hk)), .bool (names[k]'hk).bare]) ∧ Kept K w w' := by
  have kk : ∀ o o' n, Kept K w (((w.alloc o).alloc o').drewN n) := fun o o' n => (((Kept.refl K w).alloc hK o).alloc (fun k hk => by have := hK k hk; simp; omega) o').drewN n
  have hk' : (k : Int) < 22 := by omega
  go_enter Try.func37, Try.ntmps37
  go_wp2_with fail
  go_quiet (fail)
  go_wp2
  go_ret3
  exact ⟨tup_of (code_at k hk) (name_at k hk) (bare_at k hk), kk _ _ _⟩
end Go.Proofs.Ytffllhohlfblnaa
