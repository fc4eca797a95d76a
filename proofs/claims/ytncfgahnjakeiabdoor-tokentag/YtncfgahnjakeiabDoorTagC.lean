/-
  What the document's SameAttrs and Value answer.
-/
import Derived.Test.YtncfgahnjakeiabDoorKnown
import Derived.Test.YtncfgahnjakeiabDoorMc
namespace Go.Proofs.YtncfgahnjakeiabDoor
open Go.RowKit

set_option maxRecDepth 20000 in
set_option maxHeartbeats 1000000 in
theorem sameA_any (l : List Atr) (aa ab : Option Addr) (ca cb : Nat) (hn : l.length ≤ 100000) (w : World) (ha : AtsIn (fun k => k < w.heap.size) w aa l) (hb : AtsIn (fun k => k < w.heap.size) w ab l) :
    Calls Tryd.prog 14 #[.slice aa l.length ca, .slice ab l.length cb] w fun e w' => e = .returned (.bool true) ∧ ∃ m, w' = w.drewN m := by
  have HA : Hid (AtsIn (fun k => k < w.heap.size) w aa l) := ha
  have HB : Hid (AtsIn (fun k => k < w.heap.size) w ab l) := hb
  obtain ⟨n, hne⟩ : ∃ n, l.length = n := ⟨_, rfl⟩
  have HN : Hid (l.length = n) := hne
  rw [hne] at hn ⊢
  clear ha hb hne
  go_enter Tryd.func14, Tryd.ntmps14
  go_wp2_with fail
  go_loopg [5] n (fun gm i wr => ∃ k m : Nat, gm = n - k ∧ k ≤ n ∧ i = .int .i64 k ∧ wr = w.drewN m)
  case atStart => exact ⟨0, 0, rfl, Nat.zero_le _, rfl, rfl⟩
  case round =>
    obtain ⟨k, m, hgk, hk, rfl, rfl⟩ := hrel
    by_cases hlt : k < n
    · obtain ⟨g, rfl, _, c0, c1⟩ := HA.out k (by rw [HN.out]; exact hlt)
      obtain ⟨g', rfl, _, d0, d1⟩ := HB.out k (by rw [HN.out]; exact hlt)
      clear HA HB
      obtain ⟨U, hU⟩ : ∃ S : ByteArray, (⟨(l[k]'(by rw [HN.out]; exact hlt)).name.toArray⟩ : ByteArray) = S := ⟨_, rfl⟩
      obtain ⟨V, hV⟩ : ∃ S : ByteArray, (⟨(l[k]'(by rw [HN.out]; exact hlt)).value.toArray⟩ : ByteArray) = S := ⟨_, rfl⟩
      replace c0 : w.cell? ⟨g, k * 2, none⟩ = some (.string U) := by rw [← hU]; exact c0
      replace c1 : w.cell? ⟨g, k * 2 + 1, none⟩ = some (.string V) := by rw [← hV]; exact c1
      replace d0 : w.cell? ⟨g', k * 2, none⟩ = some (.string U) := by rw [← hU]; exact d0
      replace d1 : w.cell? ⟨g', k * 2 + 1, none⟩ = some (.string V) := by rw [← hV]; exact d1
      clear hU hV HN
      go_wp2_with fail
      go_quiet (fail)
      go_wp2
      go_roundg (n - (k + 1))
      case rel => exact ⟨k + 1, _, rfl, by omega, by go_num, rfl⟩
      case measure => omega
    · have hkk : k = n := by omega
      subst hkk
      go_wp2
      go_ret
      exact ⟨rfl, m, rfl⟩

end Go.Proofs.YtncfgahnjakeiabDoor
