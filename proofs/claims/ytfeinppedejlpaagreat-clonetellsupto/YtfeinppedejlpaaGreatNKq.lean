/-
  A document that is made call by call.
-/
import Derived.Test.YtfeinppedejlpaaGreatNR2
namespace Go.Proofs.YtfeinppedejlpaaGreat
open Go.RowKit
set_option linter.unusedVariables false
set_option maxRecDepth 100000
set_option maxHeartbeats 8000000
structure Kn (K : Nat -> Prop) (w : World) (p : Nat) (M : Dm) (R G : Nat -> List Nat) : Prop where
 d : DX K w p M
 inv : ∃ rk, Inv M R G rk
 lim : M.limit <= 100000
 le : M.n <= M.limit
section
variable {K : Nat -> Prop} {w w' : World} {p : Nat} {M : Dm} {R G : Nat -> List Nat}
theorem Kn.new {w0 : World} {limit : Nat} (hX : DX K w p (Dm.new limit)) (h1 : 1 <= limit) (h2 : limit <= 100000) : Kn K w p (Dm.new limit) (fun _ => []) (fun _ => []) := ⟨hX, ⟨_, Inv.new limit⟩, h2, h1⟩
theorem Kn.make (h : Kn K w p M R G) (kz : Int) (kd : Nat) (S D : ByteArray) (nm dt : List UInt8) (hkz : kz = (kd : Int)) (hS : S.toList = nm) (hD : D.toList = dt) (hs : zat ⟨kd, nm, dt, []⟩ = true) (ht : ¬ (kd = 1 /\ nm = [116, 101, 109, 112, 108, 97, 116, 101])) (hr : M.n + 1 <= M.limit) (h6 : kd ≠ 6) (ho : Okd (Mk.nd ⟨kd, nm, dt, []⟩) := by refine ⟨by decide, ?_, fun _ => rfl⟩; first | exact fun h => absurd h (by decide) | exact fun _ => by decide) :
  Calls Tryz.prog 68 #[.pointer (some ⟨p, 0, none⟩), zle kz S D] w fun e w' => e = .returned (.tuple #[.int .i64 (M.n : Int), .int .u16 0]) /\ Kn K w' p (M.add (Mk.nd ⟨kd, nm, dt, []⟩)) (zax R M.n []) (zax G M.n []) /\ Kept K w w' := by
 obtain ⟨rk, hI⟩ := h.inv
 refine (zrz K p M w kz kd S D nm dt hkz hS hD h.d (Nat.le_trans h.le h.lim) h.lim hs ht hr).mono ?_
 rintro e w' ⟨rfl, hX, hk⟩
 have hm := zfc hs
 exact ⟨rfl, ⟨hX, ⟨rk, hI.add _ hm hm.few hs ht (fun e => absurd e h6) ho⟩, h.lim, hr⟩, hk⟩
theorem Kn.ins (h : Kn K w p M R G) {up i : Nat} (bef : Int) (hu : up < M.n) (hi : i < M.n) (hb : bef = -1 \/ ∃ m : Nat, m < M.n /\ bef = (m : Int)) (hF : Fits M up i bef) :
  Calls Tryz.prog 70 #[.pointer (some ⟨p, 0, none⟩), .int .i64 (up : Int), .int .i64 (i : Int), .int .i64 bef] w fun e w' => e = .returned (.int .u16 0) /\ Kn K w' p (M.setP (zd8 M R up i bef)) (zdl M R up i bef) G /\ Kept K w w' := by
 obtain ⟨rk, hI⟩ := h.inv
 refine (zd6 K p up i bef M R rk w h.d hI.good.wf hI.good.acy hu hi hb (by have := h.le; have := h.lim; omega)).mono ?_
 rintro e w' ⟨hK, ⟨_, hn, _⟩ | ⟨e, _, hX⟩⟩
 ·exact absurd hF hn
 ·exact ⟨e, ⟨hX, hI.ins hu hi hF, h.lim, h.le⟩, hK⟩
end
end Go.Proofs.YtfeinppedejlpaaGreat
