/-
  A document that is made call by call.
-/
import Derived.Test.YtkngpgkldkohgaaGreatB32
namespace Go.Proofs.YtkngpgkldkohgaaGreat
open Go.RowKit
set_option linter.unusedVariables false
set_option maxRecDepth 100000
set_option maxHeartbeats 8000000
structure Kn (K : Nat -> Prop) (w : World) (p : Nat) (M : Dm) (R G : Nat -> List Nat) : Prop where
 d : DX K w p M
 inv : ∃ rk, Inv M R G rk
 lim : M.limit <= 100000
 le : M.n <= M.limit
section
variable {K : Nat -> Prop} {w w' : World} {p : Nat} {M : Dm} {R G : Nat -> List Nat}
theorem Kn.kept (h : Kn K w p M R G) (hk : Kept (fun k => k < w.heap.size) w w') : Kn K w' p M R G := ⟨h.d.kept hk, h.inv, h.lim, h.le⟩
theorem Kn.new {w0 : World} {limit : Nat} (hX : DX K w p (Dm.new limit)) (h1 : 1 <= limit) (h2 : limit <= 100000) : Kn K w p (Dm.new limit) (fun _ => []) (fun _ => []) := ⟨hX, ⟨_, Inv.new limit⟩, h2, h1⟩
theorem Kn.make (h : Kn K w p M R G) (kz : Int) (kd : Nat) (S D : ByteArray) (nm dt : List UInt8) (hkz : kz = (kd : Int)) (hS : S.toList = nm) (hD : D.toList = dt) (hs : soundN ⟨kd, nm, dt, []⟩ = true) (ht : ¬ (kd = 1 /\ nm = [116, 101, 109, 112, 108, 97, 116, 101])) (hr : M.n + 1 <= M.limit) (h6 : kd ≠ 6) :
  Calls Tryz.prog 60 #[.pointer (some ⟨p, 0, none⟩), plainV kz S D] w fun e w' => e = .returned (.tuple #[.int .i64 (M.n : Int), .int .u16 0]) /\ Kn K w' p (M.add (Mk.nd ⟨kd, nm, dt, []⟩)) (updR R M.n []) (updR G M.n []) /\ Kept K w w' := by
 obtain ⟨rk, hI⟩ := h.inv
 refine (make1 K p M w kz kd S D nm dt hkz hS hD h.d (Nat.le_trans h.le h.lim) h.lim hs ht hr).mono ?_
 rintro e w' ⟨rfl, hX, hk⟩
 have hm := soundN_ok hs
 exact ⟨rfl, ⟨hX, ⟨rk, hI.add _ hm hm.few hs ht (fun e => absurd e h6)⟩, h.lim, hr⟩, hk⟩
theorem Kn.root (h : Kn K w p M R G) {host : Nat} (f : Fg) (hh : host < M.n) (hk : (M.nd host).kind = 1) (hs : (M.nd host).shadow = -1) (hr : M.n + 1 <= M.limit) :
  Calls Tryz.prog 61 #[.pointer (some ⟨p, 0, none⟩), .int .i64 (host : Int), fgV f] w fun e w' => e = .returned (.tuple #[.int .i64 (M.n : Int), .int .u16 0]) /\ Kn K w' p (M.addR host f) (updR R M.n []) (updR G M.n []) /\ Kept K w w' := by
 obtain ⟨rk, hI⟩ := h.inv
 refine (root_in K p host M f w h.d hh (Nat.le_trans h.le h.lim) h.lim).mono ?_
 rintro e w' ⟨hK, hR⟩
 cases hR with
 | host a _ _ => exact absurd hk a
 | twice _ a _ _ => exact absurd hs a
 | full _ _ a _ _ => omega
 | made _ _ _ e hX => exact ⟨e, ⟨hX, hI.addR f hh hk hs, h.lim, hr⟩, hK⟩
theorem Kn.ins (h : Kn K w p M R G) {up i : Nat} (bef : Int) (hu : up < M.n) (hi : i < M.n) (hb : bef = -1 \/ ∃ m : Nat, m < M.n /\ bef = (m : Int)) (hF : Fits M up i bef) :
  Calls Tryz.prog 62 #[.pointer (some ⟨p, 0, none⟩), .int .i64 (up : Int), .int .i64 (i : Int), .int .i64 bef] w fun e w' => e = .returned (.int .u16 0) /\ Kn K w' p (M.setP (putD M R up i bef)) (putDR M R up i bef) G /\ Kept K w w' := by
 obtain ⟨rk, hI⟩ := h.inv
 refine (insert_in K p up i bef M R rk w h.d hI.good.wf hI.good.acy hu hi hb (by have := h.le; have := h.lim; omega)).mono ?_
 rintro e w' ⟨hK, ⟨_, hn, _⟩ | ⟨e, _, hX⟩⟩
 ·exact absurd hF hn
 ·exact ⟨e, ⟨hX, hI.ins hu hi hF, h.lim, h.le⟩, hK⟩
end

end Go.Proofs.YtkngpgkldkohgaaGreat
