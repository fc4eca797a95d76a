/-
 A document that is made call by call.; portierelaw13: known.
-/
import Derived.Test.YtljnjdckhkglfaaP23
import Derived.Test.YtljnjdckhkglfaaP12
import Derived.Test.YtljnjdckhkglfaaP10
namespace Go.Proofs.Ytljnjdckhkglfaa
set_option linter.unusedVariables false
set_option maxRecDepth 100000
set_option maxHeartbeats 8000000
section
open Go.RowKit
structure Kn (K : Nat -> Prop) (w : World) (p : Nat) (M : Dm) (R G : Nat -> List Nat) : Prop where
 d : DX K w p M
 inv : ∃ rk, Inv M R G rk
 lim : M.limit <= 100000
 le : M.n <= M.limit
section
variable {K : Nat -> Prop} {w w' : World} {p : Nat} {M : Dm} {R G : Nat -> List Nat}
theorem Kn.kept (h : Kn K w p M R G) (hk : Kept (fun k => k < w.heap.size) w w') : Kn K w' p M R G := ⟨h.d.kept hk, h.inv, h.lim, h.le⟩
theorem Kn.rd (h : Kn K w p M R G) : ∃ rk, Rd K w p M R G rk := by
 obtain ⟨rk, hI⟩ := h.inv
 exact ⟨rk, h.d, hI, Nat.le_trans h.le h.lim⟩
theorem Kn.new {w0 : World} {limit : Nat} (hX : DX K w p (Dm.new limit)) (h1 : 1 <= limit) (h2 : limit <= 100000) : Kn K w p (Dm.new limit) (fun _ => []) (fun _ => []) := ⟨hX, ⟨_, Inv.new limit⟩, h2, h1⟩
theorem Kn.make (h : Kn K w p M R G) (kz : Int) (kd : Nat) (S D : ByteArray) (nm dt : List UInt8) (hkz : kz = (kd : Int)) (hS : S.toList = nm) (hD : D.toList = dt) (hs : soundN ⟨kd, nm, dt, []⟩ = true) (ht : ¬ (kd = 1 /\ nm = [116, 101, 109, 112, 108, 97, 116, 101])) (hr : M.n + 1 <= M.limit) :
  Calls Try.prog 16 #[.pointer (some ⟨p, 0, none⟩), plainV kz S D] w fun e w' => e = .returned (.tuple #[.int .i64 (M.n : Int), .int .u16 0]) /\ Kn K w' p (M.add (Mk.nd ⟨kd, nm, dt, []⟩)) (updR R M.n []) (updR G M.n []) /\ Kept K w w' := by
 obtain ⟨rk, hI⟩ := h.inv
 refine (make1 K p M w kz kd S D nm dt hkz hS hD h.d (Nat.le_trans h.le h.lim) h.lim hs ht hr).mono ?_
 rintro e w' ⟨rfl, hX, hk⟩
 have hm := soundN_ok hs
 exact ⟨rfl, ⟨hX, ⟨rk, hI.add _ hm hm.few⟩, h.lim, hr⟩, hk⟩
theorem Kn.root (h : Kn K w p M R G) {host : Nat} (f : Fg) (hh : host < M.n) (hk : (M.nd host).kind = 1) (hs : (M.nd host).shadow = -1) (hr : M.n + 1 <= M.limit) :
  Calls Try.prog 22 #[.pointer (some ⟨p, 0, none⟩), .int .i64 (host : Int), fgV f] w fun e w' => e = .returned (.tuple #[.int .i64 (M.n : Int), .int .u16 0]) /\ Kn K w' p (M.addR host f) (updR R M.n []) (updR G M.n []) /\ Kept K w w' := by
 obtain ⟨rk, hI⟩ := h.inv
 refine (root_in K p host M f w h.d hh (Nat.le_trans h.le h.lim) h.lim).mono ?_
 rintro e w' ⟨hK, hR⟩
 cases hR with
 | host a _ _ => exact absurd hk a
 | twice _ a _ _ => exact absurd hs a
 | full _ _ a _ _ => omega
 | made _ _ _ e hX => exact ⟨e, ⟨hX, hI.addR f hh hk hs, h.lim, hr⟩, hK⟩
theorem Kn.ins (h : Kn K w p M R G) {up i : Nat} (bef : Int) (hu : up < M.n) (hi : i < M.n) (hb : bef = -1 \/ ∃ m : Nat, m < M.n /\ bef = (m : Int)) (hF : Fits M up i bef) :
  Calls Try.prog 17 #[.pointer (some ⟨p, 0, none⟩), .int .i64 (up : Int), .int .i64 (i : Int), .int .i64 bef] w fun e w' => e = .returned (.int .u16 0) /\ Kn K w' p (M.setP (putD M R up i bef)) (putDR M R up i bef) G /\ Kept K w w' := by
 obtain ⟨rk, hI⟩ := h.inv
 refine (insert_in K p up i bef M R rk w h.d hI.good.wf hI.good.acy hu hi hb (by have := h.le; have := h.lim; omega)).mono ?_
 rintro e w' ⟨hK, ⟨_, hn, _⟩ | ⟨e, _, hX⟩⟩
 ·exact absurd hF hn
 ·exact ⟨e, ⟨hX, hI.ins hu hi hF, h.lim, h.le⟩, hK⟩
end
abbrev fg0 : Fg := ⟨false, false, false, false, false⟩
abbrev slotBB : ByteArray := ⟨#[115, 108, 111, 116]⟩
theorem sound_sl : soundN ⟨1, [115, 108, 111, 116], [], []⟩ = true := by kernel_rfl
theorem slotBB_list : slotBB.toList = [115, 108, 111, 116] := by rw [ByteArray.toList_eq]
def slN : Nd := Mk.nd ⟨1, [115, 108, 111, 116], [], []⟩
def txN : Nd := Mk.nd ⟨2, [], [120], []⟩
def q4 : Dm := ((((Dm.new 9).add divN).add txN).add slN).addR 1 fg0
def q4R : Nat -> List Nat := updR (updR (updR (updR (fun _ => []) 1 []) 2 []) 3 []) 4 []
def q5 : Dm := q4.setP (putD q4 q4R 1 2 (-1))
def q5R : Nat -> List Nat := putDR q4 q4R 1 2 (-1)
def q6 : Dm := q5.setP (putD q5 q5R 4 3 (-1))
def q6R : Nat -> List Nat := putDR q5 q5R 4 3 (-1)
theorem wi_end {M : Dm} {i k : Nat} (h : parI M k = -1) (hk : k ≠ i) : ¬ Wi M i k := fun hw => by
 cases hw with
 | here => exact hk rfl
 | up e _ => omega
theorem wi_step {M : Dm} {i k m : Nat} (h : parI M k = (m : Int)) (hk : k ≠ i) (hm : ¬ Wi M i m) : ¬ Wi M i k := fun hw => by
 cases hw with
 | here => exact hk rfl
 | @up _ m' e h' =>
  have : m' = m := by omega
  exact hm (this ▸ h')
theorem qF4 : Fits q4 1 2 (-1) := ⟨by kernel_rfl, by kernel_rfl, wi_end (by kernel_rfl) (by decide), .inl rfl⟩
theorem qF5 : Fits q5 4 3 (-1) := ⟨by kernel_rfl, by kernel_rfl, wi_step (m := 1) (by kernel_rfl) (by decide) (wi_end (by kernel_rfl) (by decide)), .inl rfl⟩
section
variable {G : Nat -> List Nat} {rk : Nat -> Nat}
theorem q6of : ofZ q6 3 = 4 := ofZ_eq (M := q6) (i := 3) (z := 4) (by decide +kernel) (.yes (t := 4) (.up (m := 4) (by kernel_rfl) (.here (by kernel_rfl))) (by kernel_rfl))
theorem q6asg : asgL q6 q6R G 3 = [2] := by
 unfold asgL
 have h1 : isSl (q6.nd 3) = true := by kernel_rfl
 have e : ofZ q6 ((3 : Nat) : Int) = 4 := q6of
 rw [h1, e, if_neg (by simp)]
 show shwL q6 q6R G 3 4 = [2]
 unfold shwL
 have hb : (q6.nd 4).fl.b = false := by kernel_rfl
 rw [hb, if_neg (by simp)]
 have hf : fstS q6 q6R (atV nameN (q6.nd 3).attrs) 4 = ((3 : Nat) : Int) := by kernel_rfl
 rw [if_pos hf]
 have hr : (q6R (q6.nd 4).host.toNat).filter (fun k => asksB (atV nameN (q6.nd 3).attrs) (q6.nd k)) = [2] := by kernel_rfl
 exact hr
theorem q6asg2 : asgL q6 q6R G 2 = [] := by
 unfold asgL
 have h1 : isSl (q6.nd 2) = false := by kernel_rfl
 rw [if_pos (.inl h1)]
theorem q6K1 : fK q6 q6R G 1 = [3] := by
 have h : (q6.nd 1).shadow = 4 := by kernel_rfl
 have hr : q6R 4 = [3] := by kernel_rfl
 unfold fK
 rw [h, if_pos (by decide)]
 exact hr
theorem q6K3 : fK q6 q6R G 3 = [2] := by
 have h : (q6.nd 3).shadow = -1 := by kernel_rfl
 unfold fK
 rw [h, if_neg (by decide), q6asg, if_neg (by simp)]
theorem q6K2 : fK q6 q6R G 2 = [] := by
 have h : (q6.nd 2).shadow = -1 := by kernel_rfl
 have hr : q6R 2 = [] := by kernel_rfl
 unfold fK
 rw [h, if_neg (by decide), q6asg2, if_pos rfl]
 exact hr
theorem q6W (h : Inv q6 q6R G rk) : tr q6.n (fK q6 q6R G) 1 = [1, 3, 2] := by
 have hF := h.fK_falls
 have n5 : q6.n = 5 := by kernel_rfl
 rw [tr_eq hF (by rw [n5]; decide), q6K1, List.flatMap_singleton, tr_eq hF (by rw [n5]; decide), q6K3, List.flatMap_singleton, tr_eq hF (by rw [n5]; decide), q6K2, List.flatMap_nil]
theorem q6U2 (h : Inv q6 q6R G rk) : upZ q6 q6R G 2 = 3 := by
 have n5 : q6.n = 5 := by kernel_rfl
 have := (h.fK_mem (i := 3) (k := 2) (by rw [n5]; decide) (by rw [q6K3]; simp)).2.2.2.1 (by decide +kernel)
 exact this
theorem q6U3 (h : Inv q6 q6R G rk) : upZ q6 q6R G 3 = 1 := by
 have n5 : q6.n = 5 := by kernel_rfl
 have := (h.fK_mem (i := 1) (k := 3) (by rw [n5]; decide) (by rw [q6K1]; simp)).2.2.2.1 (by decide +kernel)
 exact this
end
end
section
open Go.RowKit
theorem one_cell {w : World} {l : List Nat} {K : Nat -> Prop} {ao : Option Addr} {c x n : Nat} (hO : OwnZ K w 3 1 ao n c (ivs (x :: l))) : ∃ g, ao = some ⟨g, 0, none⟩ /\ g < w.heap.size /\ w.cell? ⟨g, 0, none⟩ = some (.int .i64 (x : Int)) := by
 obtain ⟨g, e, h0⟩ := hO.cell (j := 0) (u := .int .i64 (x : Int)) rfl
 exact ⟨g, e, (hO.out (g := g) e).2, h0⟩
theorem fknown_any (w : World) : Calls Try.prog 29 #[] w fun e w' => e = .returned (.bool true) /\ Kept (fun k => k < w.heap.size) w w' := by
 have r0 := new_yes 9 w (by decide) (by decide)
 go_enter Try.func29, Try.ntmps29
 go_wp2_with fail
 refine r0.mono ?_
 rintro e w1 ⟨p, rfl, hp, hX1, hK1⟩
 have k1 : Kn (fun k => k < w.heap.size) w1 p (Dm.new 9) (fun _ => []) (fun _ => []) := Kn.new (w0 := w) hX1 (by decide) (by decide)
 have r1 := k1.make 1 1 divB ⟨#[]⟩ [100, 105, 118] [] rfl divB_list empB_list sound_div (by decide) (by decide)
 have HK1 : Hid (Kept (fun k => k < w.heap.size) w w1) := hK1
 clear r0 hX1 hK1 k1 hp
 go_wp2_with fail
 refine r1.mono ?_
 rintro e w2 ⟨rfl, k2, hK2⟩
 have r2 := k2.make 2 2 ⟨#[]⟩ ⟨#[120]⟩ [] [120] rfl empB_list xB_list sound_txt (by decide) (by decide)
 have HK2 : Hid (Kept (fun k => k < w.heap.size) w w2) := HK1.out.trans hK2
 clear r1 k2 hK2
 go_wp2_with fail
 refine r2.mono ?_
 rintro e w3 ⟨rfl, k3, hK3⟩
 have r3 := k3.make 1 1 slotBB ⟨#[]⟩ [115, 108, 111, 116] [] rfl slotBB_list empB_list sound_sl (by decide) (by decide)
 have HK3 : Hid (Kept (fun k => k < w.heap.size) w w3) := HK2.out.trans hK3
 clear r2 k3 hK3
 go_wp2_with fail
 refine r3.mono ?_
 rintro e w4 ⟨rfl, k4, hK4⟩
 have r4 := k4.root (host := 1) fg0 (by decide) (by kernel_rfl) (by kernel_rfl) (by decide)
 have HK4 : Hid (Kept (fun k => k < w.heap.size) w w4) := HK3.out.trans hK4
 clear r3 k4 hK4
 go_wp2_with fail
 refine r4.mono ?_
 rintro e w5 ⟨rfl, k5, hK5⟩
 have k5' : ∃ G, Kn (fun k => k < w.heap.size) w5 p q4 q4R G := ⟨_, k5⟩
 obtain ⟨G, k5⟩ := k5'
 have r5 := k5.ins (up := 1) (i := 2) (-1) (by decide +kernel) (by decide +kernel) (.inl rfl) qF4
 have HK5 : Hid (Kept (fun k => k < w.heap.size) w w5) := HK4.out.trans hK5
 clear r4 hK5 k5
 go_wp2_with fail
 refine r5.mono ?_
 rintro e w6 ⟨rfl, k6, hK6⟩
 have k6' : Kn (fun k => k < w.heap.size) w6 p q5 q5R G := k6
 have r6 := k6'.ins (up := 4) (i := 3) (-1) (by decide +kernel) (by decide +kernel) (.inl rfl) qF5
 have HK6 : Hid (Kept (fun k => k < w.heap.size) w w6) := HK5.out.trans hK6
 clear r5 hK6 k6 k6'
 go_wp2_with fail
 refine r6.mono ?_
 rintro e w7 ⟨rfl, k7, hK7⟩
 have k7' : Kn (fun k => k < w.heap.size) w7 p q6 q6R G := k7
 obtain ⟨rk, hR⟩ := k7'.rd
 have HK7 : Hid (Kept (fun k => k < w.heap.size) w w7) := HK6.out.trans hK7
 have HR : Hid (Rd (fun k => k < w.heap.size) w7 p q6 q6R G rk) := hR
 have n5 : q6.n = 5 := by kernel_rfl
 have ra := hR.kids 1
 have ea : fKI q6 q6R G 1 = [3] := (fKI_in (i := 1) (by rw [n5]; decide)).trans q6K1
 rw [ea] at ra
 have RB : Hid (∀ X, Kept (fun k => k < w7.heap.size) w7 X -> Calls Try.prog 30 #[.pointer (some ⟨p, 0, none⟩), .int .i64 3] X (Lst X [2])) := fun X hX => by
  have := (HR.out.kept hX).kids 3
  rw [show fKI q6 q6R G 3 = [2] from (fKI_in (i := 3) (by rw [n5]; decide)).trans q6K3] at this
  exact this
 have RW : Hid (∀ X, Kept (fun k => k < w7.heap.size) w7 X -> Calls Try.prog 68 #[.pointer (some ⟨p, 0, none⟩), .int .i64 1] X (Lst X [1, 3, 2])) := fun X hX => by
  have := (HR.out.kept hX).walk 1
  rw [show trI q6.n (fK q6 q6R G) 1 = [1, 3, 2] from (trI_in (i := 1) (by rw [n5]; decide)).trans (q6W HR.out.inv)] at this
  exact this
 have RU2 : Hid (∀ X, Kept (fun k => k < w7.heap.size) w7 X -> Calls Try.prog 31 #[.pointer (some ⟨p, 0, none⟩), .int .i64 2] X fun e w' => e = .returned (.int .i64 3) /\ Kept (fun k => k < X.heap.size) X w') := fun X hX => by
  have := (HR.out.kept hX).up 2
  rw [show upI q6 q6R G 2 = 3 from (upI_in (i := 2) (by rw [n5]; decide)).trans (q6U2 HR.out.inv)] at this
  exact this
 have RU3 : Hid (∀ X, Kept (fun k => k < w7.heap.size) w7 X -> Calls Try.prog 31 #[.pointer (some ⟨p, 0, none⟩), .int .i64 3] X fun e w' => e = .returned (.int .i64 1) /\ Kept (fun k => k < X.heap.size) X w') := fun X hX => by
  have := (HR.out.kept hX).up 3
  rw [show upI q6 q6R G 3 = 1 from (upI_in (i := 3) (by rw [n5]; decide)).trans (q6U3 HR.out.inv)] at this
  exact this
 clear r6 hK7 k7 k7' hR ea n5
 go_wp2_with fail
 refine ra.mono ?_
 rintro e w8 ⟨ga, ca, rfl, hO8, hk8⟩
 obtain ⟨g8, rfl, hg8, c8⟩ := one_cell hO8
 have rb := RB.out w8 hk8
 have HK8 : Hid (Kept (fun k => k < w7.heap.size) w7 w8) := hk8
 clear ra hO8 hk8
 go_wp2_with fail
 refine rb.mono ?_
 rintro e w9 ⟨gb, cb, rfl, hO9, hk9⟩
 obtain ⟨g9, rfl, hg9, c9⟩ := one_cell hO9
 have k79 : Kept (fun k => k < w7.heap.size) w7 w9 := HK8.out.trans (hk9.mono fun k h => Nat.lt_of_lt_of_le h HK8.out.size)
 have rw1 := RW.out w9 k79
 have d8 : w9.cell? ⟨g8, 0, none⟩ = some (.int .i64 3) := (hk9.cell (p := ⟨g8, 0, none⟩) hg8).trans c8
 have hg8' : g8 < w9.heap.size := Nat.lt_of_lt_of_le hg8 hk9.size
 have HK9 : Hid (Kept (fun k => k < w7.heap.size) w7 w9) := k79
 clear rb hO9 hk9 k79 c8 hg8
 go_wp2_with fail
 refine rw1.mono ?_
 rintro e w10 ⟨gc, cc, rfl, -, hk10⟩
 have k710 : Kept (fun k => k < w7.heap.size) w7 w10 := HK9.out.trans (hk10.mono fun k h => Nat.lt_of_lt_of_le h HK9.out.size)
 have e8 : w10.cell? ⟨g8, 0, none⟩ = some (.int .i64 3) := (hk10.cell (p := ⟨g8, 0, none⟩) hg8').trans d8
 have e9 : w10.cell? ⟨g9, 0, none⟩ = some (.int .i64 2) := (hk10.cell (p := ⟨g9, 0, none⟩) hg9).trans c9
 have ru2 := RU2.out w10 k710
 have HK10 : Hid (Kept (fun k => k < w7.heap.size) w7 w10) := k710
 clear rw1 hk10 k710 d8 c9 hg8' hg9
 go_wp2_with fail
 refine ru2.mono ?_
 rintro e w11 ⟨rfl, hk11⟩
 have k711 : Kept (fun k => k < w7.heap.size) w7 w11 := HK10.out.trans (hk11.mono fun k h => Nat.lt_of_lt_of_le h HK10.out.size)
 have ru3 := RU3.out w11 k711
 have HK11 : Hid (Kept (fun k => k < w7.heap.size) w7 w11) := k711
 clear ru2 hk11 k711 e8 e9
 go_wp2_with fail
 refine ru3.mono ?_
 rintro e w12 ⟨rfl, hk12⟩
 have HK12 : Hid (Kept (fun k => k < w.heap.size) w w12) := (HK7.out.trans (HK11.out.mono fun k h => Nat.lt_of_lt_of_le h HK7.out.size)).trans (hk12.mono fun k h => Nat.lt_of_lt_of_le h (Nat.le_trans HK7.out.size HK11.out.size))
 clear ru3 hk12
 go_wp2
 go_ret
 exact ⟨rfl, HK12.out⟩
end
end Go.Proofs.Ytljnjdckhkglfaa
