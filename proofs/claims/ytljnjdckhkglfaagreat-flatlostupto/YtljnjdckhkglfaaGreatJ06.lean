/-
 A document that is made call by call.; portierelaw13: known.; The walk of FlatTree.; The document's own slots: value, Shown, Is.
-/
import Derived.Test.YtljnjdckhkglfaaGreatJ05
import Derived.Test.YtljnjdckhkglfaaGreatB15
import Derived.Test.YtljnjdckhkglfaaGreatB16
import Derived.Test.YtljnjdckhkglfaaGreatB30
import Derived.Test.YtljnjdckhkglfaaGreatB32
import Derived.Test.YtljnjdckhkglfaaGreatB29
import Derived.Test.YtljnjdckhkglfaaGreatB26
import Derived.Test.YtljnjdckhkglfaaGreatB17
import Derived.Test.YtljnjdckhkglfaaGreatB33
import Derived.Laws.MakeOwn
import Derived.Laws.OwnMore
import Derived.Deep.MidRow
namespace Go.Proofs.YtljnjdckhkglfaaGreat
set_option linter.unusedVariables false
set_option maxRecDepth 100000
set_option maxHeartbeats 8000000
section
open Go.RowKit
structure Kn (K : Nat -> Prop) (w : World) (p : Nat) (M : Dm) (R G : Nat -> List Nat) : Prop where
 d : DX K w p M
 inv : ∃ rk, Inv M R G rk
 lim : M.limit <= 100000
 le : M.n <= M.limit
section
variable {K : Nat -> Prop} {w w' : World} {p : Nat} {M : Dm} {R G : Nat -> List Nat}
theorem Kn.kept (h : Kn K w p M R G) (hk : Kept (fun k => k < w.heap.size) w w') : Kn K w' p M R G := ⟨h.d.kept hk, h.inv, h.lim, h.le⟩
theorem Kn.rd (h : Kn K w p M R G) : ∃ rk, Rd K w p M R G rk := by
 obtain ⟨rk, hI⟩ := h.inv
 exact ⟨rk, h.d, hI, Nat.le_trans h.le h.lim⟩
theorem Kn.new {w0 : World} {limit : Nat} (hX : DX K w p (Dm.new limit)) (h1 : 1 <= limit) (h2 : limit <= 100000) : Kn K w p (Dm.new limit) (fun _ => []) (fun _ => []) := ⟨hX, ⟨_, Inv.new limit⟩, h2, h1⟩
theorem Kn.make (h : Kn K w p M R G) (kz : Int) (kd : Nat) (S D : ByteArray) (nm dt : List UInt8) (hkz : kz = (kd : Int)) (hS : S.toList = nm) (hD : D.toList = dt) (hs : soundN ⟨kd, nm, dt, []⟩ = true) (ht : ¬ (kd = 1 /\ nm = [116, 101, 109, 112, 108, 97, 116, 101])) (hr : M.n + 1 <= M.limit) :
  Calls Tryz.prog 58 #[.pointer (some ⟨p, 0, none⟩), plainV kz S D] w fun e w' => e = .returned (.tuple #[.int .i64 (M.n : Int), .int .u16 0]) /\ Kn K w' p (M.add (Mk.nd ⟨kd, nm, dt, []⟩)) (updR R M.n []) (updR G M.n []) /\ Kept K w w' := by
 obtain ⟨rk, hI⟩ := h.inv
 refine (make1 K p M w kz kd S D nm dt hkz hS hD h.d (Nat.le_trans h.le h.lim) h.lim hs ht hr).mono ?_
 rintro e w' ⟨rfl, hX, hk⟩
 have hm := soundN_ok hs
 exact ⟨rfl, ⟨hX, ⟨rk, hI.add _ hm hm.few⟩, h.lim, hr⟩, hk⟩
theorem Kn.root (h : Kn K w p M R G) {host : Nat} (f : Fg) (hh : host < M.n) (hk : (M.nd host).kind = 1) (hs : (M.nd host).shadow = -1) (hr : M.n + 1 <= M.limit) :
  Calls Tryz.prog 59 #[.pointer (some ⟨p, 0, none⟩), .int .i64 (host : Int), fgV f] w fun e w' => e = .returned (.tuple #[.int .i64 (M.n : Int), .int .u16 0]) /\ Kn K w' p (M.addR host f) (updR R M.n []) (updR G M.n []) /\ Kept K w w' := by
 obtain ⟨rk, hI⟩ := h.inv
 refine (root_in K p host M f w h.d hh (Nat.le_trans h.le h.lim) h.lim).mono ?_
 rintro e w' ⟨hK, hR⟩
 cases hR with
 | host a _ _ => exact absurd hk a
 | twice _ a _ _ => exact absurd hs a
 | full _ _ a _ _ => omega
 | made _ _ _ e hX => exact ⟨e, ⟨hX, hI.addR f hh hk hs, h.lim, hr⟩, hK⟩
theorem Kn.ins (h : Kn K w p M R G) {up i : Nat} (bef : Int) (hu : up < M.n) (hi : i < M.n) (hb : bef = -1 \/ ∃ m : Nat, m < M.n /\ bef = (m : Int)) (hF : Fits M up i bef) :
  Calls Tryz.prog 60 #[.pointer (some ⟨p, 0, none⟩), .int .i64 (up : Int), .int .i64 (i : Int), .int .i64 bef] w fun e w' => e = .returned (.int .u16 0) /\ Kn K w' p (M.setP (putD M R up i bef)) (putDR M R up i bef) G /\ Kept K w w' := by
 obtain ⟨rk, hI⟩ := h.inv
 refine (insert_in K p up i bef M R rk w h.d hI.good.wf hI.good.acy hu hi hb (by have := h.le; have := h.lim; omega)).mono ?_
 rintro e w' ⟨hK, ⟨_, hn, _⟩ | ⟨e, _, hX⟩⟩
 ·exact absurd hF hn
 ·exact ⟨e, ⟨hX, hI.ins hu hi hF, h.lim, h.le⟩, hK⟩
end
abbrev fg0 : Fg := ⟨false, false, false, false, false⟩
abbrev slotBB : ByteArray := ⟨#[115, 108, 111, 116]⟩
theorem sound_sl : soundN ⟨1, [115, 108, 111, 116], [], []⟩ = true := by kernel_rfl
theorem slotBB_list : slotBB.toList = [115, 108, 111, 116] := by rw [ByteArray.toList_eq]
def slN : Nd := Mk.nd ⟨1, [115, 108, 111, 116], [], []⟩
def txN : Nd := Mk.nd ⟨2, [], [120], []⟩
def q4 : Dm := ((((Dm.new 9).add divN).add txN).add slN).addR 1 fg0
def q4R : Nat -> List Nat := updR (updR (updR (updR (fun _ => []) 1 []) 2 []) 3 []) 4 []
def q5 : Dm := q4.setP (putD q4 q4R 1 2 (-1))
def q5R : Nat -> List Nat := putDR q4 q4R 1 2 (-1)
def q6 : Dm := q5.setP (putD q5 q5R 4 3 (-1))
def q6R : Nat -> List Nat := putDR q5 q5R 4 3 (-1)
theorem wi_end {M : Dm} {i k : Nat} (h : parI M k = -1) (hk : k ≠ i) : ¬ Wi M i k := fun hw => by
 cases hw with
 | here => exact hk rfl
 | up e _ => omega
theorem wi_step {M : Dm} {i k m : Nat} (h : parI M k = (m : Int)) (hk : k ≠ i) (hm : ¬ Wi M i m) : ¬ Wi M i k := fun hw => by
 cases hw with
 | here => exact hk rfl
 | @up _ m' e h' =>
  have : m' = m := by omega
  exact hm (this ▸ h')
theorem qF4 : Fits q4 1 2 (-1) := ⟨by kernel_rfl, by kernel_rfl, wi_end (by kernel_rfl) (by decide), .inl rfl⟩
theorem qF5 : Fits q5 4 3 (-1) := ⟨by kernel_rfl, by kernel_rfl, wi_step (m := 1) (by kernel_rfl) (by decide) (wi_end (by kernel_rfl) (by decide)), .inl rfl⟩
section
variable {G : Nat -> List Nat} {rk : Nat -> Nat}
theorem q6of : ofZ q6 3 = 4 := ofZ_eq (M := q6) (i := 3) (z := 4) (by decide +kernel) (.yes (t := 4) (.up (m := 4) (by kernel_rfl) (.here (by kernel_rfl))) (by kernel_rfl))
theorem q6asg : asgL q6 q6R G 3 = [2] := by
 unfold asgL
 have h1 : isSl (q6.nd 3) = true := by kernel_rfl
 have e : ofZ q6 ((3 : Nat) : Int) = 4 := q6of
 rw [h1, e, if_neg (by simp)]
 show shwL q6 q6R G 3 4 = [2]
 unfold shwL
 have hb : (q6.nd 4).fl.b = false := by kernel_rfl
 rw [hb, if_neg (by simp)]
 have hf : fstS q6 q6R (atV nameN (q6.nd 3).attrs) 4 = ((3 : Nat) : Int) := by kernel_rfl
 rw [if_pos hf]
 have hr : (q6R (q6.nd 4).host.toNat).filter (fun k => asksB (atV nameN (q6.nd 3).attrs) (q6.nd k)) = [2] := by kernel_rfl
 exact hr
theorem q6asg2 : asgL q6 q6R G 2 = [] := by
 unfold asgL
 have h1 : isSl (q6.nd 2) = false := by kernel_rfl
 rw [if_pos (.inl h1)]
theorem q6K1 : fK q6 q6R G 1 = [3] := by
 have h : (q6.nd 1).shadow = 4 := by kernel_rfl
 have hr : q6R 4 = [3] := by kernel_rfl
 unfold fK
 rw [h, if_pos (by decide)]
 exact hr
theorem q6K3 : fK q6 q6R G 3 = [2] := by
 have h : (q6.nd 3).shadow = -1 := by kernel_rfl
 unfold fK
 rw [h, if_neg (by decide), q6asg, if_neg (by simp)]
theorem q6K2 : fK q6 q6R G 2 = [] := by
 have h : (q6.nd 2).shadow = -1 := by kernel_rfl
 have hr : q6R 2 = [] := by kernel_rfl
 unfold fK
 rw [h, if_neg (by decide), q6asg2, if_pos rfl]
 exact hr
theorem q6W (h : Inv q6 q6R G rk) : tr q6.n (fK q6 q6R G) 1 = [1, 3, 2] := by
 have hF := h.fK_falls
 have n5 : q6.n = 5 := by kernel_rfl
 rw [tr_eq hF (by rw [n5]; decide), q6K1, List.flatMap_singleton, tr_eq hF (by rw [n5]; decide), q6K3, List.flatMap_singleton, tr_eq hF (by rw [n5]; decide), q6K2, List.flatMap_nil]
theorem q6U2 (h : Inv q6 q6R G rk) : upZ q6 q6R G 2 = 3 := by
 have n5 : q6.n = 5 := by kernel_rfl
 have := (h.fK_mem (i := 3) (k := 2) (by rw [n5]; decide) (by rw [q6K3]; simp)).2.2.2.1 (by decide +kernel)
 exact this
theorem q6U3 (h : Inv q6 q6R G rk) : upZ q6 q6R G 3 = 1 := by
 have n5 : q6.n = 5 := by kernel_rfl
 have := (h.fK_mem (i := 1) (k := 3) (by rw [n5]; decide) (by rw [q6K1]; simp)).2.2.2.1 (by decide +kernel)
 exact this
end
end
section
open Go.RowKit
theorem one_cell {w : World} {l : List Nat} {K : Nat -> Prop} {ao : Option Addr} {c x n : Nat} (hO : OwnZ K w 3 1 ao n c (ivs (x :: l))) : ∃ g, ao = some ⟨g, 0, none⟩ /\ g < w.heap.size /\ w.cell? ⟨g, 0, none⟩ = some (.int .i64 (x : Int)) := by
 obtain ⟨g, e, h0⟩ := hO.cell (j := 0) (u := .int .i64 (x : Int)) rfl
 exact ⟨g, e, (hO.out (g := g) e).2, h0⟩
theorem fknown_any (w : World) : Calls Tryz.prog 48 #[] w fun e w' => e = .returned (.bool true) /\ Kept (fun k => k < w.heap.size) w w' := by
 have r0 := new_yes 9 w (by decide) (by decide)
 go_enter Tryz.func48, Tryz.ntmps48
 go_wp2_with fail
 refine r0.mono ?_
 rintro e w1 ⟨p, rfl, hp, hX1, hK1⟩
 have k1 : Kn (fun k => k < w.heap.size) w1 p (Dm.new 9) (fun _ => []) (fun _ => []) := Kn.new (w0 := w) hX1 (by decide) (by decide)
 have r1 := k1.make 1 1 divB ⟨#[]⟩ [100, 105, 118] [] rfl divB_list empB_list sound_div (by decide) (by decide)
 have HK1 : Hid (Kept (fun k => k < w.heap.size) w w1) := hK1
 clear r0 hX1 hK1 k1 hp
 go_wp2_with fail
 refine r1.mono ?_
 rintro e w2 ⟨rfl, k2, hK2⟩
 have r2 := k2.make 2 2 ⟨#[]⟩ ⟨#[120]⟩ [] [120] rfl empB_list xB_list sound_txt (by decide) (by decide)
 have HK2 : Hid (Kept (fun k => k < w.heap.size) w w2) := HK1.out.trans hK2
 clear r1 k2 hK2
 go_wp2_with fail
 refine r2.mono ?_
 rintro e w3 ⟨rfl, k3, hK3⟩
 have r3 := k3.make 1 1 slotBB ⟨#[]⟩ [115, 108, 111, 116] [] rfl slotBB_list empB_list sound_sl (by decide) (by decide)
 have HK3 : Hid (Kept (fun k => k < w.heap.size) w w3) := HK2.out.trans hK3
 clear r2 k3 hK3
 go_wp2_with fail
 refine r3.mono ?_
 rintro e w4 ⟨rfl, k4, hK4⟩
 have r4 := k4.root (host := 1) fg0 (by decide) (by kernel_rfl) (by kernel_rfl) (by decide)
 have HK4 : Hid (Kept (fun k => k < w.heap.size) w w4) := HK3.out.trans hK4
 clear r3 k4 hK4
 go_wp2_with fail
 refine r4.mono ?_
 rintro e w5 ⟨rfl, k5, hK5⟩
 have k5' : ∃ G, Kn (fun k => k < w.heap.size) w5 p q4 q4R G := ⟨_, k5⟩
 obtain ⟨G, k5⟩ := k5'
 have r5 := k5.ins (up := 1) (i := 2) (-1) (by decide +kernel) (by decide +kernel) (.inl rfl) qF4
 have HK5 : Hid (Kept (fun k => k < w.heap.size) w w5) := HK4.out.trans hK5
 clear r4 hK5 k5
 go_wp2_with fail
 refine r5.mono ?_
 rintro e w6 ⟨rfl, k6, hK6⟩
 have k6' : Kn (fun k => k < w.heap.size) w6 p q5 q5R G := k6
 have r6 := k6'.ins (up := 4) (i := 3) (-1) (by decide +kernel) (by decide +kernel) (.inl rfl) qF5
 have HK6 : Hid (Kept (fun k => k < w.heap.size) w w6) := HK5.out.trans hK6
 clear r5 hK6 k6 k6'
 go_wp2_with fail
 refine r6.mono ?_
 rintro e w7 ⟨rfl, k7, hK7⟩
 have k7' : Kn (fun k => k < w.heap.size) w7 p q6 q6R G := k7
 obtain ⟨rk, hR⟩ := k7'.rd
 have HK7 : Hid (Kept (fun k => k < w.heap.size) w w7) := HK6.out.trans hK7
 have HR : Hid (Rd (fun k => k < w.heap.size) w7 p q6 q6R G rk) := hR
 have n5 : q6.n = 5 := by kernel_rfl
 have ra := hR.kids 1
 have ea : fKI q6 q6R G 1 = [3] := (fKI_in (i := 1) (by rw [n5]; decide)).trans q6K1
 rw [ea] at ra
 have RB : Hid (∀ X, Kept (fun k => k < w7.heap.size) w7 X -> Calls Tryz.prog 52 #[.pointer (some ⟨p, 0, none⟩), .int .i64 3] X (Lst X [2])) := fun X hX => by
  have := (HR.out.kept hX).kids 3
  rw [show fKI q6 q6R G 3 = [2] from (fKI_in (i := 3) (by rw [n5]; decide)).trans q6K3] at this
  exact this
 have RW : Hid (∀ X, Kept (fun k => k < w7.heap.size) w7 X -> Calls Tryz.prog 50 #[.pointer (some ⟨p, 0, none⟩), .int .i64 1] X (Lst X [1, 3, 2])) := fun X hX => by
  have := (HR.out.kept hX).walk 1
  rw [show trI q6.n (fK q6 q6R G) 1 = [1, 3, 2] from (trI_in (i := 1) (by rw [n5]; decide)).trans (q6W HR.out.inv)] at this
  exact this
 have RU2 : Hid (∀ X, Kept (fun k => k < w7.heap.size) w7 X -> Calls Tryz.prog 51 #[.pointer (some ⟨p, 0, none⟩), .int .i64 2] X fun e w' => e = .returned (.int .i64 3) /\ Kept (fun k => k < X.heap.size) X w') := fun X hX => by
  have := (HR.out.kept hX).up 2
  rw [show upI q6 q6R G 2 = 3 from (upI_in (i := 2) (by rw [n5]; decide)).trans (q6U2 HR.out.inv)] at this
  exact this
 have RU3 : Hid (∀ X, Kept (fun k => k < w7.heap.size) w7 X -> Calls Tryz.prog 51 #[.pointer (some ⟨p, 0, none⟩), .int .i64 3] X fun e w' => e = .returned (.int .i64 1) /\ Kept (fun k => k < X.heap.size) X w') := fun X hX => by
  have := (HR.out.kept hX).up 3
  rw [show upI q6 q6R G 3 = 1 from (upI_in (i := 3) (by rw [n5]; decide)).trans (q6U3 HR.out.inv)] at this
  exact this
 clear r6 hK7 k7 k7' hR ea n5
 go_wp2_with fail
 refine ra.mono ?_
 rintro e w8 ⟨ga, ca, rfl, hO8, hk8⟩
 obtain ⟨g8, rfl, hg8, c8⟩ := one_cell hO8
 have rb := RB.out w8 hk8
 have HK8 : Hid (Kept (fun k => k < w7.heap.size) w7 w8) := hk8
 clear ra hO8 hk8
 go_wp2_with fail
 refine rb.mono ?_
 rintro e w9 ⟨gb, cb, rfl, hO9, hk9⟩
 obtain ⟨g9, rfl, hg9, c9⟩ := one_cell hO9
 have k79 : Kept (fun k => k < w7.heap.size) w7 w9 := HK8.out.trans (hk9.mono fun k h => Nat.lt_of_lt_of_le h HK8.out.size)
 have rw1 := RW.out w9 k79
 have d8 : w9.cell? ⟨g8, 0, none⟩ = some (.int .i64 3) := (hk9.cell (p := ⟨g8, 0, none⟩) hg8).trans c8
 have hg8' : g8 < w9.heap.size := Nat.lt_of_lt_of_le hg8 hk9.size
 have HK9 : Hid (Kept (fun k => k < w7.heap.size) w7 w9) := k79
 clear rb hO9 hk9 k79 c8 hg8
 go_wp2_with fail
 refine rw1.mono ?_
 rintro e w10 ⟨gc, cc, rfl, -, hk10⟩
 have k710 : Kept (fun k => k < w7.heap.size) w7 w10 := HK9.out.trans (hk10.mono fun k h => Nat.lt_of_lt_of_le h HK9.out.size)
 have e8 : w10.cell? ⟨g8, 0, none⟩ = some (.int .i64 3) := (hk10.cell (p := ⟨g8, 0, none⟩) hg8').trans d8
 have e9 : w10.cell? ⟨g9, 0, none⟩ = some (.int .i64 2) := (hk10.cell (p := ⟨g9, 0, none⟩) hg9).trans c9
 have ru2 := RU2.out w10 k710
 have HK10 : Hid (Kept (fun k => k < w7.heap.size) w7 w10) := k710
 clear rw1 hk10 k710 d8 c9 hg8' hg9
 go_wp2_with fail
 refine ru2.mono ?_
 rintro e w11 ⟨rfl, hk11⟩
 have k711 : Kept (fun k => k < w7.heap.size) w7 w11 := HK10.out.trans (hk11.mono fun k h => Nat.lt_of_lt_of_le h HK10.out.size)
 have ru3 := RU3.out w11 k711
 have HK11 : Hid (Kept (fun k => k < w7.heap.size) w7 w11) := k711
 clear ru2 hk11 k711 e8 e9
 go_wp2_with fail
 refine ru3.mono ?_
 rintro e w12 ⟨rfl, hk12⟩
 have HK12 : Hid (Kept (fun k => k < w.heap.size) w w12) := (HK7.out.trans (HK11.out.mono fun k h => Nat.lt_of_lt_of_le h HK7.out.size)).trans (hk12.mono fun k h => Nat.lt_of_lt_of_le h (Nat.le_trans HK7.out.size HK11.out.size))
 clear ru3 hk12
 go_wp2
 go_ret
 exact ⟨rfl, HK12.out⟩
end
section
open Go.RowKit Go.Sort
section
variable {K E : Nat -> Prop} {w : World} {p r : Nat} {M : Dm} {R G : Nat -> List Nat} {rk : Nat -> Nat} {lim : Nat}
theorem Grown.rd (h : Grown K E w p r M R G rk lim) (hl : lim <= 100000) {X : World} (hk : Kept (fun k => k < w.heap.size) w X) : Rd (TK K E) X p M R G rk := ⟨h.two.d.kept hk, h.inv, h.nle hl⟩
end
theorem hv13_long (n : Nat) (hnn : 60 < n) (a : Option Addr) (c : Nat) (w : World) :
  Calls Tryz.prog 47 #[.slice a n c] w fun e w' => e = .returned (.bool true) /\ Kept (fun k => k < w.heap.size) w w' := by
 have hg60 : decide ((n : Int) > 60) = true := decide_eq_true (by omega)
 go_enter Tryz.func47, Tryz.ntmps47
 go_wp2
 go_ret
 exact ⟨rfl, Kept.refl _ _⟩
theorem Way.on {n : Nat} {rk : Nat -> Nat} {steps m : Nat} {l : List Nat} (h : Way n rk steps (m : Int) l) {z : Int} (hz : z = -1 \/ ∃ u : Nat, u < n /\ z = (u : Int) /\ rk u < rk m) : Way n rk (steps + 1) z (m :: l) := by
 have hm := h.le.1
 rcases h.at0 with e | ⟨m', hm', e, hr⟩
 ·omega
 ·have : m' = m := by omega
  subst this
  refine ⟨by rw [List.length_cons, h.len], List.nodup_cons.2 ⟨fun hm' => Nat.lt_irrefl _ (hr _ hm'), h.nd⟩, fun x hx => ?_, ?_⟩
  ·rcases List.mem_cons.1 hx with rfl | hx
   ·exact hm
   ·exact h.lt x hx
  ·rcases hz with e | ⟨u, hu, e, hr'⟩
   ·exact .inl e
   ·refine .inr ⟨u, hu, e, fun x hx => ?_⟩
    rcases List.mem_cons.1 hx with rfl | hx
    ·exact hr'
    ·exact Nat.lt_trans hr' (hr x hx)
end
section
open Go.RowKit Go.Sort
theorem rval_any (x : Nd) (ao : Option Addr) (ac : Nat) (up : Int) (ko : Option Addr) (kn kc : Nat) (s : ByteArray) (X : World) (hl : x.attrs.length <= 1000) (ha : AtsAt (fun k => k < X.heap.size) X ao x.attrs) :
  Calls Tryz.prog 68 #[.agg (nV x ao ac up ko kn kc), .string s] X fun e w' => e = .returned (sv (atV s.toList x.attrs)) /\ Kept (fun k => k < X.heap.size) X w' := by
 obtain ⟨V, N, hV, hN, hb, hk, -⟩ := alloc_box X (nV x ao ac up ko kn kc) 41
 have c3 : V.cell? ⟨N, 3, none⟩ = some (.slice ao x.attrs.length ac) := by rw [cell_block hb]; rfl
 have haV : AtsAt (fun k => k < V.heap.size) V ao x.attrs := ha.kept hk fun k h => Nat.lt_of_lt_of_le h hk.size
 obtain ⟨n, hn⟩ : ∃ n, x.attrs.length = n := ⟨_, rfl⟩
 rw [hn] at c3 hl
 have HK : Hid (Kept (fun k => k < X.heap.size) X V) := hk
 have HV : Hid (X.alloc (.cells (nV x ao ac up ko kn kc) 41) = V) := hV
 have HN : Hid (X.heap.size = N) := hN
 have HA : Hid (AtsAt (fun k => k < V.heap.size) V ao x.attrs) := haV
 have HNN : Hid (x.attrs.length = n) := hn
 obtain ⟨v, hv⟩ : ∃ v, atV s.toList x.attrs = v := ⟨_, rfl⟩
 have HVV : Hid (atV s.toList x.attrs = v) := hv
 rw [hv]
 clear hV hN hb hk haV ha hn hv
 go_enter Tryz.func68, Tryz.ntmps68
 go_upto_region 2 with fail
 rw [HV.out, HN.out]
 clear HV HN
 go_loopg [5] n (fun gh v5 wr => ∃ j : Nat, gh = n - j /\ j <= n /\ v5 = .int .i64 (j : Int) /\ (∀ y ∈ x.attrs.take j, y.name ≠ s.toList) /\ wr = V)
 case atStart => exact ⟨0, rfl, Nat.zero_le _, rfl, fun y hy => by simp at hy, rfl⟩
 case round =>
  obtain ⟨j, hgj, hj, rfl, hno, rfl⟩ := hrel
  have HNO : Hid (∀ y ∈ x.attrs.take j, y.name ≠ s.toList) := hno
  clear hno
  by_cases hlt : j < n
  ·have hjl : j < x.attrs.length := by rw [HNN.out]; exact hlt
   obtain ⟨g, o, rfl, hg, a0, a1⟩ := HA.out j hjl
   have HJ : Hid (x.attrs.take (j + 1) = x.attrs.take j ++ [x.attrs[j]]) := List.take_succ_eq_append_getElem hjl
   obtain ⟨nb, hnb⟩ : ∃ nb, (⟨x.attrs[j].name.toArray⟩ : ByteArray) = nb := ⟨_, rfl⟩
   have HNB : Hid (x.attrs[j].name = nb.toList) := by rw [<- hnb, ByteArray.toList_eq]; exact rfl
   unfold sv at a0 a1
   rw [hnb] at a0
   obtain ⟨q, hq⟩ : ∃ q, (nb.toList == s.toList) = q := ⟨_, rfl⟩
   obtain ⟨vb, hvb⟩ : ∃ vb, (⟨x.attrs[j].value.toArray⟩ : ByteArray) = vb := ⟨_, rfl⟩
   have HVB : Hid ((⟨x.attrs[j].value.toArray⟩ : ByteArray) = vb) := hvb
   rw [hvb] at a1
   clear hnb hvb
   cases q with
   | true =>
    have HE : Hid (v = x.attrs[j].value) := by rw [<- HVV.out]; exact atV_at hjl (by rw [HNB.out]; simpa using hq) HNO.out
    go_wp2
    go_ret
    exact ⟨by rw [HE.out]; show _ = Ending.returned (.string ⟨x.attrs[j].value.toArray⟩); rw [HVB.out]; rfl, HK.out⟩
   | false =>
    have h0 : nb.toList ≠ s.toList := by simpa using hq
    have HNE : Hid (x.attrs[j].name ≠ s.toList) := by rw [HNB.out]; exact h0
    clear h0
    go_wp2
    go_roundg (n - (j + 1))
    case rel =>
     refine ⟨j + 1, rfl, by omega, by go_num, fun y hy => ?_, rfl⟩
     rw [HJ.out] at hy
     rcases List.mem_append.1 hy with h | h
     ·exact HNO.out y h
     ·rw [List.mem_singleton.1 h]; exact HNE.out
    case measure => omega
  ·have hjn : n = j := by omega
   subst hjn
   have HE : Hid (v = []) := by rw [<- HVV.out]; exact atV_no fun y hy => HNO.out y (by rw [List.take_of_length_le (by rw [HNN.out]; exact Nat.le_refl _)]; exact hy)
   go_wp2
   go_ret
   exact ⟨by rw [HE.out]; rfl, HK.out⟩
structure Rr (K : Nat -> Prop) (w : World) (p : Nat) (M : Dm) (R G : Nat -> List Nat) (rk : Nat -> Nat) : Prop where
 r : RX K w p M R G
 inv : Inv M R G rk
 le : M.n <= 100000
theorem enter68 (args : Array Value) (X : World) : (callFunc 68 args).run Tryz.prog X = .ok (.enter 68 args) X := entersE Tryz.func68 (by kernel_rfl) (c := _) rfl args X
section
variable {K : Nat -> Prop} {w : World} {p : Nat} {M : Dm} {R G : Nat -> List Nat} {rk : Nat -> Nat}
theorem Rr.kept {w' : World} (h : Rr K w p M R G rk) (hk : Kept (fun k => k < w.heap.size) w w') : Rr K w' p M R G rk := ⟨h.r.kept hk, h.inv, h.le⟩
theorem Rr.shown_in (h : Rr K w p M R G rk) {i : Nat} (hi : i < M.n) : Calls Tryz.prog 66 #[.pointer (some ⟨p, 0, none⟩), .int .i64 (i : Int)] w fun e w' => e = .returned (.bool (showB (M.nd i))) /\ w' = w := by
 obtain ⟨g, nc, ka, kc, hN⟩ := h.r.nodeAt hi
 have hA := hN w (Kept.refl _ _)
 have c1 := hA.c1
 have c0 := hA.c0
 obtain ⟨kd, hkd⟩ : ∃ kd, (M.nd i).kind = kd := ⟨_, rfl⟩
 have hle := h.le
 obtain ⟨q, hq⟩ : ∃ q, showB (M.nd i) = q := ⟨_, rfl⟩
 have hqq : q = true ↔ kd = 1 \/ kd = 2 := by rw [<- hq, <- hkd]; exact showB_iff
 obtain ⟨m, hm⟩ : ∃ m, M.n = m := ⟨_, rfl⟩
 rw [hm] at c1 hi hle
 rw [hkd] at c0
 rw [hq]
 have e0 : decide ((i : Int) >= 0) = true := decide_eq_true (by omega)
 have e9 : decide ((i : Int) < (m : Int)) = true := decide_eq_true (by omega)
 clear hA hN h hm hkd hq
 by_cases k1 : kd = 1
 ·subst k1
  have := hqq.2 (.inl rfl)
  subst this
  clear hqq
  go_enter Tryz.func66, Tryz.ntmps66
  go_wp2
  go_ret
  exact ⟨rfl, rfl⟩
 ·have e1 : ((kd : Int) == 1) = false := by simp; omega
  by_cases k2 : kd = 2
  ·subst k2
   have := hqq.2 (.inr rfl)
   subst this
   clear hqq k1 e1
   go_enter Tryz.func66, Tryz.ntmps66
   go_wp2
   go_ret
   exact ⟨rfl, rfl⟩
  ·have e2 : ((kd : Int) == 2) = false := by simp; omega
   have hqf : q = false := by cases q with | false => rfl | true => exact absurd (hqq.1 rfl) (by omega)
   subst hqf
   clear hqq k1 k2
   go_enter Tryz.func66, Tryz.ntmps66
   go_wp2
   go_ret
   exact ⟨rfl, rfl⟩
theorem Rr.of (h : Rr K w p M R G rk) {i : Nat} (hi : i < M.n) : Calls Tryz.prog 32 #[.pointer (some ⟨p, 0, none⟩), .int .i64 (i : Int)] w fun e w' => e = .returned (.int .i64 (ofZ M (i : Int))) /\ w' = w :=
 (pOf_any K p i M R G rk w h.r h.inv.good hi (Nat.le_trans h.le (by decide))).mono fun e w' ⟨z, hz, he, hw⟩ => ⟨by rw [he, ofZ_eq hi hz], hw⟩
theorem RX.name (h : RX K w p M R G) {i : Nat} (hi : i < M.n) : ∃ g nc, ∀ Y, Kept (fun k => k < w.heap.size) w Y -> Y.cell? ⟨p, 1, none⟩ = some (.slice (some ⟨g, 0, none⟩) M.n nc) /\ Y.cell? ⟨g, i * 14, none⟩ = some (.int .u8 ((M.nd i).kind : Int)) /\ Y.cell? ⟨g, i * 14 + 1, none⟩ = some (sv (M.nd i).name) := by
 obtain ⟨A, h⟩ := h
 obtain ⟨g, hg, -, -, -⟩ := h.nat (by omega)
 refine ⟨g, A.nc, fun Y hY => ?_⟩
 have h' := h.kept hY
 exact ⟨by rw [h'.c1, hg], h'.cell hg hi 0 _ rfl, h'.cell hg hi 1 _ rfl⟩
theorem Rr.is_in (h : Rr K w p M R G rk) {i : Nat} (hi : i < M.n) : Calls Tryz.prog 33 #[.pointer (some ⟨p, 0, none⟩), .int .i64 (i : Int)] w fun e w' => e = .returned (.bool (isS M i)) /\ w' = w := by
 have r1 := h.shown_in hi
 have r2 := h.of hi
 obtain ⟨g, nc, hN⟩ := h.r.name hi
 obtain ⟨c1, c0, cn⟩ := hN w (Kept.refl _ _)
 have hle := h.le
 have hz := h.inv.ofz hi
 obtain ⟨q, hq⟩ : ∃ q, showB (M.nd i) = q := ⟨_, rfl⟩
 obtain ⟨z, hzz⟩ : ∃ z, ofZ M (i : Int) = z := ⟨_, rfl⟩
 have hz' : z = -1 \/ 0 <= z := by
  rcases hz with ⟨t, _, _, e, _⟩ | ⟨t, _, _, e, _⟩ <;> omega
 obtain ⟨b, hb⟩ : ∃ b, isS M i = b := ⟨_, rfl⟩
 obtain ⟨kd, hkd⟩ : ∃ kd, (M.nd i).kind = kd := ⟨_, rfl⟩
 have hqq : q = true ↔ kd = 1 \/ kd = 2 := by rw [<- hq, <- hkd]; exact showB_iff
 obtain ⟨nb, hnb⟩ : ∃ nb, (⟨(M.nd i).name.toArray⟩ : ByteArray) = nb := ⟨_, rfl⟩
 have hnn : (M.nd i).name = nb.toList := by rw [<- hnb, ByteArray.toList_eq]
 have hbb : b = true ↔ kd = 1 /\ nb.toList = slotN /\ z ≠ -1 := by
  rw [<- hb]
  unfold isS
  rw [Bool.and_eq_true, isSl_iff, decide_eq_true_eq, hkd, hnn, hzz, and_assoc]
 obtain ⟨m, hm⟩ : ∃ m, M.n = m := ⟨_, rfl⟩
 unfold sv at cn
 rw [hnb] at cn
 rw [hm] at c1 hi hle
 rw [hkd] at c0
 rw [hq] at r1
 rw [hzz] at r2
 rw [hb]
 have HBB : Hid (b = true ↔ kd = 1 /\ nb.toList = slotN /\ z ≠ -1) := hbb
 clear hN h hm hkd hq hz hzz hb hnb hnn hbb
 by_cases k1 : kd = 1
 ·subst k1
  have hqt := hqq.2 (.inl rfl)
  subst hqt
  obtain ⟨qs, hqs⟩ : ∃ q, (nb.toList == [115, 108, 111, 116]) = q := ⟨_, rfl⟩
  cases qs with
  | true =>
   obtain ⟨qz, hqz⟩ : ∃ q, decide (z >= 0) = q := ⟨_, rfl⟩
   have hbz : b = qz := by
    have h1 : nb.toList = slotN := by simpa using hqs
    cases qz with
    | true => exact HBB.out.2 ⟨rfl, h1, by have := of_decide_eq_true hqz; omega⟩
    | false =>
     have h2 := of_decide_eq_false hqz
     cases b with
     | false => rfl
     | true => have := (HBB.out.1 rfl).2.2; omega
   subst hbz
   clear HBB hqq hz'
   go_enter Tryz.func33, Tryz.ntmps33
   go_wp2_with (first | (go_at_call 66; refine r1.mono ?_; rintro e1 w3 ⟨rfl, hw3⟩; replace hw3 := hw3.symm; subst hw3) | (go_at_call 32; refine r2.mono ?_; rintro e1 w3 ⟨rfl, hw3⟩; replace hw3 := hw3.symm; subst hw3))
   go_ret
   exact ⟨by simp, rfl⟩
  | false =>
   have hbf : b = false := by
    cases b with
    | false => rfl
    | true => have := (HBB.out.1 rfl).2.1; rw [this] at hqs; simp at hqs
   subst hbf
   clear HBB hqq hz' r2
   go_enter Tryz.func33, Tryz.ntmps33
   go_wp2_with (go_at_call 66; refine r1.mono ?_; rintro e1 w3 ⟨rfl, hw3⟩; replace hw3 := hw3.symm; subst hw3)
   go_ret
   exact ⟨rfl, rfl⟩
 ·have e1 : ((kd : Int) == 1) = false := by simp; omega
  have hbf : b = false := by
   cases b with
   | false => rfl
   | true => exact absurd (HBB.out.1 rfl).1 k1
  subst hbf
  clear HBB hqq hz' r2 k1
  go_enter Tryz.func33, Tryz.ntmps33
  cases q with
  | true =>
   go_wp2_with (go_at_call 66; refine r1.mono ?_; rintro e1 w3 ⟨rfl, hw3⟩; replace hw3 := hw3.symm; subst hw3)
   go_ret
   exact ⟨rfl, rfl⟩
  | false =>
   go_wp2_with (go_at_call 66; refine r1.mono ?_; rintro e1 w3 ⟨rfl, hw3⟩; replace hw3 := hw3.symm; subst hw3)
   go_ret
   exact ⟨rfl, rfl⟩
end
end
end Go.Proofs.YtljnjdckhkglfaaGreat
