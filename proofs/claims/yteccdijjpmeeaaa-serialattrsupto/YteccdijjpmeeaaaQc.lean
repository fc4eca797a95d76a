/-
  A page of a document: a node, whatever it is.
-/
import Derived.Test.YteccdijjpmeeaaaQb
namespace Go.Proofs.Yteccdijjpmeeaaa
open Go.RowKit
set_option linter.unusedVariables false
set_option maxRecDepth 100000
set_option maxHeartbeats 4000000
def outX (L : List UInt8) (x : Nd) (raw : Bool) : List UInt8 :=
  if x.kind = 1 then staL x.name x.attrs ++ (if voidP x.name = true then [] else L ++ endL x.name)
  else if x.kind = 2 then (if raw = true then x.data else esc false x.data)
  else if x.kind = 3 then [60, 33, 45, 45] ++ (x.data ++ [45, 45, 62])
  else if x.kind = 6 then doctN ++ (x.name ++ [62])
  else if x.kind = 4 ∨ x.kind = 5 then L else []
theorem outW_eq (inn : Nat → List UInt8) (x : Nd) (i : Nat) (raw : Bool) : outW inn x i raw = outX (inn i) x raw := rfl
theorem outer_any {w0 : World} {o : Ask} {c : Cf} {x : Nd} {q : List Nat} {L : List UInt8} (hz : Szd x) (rin : isV x = false → Inn w0 o c x q L) (raw : Bool) (K : Nat → Prop) (w : World) (l : List UInt8) (ao : Option Addr) (ac : Nat) (up : Int) (ko : Option Addr) (kc : Nat) (h : Pq w0 o K w c l) (ha : AtsAt K w ao x.attrs) (hi : IntsAt K w ko q)
    (hl : l.length + (outX L x raw).length ≤ 1099511627776) :
    Calls Try.prog 33 #[.pointer (some ⟨c.b, 0, none⟩), .agg (nW x ao ac up ko q.length kc), .bool raw] w fun e w' => e = .returned (.tuple #[]) ∧ Pq w0 o K w' c (l ++ outX L x raw) ∧ Kept K w w' := by
  obtain ⟨W, N, hW, hN, hb, hkW, hzW⟩ := alloc_bx w (nW x ao ac up ko q.length kc) 33
  have hqW := h.stay hkW
  have hlt := h.lt
  have haW : AtsAt K W ao x.attrs := ha.go (fun _ h => h) (hkW.mono hlt)
  have hiW : IntsAt K W ko q := hi.go (fun _ h => h) (hkW.mono hlt)
  have HQW : Hid (Pq w0 o K W c l) := hqW
  have HKW : Hid (Kept K w W) := hkW.mono hlt
  have HB : Hid (W.heap[N]? = some (.cells (nW x ao ac up ko q.length kc) 33 (0, 0))) := hb
  have HW : Hid (w.alloc (.cells (nW x ao ac up ko q.length kc) 33) = W) := hW
  have HN : Hid (w.heap.size = N) := hN
  have c0 : W.cell? ⟨N, 0, none⟩ = some (.int .u8 (x.kind : Int)) := by rw [cell_block hb]; rfl
  have c1 : W.cell? ⟨N, 1, none⟩ = some (.string ⟨x.name.toArray⟩) := by rw [cell_block hb]; rfl
  have c2 : W.cell? ⟨N, 2, none⟩ = some (.string ⟨x.data.toArray⟩) := by rw [cell_block hb]; rfl
  clear h ha hi hW hN hkW hzW hlt
  by_cases k1 : x.kind = 1
  · have e1 : ((x.kind : Int) == 1) = true := by rw [k1]; rfl
    have e2 : ((x.kind : Int) == 2) = false := by simp; omega
    have e3 : ((x.kind : Int) == 3) = false := by simp; omega
    have e6 : ((x.kind : Int) == 6) = false := by simp; omega
    have e4 : ((x.kind : Int) == 4) = false := by simp; omega
    have e5 : ((x.kind : Int) == 5) = false := by simp; omega
    have eo : outX L x raw = staL x.name x.attrs ++ (if voidP x.name = true then [] else L ++ endL x.name) := if_pos k1
    have r := element_any k1 hz (fun hv => rin (by unfold isV; rw [hv, Bool.and_false])) K W l ao ac up ko kc hqW haW hiW (by rw [← eo]; exact hl)
    rw [← eo] at r
    obtain ⟨F, hF⟩ : ∃ F, l ++ outX L x raw = F := ⟨_, rfl⟩
    rw [hF]
    rw [hF] at r
    clear k1 hz rin hl HB hF eo haW hiW hqW
    go_enter Try.func33, Try.ntmps33
    go_upto_region 1 with fail
    rw [HW.out, HN.out]
    clear HW HN
    go_wp2_with (refine wpList_load_row rfl 33 _ rfl N rfl 33 (nW x ao ac up ko q.length kc) (0, 0) _ hb Try.underlying33 rfl (sizeN _ rfl) ?_)
    refine r.mono ?_
    rintro e X ⟨rfl, hQ, hK⟩
    have HQ : Hid (Pq w0 o K X c F) := hQ
    have HK : Hid (Kept K w X) := HKW.out.trans hK
    clear r hQ hK c0 c1 c2
    go_wp2
    go_end0
    exact ⟨rfl, HQ.out, HK.out⟩
  by_cases k2 : x.kind = 2
  · have e1 : ((x.kind : Int) == 1) = false := by simp; omega
    have e2 : ((x.kind : Int) == 2) = true := by rw [k2]; rfl
    have e3 : ((x.kind : Int) == 3) = false := by simp; omega
    have e6 : ((x.kind : Int) == 6) = false := by simp; omega
    have e4 : ((x.kind : Int) == 4) = false := by simp; omega
    have e5 : ((x.kind : Int) == 5) = false := by simp; omega
    have eo : outX L x raw = (if raw = true then x.data else esc false x.data) := by unfold outX; rw [if_neg k1, if_pos k2]
    have r := text_put K c x.data raw l W hqW.pg (hz.d k2) (by rw [← eo]; exact hl)
    rw [← eo] at r
    obtain ⟨F, hF⟩ : ∃ F, l ++ outX L x raw = F := ⟨_, rfl⟩
    rw [hF]
    rw [hF] at r
    clear k2 hz rin hl HB hF eo haW hiW hqW hb k1
    go_enter Try.func33, Try.ntmps33
    go_upto_region 1 with fail
    rw [HW.out, HN.out]
    clear HW HN
    go_wp2_with fail
    refine r.mono ?_
    rintro e X ⟨rfl, hP, hK⟩
    have HQ : Hid (Pq w0 o K X c F) := HQW.out.step hP hK
    have HK : Hid (Kept K w X) := HKW.out.trans hK
    clear r hP hK c0 c1 c2
    go_wp2
    go_end0
    exact ⟨rfl, HQ.out, HK.out⟩
  by_cases k3 : x.kind = 3
  · have e1 : ((x.kind : Int) == 1) = false := by simp; omega
    have e2 : ((x.kind : Int) == 2) = false := by simp; omega
    have e3 : ((x.kind : Int) == 3) = true := by rw [k3]; rfl
    have e6 : ((x.kind : Int) == 6) = false := by simp; omega
    have e4 : ((x.kind : Int) == 4) = false := by simp; omega
    have e5 : ((x.kind : Int) == 5) = false := by simp; omega
    have eo : outX L x raw = [60, 33, 45, 45] ++ (x.data ++ [45, 45, 62]) := by unfold outX; rw [if_neg k1, if_neg k2, if_pos k3]
    have ec : cat [⟨#[60, 33, 45, 45]⟩, ⟨x.data.toArray⟩, ⟨#[45, 45, 62]⟩] = outX L x raw := by rw [eo]; simp [cat]
    have r := put_new K c [⟨#[60, 33, 45, 45]⟩, ⟨x.data.toArray⟩, ⟨#[45, 45, 62]⟩] #[.string ⟨#[60, 33, 45, 45]⟩, .string ⟨x.data.toArray⟩, .string ⟨#[45, 45, 62]⟩] rfl 3 rfl (by decide) l W hqW.pg (by rw [ec]; exact hl)
    rw [ec] at r
    obtain ⟨F, hF⟩ : ∃ F, l ++ outX L x raw = F := ⟨_, rfl⟩
    rw [hF]
    rw [hF] at r
    clear k3 hz rin hl HB hF eo ec haW hiW hqW hb k1 k2
    go_enter Try.func33, Try.ntmps33
    go_upto_region 1 with fail
    rw [HW.out, HN.out]
    clear HW HN
    go_wp2_with fail
    refine r.mono ?_
    rintro e X ⟨rfl, hP, hK⟩
    have HQ : Hid (Pq w0 o K X c F) := HQW.out.step hP hK
    have HK : Hid (Kept K w X) := HKW.out.trans hK
    clear r hP hK c0 c1 c2
    go_wp2
    go_end0
    exact ⟨rfl, HQ.out, HK.out⟩
  by_cases k6 : x.kind = 6
  · have e1 : ((x.kind : Int) == 1) = false := by simp; omega
    have e2 : ((x.kind : Int) == 2) = false := by simp; omega
    have e3 : ((x.kind : Int) == 3) = false := by simp; omega
    have e6 : ((x.kind : Int) == 6) = true := by rw [k6]; rfl
    have e4 : ((x.kind : Int) == 4) = false := by simp; omega
    have e5 : ((x.kind : Int) == 5) = false := by simp; omega
    have eo : outX L x raw = doctN ++ (x.name ++ [62]) := by unfold outX; rw [if_neg k1, if_neg k2, if_neg k3, if_pos k6]
    have ec : cat [⟨#[60, 33, 68, 79, 67, 84, 89, 80, 69, 32]⟩, ⟨x.name.toArray⟩, ⟨#[62]⟩] = outX L x raw := by rw [eo]; simp [cat, doctN]
    have r := put_new K c [⟨#[60, 33, 68, 79, 67, 84, 89, 80, 69, 32]⟩, ⟨x.name.toArray⟩, ⟨#[62]⟩] #[.string ⟨#[60, 33, 68, 79, 67, 84, 89, 80, 69, 32]⟩, .string ⟨x.name.toArray⟩, .string ⟨#[62]⟩] rfl 3 rfl (by decide) l W hqW.pg (by rw [ec]; exact hl)
    rw [ec] at r
    obtain ⟨F, hF⟩ : ∃ F, l ++ outX L x raw = F := ⟨_, rfl⟩
    rw [hF]
    rw [hF] at r
    clear k6 hz rin hl HB hF eo ec haW hiW hqW hb k1 k2 k3
    go_enter Try.func33, Try.ntmps33
    go_upto_region 1 with fail
    rw [HW.out, HN.out]
    clear HW HN
    go_wp2_with fail
    refine r.mono ?_
    rintro e X ⟨rfl, hP, hK⟩
    have HQ : Hid (Pq w0 o K X c F) := HQW.out.step hP hK
    have HK : Hid (Kept K w X) := HKW.out.trans hK
    clear r hP hK c0 c1 c2
    go_wp2
    go_end0
    exact ⟨rfl, HQ.out, HK.out⟩
  by_cases k4 : x.kind = 4
  · have e1 : ((x.kind : Int) == 1) = false := by simp; omega
    have e2 : ((x.kind : Int) == 2) = false := by simp; omega
    have e3 : ((x.kind : Int) == 3) = false := by simp; omega
    have e6 : ((x.kind : Int) == 6) = false := by simp; omega
    have e4 : ((x.kind : Int) == 4) = true := by rw [k4]; rfl
    have e5 : ((x.kind : Int) == 5) = false := by simp; omega
    have eo : outX L x raw = L := by unfold outX; rw [if_neg k1, if_neg k2, if_neg k3, if_neg k6, if_pos (by omega)]
    have r := rin (by unfold isV; rw [decide_eq_false k1]; rfl) K W l ao ac up ko kc hqW hiW (by rw [← eo]; exact hl)
    rw [← eo] at r
    obtain ⟨F, hF⟩ : ∃ F, l ++ outX L x raw = F := ⟨_, rfl⟩
    rw [hF]
    rw [hF] at r
    clear k4 hz rin hl HB hF eo haW hiW hqW k1 k2 k3 k6
    go_enter Try.func33, Try.ntmps33
    go_upto_region 1 with fail
    rw [HW.out, HN.out]
    clear HW HN
    go_wp2_with (refine wpList_load_row rfl 33 _ rfl N rfl 33 (nW x ao ac up ko q.length kc) (0, 0) _ hb Try.underlying33 rfl (sizeN _ rfl) ?_)
    refine r.mono ?_
    rintro e X ⟨rfl, hQ, hK⟩
    have HQ : Hid (Pq w0 o K X c F) := hQ
    have HK : Hid (Kept K w X) := HKW.out.trans hK
    clear r hQ hK c0 c1 c2
    go_wp2
    go_end0
    exact ⟨rfl, HQ.out, HK.out⟩
  by_cases k5 : x.kind = 5
  · have e1 : ((x.kind : Int) == 1) = false := by simp; omega
    have e2 : ((x.kind : Int) == 2) = false := by simp; omega
    have e3 : ((x.kind : Int) == 3) = false := by simp; omega
    have e6 : ((x.kind : Int) == 6) = false := by simp; omega
    have e4 : ((x.kind : Int) == 4) = false := by simp; omega
    have e5 : ((x.kind : Int) == 5) = true := by rw [k5]; rfl
    have eo : outX L x raw = L := by unfold outX; rw [if_neg k1, if_neg k2, if_neg k3, if_neg k6, if_pos (by omega)]
    have r := rin (by unfold isV; rw [decide_eq_false k1]; rfl) K W l ao ac up ko kc hqW hiW (by rw [← eo]; exact hl)
    rw [← eo] at r
    obtain ⟨F, hF⟩ : ∃ F, l ++ outX L x raw = F := ⟨_, rfl⟩
    rw [hF]
    rw [hF] at r
    clear k5 hz rin hl HB hF eo haW hiW hqW k1 k2 k3 k6 k4
    go_enter Try.func33, Try.ntmps33
    go_upto_region 1 with fail
    rw [HW.out, HN.out]
    clear HW HN
    go_wp2_with (refine wpList_load_row rfl 33 _ rfl N rfl 33 (nW x ao ac up ko q.length kc) (0, 0) _ hb Try.underlying33 rfl (sizeN _ rfl) ?_)
    refine r.mono ?_
    rintro e X ⟨rfl, hQ, hK⟩
    have HQ : Hid (Pq w0 o K X c F) := hQ
    have HK : Hid (Kept K w X) := HKW.out.trans hK
    clear r hQ hK c0 c1 c2
    go_wp2
    go_end0
    exact ⟨rfl, HQ.out, HK.out⟩
  have eo : outX L x raw = [] := by unfold outX; rw [if_neg k1, if_neg k2, if_neg k3, if_neg k6, if_neg (by omega)]
  rw [eo, List.append_nil]
  have e1 : ((x.kind : Int) == 1) = false := by simp; omega
  have e2 : ((x.kind : Int) == 2) = false := by simp; omega
  have e3 : ((x.kind : Int) == 3) = false := by simp; omega
  have e6 : ((x.kind : Int) == 6) = false := by simp; omega
  have e4 : ((x.kind : Int) == 4) = false := by simp; omega
  have e5 : ((x.kind : Int) == 5) = false := by simp; omega
  clear k1 k2 k3 k4 k5 k6 hz rin hl HB eo haW hiW hqW hb
  go_enter Try.func33, Try.ntmps33
  go_upto_region 1 with fail
  rw [HW.out, HN.out]
  clear HW HN
  go_wp2
  go_end0
  exact ⟨rfl, HQW.out, HKW.out⟩
end Go.Proofs.Yteccdijjpmeeaaa
