/-
  The document's own slots: Find.
-/
import Derived.Test.YtfeinppedejlpaaGreatKFt
import Derived.BigQuiet
namespace Go.Proofs.YtfeinppedejlpaaGreat
set_option maxHeartbeats 8000000
set_option maxRecDepth 100000
open Go.RowKit Go.Sort
set_option linter.unusedVariables false
theorem zkm (nm : List UInt8) (M : Dm) (L : List Nat) : zee (fun k => zma nm (M.nd k)) L = zee (fun k => decide (atV zbp (M.nd k).attrs = nm)) (L.filter fun k => za9 (M.nd k)) := by
 unfold zee
 rw [List.find?_filter]
 have e : (fun a => decide (za9 (M.nd a) = true /\ decide (atV zbp (M.nd a).attrs = nm) = true)) = fun k => zma nm (M.nd k) := by
  funext a
  unfold zma
  cases za9 (M.nd a) <;> simp
 rw [e]
section
variable {K : Nat -> Prop} {w : World} {p : Nat} {M : Dm} {R G : Nat -> List Nat} {rk : Nat -> Nat}
theorem Rr.find_no (h : Rr K w p M R G rk) {i : Int} (hi : i < 0 \/ (M.n : Int) <= i) : Calls Tryz.prog 17 #[.pointer (some ⟨p, 0, none⟩), .int .i64 i] w fun e w' => e = .returned (.int .i64 (-1)) /\ Kept (fun k => k < w.heap.size) w w' := by
 have rq : ∀ k, Calls Tryz.prog 76 #[.pointer (some ⟨p, 0, none⟩), .int .i64 i] (w.drewN k) fun e w' => e = .returned (.bool false) /\ w' = w.drewN k := fun k => (h.kept ((Kept.refl _ w).drewN k)).shown_no hi
 clear h hi
 go_enter Tryz.func17, Tryz.ntmps17
 go_upto_region 1 with fail
 go_quiet ((go_at_call 76; exact Calls.quiet_of_same (rq _)))
 go_wp2
 go_ret
 exact ⟨rfl, (Kept.refl _ w).drewN _⟩
theorem Rr.find_in (h : Rr K w p M R G rk) {i : Nat} (hi : i < M.n) : Calls Tryz.prog 17 #[.pointer (some ⟨p, 0, none⟩), .int .i64 (i : Int)] w fun e w' => e = .returned (.int .i64 (zbi M R i)) /\ Kept (fun k => k < w.heap.size) w w' := by
 have rq0 : ∀ k, Calls Tryz.prog 76 #[.pointer (some ⟨p, 0, none⟩), .int .i64 (i : Int)] (w.drewN k) fun e w' => e = .returned (.bool (za0 (M.nd i))) /\ w' = w.drewN k := fun k => (h.kept ((Kept.refl _ w).drewN k)).shown_in hi
 obtain ⟨g, nc, hrow⟩ := h.r.rowAt
 have HROW : Hid (∀ i, i < M.n -> ∃ aa ac ka kc, ∀ Y, Kept (fun k => k < w.heap.size) w Y -> Y.cell? ⟨p, 1, none⟩ = some (.slice (some ⟨g, 0, none⟩) M.n nc) /\ Y.rangeAt g (i * 14) (zbd (M.nd i) (M.pl i).up aa ac ka (R i).length kc) /\ Zal (fun k => k < Y.heap.size) Y aa (M.nd i).attrs) := hrow
 obtain ⟨aa, ac, ka, kc, hY⟩ := hrow i hi
 have hF := h.inv.findC hi
 have hups := h.inv.ups' hi
 obtain ⟨Z, hZ⟩ : ∃ Z, zbi M R i = Z := ⟨_, rfl⟩
 rw [hZ] at hF ⊢
 obtain ⟨q, hq⟩ : ∃ q, za0 (M.nd i) = q := ⟨_, rfl⟩
 have HQ : Hid (za0 (M.nd i) = q) := hq
 have hn := h.le
 obtain ⟨m, hm⟩ : ∃ m, M.n = m := ⟨_, rfl⟩
 have HM : Hid (M.n = m) := hm
 have HR : Hid (Rr K w p M R G rk) := h
 have HI : Hid (i < M.n) := hi
 have HC1 : Hid (∀ Y, Kept (fun k => k < w.heap.size) w Y -> Y.cell? ⟨p, 1, none⟩ = some (.slice (some ⟨g, 0, none⟩) m nc)) := fun Y h' => by rw [<- hm]; exact (hY Y h').1
 have HC4 : Hid (∀ Y, Kept (fun k => k < w.heap.size) w Y -> Y.cell? ⟨g, i * 14 + 4, none⟩ = some (.int .i64 (M.pl i).up)) := fun Y h' => (hY Y h').2.1 4 _ rfl
 have HY : Hid (∀ Y, Kept (fun k => k < w.heap.size) w Y -> Y.cell? ⟨p, 1, none⟩ = some (.slice (some ⟨g, 0, none⟩) M.n nc) /\ Y.rangeAt g (i * 14) (zbd (M.nd i) (M.pl i).up aa ac ka (R i).length kc) /\ Zal (fun k => k < Y.heap.size) Y aa (M.nd i).attrs) := hY
 rw [hm] at hn hi
 rw [hq] at rq0
 have c1 := HC1.out w (Kept.refl _ _)
 have c4 := HC4.out w (Kept.refl _ _)
 clear h hrow hY hZ hq hm
 have rq := rq0
 clear rq0
 cases q with
 | false =>
  have HZ : Hid (Z = -1) := by
   cases hF with
   | none e _ => exact e
   | hand _ _ _ _ h1 _ _ _ _ => rw [HQ.out] at h1; cases h1
   | name _ _ _ _ h1 _ _ _ _ => rw [HQ.out] at h1; cases h1
  clear hF hups
  go_enter Tryz.func17, Tryz.ntmps17
  go_upto_region 1 with fail
  go_quiet ((go_at_call 76; exact Calls.quiet_of_same (rq _)))
  go_wp2
  go_ret
  exact ⟨by rw [HZ.out]; rfl, (Kept.refl _ w).drewN _⟩
 | true =>
  rcases hups with hu | ⟨u, hun, hu⟩
  ·have HZ : Hid (Z = -1) := by
    cases hF with
    | none e _ => exact e
    | hand _ _ _ _ _ e _ _ _ => omega
    | name _ _ _ _ _ e _ _ _ => omega
   rw [hu] at c4
   clear hF hu
   go_enter Tryz.func17, Tryz.ntmps17
   go_upto_region 1 with fail
   go_quiet ((go_at_call 76; exact Calls.quiet_of_same (rq _)))
   go_wp2
   go_ret
   exact ⟨by rw [HZ.out]; rfl, (Kept.refl _ w).drewN _⟩
  ·have HU : Hid ((M.pl i).up = (u : Int)) := hu
   obtain ⟨ua, uc, uk, ukc, hUY⟩ := HROW.out u hun
   have HC6 : Hid (∀ Y, Kept (fun k => k < w.heap.size) w Y -> Y.cell? ⟨g, u * 14 + 6, none⟩ = some (.int .i64 (M.nd u).shadow)) := fun Y h' => (hUY Y h').2.1 6 _ rfl
   have hsh := HR.out.inv.sh hun
   rw [hu] at c4
   have e0 : decide ((u : Int) < 0) = false := decide_eq_false (by omega)
   have hum : u < m := by rw [<- HM.out]; exact hun
   clear hUY hu hun
   rcases hsh with hs | ⟨s, hsn, hs⟩
   ·have HZ : Hid (Z = -1) := by
     cases hF with
     | none e _ => exact e
     | hand u' s' _ _ _ e1 e2 _ _ =>
      have : u' = u := by have := HU.out; omega
      subst this; omega
     | name u' s' _ _ _ e1 e2 _ _ =>
      have : u' = u := by have := HU.out; omega
      subst this; omega
    have c6 := HC6.out w (Kept.refl _ _)
    rw [hs] at c6
    clear hF hs
    go_enter Tryz.func17, Tryz.ntmps17
    go_upto_region 1 with fail
    go_quiet ((go_at_call 76; exact Calls.quiet_of_same (rq _)))
    go_wp2
    go_ret
    exact ⟨by rw [HZ.out]; rfl, (Kept.refl _ w).drewN _⟩
   ·have HS : Hid ((M.nd u).shadow = (s : Int)) := hs
    have HSN : Hid (s < M.n) := hsn
    obtain ⟨sa, sc, sk, skc, hSY⟩ := HROW.out s hsn
    have HC10 : Hid (∀ Y, Kept (fun k => k < w.heap.size) w Y -> Y.cell? ⟨g, s * 14 + 10, none⟩ = some (.bool (M.nd s).fl.b)) := fun Y h' => (hSY Y h').2.1 10 _ rfl
    have c6 := HC6.out w (Kept.refl _ _)
    rw [hs] at c6
    have e1 : decide ((s : Int) < 0) = false := decide_eq_false (by omega)
    have hsm : s < m := by rw [<- HM.out]; exact hsn
    obtain ⟨mb, hmb⟩ : ∃ b, (M.nd s).fl.b = b := ⟨_, rfl⟩
    have HMB : Hid ((M.nd s).fl.b = mb) := hmb
    rw [hmb] at HC10
    clear hSY hs hsn hmb
    cases mb with
    | true =>
     have HZ : Hid (Z = zeo M i s) := by
      cases hF with
      | none e c =>
       rcases c with c | c | ⟨u', _, x1, x2⟩
       ·rw [HQ.out] at c; cases c
       ·have := HU.out; omega
       ·have : u' = u := by have := HU.out; omega
        subst this; have := HS.out; omega
      | hand u' s' _ _ _ x1 x2 _ e =>
       have : u' = u := by have := HU.out; omega
       subst this
       have : s' = s := by have := HS.out; omega
       subst this; exact e
      | name u' s' _ _ _ x1 x2 b _ =>
       have : u' = u := by have := HU.out; omega
       subst this
       have : s' = s := by have := HS.out; omega
       subst this; rw [HMB.out] at b; cases b
     clear hF
     go_enter Tryz.func17, Tryz.ntmps17
     go_upto_region 1 with fail
     go_quiet ((go_at_call 76; exact Calls.quiet_of_same (rq _)))
     obtain ⟨X1, hX1⟩ : ∃ X, w.drewN nq = X := ⟨_, rfl⟩
     rw [hX1]
     have HKX1 : Hid (Kept (fun k => k < w.heap.size) w X1) := by rw [<- hX1]; exact (Kept.refl _ w).drewN _
     clear hX1 c1 c4 c6
     have c1 := HC1.out X1 HKX1.out
     have c4 := HC4.out X1 HKX1.out
     have c6 := HC6.out X1 HKX1.out
     rw [HU.out] at c4
     rw [HS.out] at c6
     go_upto_region 3 with fail
     go_quiet (fail)
     obtain ⟨X, hX⟩ : ∃ X, X1.drewN nq = X := ⟨_, rfl⟩
     rw [hX]
     have HKX : Hid (Kept (fun k => k < w.heap.size) w X) := by rw [<- hX]; exact HKX1.out.drewN _
     clear hX c1 c4 c6 HKX1
     have c1 := HC1.out X HKX.out
     have c10 := HC10.out X HKX.out
     go_upto_region 5 with fail
     have RSL : Hid (∃ gz : Int, gz = (M.gf i).up /\ ∀ X, Kept (fun k => k < w.heap.size) w X -> Calls Tryz.prog 77 #[.pointer (some ⟨p, 0, none⟩), .int .i64 (i : Int)] X fun e w' => e = .returned (.int .i64 gz) /\ w' = X) := ⟨_, rfl, fun X hX => (zjk K p M R G (i : Int) X (HR.out.kept hX).r (Nat.le_trans HR.out.le (by decide)) (fun k hk => Nat.le_trans (za4 M.n _ (HR.out.inv.gw.nodup k hk) (fun x hx => HR.out.inv.gw.lt k hk x hx)) (Nat.le_trans HR.out.le (by decide)))).mono fun e w' ⟨z, hz, he, hw⟩ => ⟨by rw [he, hz.one (HR.out.inv.gw.slotA HI.out)], hw⟩⟩
     obtain ⟨gz, hgz, hrs⟩ := RSL.out
     have rs := hrs X HKX.out
     clear RSL hrs
     rcases HR.out.inv.gw.inn i HI.out with h0 | ⟨v, hv, hvu, -⟩
     ·have hg1 : gz = -1 := by rw [hgz, h0]
      subst hg1
      have HZ1 : Hid (Z = -1) := by
       rw [HZ.out]
       unfold zeo
       rw [h0]
       split <;> exact rfl
      have e2 : decide ((-1 : Int) >= 0) = false := by decide
      clear h0 hgz
      go_wp2_with (go_at_call 77; refine rs.mono ?_; rintro e1 w3 ⟨rfl, hw3⟩; replace hw3 := hw3.symm; subst hw3)
      go_ret
      exact ⟨by rw [HZ1.out]; rfl, HKX.out⟩
     ·have hg1 : gz = (v : Int) := by rw [hgz, hvu]
      subst hg1
      have ro := (HR.out.kept HKX.out).of hv
      obtain ⟨zo, hzo⟩ : ∃ zo, ofZ M (v : Int) = zo := ⟨_, rfl⟩
      rw [hzo] at ro
      have HZ1 : Hid (Z = if zo = (s : Int) then (v : Int) else -1) := by
       rw [HZ.out]
       unfold zeo
       rw [hvu, hzo]
       exact rfl
      have e2 : decide ((v : Int) >= 0) = true := decide_eq_true (by omega)
      clear hvu hgz hzo hv
      obtain ⟨qe, hqe⟩ : ∃ q, (zo == (s : Int)) = q := ⟨_, rfl⟩
      cases qe with
      | true =>
       have HZ2 : Hid (Z = (v : Int)) := by rw [HZ1.out, if_pos (by simpa using hqe)]; exact rfl
       clear HZ1
       go_wp2_with (first | (go_at_call 77; refine rs.mono ?_; rintro e1 w3 ⟨rfl, hw3⟩; replace hw3 := hw3.symm; subst hw3) | (go_at_call 78; refine ro.mono ?_; rintro e1 w3 ⟨rfl, hw3⟩; replace hw3 := hw3.symm; subst hw3))
       go_ret
       exact ⟨by rw [HZ2.out]; rfl, HKX.out⟩
      | false =>
       have h9 : ¬ zo = (s : Int) := by simpa using hqe
       have HZ2 : Hid (Z = -1) := by rw [HZ1.out, if_neg h9]; exact rfl
       clear HZ1 h9
       go_wp2_with (first | (go_at_call 77; refine rs.mono ?_; rintro e1 w3 ⟨rfl, hw3⟩; replace hw3 := hw3.symm; subst hw3) | (go_at_call 78; refine ro.mono ?_; rintro e1 w3 ⟨rfl, hw3⟩; replace hw3 := hw3.symm; subst hw3))
       go_ret
       exact ⟨by rw [HZ2.out]; rfl, HKX.out⟩
    | false =>
     have HZ : Hid (Z = zkf M R (atV zbh (M.nd i).attrs) s) := by
      cases hF with
      | none e c =>
       rcases c with c | c | ⟨u', _, x1, x2⟩
       ·rw [HQ.out] at c; cases c
       ·have := HU.out; omega
       ·have : u' = u := by have := HU.out; omega
        subst this; have := HS.out; omega
      | hand u' s' _ _ _ x1 x2 b _ =>
       have : u' = u := by have := HU.out; omega
       subst this
       have : s' = s := by have := HS.out; omega
       subst this; rw [HMB.out] at b; cases b
      | name u' s' _ _ _ x1 x2 b e =>
       have : u' = u := by have := HU.out; omega
       subst this
       have : s' = s := by have := HS.out; omega
       subst this; exact e
     clear hF
     go_enter Tryz.func17, Tryz.ntmps17
     go_upto_region 1 with fail
     go_quiet ((go_at_call 76; exact Calls.quiet_of_same (rq _)))
     obtain ⟨X1, hX1⟩ : ∃ X, w.drewN nq = X := ⟨_, rfl⟩
     rw [hX1]
     have HKX1 : Hid (Kept (fun k => k < w.heap.size) w X1) := by rw [<- hX1]; exact (Kept.refl _ w).drewN _
     clear hX1 c1 c4 c6
     have c1 := HC1.out X1 HKX1.out
     have c4 := HC4.out X1 HKX1.out
     have c6 := HC6.out X1 HKX1.out
     rw [HU.out] at c4
     rw [HS.out] at c6
     go_upto_region 3 with fail
     go_quiet (fail)
     obtain ⟨X, hX⟩ : ∃ X, X1.drewN nq = X := ⟨_, rfl⟩
     rw [hX]
     have HKX : Hid (Kept (fun k => k < w.heap.size) w X) := by rw [<- hX]; exact HKX1.out.drewN _
     clear hX c1 c4 c6 HKX1
     have c1 := HC1.out X HKX.out
     have c10 := HC10.out X HKX.out
     go_upto_region 9 with fail
     have rt := (HR.out.kept HKX.out).slots_in HSN.out
     have HLT : Hid (∀ x ∈ (tr M.n R s).filter (fun k => za9 (M.nd k)), x < M.n) := fun x hx => zic HR.out.inv.good.falls _ s HSN.out x (List.mem_filter.1 hx).1
     have hle := Nat.le_trans (List.length_filter_le (fun k => za9 (M.nd k)) (tr M.n R s)) (zjd HR.out.inv.good.only HSN.out)
     obtain ⟨nm, hnm⟩ : ∃ nm, atV zbh (M.nd i).attrs = nm := ⟨_, rfl⟩
     have HNM : Hid (atV zbh (M.nd i).attrs = nm) := hnm
     have hzf : Z = zee (fun k => decide (atV zbp (M.nd k).attrs = nm)) ((tr M.n R s).filter fun k => za9 (M.nd k)) := by
      rw [HZ.out]
      unfold zkf
      rw [zkm, hnm]
     obtain ⟨L, hL⟩ : ∃ L, (tr M.n R s).filter (fun k => za9 (M.nd k)) = L := ⟨_, rfl⟩
     rw [hL] at rt HLT hle hzf
     rw [HM.out] at hle
     have HZF : Hid (Z = zee (fun k => decide (atV zbp (M.nd k).attrs = nm)) L) := hzf
     obtain ⟨ll, hll⟩ : ∃ ll, L.length = ll := ⟨_, rfl⟩
     have HLL : Hid (L.length = ll) := hll
     rw [hll] at hle
     clear hnm hzf hL HZ
     go_upto_region 10 with (go_at_call 24; refine rt.mono ?_; rintro e w5 ⟨ta, tc, rfl, hTO, hk5⟩; rw [hll])
     have HRW : Hid (Zad (fun g => g < w5.heap.size) w5 ta L) := hTO.intsAt fun g hg => (hTO.out hg).2
     have HK5 : Hid (Kept (fun k => k < w.heap.size) w w5) := kt HKX.out hk5
     clear rt hTO hk5 hll c1 c10
     go_upto_region 11 with fail
     go_loopg [8] ll (fun gh v8 wr => ∃ j : Nat, gh = ll - j /\ j <= ll /\ v8 = .int .i64 (j : Int) /\ (∀ y ∈ L.take j, decide (atV zbp (M.nd y).attrs = nm) = false) /\ Kept (fun k => k < w5.heap.size) w5 wr)
     case atStart => exact ⟨0, rfl, Nat.zero_le _, rfl, fun y hy => by simp at hy, Kept.refl _ _⟩
     case round =>
      obtain ⟨j, hgj, hj, rfl, hno, hKj⟩ := hrel
      have HNO : Hid (∀ y ∈ L.take j, decide (atV zbp (M.nd y).attrs = nm) = false) := hno
      have HKJ : Hid (Kept (fun k => k < w5.heap.size) w5 wr) := hKj
      have HKW : Hid (Kept (fun k => k < w.heap.size) w wr) := kt HK5.out hKj
      clear hno hKj
      by_cases hlt : j < ll
      ·have hjL : j < L.length := by rw [HLL.out]; exact hlt
       obtain ⟨b, o, rfl, hb, dd⟩ := HRW.out j hjL
       have hxn := HLT.out L[j] (List.getElem_mem hjL)
       have htk : L.take (j + 1) = L.take j ++ [L[j]] := List.take_succ_eq_append_getElem hjL
       have hsp : L = L.take j ++ (L[j] :: L.drop (j + 1)) := by rw [<- List.drop_eq_getElem_cons hjL, List.take_append_drop]
       obtain ⟨x, hx⟩ : ∃ x, L[j] = x := ⟨_, rfl⟩
       rw [hx] at dd hxn htk hsp
       have HTK : Hid (L.take (j + 1) = L.take j ++ [x]) := htk
       have HZX : Hid (decide (atV zbp (M.nd x).attrs = nm) = true -> Z = (x : Int)) := fun hp => by
        rw [HZF.out, hsp]
        unfold zee
        rw [List.find?_append, List.find?_eq_none.2 (fun y hy => by rw [HNO.out y hy]; simp), List.find?_cons_of_pos (p := fun k => decide (atV zbp (M.nd k).attrs = nm)) hp]
        rfl
       obtain ⟨xa, xc, xk, xkc, hXY⟩ := HROW.out x hxn
       obtain ⟨cx, hcx⟩ : ∃ cx, zbd (M.nd x) (M.pl x).up xa xc xk (R x).length xkc = cx := ⟨_, rfl⟩
       obtain ⟨ci, hci⟩ : ∃ ci, zbd (M.nd i) (M.pl i).up aa ac ka (R i).length kc = ci := ⟨_, rfl⟩
       have hsx : (Tryz.prog.info? 58).map (·.size) = some cx.length := by rw [<- hcx]; rfl
       have hsi : (Tryz.prog.info? 58).map (·.size) = some ci.length := by rw [<- hci]; rfl
       have HW : Hid (∀ Y, Kept (fun k => k < wr.heap.size) wr Y -> Kept (fun k => k < w.heap.size) w Y) := fun Y hY => kt HKW.out hY
       have HDD : Hid (∀ Y, Kept (fun k => k < wr.heap.size) wr Y -> Y.cell? ⟨b, o + j, none⟩ = some (.int .i64 (x : Int))) := fun Y hY => ((kt HKJ.out hY).cell (p := ⟨b, o + j, none⟩) hb).trans dd
       have HE1 : Hid (∀ Y, Kept (fun k => k < wr.heap.size) wr Y -> Y.cell? ⟨p, 1, none⟩ = some (.slice (some ⟨g, 0, none⟩) m nc)) := fun Y hY => HC1.out Y (HW.out Y hY)
       have HXX : Hid (∀ Y, Kept (fun k => k < wr.heap.size) wr Y -> Y.rangeAt g (x * 14) cx) := fun Y hY => by rw [<- hcx]; exact (hXY Y (HW.out Y hY)).2.1
       have HII : Hid (∀ Y, Kept (fun k => k < wr.heap.size) wr Y -> Y.rangeAt g (i * 14) ci) := fun Y hY => by rw [<- hci]; exact (HY.out Y (HW.out Y hY)).2.1
       have R1 : Hid (∀ Y, Kept (fun k => k < wr.heap.size) wr Y -> Calls Tryz.prog 79 #[.agg cx.toArray, .string ⟨#[110, 97, 109, 101]⟩] Y fun e w' => e = .returned (sv (atV zbp (M.nd x).attrs)) /\ Kept (fun k => k < Y.heap.size) Y w') := fun Y hY => by
        have := zlt (M.nd x) xa xc (M.pl x).up xk (R x).length xkc ⟨#[110, 97, 109, 101]⟩ Y (HR.out.inv.good.few x hxn) (hXY Y (HW.out Y hY)).2.2
        rw [ByteArray.toList_eq] at this
        rw [<- hcx]
        exact this
       have R2 : Hid (∀ Y, Kept (fun k => k < wr.heap.size) wr Y -> Calls Tryz.prog 79 #[.agg ci.toArray, .string ⟨#[115, 108, 111, 116]⟩] Y fun e w' => e = .returned (sv nm) /\ Kept (fun k => k < Y.heap.size) Y w') := fun Y hY => by
        have := zlt (M.nd i) aa ac (M.pl i).up ka (R i).length kc ⟨#[115, 108, 111, 116]⟩ Y (HR.out.inv.good.few i HI.out) (HY.out Y (HW.out Y hY)).2.2
        rw [ByteArray.toList_eq] at this
        rw [<- HNM.out, <- hci]
        exact this
       obtain ⟨au, hau⟩ : ∃ b, (⟨(atV zbp (M.nd x).attrs).toArray⟩ : ByteArray) = b := ⟨_, rfl⟩
       have HAU : Hid (atV zbp (M.nd x).attrs = au.toList) := by rw [<- hau, ByteArray.toList_eq]; exact rfl
       obtain ⟨nu, hnu⟩ : ∃ b, (⟨nm.toArray⟩ : ByteArray) = b := ⟨_, rfl⟩
       have HNU : Hid (nm = nu.toList) := by rw [<- hnu, ByteArray.toList_eq]; exact rfl
       unfold sv at R1 R2
       rw [hau] at R1
       rw [hnu] at R2
       obtain ⟨qd, hqd⟩ : ∃ q, (au.toList == nu.toList) = q := ⟨_, rfl⟩
       have HP : Hid (decide (atV zbp (M.nd x).attrs = nm) = qd) := by
        rw [HAU.out, HNU.out, <- hqd]
        by_cases cc : au.toList = nu.toList
        ·rw [decide_eq_true cc, cc]; exact (beq_self_eq_true _).symm
        ·rw [decide_eq_false cc]; exact (beq_eq_false_iff_ne.2 cc).symm
       have hxm : x < m := by rw [<- HM.out]; exact hxn
       clear dd hx hxn htk hsp hXY hcx hci hau hnu
       go_upto_region 13 with fail
       refine wp_region_held_drew (S := fun Y => Kept (fun k => k < wr.heap.size) wr Y) (by kernel_rfl) ((Kept.refl _ wr).drew) (fun hHeld => ?_)
       refine tkH 0 88 (.pointer (some ⟨p, 0, none⟩)) rfl rfl (by kernel_rfl) (by rfl) (by intro Y hY; go_simp; try with_reducible rfl) (fun _ _ _ h => h) hHeld ?_
       try simp only [Act.put, List.setIfInBounds_toArray, List.set_cons_zero, List.set_cons_succ]
       refine tkH 1 89 (.pointer (some ⟨p, 0, none⟩)) rfl rfl (by kernel_rfl) (by rfl) (by intro Y hY; go_simp; try with_reducible rfl) (fun _ _ _ h => h) hHeld ?_
       try simp only [Act.put, List.setIfInBounds_toArray, List.set_cons_zero, List.set_cons_succ]
       refine tkH 2 90 (.pointer (some ⟨p, 1, none⟩)) rfl rfl (by kernel_rfl) (by rfl) (by intro Y hY; go_simp; try with_reducible rfl) (fun _ _ _ h => h) hHeld ?_
       try simp only [Act.put, List.setIfInBounds_toArray, List.set_cons_zero, List.set_cons_succ]
       refine tkH 3 91 (.slice (some ⟨g, 0, none⟩) m nc) rfl rfl (by kernel_rfl) (by rfl) (by intro Y hY; have hc := HE1.out Y hY; go_simp; try with_reducible rfl) (fun _ _ _ h => h) hHeld ?_
       try simp only [Act.put, List.setIfInBounds_toArray, List.set_cons_zero, List.set_cons_succ]
       refine tkH 4 92 (.slice (some ⟨b, o, none⟩) ll tc) rfl rfl (by kernel_rfl) (by rfl) (by intro Y hY; go_simp; try with_reducible rfl) (fun _ _ _ h => h) hHeld ?_
       try simp only [Act.put, List.setIfInBounds_toArray, List.set_cons_zero, List.set_cons_succ]
       refine tkH 5 93 (.int .i64 (j : Int)) rfl rfl (by kernel_rfl) (by rfl) (by intro Y hY; go_simp; try with_reducible rfl) (fun _ _ _ h => h) hHeld ?_
       try simp only [Act.put, List.setIfInBounds_toArray, List.set_cons_zero, List.set_cons_succ]
       refine tkH 6 94 (.pointer (some ⟨b, o + j, none⟩)) rfl rfl (by kernel_rfl) (by rfl) (by intro Y hY; go_simp; try with_reducible rfl) (fun _ _ _ h => h) hHeld ?_
       try simp only [Act.put, List.setIfInBounds_toArray, List.set_cons_zero, List.set_cons_succ]
       refine tkH 7 95 (.int .i64 (x : Int)) rfl rfl (by kernel_rfl) (by rfl) (by intro Y hY; have hc := HDD.out Y hY; go_simp; try with_reducible rfl) (fun _ _ _ h => h) hHeld ?_
       try simp only [Act.put, List.setIfInBounds_toArray, List.set_cons_zero, List.set_cons_succ]
       refine tkH 8 96 (.pointer (some ⟨g, x * 14, none⟩)) rfl rfl (by kernel_rfl) (by rfl) (by intro Y hY; go_simp; try with_reducible rfl) (fun _ _ _ h => h) hHeld ?_
       try simp only [Act.put, List.setIfInBounds_toArray, List.set_cons_zero, List.set_cons_succ]
       refine tkH 9 97 (.agg cx.toArray) rfl rfl (by kernel_rfl) (by rfl) (by intro Y hY; exact zh6 58 _ rfl g (x * 14) rfl cx _ (HXX.out Y hY) Tryz.underlying58 rfl hsx) (fun _ _ _ h => h) hHeld ?_
       try simp only [Act.put, List.setIfInBounds_toArray, List.set_cons_zero, List.set_cons_succ]
       refine tkH 11 99 (.pointer (some ⟨p, 0, none⟩)) rfl rfl (by kernel_rfl) (by rfl) (by intro Y hY; go_simp; try with_reducible rfl) (fun _ _ _ h => h) hHeld ?_
       try simp only [Act.put, List.setIfInBounds_toArray, List.set_cons_zero, List.set_cons_succ]
       refine tkH 12 100 (.pointer (some ⟨p, 0, none⟩)) rfl rfl (by kernel_rfl) (by rfl) (by intro Y hY; go_simp; try with_reducible rfl) (fun _ _ _ h => h) hHeld ?_
       try simp only [Act.put, List.setIfInBounds_toArray, List.set_cons_zero, List.set_cons_succ]
       refine tkH 13 101 (.pointer (some ⟨p, 1, none⟩)) rfl rfl (by kernel_rfl) (by rfl) (by intro Y hY; go_simp; try with_reducible rfl) (fun _ _ _ h => h) hHeld ?_
       try simp only [Act.put, List.setIfInBounds_toArray, List.set_cons_zero, List.set_cons_succ]
       refine tkH 14 102 (.slice (some ⟨g, 0, none⟩) m nc) rfl rfl (by kernel_rfl) (by rfl) (by intro Y hY; have hc := HE1.out Y hY; go_simp; try with_reducible rfl) (fun _ _ _ h => h) hHeld ?_
       try simp only [Act.put, List.setIfInBounds_toArray, List.set_cons_zero, List.set_cons_succ]
       refine tkH 15 103 (.int .i64 (i : Int)) rfl rfl (by kernel_rfl) (by rfl) (by intro Y hY; go_simp; try with_reducible rfl) (fun _ _ _ h => h) hHeld ?_
       try simp only [Act.put, List.setIfInBounds_toArray, List.set_cons_zero, List.set_cons_succ]
       refine tkH 16 104 (.pointer (some ⟨g, i * 14, none⟩)) rfl rfl (by kernel_rfl) (by rfl) (by intro Y hY; go_simp; try with_reducible rfl) (fun _ _ _ h => h) hHeld ?_
       try simp only [Act.put, List.setIfInBounds_toArray, List.set_cons_zero, List.set_cons_succ]
       refine tkH 17 105 (.agg ci.toArray) rfl rfl (by kernel_rfl) (by rfl) (by intro Y hY; exact zh6 58 _ rfl g (i * 14) rfl ci _ (HII.out Y hY) Tryz.underlying58 rfl hsi) (fun _ _ _ h => h) hHeld ?_
       try simp only [Act.put, List.setIfInBounds_toArray, List.set_cons_zero, List.set_cons_succ]
       refine clH 10 98 79 #[.agg cx.toArray, .string ⟨#[110, 97, 109, 101]⟩] rfl rfl (by kernel_rfl) (by rfl) rfl (by first | rfl | (simp [Act.eval]; done) | (simp [Act.eval, Act.put]; done)) (enter79 _ _) (R1.out _ hHeld) ?_
       rintro e Y ⟨rfl, hk9⟩
       refine ⟨_, rfl, kt hHeld hk9, fun hHeld2 => ?_⟩
       replace hHeld := hHeld2
       clear hHeld2
       try simp only [Act.put, List.setIfInBounds_toArray, List.set_cons_zero, List.set_cons_succ]
       refine clH 18 106 79 #[.agg ci.toArray, .string ⟨#[115, 108, 111, 116]⟩] rfl rfl (by kernel_rfl) (by rfl) rfl (by first | rfl | (simp [Act.eval]; done) | (simp [Act.eval, Act.put]; done)) (enter79 _ _) (R2.out _ hHeld) ?_
       rintro e Y2 ⟨rfl, hk9⟩
       refine ⟨_, rfl, kt hHeld hk9, fun hHeld2 => ?_⟩
       replace hHeld := hHeld2
       clear hHeld2
       try simp only [Act.put, List.setIfInBounds_toArray, List.set_cons_zero, List.set_cons_succ]
       cases qd with
       | false =>
        have HF : Hid (∀ y ∈ L.take (j + 1), decide (atV zbp (M.nd y).attrs = nm) = false) := fun y hy => by
         rw [HTK.out] at hy
         rcases List.mem_append.1 hy with h | h
         ·exact HNO.out y h
         ·rw [List.mem_singleton.1 h]; exact HP.out
        refine tkH 19 107 (.bool false) rfl rfl (by kernel_rfl) (by rfl) (by intro Y hY; go_simp; try with_reducible rfl) (fun _ _ _ h => h) hHeld ?_
        try simp only [Act.put, List.setIfInBounds_toArray, List.set_cons_zero, List.set_cons_succ]
        refine wpAnyH_done (by kernel_rfl) ?_ _
        have HKF : Hid (Kept (fun k => k < w5.heap.size) w5 Y2) := kt HKJ.out hHeld
        clear hk9 hHeld
        go_wp2
        go_roundg (ll - (j + 1))
        case rel => exact ⟨j + 1, rfl, by omega, by go_num, HF.out, HKF.out⟩
        case measure => omega
       | true =>
        have HZ9 : Hid (Z = (x : Int)) := HZX.out HP.out
        refine tkH 19 107 (.bool true) rfl rfl (by kernel_rfl) (by rfl) (by intro Y hY; go_simp; try with_reducible rfl) (fun _ _ _ h => h) hHeld ?_
        try simp only [Act.put, List.setIfInBounds_toArray, List.set_cons_zero, List.set_cons_succ]
        refine wpAnyH_done (by kernel_rfl) ?_ _
        have dv := HDD.out Y2 hHeld
        have HKF : Hid (Kept (fun k => k < w.heap.size) w Y2) := HW.out Y2 hHeld
        clear hk9 hHeld
        go_wp2
        go_ret
        exact ⟨by rw [HZ9.out]; rfl, HKF.out⟩
      ·have hjn : ll = j := by omega
       subst hjn
       have HZ9 : Hid (Z = -1) := by
        rw [HZF.out]
        unfold zee
        rw [List.find?_eq_none.2 (fun y hy => by rw [HNO.out y (by rw [List.take_of_length_le (by rw [HLL.out]; exact Nat.le_refl _)]; exact hy)]; simp)]
        exact rfl
       go_wp2
       go_ret
       exact ⟨by rw [HZ9.out]; rfl, HKW.out⟩
end
end Go.Proofs.YtfeinppedejlpaaGreat
