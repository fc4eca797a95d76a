/-
 Doc.Drop.; Leaves of Doc.Give: Slot, mayShow, the two questions, IndexFunc, ContainsFunc, mayGive where all may be given.; Doc.Give of nodes that may be given.; shadow.Of, isClosed, Open.; Nodes and all that follow them, in order (pure).
-/
import Derived.Test.YtfeinppedejlpaaGreatNB18
import Derived.Test.YtfeinppedejlpaaGreatNB16
import Derived.Test.YtfeinppedejlpaaGreatNB15
import Derived.Test.YtfeinppedejlpaaGreatNB10
import Derived.Laws.EntriesVeiled
import Derived.RowKit
namespace Go.Proofs.YtfeinppedejlpaaGreat
set_option linter.unusedVariables false
set_option maxRecDepth 100000
set_option maxHeartbeats 8000000
section
open Go.RowKit
theorem DY.cutAttrs {K : Nat -> Prop} {w w' : World} {p : Nat} {S : Dm} {g : Nat} {cap : Nat} (h : DY K w p S (some ⟨g, 0, none⟩) cap) {i : Nat} (hi : i < S.n) {ag n n' c : Nat} {l : List Atr}
  (hO : ∀ K', Zac K' w 108 2 (some ⟨ag, 0, none⟩) n c (zab (S.nd i).attrs) -> Zac K' w' 108 2 (some ⟨ag, 0, none⟩) n' c (zab l)) (hc : w.cell? ⟨g, i * 22 + 3, none⟩ = some (.slice (some ⟨ag, 0, none⟩) n c)) (hk : Kept (fun j => j < w.heap.size /\ j ≠ ag) w w') (hln : l.length = n') :
  DY K (w'.setCell ⟨g, i * 22 + 3, none⟩ (.slice (some ⟨ag, 0, none⟩) n' c)) p (S.setN i { S.nd i with attrs := l }) (some ⟨g, 0, none⟩) cap /\ Kept K w (w'.setCell ⟨g, i * 22 + 3, none⟩ (.slice (some ⟨ag, 0, none⟩) n' c)) := by
 subst hln
 obtain ⟨gk, gp, gl⟩ := h.gk
 obtain ⟨h1, h2, h3, xs, aa, ac, ho, hx, ha, hs⟩ := h
 have hp := zad h3
 have hai : aa i = some ⟨ag, 0, none⟩ /\ (S.nd i).attrs.length = n /\ ac i = c := by
  obtain ⟨g', e, hc'⟩ := ho.cell (hx i hi 3 _ rfl)
  have : g' = g := by injection e with e; injection e with e; exact e.symm
  subst this
  rw [hc] at hc'
  injection hc' with hc'
  injection hc' with q1 q2 q3
  exact ⟨q1.symm, q2.symm, q3.symm⟩
 obtain ⟨e1, e2, e3⟩ := hai
 have hOi := ha i hi
 rw [e1, e2, e3] at hOi
 have hag := Zac.out hOi (g := ag) rfl
 have hagg : ag ≠ g := fun e => hag.1 (.inr (.inr (e ▸ rfl)))
 have hagp : ag ≠ p := fun e => hag.1 (.inr (.inl e))
 have hagK : ¬ K ag := fun e => hag.1 (.inl e)
 have kG : Kept (fun k => k ≠ g) w' (w'.setCell ⟨g, i * 22 + 3, none⟩ (.slice (some ⟨ag, 0, none⟩) l.length c)) := (Kept.refl _ w').setCell (p := ⟨g, i * 22 + 3, none⟩) (fun h => h rfl) _
 have kO : Kept (fun k => k < w.heap.size /\ k ≠ g /\ k ≠ ag) w (w'.setCell ⟨g, i * 22 + 3, none⟩ (.slice (some ⟨ag, 0, none⟩) l.length c)) := (hk.mono fun k h => ⟨h.1, h.2.2⟩).trans (kG.mono fun k h => h.2.1)
 refine ⟨⟨fun k hk' => ltl (h1 k hk') kO.size, h2, by rw [kO.block p ⟨hp, fun e => gp e.symm, fun e => hagp e.symm⟩]; exact h3, xs.set (i * 22 + 3) (.slice (some ⟨ag, 0, none⟩) l.length c), aa, ac, ?_, ?_, ?_, ?_⟩, kO.mono fun k hk' => ⟨h1 k hk', fun e => gk (e ▸ hk'), fun e => hagK (e ▸ hk')⟩⟩
 ·obtain ⟨o1, o2, o3, o4⟩ := ho
  refine ⟨by rw [List.length_set]; exact o1, o2, o3, ?_⟩
  rcases o4 with ⟨r1, _⟩ | ⟨g', cur, r1, r2, r3, r4, r5⟩
  ·cases r1
  ·injection r1 with r1
   injection r1 with r1
   subst r1
   have r3' : w'.heap[g]? = some (.cells cur 114 (0, 0)) := (hk.block g ⟨gl, fun e => hagg e.symm⟩).trans r3
   refine .inr ⟨g, _, rfl, r2, zai r3' _ _, by simp [r4], ?_⟩
   rw [Array.toList_setIfInBounds, <- r5, List.take_set]
   rfl
 ·intro j hj f u hu
  have hj' : j < S.n := hj
  have hf : f < 22 := by
   rcases Nat.lt_or_ge f 22 with hh | hh
   ·exact hh
   ·rw [List.getElem?_eq_none (by rw [Dm.cells_len]; exact hh)] at hu; cases hu
  by_cases cj : j = i
  ·subst cj
   have e : (S.setN j { S.nd j with attrs := l }).cells j (aa j) (ac j) = (S.cells j (aa j) (ac j)).set 3 (.slice (some ⟨ag, 0, none⟩) l.length c) := by
    rw [e1, e3]
    simp only [Dm.cells, Dm.setN, if_pos]
    rfl
   rw [e] at hu
   by_cases c2 : f = 3
   ·subst c2
    have hl : j * 22 + 3 < xs.length := by rw [ho.1]; have := Nat.mul_le_mul_right 22 hi; omega
    rw [List.getElem?_set_self (by rw [Dm.cells_len]; exact hf)] at hu
    rw [List.getElem?_set_self hl]
    exact hu
   ·rw [List.getElem?_set_ne (by omega)] at hu
    rw [List.getElem?_set_ne (by omega)]
    exact hx j hj' f u hu
  ·have e : (S.setN i { S.nd i with attrs := l }).cells j (aa j) (ac j) = S.cells j (aa j) (ac j) := by
    simp only [Dm.cells, Dm.setN, if_neg cj]
   rw [e] at hu
   rw [List.getElem?_set_ne (by omega)]
   exact hx j hj' f u hu
 ·intro j hj
  have hj' : j < S.n := hj
  by_cases cj : j = i
  ·subst cj
   have e : ((S.setN j { S.nd j with attrs := l }).nd j).attrs = l := by simp only [Dm.setN, if_pos]
   rw [e, e1, e3]
   have := hO _ hOi
   exact Zac.to this (fun x hx => (Zac.out this hx).1) (fun x hx => kG.block x fun e => (Zac.out this hx).1 (.inr (.inr (e ▸ rfl))))
  ·have e : ((S.setN i { S.nd i with attrs := l }).nd j).attrs = (S.nd j).attrs := by simp only [Dm.setN, if_neg cj]
   rw [e]
   exact Zac.to (ha j hj') (fun x hx => ((ha j hj').out hx).1) (fun x hx => kO.block x ⟨((ha j hj').out hx).2, fun e => ((ha j hj').out hx).1 (.inr (.inr (e ▸ rfl))), fun e => hs i j hi hj' (fun e => cj e.symm) x (by rw [e1, e]; rfl) hx⟩)
 ·exact hs
theorem zpw (K : Nat -> Prop) (p i : Nat) (M : Dm) (S : ByteArray) (w : World) (h : DX K w p M) (hi : i < M.n) (hMn : M.n <= 1000000) (hkd : (M.nd i).kind = 1) (hfew : (M.nd i).attrs.length <= 100000) :
  Calls Tryz.prog 99 #[.pointer (some ⟨p, 0, none⟩), .int .i64 (i : Int), .string S] w fun e w' =>
   ((∃ k, ∃ hk : k < (M.nd i).attrs.length, (M.nd i).attrs[k].name = S.toList /\ (∀ x ∈ (M.nd i).attrs.take k, x.name ≠ S.toList) /\ e = .returned (.int .u16 0) /\ DX K w' p (M.setN i { M.nd i with attrs := (M.nd i).attrs.eraseIdx k })) \/
    ((∀ x ∈ (M.nd i).attrs, x.name ≠ S.toList) /\ e = .returned (.int .u16 82) /\ DX K w' p M)) /\ Kept K w w' := by
 obtain ⟨ga, gc, hY⟩ := h
 obtain ⟨g, rfl, -, -, -⟩ := hY.at (by omega)
 obtain ⟨aa, ac, hc, hO⟩ := hY.cell hi
 have c0 : w.cell? ⟨g, i * 22, none⟩ = some (.int .u8 1) := by have := hc 0 _ rfl; rw [hkd] at this; exact this
 have c3 : w.cell? ⟨g, i * 22 + 3, none⟩ = some (.slice aa (M.nd i).attrs.length ac) := hc 3 _ rfl
 have re := zdt p g M.n gc i 81 w hY.c1 hi (by omega) c0
 have gl := hY.gk.2.2
 have ats : Zag (fun k => k < w.heap.size) w aa (M.nd i).attrs := hO.atsAt (K' := fun k => k < w.heap.size) fun x hx => (Zac.out hO hx).2
 obtain ⟨V, hV⟩ : ∃ V, w.drew.alloc (.cells #[.string S] 9) = V := ⟨_, rfl⟩
 have kV : Kept (fun k => k < w.heap.size) w V := by rw [<- hV]; exact (Kept.refl _ w).drew.alloc (fun _ h => h) _
 obtain ⟨B, hB⟩ : ∃ B, w.heap.size = B := ⟨_, rfl⟩
 have hbV : V.cell? ⟨B, 0, none⟩ = some (.string S) := by rw [<- hV, <- hB]; exact (zaa (heap_alloc_new w.drew _) 0).trans rfl
 have rn := zhg S w.drew
 have c3d : w.drew.cell? ⟨g, i * 22 + 3, none⟩ = some (.slice aa (M.nd i).attrs.length ac) := c3
 have c3v : V.cell? ⟨g, i * 22 + 3, none⟩ = some (.slice aa (M.nd i).attrs.length ac) := (kV.cell (p := ⟨g, i * 22 + 3, none⟩) gl).trans c3
 obtain ⟨l, hl⟩ : ∃ l, (M.nd i).attrs = l := ⟨_, rfl⟩
 have HY : Hid (DY K w p M (some ⟨g, 0, none⟩) gc) := hY
 have HO : Hid (Zac (fun k => K k \/ k = p \/ k = g) w 108 2 aa (M.nd i).attrs.length ac (zab (M.nd i).attrs)) := hO
 have HLA : Hid ((M.nd i).attrs = l) := hl
 rw [hl] at c3 c3d c3v hfew HO ats ⊢
 obtain ⟨n, hn⟩ : ∃ n, l.length = n := ⟨_, rfl⟩
 rw [hn] at c3 c3d c3v hfew HO
 have HN : Hid (l.length = n) := hn
 have hfg := hY.fg (i * 22 + 3)
 have HC3 : Hid (w.cell? ⟨g, i * 22 + 3, none⟩ = some (.slice aa n ac)) := c3
 have ri' : Calls Tryz.prog 154 #[.slice aa n ac, .func (.func 234) #[] #[.pointer (some ⟨B, 0, none⟩)]] V fun e w' => ∃ z : Int, e = .returned (.int .i64 z) /\ ((∃ k, ∃ h : k < l.length, z = (k : Int) /\ l[k].name = S.toList /\ ∀ x ∈ l.take k, x.name ≠ S.toList) \/ (z = -1 /\ ∀ x ∈ l, x.name ≠ S.toList)) /\ Kept (fun k => k < w.heap.size) w w' := by
  exact (zge l n hn (by omega) aa ac B S V (ats.kept kV fun k h => ltl h kV.size) hbV).mono fun e w' hh => by
   obtain ⟨hres, hk⟩ := hh
   have hk' : Kept (fun k => k < w.heap.size) w w' := kt kV hk
   rcases hres with ⟨k, q1, q2, q3, q4⟩ | ⟨q1, q2⟩
   ·exact ⟨_, q2, .inl ⟨k, q1, rfl, q3, q4⟩, hk'⟩
   ·exact ⟨_, q1, .inr ⟨rfl, q2⟩, hk'⟩
 have HV : Hid (w.drew.alloc (.cells #[.string S] 9) = V) := hV
 have HKW : Hid (∀ k, K k -> k < w.heap.size) := hY.1
 have HB : Hid (w.heap.size = B) := hB
 clear hY hc hO hn hl hkd c0 ats kV hbV hV hB
 go_enter Tryz.func99, Tryz.ntmps99
 go_upto_region 4 with (go_at_call 135; refine re.mono ?_; rintro e w2 ⟨rfl, hw2⟩; replace hw2 := hw2.symm; subst hw2)
 clear re
 go_cut [9] from 19 to 25 (fun v wx => ∃ z : Int, v = .int .i64 z /\ ((∃ k, ∃ h : k < l.length, z = (k : Int) /\ l[k].name = S.toList /\ ∀ x ∈ l.take k, x.name ≠ S.toList) \/ (z = -1 /\ ∀ x ∈ l, x.name ≠ S.toList)) /\ Kept (fun k => k < w.heap.size) w wx)
 case first =>
  clear HY HO HLA HN HC3 hfg
  go_region_with (first | (go_at_call 177; refine rn.mono ?_; rintro e w2 ⟨rfl, hw2⟩; rw [show w.drew.heap.size = B from HB.out]; rw [HV.out] at hw2; subst hw2) | (go_at_call 154; refine ri'.mono ?_; rintro e w2 ⟨z, rfl, hz, hk2⟩))
  all_goals
   go_wp2_with fail
   go_meet
   exact ⟨z, rfl, hz, hk2⟩
 case rest =>
  obtain ⟨z, rfl, hz, hk2⟩ := hcut
  clear c3 c3d c3v ri' rn HV HB
  rcases hz with ⟨k, hk, rfl, hname, hno⟩ | ⟨rfl, hno⟩
  ·obtain ⟨a0, -⟩ := zep l k hk
   obtain ⟨ag, rfl, -⟩ := HO.out.cell a0
   have hagl := (Zac.out HO.out (g := ag) rfl).2
   have hc3 : wc.cell? ⟨g, i * 22 + 3, none⟩ = some (.slice (some ⟨ag, 0, none⟩) n ac) := (hk2.cell (p := ⟨g, i * 22 + 3, none⟩) gl).trans HC3.out
   have hYc := HY.out.kept hk2
   have hOc : Zac (fun j => j ≠ ag) wc 108 2 (some ⟨ag, 0, none⟩) n ac (zab l) := Zac.to HO.out (fun x hx hh => hh (by have hx' : some (⟨ag, 0, none⟩ : Addr) = some ⟨x, 0, none⟩ := hx; injection hx' with hx'; injection hx' with hx'; exact hx'.symm)) (fun x hx => hk2.block x (Zac.out HO.out hx).2)
   obtain ⟨n', hn'⟩ : ∃ n', n = n' + 1 := ⟨n - 1, by have := HN.out; omega⟩
   subst hn'
   have hkn : k < n' + 1 := by rw [<- HN.out]; exact hk
   have rd := zke (fun j => j ≠ ag) l ag n' ac k HN.out hkn (by omega) wc hOc
   have HRD : Hid (Calls Tryz.prog 178 #[.slice (some ⟨ag, 0, none⟩) ((n' + 1 : Nat)) ac, .int .i64 (k : Int), .int .i64 ((k : Int) + 1)] wc fun e w' => e = .returned (.slice (some ⟨ag, 0, none⟩) n' ac) /\ Zac (fun j => j ≠ ag) w' 108 2 (some ⟨ag, 0, none⟩) n' ac (zab (l.eraseIdx k)) /\ Kept (fun j => j < wc.heap.size /\ j ≠ ag) wc w') := rd
   have HYc : Hid (DY K wc p M (some ⟨g, 0, none⟩) gc) := hYc
   have HK2 : Hid (Kept (fun k => k < w.heap.size) w wc) := hk2
   have HNM : Hid (l[k].name = S.toList /\ ∀ x ∈ l.take k, x.name ≠ S.toList) := ⟨hname, hno⟩
   have hgag : g ≠ ag := fun e => (Zac.out HO.out (g := ag) rfl).1 (.inr (.inr e.symm))
   have hfc : wc.frozen? ⟨g, i * 22 + 3, none⟩ = false := (hk2.frozen (p := ⟨g, i * 22 + 3, none⟩) gl).trans hfg
   have hglc : g < wc.heap.size := ltl gl hk2.size
   have HC3c : Hid (wc.cell? ⟨g, i * 22 + 3, none⟩ = some (.slice (some ⟨ag, 0, none⟩) (n' + 1) ac)) := hc3
   clear rd hYc hk2 hOc hname hno a0 HY HC3 hfg
   go_wp2_with fail
   refine HRD.out.mono ?_
   rintro e w3 ⟨rfl, hO3, hK3⟩
   have hc4 : w3.cell? ⟨g, i * 22 + 3, none⟩ = some (.slice (some ⟨ag, 0, none⟩) (n' + 1) ac) := (hK3.cell (p := ⟨g, i * 22 + 3, none⟩) ⟨hglc, hgag⟩).trans HC3c.out
   have hf4 : w3.frozen? ⟨g, i * 22 + 3, none⟩ = false := (hK3.frozen (p := ⟨g, i * 22 + 3, none⟩) ⟨hglc, hgag⟩).trans hfc
   obtain ⟨hY5, hK5⟩ := HYc.out.cutAttrs hi (ag := ag) (n := n' + 1) (n' := n') (c := ac) (l := l.eraseIdx k) (fun K' hK' => Zac.to hO3 (fun x hx => by
    have hx' : some (⟨ag, 0, none⟩ : Addr) = some ⟨x, 0, none⟩ := hx
    injection hx' with hx'
    injection hx' with hx'
    subst hx'
    exact (Zac.out hK' (g := ag) rfl).1) (fun _ _ => rfl)) HC3c.out hK3 (by rw [List.length_eraseIdx, if_pos hk, HN.out]; rfl)
   have HX5 : Hid (DX K (w3.setCell ⟨g, i * 22 + 3, none⟩ (.slice (some ⟨ag, 0, none⟩) n' ac)) p (M.setN i { M.nd i with attrs := l.eraseIdx k })) := ⟨_, _, hY5⟩
   have HK5 : Hid (Kept K w (w3.setCell ⟨g, i * 22 + 3, none⟩ (.slice (some ⟨ag, 0, none⟩) n' ac))) := (HK2.out.mono HKW.out).trans hK5
   clear HRD hO3 hK3 hY5 hK5 hc3
   go_wp2
   go_ret
   exact ⟨.inl ⟨k, hk, HNM.out.1, HNM.out.2, rfl, HX5.out⟩, HK5.out⟩
  ·have HX2 : Hid (DX K wc p M) := ⟨_, _, HY.out.kept hk2⟩
   have HK2 : Hid (Kept K w wc) := hk2.mono HY.out.1
   have HNO : Hid (∀ x ∈ l, x.name ≠ S.toList) := hno
   clear hk2 hno HY HO HC3 hfg
   go_wp2
   go_ret
   exact ⟨.inr ⟨HNO.out, rfl, HX2.out⟩, HK2.out⟩
end
section
open Go.RowKit
theorem zmq (K : Nat -> Prop) (p i : Nat) (S : Dm) (w : World) (h : DX K w p S) (hi : i < S.n) (hn : S.n <= 1000000000) :
  Calls Tryz.prog 124 #[.pointer (some ⟨p, 0, none⟩), .int .i64 (i : Int)] w fun e w' => e = .returned (.int .i64 (S.gf i).up) /\ w' = w := by
 obtain ⟨ga, cap, hY⟩ := h
 obtain ⟨g, rfl, -, -, -⟩ := hY.at (by omega)
 have r := zcs p g S.n cap i w hY.c1 hi hn
 obtain ⟨c0, -, -, -, -⟩ := hY.gcell hi
 clear hY
 go_enter Tryz.func124, Tryz.ntmps124
 go_wp2_with (go_at_call 110; refine r.mono ?_; rintro e w2 ⟨rfl, hw2⟩; replace hw2 := hw2.symm; subst hw2)
 go_ret
 exact ⟨rfl, rfl⟩
def zkh (x : Nd) : Bool := decide (x.kind = 1) || decide (x.kind = 2)
theorem zi1 (b o : Nat) (x : Nd) (w : World) (h0 : w.cell? ⟨b, o, none⟩ = some (.int .u8 (x.kind : Int))) :
  Calls Tryz.prog 237 #[.pointer (some ⟨b, o, none⟩)] w fun e w' => e = .returned (.bool (zkh x)) /\ w' = w := by
 unfold zkh
 obtain ⟨kd, hk⟩ : ∃ k, x.kind = k := ⟨_, rfl⟩
 rw [hk] at h0 ⊢
 clear hk
 by_cases c1 : kd = 1
 ·subst c1
  go_enter Tryz.func237, Tryz.ntmps237
  go_wp2
  go_ret
  exact ⟨rfl, rfl⟩
 ·have e1 : ((kd : Int) == 1) = false := by
   have : (kd : Int) ≠ 1 := by omega
   simpa using this
  rw [decide_eq_false c1]
  by_cases c2 : kd = 2
  ·subst c2
   go_enter Tryz.func237, Tryz.ntmps237
   go_wp2
   go_ret
   exact ⟨rfl, rfl⟩
  ·have e2 : ((kd : Int) == 2) = false := by
    have : (kd : Int) ≠ 2 := by omega
    simpa using this
   rw [decide_eq_false c2]
   clear c1 c2
   go_enter Tryz.func237, Tryz.ntmps237
   go_wp2
   go_ret
   exact ⟨rfl, rfl⟩
theorem zlp (p b g n cap i : Nat) (w : World) (hb : w.cell? ⟨b, 0, none⟩ = some (.pointer (some ⟨p, 0, none⟩))) (hc : w.cell? ⟨p, 1, none⟩ = some (.slice (some ⟨g, 0, none⟩) n cap)) (hi : i < n) (hn : n <= 1000000000) :
  Calls Tryz.prog 235 #[.int .i64 (i : Int), .pointer (some ⟨b, 0, none⟩)] w fun e w' => e = .returned (.bool false) /\ w' = w := by
 have r := zcs p g n cap i w hc hi hn
 go_enter Tryz.func235, Tryz.ntmps235
 go_wp2_with (go_at_call 110; refine r.mono ?_; rintro e w2 ⟨rfl, hw2⟩; replace hw2 := hw2.symm; subst hw2)
 go_ret
 exact ⟨rfl, rfl⟩
theorem zqt (p b g n cap i : Nat) (x : Nd) (w : World) (hb : w.cell? ⟨b, 0, none⟩ = some (.pointer (some ⟨p, 0, none⟩))) (hc : w.cell? ⟨p, 1, none⟩ = some (.slice (some ⟨g, 0, none⟩) n cap)) (h0 : w.cell? ⟨g, i * 22, none⟩ = some (.int .u8 (x.kind : Int))) (hi : i < n) (hn : n <= 1000000000) :
  Calls Tryz.prog 236 #[.int .i64 (i : Int), .pointer (some ⟨b, 0, none⟩)] w fun e w' => e = .returned (.bool (!zkh x)) /\ w' = w := by
 have r := zi1 g (i * 22) x w h0
 obtain ⟨q, hq⟩ : ∃ q, zkh x = q := ⟨_, rfl⟩
 rw [hq] at r ⊢
 clear hq
 go_enter Tryz.func236, Tryz.ntmps236
 go_wp2_with (go_at_call 237; refine r.mono ?_; rintro e w2 ⟨rfl, hw2⟩; replace hw2 := hw2.symm; subst hw2)
 go_ret
 exact ⟨rfl, rfl⟩
def Zr3 (w : World) (a : Option Addr) (l : List Nat) : Prop := ∀ j (h : j < l.length), ∃ g o, a = some ⟨g, o, none⟩ /\ w.cell? ⟨g, o + j, none⟩ = some (.int .i64 (l[j] : Int))
end
section
open Go.RowKit
theorem enter235 (args : Array Value) (X : World) : (callFunc 235 args).run Tryz.prog X = .ok (.enter 235 args) X := za0 Tryz.func235 (by kernel_rfl) (c := _) rfl args X
theorem enter236 (args : Array Value) (X : World) : (callFunc 236 args).run Tryz.prog X = .ok (.enter 236 args) X := za0 Tryz.func236 (by kernel_rfl) (c := _) rfl args X
abbrev zeg : List UInt8 := [115, 108, 111, 116]
theorem zf9 : (⟨#[115, 108, 111, 116]⟩ : ByteArray).toList = zeg := by rw [ByteArray.toList_eq]
def zcj (L : Nat -> Lk) : List Nat -> Nat -> Lk
 | [] => L
 | q :: r => zcj (zct L q) r
def zbi (L : Nat -> Lk) (slot : Nat) : List Nat -> Nat -> Lk
 | [] => L
 | i :: r => zbi (if (L i).up = (slot : Int) then L else zdn L slot i (-1)) slot r
theorem zht (L : Nat -> Lk) (a b : List Nat) : zcj L (a ++ b) = zcj (zcj L a) b := by
 induction a generalizing L with
 | nil => rfl
 | cons x r ih => exact ih _
theorem zh6 (L : Nat -> Lk) (slot : Nat) (a b : List Nat) : zbi L slot (a ++ b) = zbi (zbi L slot a) slot b := by
 induction a generalizing L with
 | nil => rfl
 | cons x r ih => exact ih _
def WFx (n : Nat) (L : Nat -> Lk) : Prop := ∃ R, WF n L R
theorem WFx.outs {n : Nat} (Q : List Nat) : ∀ {L : Nat -> Lk}, WFx n L -> (∀ q ∈ Q, q < n) -> WFx n (zcj L Q) := by
 induction Q with
 | nil => exact fun h _ => h
 | cons q r ih =>
  intro L ⟨R, h⟩ hq
  exact ih ⟨_, h.out (hq q (List.mem_cons_self ..))⟩ (fun x hx => hq x (List.mem_cons_of_mem _ hx))
theorem WFx.adds {n : Nat} {slot : Nat} (hs : slot < n) (l : List Nat) : ∀ {L : Nat -> Lk}, WFx n L -> (∀ i ∈ l, i < n) -> WFx n (zbi L slot l) := by
 induction l with
 | nil => exact fun h _ => h
 | cons i r ih =>
  intro L ⟨R, h⟩ hi
  refine ih ?_ (fun x hx => hi x (List.mem_cons_of_mem _ hx))
  by_cases c : (L i).up = (slot : Int)
  ·rw [if_pos c]; exact ⟨R, h⟩
  ·rw [if_neg c]; exact ⟨_, h.putR hs (hi i (List.mem_cons_self ..)) (.inl rfl)⟩
end
section
open Go.RowKit

end
section
def trF (F : Nat -> List Nat) : Nat -> Nat -> List Nat
 | 0, i => [i]
 | f + 1, i => i :: (F i).flatMap (trF F f)
def Falls (n : Nat) (F : Nat -> List Nat) (rk : Nat -> Nat) : Prop := ∀ i, i < n -> ∀ k ∈ F i, k < n /\ rk i < rk k
def dn (n : Nat) (rk : Nat -> Nat) (i : Nat) : Nat := (List.range n).countP (fun k => decide (rk i < rk k))
theorem zri (n : Nat) (rk : Nat -> Nat) (i : Nat) : dn n rk i <= n := by
 unfold dn
 exact Nat.le_trans List.countP_le_length (by simp)
theorem zif {α : Type} {p q : α -> Bool} : ∀ {l : List α}, (∀ x ∈ l, p x = true -> q x = true) -> (∃ x ∈ l, q x = true /\ p x = false) -> l.countP p < l.countP q
 | [], _, ⟨x, hx, _⟩ => by cases hx
 | y :: r, hs, ⟨x, hx, hq, hp⟩ => by
  have hle : r.countP p <= r.countP q := List.countP_mono_left fun z hz => hs z (List.mem_cons_of_mem _ hz)
  rw [List.countP_cons, List.countP_cons]
  rcases List.mem_cons.1 hx with rfl | hx
  ·rw [hq, hp]; simp; omega
  ·have ih := zif (l := r) (fun z hz => hs z (List.mem_cons_of_mem _ hz)) ⟨x, hx, hq, hp⟩
   have := hs y (List.mem_cons_self ..)
   cases h1 : p y with
   | false => cases h2 : q y <;> simp <;> omega
   | true => rw [this h1]; simp; omega
theorem zfy {n : Nat} {rk : Nat -> Nat} {i k : Nat} (hk : k < n) (h : rk i < rk k) : dn n rk k < dn n rk i := by
 refine zif (fun x _ hx => ?_) ⟨k, List.mem_range.2 hk, decide_eq_true h, decide_eq_false (Nat.lt_irrefl _)⟩
 exact decide_eq_true (Nat.lt_trans h (of_decide_eq_true hx))
theorem zdq {α β : Type} {f g : α -> List β} : ∀ {l : List α}, (∀ x ∈ l, f x = g x) -> l.flatMap f = l.flatMap g
 | [], _ => rfl
 | x :: r, h => by
  rw [List.flatMap_cons, List.flatMap_cons, h x (List.mem_cons_self ..), zdq fun y hy => h y (List.mem_cons_of_mem _ hy)]
theorem zgh {n : Nat} {F : Nat -> List Nat} {rk : Nat -> Nat} (h : Falls n F rk) : ∀ (f g i : Nat), i < n -> dn n rk i <= f -> dn n rk i <= g -> trF F f i = trF F g i
 | 0, 0, i, _, _, _ => rfl
 | 0, g + 1, i, hi, h0, _ => by
  have : F i = [] := by
   cases hF : F i with
   | nil => rfl
   | cons k r =>
    have ⟨h1, h2⟩ := h i hi k (by rw [hF]; exact List.mem_cons_self ..)
    have := zfy h1 h2
    omega
  simp [trF, this]
 | f + 1, 0, i, hi, _, h0 => by
  have : F i = [] := by
   cases hF : F i with
   | nil => rfl
   | cons k r =>
    have ⟨h1, h2⟩ := h i hi k (by rw [hF]; exact List.mem_cons_self ..)
    have := zfy h1 h2
    omega
  simp [trF, this]
 | f + 1, g + 1, i, hi, hf, hg => by
  show i :: (F i).flatMap (trF F f) = i :: (F i).flatMap (trF F g)
  congr 1
  refine zdq fun k hk => ?_
  have ⟨h1, h2⟩ := h i hi k hk
  have := zfy h1 h2
  exact zgh h f g k h1 (by omega) (by omega)
def tr (n : Nat) (F : Nat -> List Nat) (i : Nat) : List Nat := trF F n i
theorem zh2 {n : Nat} {F : Nat -> List Nat} {rk : Nat -> Nat} (h : Falls n F rk) {i : Nat} (hi : i < n) : tr n F i = i :: (F i).flatMap (tr n F) := by
 have e : trF F n i = trF F (n + 1) i := zgh h n (n + 1) i hi (zri ..) (Nat.le_trans (zri ..) (Nat.le_succ _))
 exact e
theorem zrg {n : Nat} {F : Nat -> List Nat} {rk : Nat -> Nat} (h : Falls n F rk) : ∀ (f i : Nat), i < n -> ∀ k ∈ trF F f i, k < n
 | 0, i, hi, k, hk => by
  rcases List.mem_singleton.1 hk with rfl
  exact hi
 | f + 1, i, hi, k, hk => by
  rcases List.mem_cons.1 hk with rfl | hk
  ·exact hi
  ·obtain ⟨m, hm, hk⟩ := List.mem_flatMap.1 hk
   exact zrg h f m (h i hi m hm).1 k hk
end
end Go.Proofs.YtfeinppedejlpaaGreat
