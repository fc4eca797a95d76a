/-
 The document's own there, Len, within, find, element.; The document's own out, put, next.; The document's own put, next.; The document's own next, fits.; The document's own fits.; The document's own Remove, Write.
-/
import Derived.Test.YtfeinppedejlpaaGreatNW13
import Derived.Test.YtfeinppedejlpaaGreatNB07
namespace Go.Proofs.YtfeinppedejlpaaGreat
variable {J : Nat -> Prop}
set_option linter.unusedVariables false
set_option maxRecDepth 100000
set_option maxHeartbeats 8000000
section
open Go.RowKit Go.Sort
theorem zgl (K : Nat -> Prop) (p : Nat) (M : Dm) (R G : Nat -> List Nat) (w : World) (h : RX K J w p M R G) :
  Calls Tryz.prog 93 #[.pointer (some ⟨p, 0, none⟩)] w fun e w' => e = .returned (.int .i64 (M.n : Int)) /\ w' = w := by
 obtain ⟨A, h⟩ := h
 have c1 := h.c1
 clear h
 go_enter Tryz.func93, Tryz.ntmps93
 go_wp2
 go_ret
 exact ⟨rfl, rfl⟩
theorem zae (K : Nat -> Prop) (p : Nat) (M : Dm) (R G : Nat -> List Nat) (i : Int) (w : World) (h : RX K J w p M R G) :
  Calls Tryz.prog 160 #[.pointer (some ⟨p, 0, none⟩), .int .i64 i] w fun e w' => e = .returned (.bool (decide (0 <= i) && decide (i < (M.n : Int)))) /\ w' = w := by
 obtain ⟨A, h⟩ := h
 have c1 := h.c1
 clear h
 by_cases h0 : 0 <= i
 ·have e0 : decide (i >= 0) = true := decide_eq_true h0
  rw [decide_eq_true h0]
  go_enter Tryz.func160, Tryz.ntmps160
  go_wp2
  go_ret
  exact ⟨by simp, rfl⟩
 ·have e0 : decide (i >= 0) = false := decide_eq_false h0
  rw [decide_eq_false h0]
  go_enter Tryz.func160, Tryz.ntmps160
  go_wp2
  go_ret
  exact ⟨by simp, rfl⟩
theorem zim (K : Nat -> Prop) (p at_ i : Nat) (M : Dm) (R G : Nat -> List Nat) (rk : Nat -> Nat) (w : World) (h : RX K J w p M R G) (ha : Acy M rk) (hat : at_ < M.n) (hi : i < M.n) (hn : M.n <= 1000000) (hge : ∀ k, k < M.n -> (M.pl k).up = -1 \/ 0 <= (M.pl k).up) :
  Calls Tryz.prog 233 #[.pointer (some ⟨p, 0, none⟩), .int .i64 (at_ : Int), .int .i64 (i : Int)] w fun e w' => ∃ b : Bool, e = .returned (.bool b) /\ (b = true ↔ Wi M i at_) /\ w' = w := by
 obtain ⟨A, h⟩ := h
 obtain ⟨g, hg, -, -, -⟩ := h.nat (by omega)
 have c1 := h.c1
 rw [hg] at c1
 have HC : Hid (∀ k, k < M.n -> w.cell? ⟨g, k * 14 + 4, none⟩ = some (.int .i64 (M.pl k).up) /\ w.cell? ⟨g, k * 14 + 7, none⟩ = some (.int .i64 (M.nd k).host)) := fun k hk => ⟨h.cell hg hk 4 _ rfl, h.cell hg hk 7 _ rfl⟩
 have HGE : Hid (∀ k, k < M.n -> (M.pl k).up = -1 \/ 0 <= (M.pl k).up) := hge
 have HACY : Hid (Acy M rk) := ha
 clear h hge ha
 go_enter Tryz.func233, Tryz.ntmps233
 go_upto_region 1 with fail
 go_loopg [1] (rk at_ + 1) (fun gh v wr => wr = w /\ ((∃ k : Nat, k < M.n /\ v = .int .i64 (k : Int) /\ gh = rk k + 1 /\ (Wi M i at_ ↔ Wi M i k)) \/ (v = .int .i64 (-1) /\ gh = 0 /\ ¬ Wi M i at_)))
 case atStart => exact ⟨rfl, .inl ⟨at_, hat, rfl, rfl, Iff.rfl⟩⟩
 case round =>
  obtain ⟨rfl, hrel⟩ := hrel
  rcases hrel with ⟨k, hk, rfl, hgk, hW⟩ | ⟨rfl, hgk, hW⟩
  ·obtain ⟨d4, d7⟩ := HC.out k hk
   have HW : Hid (Wi M i at_ ↔ Wi M i k) := hW
   by_cases hki : k = i
   ·subst hki
    clear hW
    go_wp2
    go_ret
    exact ⟨true, rfl, ⟨fun _ => HW.out.2 .here, fun _ => rfl⟩, rfl⟩
   ·have e1 : ((k : Int) == (i : Int)) = false := by simp; omega
    have e1' : ¬ (k : Int) = (i : Int) := by omega
    rcases HACY.out k hk with hp | ⟨m, hm, hp, hrk⟩
    ·have HN : Hid (¬ Wi M i at_) := fun hh => Wi.none hki hp (HW.out.1 hh)
     have hup : (M.pl k).up = -1 := by
      unfold zbl at hp
      by_cases c : (M.pl k).up = -1
      ·exact c
      ·rw [if_neg c] at hp; exact hp
     have hho : (M.nd k).host = -1 := by
      unfold zbl at hp
      rw [if_pos hup] at hp
      exact hp
     rw [hup] at d4
     rw [hho] at d7
     clear hW hp hup hho
     go_wp2
     go_roundg 0
     case rel => exact ⟨rfl, .inr ⟨rfl, rfl, HN.out⟩⟩
     case measure => omega
    ·have HN : Hid (Wi M i at_ ↔ Wi M i m) := HW.out.trans (Wi.step hki hp)
     unfold zbl at hp
     rcases HGE.out k hk with hu | hu
     ·rw [if_pos hu] at hp
      rw [hu] at d4
      rw [hp] at d7
      clear hW hp hu
      go_wp2
      go_roundg (rk m + 1)
      case rel => exact ⟨rfl, .inl ⟨m, hm, rfl, rfl, HN.out⟩⟩
      case measure => omega
     ·rw [if_neg (by omega)] at hp
      rw [hp] at d4
      clear hW hp hu
      go_wp2
      go_roundg (rk m + 1)
      case rel => exact ⟨rfl, .inl ⟨m, hm, rfl, rfl, HN.out⟩⟩
      case measure => omega
  ·have HW : Hid (¬ Wi M i at_) := hW
   clear hW
   go_wp2
   go_ret
   exact ⟨false, rfl, ⟨fun h => (by cases h), fun h => absurd h HW.out⟩, rfl⟩
inductive Zc7 (l : List Atr) (nm : List UInt8) : Int -> Prop
 | yes {k : Nat} (hk : k < l.length) : l[k].name = nm -> (∀ x ∈ l.take k, x.name ≠ nm) -> Zc7 l nm (k : Int)
 | no : (∀ x ∈ l, x.name ≠ nm) -> Zc7 l nm (-1)
theorem zd3 (K : Nat -> Prop) (p i : Nat) (M : Dm) (R G : Nat -> List Nat) (S : ByteArray) (w : World) (h : RX K J w p M R G) (hi : i < M.n) (hn : M.n <= 1000000) (hl : (M.nd i).attrs.length <= 1000000) :
  Calls Tryz.prog 174 #[.pointer (some ⟨p, 0, none⟩), .int .i64 (i : Int), .string S] w fun e w' => ∃ z, Zc7 (M.nd i).attrs S.toList z /\ e = .returned (.int .i64 z) /\ w' = w := by
 obtain ⟨A, h⟩ := h
 obtain ⟨g, hg, -, -, -⟩ := h.nat (by omega)
 have c1 := h.c1
 rw [hg] at c1
 have c3 : w.cell? ⟨g, i * 14 + 3, none⟩ = some (.slice (A.aa i) (M.nd i).attrs.length (A.ac i)) := h.cell hg hi 3 _ rfl
 have hat := h.ats i hi
 obtain ⟨l, hle⟩ : ∃ l, (M.nd i).attrs = l := ⟨_, rfl⟩
 rw [hle] at c3 hat hl ⊢
 obtain ⟨aa, haa⟩ : ∃ aa, A.aa i = aa := ⟨_, rfl⟩
 obtain ⟨ac, hac⟩ : ∃ ac, A.ac i = ac := ⟨_, rfl⟩
 rw [haa, hac] at c3
 rw [haa] at hat
 obtain ⟨n, hne⟩ : ∃ n, l.length = n := ⟨_, rfl⟩
 rw [hne] at c3 hl
 have HN : Hid (l.length = n) := hne
 have HA : Hid (Zag (fun x => x < w.heap.size /\ ¬ A.bad K J p M.n x) w aa l) := hat
 clear h hg hat hle haa hac hne
 go_enter Tryz.func174, Tryz.ntmps174
 go_upto_region 3 with fail
 go_loopg [8] n (fun gh v wr => ∃ k : Nat, gh = n - k /\ k <= n /\ v = .int .i64 (k : Int) /\ (∀ x ∈ l.take k, x.name ≠ S.toList) /\ wr = w)
 case atStart => exact ⟨0, rfl, Nat.zero_le _, rfl, fun x hx => (by cases hx), rfl⟩
 case round =>
  obtain ⟨k, hgk, hk, rfl, hno, rfl⟩ := hrel
  have HNO : Hid (∀ x ∈ l.take k, x.name ≠ S.toList) := hno
  by_cases hlt : k < n
  ·have hkl : k < l.length := by rw [HN.out]; exact hlt
   obtain ⟨g1, o1, rfl, -, d0, -⟩ := HA.out k hkl
   obtain ⟨N, hNe⟩ : ∃ N : ByteArray, (⟨l[k].name.toArray⟩ : ByteArray) = N := ⟨_, rfl⟩
   have d0' : wr.cell? ⟨g1, o1 + k * 2, none⟩ = some (.string N) := by rw [<- hNe]; exact d0
   have hNl : N.toList = l[k].name := by rw [<- hNe, ByteArray.toList_eq]
   obtain ⟨q, hq⟩ : ∃ q, (N.toList == S.toList) = q := ⟨_, rfl⟩
   have HNL : Hid (N.toList = l[k].name) := hNl
   have HQ : Hid ((N.toList == S.toList) = q) := hq
   clear hno d0 hNe hNl
   cases q with
   | true =>
    go_wp2
    go_ret
    exact ⟨_, .yes hkl (by rw [<- HNL.out]; simpa using HQ.out) HNO.out, rfl, rfl⟩
   | false =>
    go_wp2
    go_roundg (n - (k + 1))
    case rel =>
     refine ⟨k + 1, rfl, by omega, by go_num, fun x hx => ?_, rfl⟩
     rw [List.take_succ_eq_append_getElem hkl] at hx
     rcases List.mem_append.1 hx with hx | hx
     ·exact HNO.out x hx
     ·rw [List.mem_singleton.1 hx, <- HNL.out]
      intro e
      have := HQ.out
      rw [e] at this
      simp at this
    case measure => omega
  ·have hkn : n = k := by omega
   subst hkn
   clear hno
   go_wp2
   go_ret
   exact ⟨_, .no (fun x hx => HNO.out x (by rw [List.take_of_length_le (by rw [HN.out]; exact Nat.le_refl _)]; exact hx)), rfl, rfl⟩
theorem zcg (K : Nat -> Prop) (p : Nat) (M : Dm) (R G : Nat -> List Nat) (i : Int) (w : World) (h : RX K J w p M R G) (hn : M.n <= 1000000) :
  Calls Tryz.prog 173 #[.pointer (some ⟨p, 0, none⟩), .int .i64 i] w fun e w' => e = .returned (.int .i64 (if 0 <= i /\ i < (M.n : Int) then (if (M.nd i.toNat).kind = 1 then 0 else 81) else 80)) /\ w' = w := by
 have rt := zae K p M R G i w h
 by_cases c : 0 <= i /\ i < (M.n : Int)
 ·rw [if_pos c]
  obtain ⟨k, rfl⟩ : ∃ k : Nat, i = (k : Int) := ⟨i.toNat, by omega⟩
  rw [Int.toNat_natCast]
  have hk : k < M.n := by omega
  obtain ⟨A, h⟩ := h
  obtain ⟨g, hg, -, -, -⟩ := h.nat (by omega)
  have c1 := h.c1
  rw [hg] at c1
  have c0 : w.cell? ⟨g, k * 14, none⟩ = some (.int .u8 ((M.nd k).kind : Int)) := h.cell hg hk 0 _ rfl
  have e : (decide (0 <= (k : Int)) && decide ((k : Int) < (M.n : Int))) = true := by rw [decide_eq_true c.1, decide_eq_true c.2]; rfl
  rw [e] at rt
  obtain ⟨kd, hkd⟩ : ∃ kd, (M.nd k).kind = kd := ⟨_, rfl⟩
  rw [hkd] at c0 ⊢
  clear h hg hkd e
  by_cases q : kd = 1
  ·subst q
   rw [if_pos rfl]
   go_enter Tryz.func173, Tryz.ntmps173
   go_wp2_with (go_at_call 160; refine rt.mono ?_; rintro e1 w3 ⟨rfl, hw3⟩; replace hw3 := hw3.symm; subst hw3)
   go_ret
   exact ⟨rfl, rfl⟩
  ·have q1 : ((kd : Int) == 1) = false := by simp; omega
   rw [if_neg q]
   go_enter Tryz.func173, Tryz.ntmps173
   go_wp2_with (go_at_call 160; refine rt.mono ?_; rintro e1 w3 ⟨rfl, hw3⟩; replace hw3 := hw3.symm; subst hw3)
   go_ret
   exact ⟨rfl, rfl⟩
 ·rw [if_neg c]
  have e : (decide (0 <= i) && decide (i < (M.n : Int))) = false := by
   by_cases h0 : 0 <= i
   ·rw [decide_eq_true h0, decide_eq_false (fun h1 => c ⟨h0, h1⟩)]; rfl
   ·rw [decide_eq_false h0]; rfl
  rw [e] at rt
  clear h c e
  go_enter Tryz.func173, Tryz.ntmps173
  go_wp2_with (go_at_call 160; refine rt.mono ?_; rintro e1 w3 ⟨rfl, hw3⟩; replace hw3 := hw3.symm; subst hw3)
  go_ret
  exact ⟨rfl, rfl⟩
end
section
open Go.RowKit Go.Sort
def zcu (M : Dm) (i : Nat) : Dm := M.setP (zaw M.pl i { M.pl i with up := -1 })
def zch (M : Dm) (R : Nat -> List Nat) (i : Nat) : Nat -> List Nat := if (M.pl i).up = -1 then R else zax R (M.pl i).up.toNat (wo (R (M.pl i).up.toNat) (i : Int))
theorem zj4 (K : Nat -> Prop) (p i : Nat) (M : Dm) (R G : Nat -> List Nat) (w : World) (h : RX K J w p M R G) (hi : i < M.n) (hn : M.n <= 1000000) (hup : (M.pl i).up = -1 \/ ∃ u : Nat, u < M.n /\ (M.pl i).up = (u : Int)) (hrl : ∀ u, u < M.n -> (R u).length <= 1000000) :
  Calls Tryz.prog 172 #[.pointer (some ⟨p, 0, none⟩), .int .i64 (i : Int)] w fun e w' => e = .returned (.tuple #[]) /\ RX K J w' p (zcu M i) (zch M R i) G /\ Kept K w w' := by
 obtain ⟨A, h⟩ := h
 obtain ⟨g, hg, -, -, hgl0⟩ := h.nat (by omega)
 have c1 := h.c1
 rw [hg] at c1
 have c4 : w.cell? ⟨g, i * 14 + 4, none⟩ = some (.int .i64 (M.pl i).up) := h.cell hg hi 4 _ rfl
 have fz := h.fg hg (i * 14 + 4)
 rcases hup with hup | ⟨u, hu, hup⟩
 ·obtain ⟨hY, hK⟩ := h.setUp hg hi (-1)
  have HX : Hid (RX K J (w.setCell ⟨g, i * 14 + 4, none⟩ (.int .i64 (-1))) p (zcu M i) (zch M R i) G) := ⟨A, by unfold zch; rw [if_pos hup]; exact hY⟩
  have HK : Hid (Kept K w (w.setCell ⟨g, i * 14 + 4, none⟩ (.int .i64 (-1)))) := hK
  rw [hup] at c4
  clear h hY hK hup hrl
  go_enter Tryz.func172, Tryz.ntmps172
  go_wp2
  go_end0
  exact ⟨rfl, HX.out, HK.out⟩
 ·have e0 : decide ((u : Int) >= 0) = true := decide_eq_true (by omega)
  have u5 : w.cell? ⟨g, u * 14 + 5, none⟩ = some (.slice (A.ka u) (R u).length (A.kc u)) := h.cell hg hu 5 _ rfl
  rw [hup] at c4
  have hY := h
  have HYr : Hid (RY K J w p M R G A) := h
  have hka := (h.kid u hu).to (F' := fun k => k < w.heap.size) (w' := w) (fun g hg => hg.1) (fun _ _ => rfl)
  obtain ⟨ka, hkae⟩ : ∃ ka, A.ka u = ka := ⟨_, rfl⟩
  obtain ⟨kc, hkce⟩ : ∃ kc, A.kc u = kc := ⟨_, rfl⟩
  obtain ⟨l, hle⟩ : ∃ l, R u = l := ⟨_, rfl⟩
  obtain ⟨ln, hlne⟩ : ∃ ln, l.length = ln := ⟨_, rfl⟩
  have hlb := hrl u hu
  rw [hkae, hkce, hle, hlne] at u5
  rw [hle, hlne] at hlb
  rw [hkae, hle] at hka
  have rw1 := zey l ka ln kc hlne (by omega) (i : Int) w.drew (hka.to (fun _ h => h) (fun _ _ => rfl))
  have u5d : w.drew.cell? ⟨g, u * 14 + 5, none⟩ = some (.slice ka ln kc) := u5
  have c1d : w.drew.cell? ⟨p, 1, none⟩ = some (.slice (some ⟨g, 0, none⟩) M.n A.nc) := c1
  have hpl : p < w.drew.heap.size := h.plt
  have hgl : g < w.drew.heap.size := hgl0
  have fz5 : w.drew.frozen? ⟨g, u * 14 + 5, none⟩ = false := h.fg hg _
  have HLE : Hid (R u = l) := hle
  clear h hY hka hkae hkce hle hlne hrl
  go_enter Tryz.func172, Tryz.ntmps172
  go_upto_region 2 with fail
  go_region_with (go_at_call 183; refine rw1.mono ?_; rintro e w3 ⟨ao, c, rfl, hO, hk3⟩; have c1w : w3.cell? ⟨p, 1, none⟩ = some (.slice (some ⟨g, 0, none⟩) M.n A.nc) := (hk3.cell (p := ⟨p, 1, none⟩) hpl).trans c1d; have u5w : w3.cell? ⟨g, u * 14 + 5, none⟩ = some (.slice ka ln kc) := (hk3.cell (p := ⟨g, u * 14 + 5, none⟩) hgl).trans u5d; have fzw : w3.frozen? ⟨g, u * 14 + 5, none⟩ = false := (hk3.frozen (p := ⟨g, u * 14 + 5, none⟩) hgl).trans fz5)
  all_goals
   have k3 : Kept (fun k => k < w.heap.size) w w3 := ((Kept.refl _ w).drew).trans hk3
   have hOl : Zan (fun x => w.heap.size <= x /\ x < w3.heap.size) w3 ao (wo l (i : Int)) := hO.intsAt fun x hx => ⟨Nat.le_of_not_lt (Zac.out hO hx).1, (Zac.out hO hx).2⟩
   obtain ⟨hY4, hK4⟩ := HYr.out.setKids k3 hg hu (wo l (i : Int)) ao c hOl hO.2.1
   obtain ⟨V, hV⟩ : ∃ V, w3.setCell ⟨g, u * 14 + 5, none⟩ (.slice ao (wo l (i : Int)).length c) = V := ⟨_, rfl⟩
   rw [hV] at hY4 hK4 ⊢
   have hg4 : (A.setK u ao c).na = some ⟨g, 0, none⟩ := hg
   obtain ⟨hY5, hK5⟩ := hY4.setUp hg4 hi (-1)
   have v1 := hY4.c1
   rw [hg4] at v1
   have v4 : V.cell? ⟨g, i * 14 + 4, none⟩ = some (.int .i64 (M.pl i).up) := hY4.cell hg4 hi 4 _ rfl
   have v5 := hY4.fg hg4 (i * 14 + 4)
   have v1' : V.cell? ⟨p, 1, none⟩ = some (.slice (some ⟨g, 0, none⟩) M.n A.nc) := v1
   have HX : Hid (RX K J (V.setCell ⟨g, i * 14 + 4, none⟩ (.int .i64 (-1))) p (zcu M i) (zch M R i) G) := ⟨_, by unfold zch; rw [if_neg (by omega), hup, Int.toNat_natCast, HLE.out]; exact hY5⟩
   have HK : Hid (Kept K w (V.setCell ⟨g, i * 14 + 4, none⟩ (.int .i64 (-1)))) := ((k3.mono HYr.out.lt).trans hK4).trans hK5
   clear c1w u5w fzw hO hk3 k3 hOl hY4 hK4 hV hY5 hK5 v1 rw1 u5d c1d
   go_wp2
   go_end0
   exact ⟨rfl, HX.out, HK.out⟩
end
section
open Go.RowKit Go.Sort
def zf5 (l : List Nat) (i : Nat) (bef : Int) : List Nat := l.flatMap fun (k : Nat) => if (k : Int) = bef then [i, k] else [k]
def zp8 (l : List Nat) (i : Nat) (bef : Int) : List Nat := if bef < 0 then zf5 l i bef ++ [i] else zf5 l i bef
theorem zhd (l : List Nat) (x i : Nat) (bef : Int) : zf5 (l ++ [x]) i bef = zf5 l i bef ++ (if (x : Int) = bef then [i, x] else [x]) := by
 unfold zf5
 rw [List.flatMap_append]
 simp
theorem zot (l : List Nat) (i : Nat) (bef : Int) : (zf5 l i bef).length <= 2 * l.length := by
 unfold zf5
 induction l with
 | nil => exact Nat.le_refl _
 | cons x r ih =>
  rw [List.flatMap_cons, List.length_append, List.length_cons]
  have : (if (x : Int) = bef then [i, x] else [x]).length <= 2 := by split <;> simp
  omega
def zbu (M : Dm) (up i : Nat) : Dm := (zcu M i).setP (zaw (zcu M i).pl i { (zcu M i).pl i with up := (up : Int) })
def zbm (M : Dm) (R : Nat -> List Nat) (up i : Nat) (bef : Int) : Nat -> List Nat := zax (zch M R i) up (zp8 (zch M R i up) i bef)
theorem zmg {M : Dm} {R : Nat -> List Nat} {i : Nat} {n b : Nat} (h : ∀ u, u < n -> (R u).length <= b) : ∀ u, u < n -> (zch M R i u).length <= b := by
 intro u hu
 unfold zch
 by_cases c : (M.pl i).up = -1
 ·rw [if_pos c]; exact h u hu
 ·rw [if_neg c]
  by_cases c2 : u = (M.pl i).up.toNat
  ·rw [c2, zaf]
   rw [c2] at hu
   have h1 := h _ hu
   have h2 := zpq (R (M.pl i).up.toNat) (i : Int)
   omega
  ·rw [zaj _ _ c2]; exact h u hu
theorem zd7 (K : Nat -> Prop) (p up i : Nat) (bef : Int) (M : Dm) (R G : Nat -> List Nat) (w : World) (h : RX K J w p M R G) (hu : up < M.n) (hi : i < M.n) (hn : M.n <= 1000000) (hup : (M.pl i).up = -1 \/ ∃ u : Nat, u < M.n /\ (M.pl i).up = (u : Int)) (hrl : ∀ u, u < M.n -> (R u).length <= 1000000) (hbb : -1 <= bef) (hbb2 : bef <= 1000000000) :
  Calls Tryz.prog 169 #[.pointer (some ⟨p, 0, none⟩), .int .i64 (up : Int), .int .i64 (i : Int), .int .i64 bef] w fun e w' => e = .returned (.tuple #[]) /\ RX K J w' p (zbu M up i) (zbm M R up i bef) G /\ Kept K w w' := by
 have ro := zj4 K p i M R G w h hi hn hup hrl
 have HRL : Hid (∀ u, u < M.n -> (zch M R i u).length <= 1000000) := zmg hrl
 clear h hrl hup
 go_enter Tryz.func169, Tryz.ntmps169
 go_wp2_with fail
 refine ro.mono ?_
 rintro e w1 ⟨rfl, ⟨A, hY⟩, hK1⟩
 have hn1 : (zcu M i).n = M.n := rfl
 obtain ⟨g, hg, -, -, hgl⟩ := hY.nat (by rw [hn1]; omega)
 have c1 := hY.c1
 rw [hg] at c1
 have c1' : w1.cell? ⟨p, 1, none⟩ = some (.slice (some ⟨g, 0, none⟩) M.n A.nc) := c1
 have hu1 : up < (zcu M i).n := hu
 have u5 : w1.cell? ⟨g, up * 14 + 5, none⟩ = some (.slice (A.ka up) (zch M R i up).length (A.kc up)) := hY.cell hg hu1 5 _ rfl
 have hka := (hY.kid up hu1).to (F' := fun k => k < w1.heap.size) (w' := w1) (fun g hg => hg.1) (fun _ _ => rfl)
 have hlb := HRL.out up hu
 obtain ⟨ka, hkae⟩ : ∃ ka, A.ka up = ka := ⟨_, rfl⟩
 obtain ⟨kc, hkce⟩ : ∃ kc, A.kc up = kc := ⟨_, rfl⟩
 obtain ⟨l, hle⟩ : ∃ l, zch M R i up = l := ⟨_, rfl⟩
 obtain ⟨ln, hlne⟩ : ∃ ln, l.length = ln := ⟨_, rfl⟩
 rw [hkae, hkce, hle, hlne] at u5
 rw [hle, hlne] at hlb
 rw [hkae, hle] at hka
 have HY : Hid (RY K J w1 p (zcu M i) (zch M R i) G A) := hY
 have HA : Hid (Zan (fun k => k < w1.heap.size) w1 ka l) := hka
 have HL : Hid (l.length = ln) := hlne
 have HLE : Hid (zch M R i up = l) := hle
 have HK1 : Hid (Kept K w w1) := hK1
 have HG : Hid (A.na = some ⟨g, 0, none⟩) := hg
 clear ro hY hK1 hka hkae hkce hle hlne c1 HRL hg
 go_upto_region 4 with fail
 go_loopg [8, 10] ln (fun gh v8 v10 wr => ∃ (j : Nat) (ao : Option Addr) (c : Nat) (m : List Nat), gh = ln - j /\ j <= ln /\ v10 = .int .i64 (j : Int) /\ m = zf5 (l.take j) i bef /\ v8 = .slice ao m.length c /\ Zac (fun k => k < w1.heap.size) wr 3 1 ao m.length c (ivs m) /\ Kept (fun k => k < w1.heap.size) w1 wr)
 case atStart => exact ⟨0, none, 0, [], rfl, Nat.zero_le _, rfl, rfl, rfl, Zac.nil _ _ _ _, Kept.refl _ _⟩
 case round =>
  obtain ⟨j, ao, c, m, hgj, hj, rfl, hm, rfl, hO, hK⟩ := hrel
  have HO : Hid (Zac (fun k => k < w1.heap.size) wr 3 1 ao m.length c (ivs m)) := hO
  have HK : Hid (Kept (fun k => k < w1.heap.size) w1 wr) := hK
  have hml : m.length <= 2 * j := by
   rw [hm]
   have h1 := zot (l.take j) i bef
   rw [List.length_take] at h1
   omega
  by_cases hlt : j < ln
  ·have hl : j < l.length := by rw [HL.out]; exact hlt
   obtain ⟨g1, o1, rfl, hg1, hc⟩ := HA.out j hl
   have d : wr.cell? ⟨g1, o1 + j, none⟩ = some (.int .i64 (l[j] : Int)) := (hK.cell (p := ⟨g1, o1 + j, none⟩) hg1).trans hc
   have htk : l.take (j + 1) = l.take j ++ [l[j]] := List.take_succ_eq_append_getElem hl
   obtain ⟨y, hy⟩ : ∃ y, l[j] = y := ⟨_, rfl⟩
   rw [hy] at d htk
   have HM : Hid (m = zf5 (l.take j) i bef) := hm
   have HT : Hid (l.take (j + 1) = l.take j ++ [y]) := htk
   by_cases hxy : (y : Int) = bef
   ·subst hxy
    obtain ⟨ao', c', w', hr', hO', hK'⟩ := zow hO (fun k hk => ltl hk hK.size) (by omega) (i : Int)
    have d' : w'.cell? ⟨g1, o1 + j, none⟩ = some (.int .i64 (y : Int)) := (hK'.cell (p := ⟨g1, o1 + j, none⟩) hg1).trans d
    obtain ⟨ao2, c2, w2, hr2, hO2, hK2⟩ := zow hO' (fun k hk => ltl hk (Nat.le_trans hK.size hK'.size)) (by omega) (y : Int)
    have HM2 : Hid ((m ++ [i]) ++ [y] = zf5 (l.take (j + 1)) i (y : Int)) := by
     have : (m ++ [i]) ++ [y] = zf5 (l.take (j + 1)) i (y : Int) := by rw [HT.out, zhd, if_pos rfl, HM.out, List.append_assoc]; rfl
     exact (show Hid _ from this)
    have HO2 : Hid (Zac (fun k => k < w1.heap.size) w2 3 1 ao2 ((m ++ [i]) ++ [y]).length c2 (ivs ((m ++ [i]) ++ [y]))) := by
     have : Zac (fun k => k < w1.heap.size) w2 3 1 ao2 ((m ++ [i]) ++ [y]).length c2 (ivs ((m ++ [i]) ++ [y])) := by
      rw [ivs, List.map_append, List.map_append, List.length_append, List.length_append]; exact hO2
     exact (show Hid _ from this)
    have HK2 : Hid (Kept (fun k => k < w1.heap.size) w1 w2) := (HK.out.trans hK').trans hK2
    obtain ⟨ml, hml2⟩ : ∃ ml, m.length = ml := ⟨_, rfl⟩
    have HML : Hid (m.length = ml) := hml2
    rw [hml2] at hr' hr2 hml ⊢
    clear hO hK hc hm htk hy hO' hK' hml2 hO2 hK2
    go_wp2_with (first | (at_builtin; refine zak (w' := w') rfl (.tmp 34) (.tmp 36) 33 33 rfl _ _ (.slice ao' (ml + 1) c') rfl rfl hr' ?_) | (at_builtin; refine zak (w' := w2) rfl (.tmp 38) (.tmp 43) 33 33 rfl _ _ (.slice ao2 (ml + 1 + 1) c2) rfl rfl hr2 ?_))
    go_roundg (ln - (j + 1))
    case rel => exact ⟨j + 1, ao2, c2, (m ++ [i]) ++ [y], rfl, by omega, by go_num, HM2.out, by rw [List.length_append, List.length_append, HML.out]; rfl, HO2.out, HK2.out⟩
    case measure => omega
   ·have e1 : ((y : Int) == bef) = false := by simpa using hxy
    obtain ⟨ao2, c2, w2, hr2, hO2, hK2⟩ := zow hO (fun k hk => ltl hk hK.size) (by omega) (y : Int)
    have HM2 : Hid (m ++ [y] = zf5 (l.take (j + 1)) i bef) := by
     have : m ++ [y] = zf5 (l.take (j + 1)) i bef := by rw [HT.out, zhd, if_neg hxy, HM.out]
     exact (show Hid _ from this)
    have HO2 : Hid (Zac (fun k => k < w1.heap.size) w2 3 1 ao2 (m ++ [y]).length c2 (ivs (m ++ [y]))) := by
     have : Zac (fun k => k < w1.heap.size) w2 3 1 ao2 (m ++ [y]).length c2 (ivs (m ++ [y])) := by
      rw [ivs, List.map_append, List.length_append]; exact hO2
     exact (show Hid _ from this)
    have HK2 : Hid (Kept (fun k => k < w1.heap.size) w1 w2) := HK.out.trans hK2
    obtain ⟨ml, hml2⟩ : ∃ ml, m.length = ml := ⟨_, rfl⟩
    have HML : Hid (m.length = ml) := hml2
    rw [hml2] at hr2 hml ⊢
    clear hO hK hc hm htk hy hml2 hO2 hK2
    go_wp2_with (at_builtin; refine zak (w' := w2) rfl (.tmp 38) (.tmp 43) 33 33 rfl _ _ (.slice ao2 (ml + 1) c2) rfl rfl hr2 ?_)
    go_roundg (ln - (j + 1))
    case rel => exact ⟨j + 1, ao2, c2, m ++ [y], rfl, by omega, by go_num, HM2.out, by rw [List.length_append, HML.out]; rfl, HO2.out, HK2.out⟩
    case measure => omega
  ·have hjn : ln = j := by omega
   subst hjn
   have hm2 : m = zf5 l i bef := by rw [hm, List.take_of_length_le (by rw [HL.out]; exact Nat.le_refl _)]
   have fin : ∀ (V : World) (ao2 : Option Addr) (c2 : Nat) (m2 : List Nat), m2 = zp8 l i bef -> Zac (fun k => k < w1.heap.size) V 3 1 ao2 m2.length c2 (ivs m2) -> Kept (fun k => k < w1.heap.size) w1 V ->
     V.cell? ⟨p, 1, none⟩ = some (.slice (some ⟨g, 0, none⟩) M.n A.nc) /\ (∃ u, V.cell? ⟨g, up * 14 + 5, none⟩ = some u) /\ V.frozen? ⟨g, up * 14 + 5, none⟩ = false /\
     ∃ V2, V2 = V.setCell ⟨g, up * 14 + 5, none⟩ (.slice ao2 m2.length c2) /\ V2.cell? ⟨p, 1, none⟩ = some (.slice (some ⟨g, 0, none⟩) M.n A.nc) /\ (∃ u, V2.cell? ⟨g, i * 14 + 4, none⟩ = some u) /\ V2.frozen? ⟨g, i * 14 + 4, none⟩ = false /\
      RX K J (V2.setCell ⟨g, i * 14 + 4, none⟩ (.int .i64 (up : Int))) p (zbu M up i) (zbm M R up i bef) G /\ Kept K w (V2.setCell ⟨g, i * 14 + 4, none⟩ (.int .i64 (up : Int))) := by
    intro V ao2 c2 m2 hm2 hOV hKV
    have hYV := HY.out.kept hKV
    have hOl : Zan (fun x => w1.heap.size <= x /\ x < V.heap.size) V ao2 m2 := hOV.intsAt fun x hx => ⟨Nat.le_of_not_lt (Zac.out hOV hx).1, (Zac.out hOV hx).2⟩
    have hg' := HG.out
    obtain ⟨hY4, hK4⟩ := HY.out.setKids hKV hg' hu1 m2 ao2 c2 hOl hOV.2.1
    have hg4 : (A.setK up ao2 c2).na = some ⟨g, 0, none⟩ := hg'
    have hi4 : i < (zcu M i).n := hi
    obtain ⟨hY5, hK5⟩ := hY4.setUp hg4 hi4 (up : Int)
    have q1 := hYV.c1
    rw [hg'] at q1
    have q4 := hY4.c1
    rw [hg4] at q4
    have r1 : V.cell? ⟨g, up * 14 + 5, none⟩ = some (.slice (A.ka up) (zch M R i up).length (A.kc up)) := hYV.cell hg' hu1 5 _ rfl
    have r2 : V.frozen? ⟨g, up * 14 + 5, none⟩ = false := hYV.fg hg' _
    have r3 : (V.setCell ⟨g, up * 14 + 5, none⟩ (.slice ao2 m2.length c2)).cell? ⟨g, i * 14 + 4, none⟩ = some (.int .i64 ((zcu M i).pl i).up) := hY4.cell hg4 hi4 4 _ rfl
    have r4 : (V.setCell ⟨g, up * 14 + 5, none⟩ (.slice ao2 m2.length c2)).frozen? ⟨g, i * 14 + 4, none⟩ = false := hY4.fg hg4 _
    have r5 : RX K J ((V.setCell ⟨g, up * 14 + 5, none⟩ (.slice ao2 m2.length c2)).setCell ⟨g, i * 14 + 4, none⟩ (.int .i64 (up : Int))) p (zbu M up i) (zbm M R up i bef) G := by
     refine ⟨A.setK up ao2 c2, ?_⟩
     unfold zbm
     rw [HLE.out, <- hm2]
     exact hY5
    have r6 : Kept K w V := HK1.out.trans (hKV.mono HY.out.lt)
    exact ⟨q1, ⟨_, r1⟩, r2, _, rfl, q4, ⟨_, r3⟩, r4, r5, (r6.trans hK4).trans hK5⟩
   by_cases hneg : bef < 0
   ·have e1 : decide (bef < 0) = true := decide_eq_true hneg
    obtain ⟨ao2, c2, w2, hr2, hO2, hK2⟩ := zow hO (fun k hk => ltl hk hK.size) (by omega) (i : Int)
    have hO2' : Zac (fun k => k < w1.heap.size) w2 3 1 ao2 (m ++ [i]).length c2 (ivs (m ++ [i])) := by
     rw [ivs, List.map_append, List.length_append]; exact hO2
    obtain ⟨q1, ⟨u2, q2⟩, q3, V2, hV2, q4, ⟨u5, q5⟩, q6, q7, q8⟩ := fin w2 ao2 c2 (m ++ [i]) (by rw [hm2]; unfold zp8; rw [if_pos hneg]) hO2' (hK.trans hK2)
    have elen : (m ++ [i]).length = m.length + 1 := by rw [List.length_append]; rfl
    rw [elen] at hV2
    obtain ⟨ml, hml2⟩ : ∃ ml, m.length = ml := ⟨_, rfl⟩
    rw [hml2] at hr2 hV2 ⊢
    have HV2 : Hid (V2 = w2.setCell ⟨g, up * 14 + 5, none⟩ (.slice ao2 (ml + 1) c2)) := hV2
    have HX : Hid (RX K J (V2.setCell ⟨g, i * 14 + 4, none⟩ (.int .i64 (up : Int))) p (zbu M up i) (zbm M R up i bef) G /\ Kept K w (V2.setCell ⟨g, i * 14 + 4, none⟩ (.int .i64 (up : Int)))) := ⟨q7, q8⟩
    clear hO hK hm hm2 fin hO2 hK2 hO2' hV2 elen hml2 q7 q8
    go_upto_region 12 with (at_builtin; refine zak (w' := w2) rfl (.tmp 47) (.tmp 49) 33 33 rfl _ _ (.slice ao2 (ml + 1) c2) rfl rfl hr2 ?_)
    rw [<- HV2.out]
    go_wp2
    go_end0
    exact ⟨rfl, HX.out.1, HX.out.2⟩
   ·have e1 : decide (bef < 0) = false := decide_eq_false hneg
    obtain ⟨q1, ⟨u2, q2⟩, q3, V2, hV2, q4, ⟨u5, q5⟩, q6, q7, q8⟩ := fin wr ao c m (by rw [hm2]; unfold zp8; rw [if_neg hneg]) hO hK
    obtain ⟨ml, hml2⟩ : ∃ ml, m.length = ml := ⟨_, rfl⟩
    rw [hml2] at hV2 ⊢
    have HV2 : Hid (V2 = wr.setCell ⟨g, up * 14 + 5, none⟩ (.slice ao ml c)) := hV2
    have HX : Hid (RX K J (V2.setCell ⟨g, i * 14 + 4, none⟩ (.int .i64 (up : Int))) p (zbu M up i) (zbm M R up i bef) G /\ Kept K w (V2.setCell ⟨g, i * 14 + 4, none⟩ (.int .i64 (up : Int)))) := ⟨q7, q8⟩
    clear hO hK hm hm2 fin hV2 hml2 q7 q8
    go_upto_region 12 with fail
    rw [<- HV2.out]
    go_wp2
    go_end0
    exact ⟨rfl, HX.out.1, HX.out.2⟩
end
section
open Go.RowKit Go.Sort
theorem zlu (K : Nat -> Prop) (p i u : Nat) (M : Dm) (R G : Nat -> List Nat) (w : World) (h : RX K J w p M R G) (hi : i < M.n) (hu : u < M.n) (hup : (M.pl i).up = (u : Int)) (hn : M.n <= 1000000) (a b : List Nat) (hR : R u = a ++ i :: b) (hia : i ∉ a) (hln : (R u).length <= 1000000) :
  Calls Tryz.prog 170 #[.pointer (some ⟨p, 0, none⟩), .int .i64 (i : Int)] w fun e w' => e = .returned (.int .i64 (hdD b (-1))) /\ Kept (fun k => k < w.heap.size) w w' := by
 obtain ⟨A, hY⟩ := h
 obtain ⟨g, hg, -, -, hgl⟩ := hY.nat (by omega)
 have c1 := hY.c1
 rw [hg] at c1
 have c4 : w.cell? ⟨g, i * 14 + 4, none⟩ = some (.int .i64 (u : Int)) := by rw [<- hup]; exact hY.cell hg hi 4 _ rfl
 have u5 : w.cell? ⟨g, u * 14 + 5, none⟩ = some (.slice (A.ka u) (R u).length (A.kc u)) := hY.cell hg hu 5 _ rfl
 have hka := hY.kid u hu
 obtain ⟨ka, hkae⟩ : ∃ ka, A.ka u = ka := ⟨_, rfl⟩
 obtain ⟨kc, hkce⟩ : ∃ kc, A.kc u = kc := ⟨_, rfl⟩
 obtain ⟨l, hle⟩ : ∃ l, R u = l := ⟨_, rfl⟩
 obtain ⟨ln, hlne⟩ : ∃ ln, l.length = ln := ⟨_, rfl⟩
 rw [hkae, hkce, hle, hlne] at u5
 rw [hle, hlne] at hln
 rw [hkae, hle] at hka
 rw [hle] at hR
 have HA : Hid (Zan (fun x => x < w.heap.size /\ ¬ A.bad K J p M.n x) w ka l) := hka
 have HL : Hid (l.length = ln) := hlne
 have HR : Hid (l = a ++ i :: b) := hR
 have hla : ln = a.length + 1 + b.length := by rw [<- hlne, hR, List.length_append, List.length_cons]; omega
 have HIA : Hid (i ∉ a) := hia
 obtain ⟨la, hlae⟩ : ∃ la, a.length = la := ⟨_, rfl⟩
 have HLA : Hid (a.length = la) := hlae
 have HLN : Hid (ln = la + 1 + b.length) := by rw [hlae] at hla; exact (show Hid _ from hla)
 have hlt0 : la < ln := by rw [hlae] at hla; omega
 clear hY hg hka hkae hkce hle hlne hR hia hup hla hlae
 go_enter Tryz.func170, Tryz.ntmps170
 go_upto_region 1 with fail
 go_quiet (fail)
 go_upto_region 3 with fail
 go_loopg [6] ln (fun gh v wr => ∃ j : Nat, gh = ln - j /\ j <= la /\ v = .int .i64 (j : Int) /\ wr = w.drewN nq)
 case atStart => exact ⟨0, rfl, Nat.zero_le _, rfl, rfl⟩
 case round =>
  obtain ⟨j, hgj, hj, rfl, rfl⟩ := hrel
  have hjl : j < l.length := by rw [HL.out]; omega
  obtain ⟨g1, o1, rfl, -, hc⟩ := HA.out j hjl
  have d : (w.drewN nq).cell? ⟨g1, o1 + j, none⟩ = some (.int .i64 (l[j] : Int)) := hc
  by_cases hlt : j < la
  ·have hne : l[j] ≠ i := by
    have e1 : l[j]? = a[j]? := by rw [HR.out, List.getElem?_append_left (by rw [HLA.out]; exact hlt)]
    rw [List.getElem?_eq_getElem hjl, List.getElem?_eq_getElem (by rw [HLA.out]; exact hlt)] at e1
    injection e1 with e1
    rw [e1]
    intro e
    exact HIA.out (e ▸ List.getElem_mem _)
   obtain ⟨y, hy⟩ : ∃ y, l[j] = y := ⟨_, rfl⟩
   rw [hy] at d hne
   have e1 : ((y : Int) == (i : Int)) = false := by simp; omega
   have e2 : decide ((j : Int) + 1 < (ln : Int)) = true := decide_eq_true (by omega)
   clear hc hy
   go_wp2
   go_roundg (ln - (j + 1))
   case rel => exact ⟨j + 1, rfl, by omega, by go_num, rfl⟩
   case measure => omega
  ·have hjla : j = la := by omega
   subst hjla
   have e1 : l[j]? = some i := by rw [HR.out, List.getElem?_append_right (by rw [HLA.out]; exact Nat.le_refl _), HLA.out, Nat.sub_self]; rfl
   rw [List.getElem?_eq_getElem hjl] at e1
   injection e1 with e1
   rw [e1] at d
   cases b with
   | nil =>
    have hln1 : ln = j + 1 := by have := HLN.out; simpa using this
    have e2 : decide ((j : Int) + 1 < (ln : Int)) = false := decide_eq_false (by omega)
    clear hc hln1
    go_wp2
    go_ret
    exact ⟨rfl, (Kept.refl _ w).drewN nq⟩
   | cons y r =>
    have hln1 : j + 1 < ln := by have := HLN.out; simp at this; omega
    have e2 : decide ((j : Int) + 1 < (ln : Int)) = true := decide_eq_true (by omega)
    have hjl2 : j + 1 < l.length := by rw [HL.out]; exact hln1
    obtain ⟨g2, o2, e3, -, hc2⟩ := HA.out (j + 1) hjl2
    injection e3 with e3
    injection e3 with e4 e5
    subst e4 e5
    have e6 : l[j + 1]? = some y := by rw [HR.out, List.getElem?_append_right (by rw [HLA.out]; omega), HLA.out, show j + 1 - j = 1 by omega]; rfl
    rw [List.getElem?_eq_getElem hjl2] at e6
    injection e6 with e6
    rw [e6] at hc2
    have d2 : (w.drewN nq).cell? ⟨g1, o1 + (j + 1), none⟩ = some (.int .i64 (y : Int)) := hc2
    clear hc hc2 e1 e6
    go_wp2
    go_ret
    exact ⟨rfl, (Kept.refl _ w).drewN nq⟩
def RFits (M : Dm) (up i : Nat) : Prop := zbp (M.nd up) = true /\ i ≠ 0 /\ (M.nd i).host < 0 /\ ¬ Wi M i up
end
section
open Go.RowKit Go.Sort
inductive Yn (P : Prop) (e : Ending) : Prop
 | mk (b : Bool) : e = .returned (.bool b) -> (b = true ↔ P) -> Yn P e
theorem zcd (K : Nat -> Prop) (p up i : Nat) (M : Dm) (R G : Nat -> List Nat) (rk : Nat -> Nat) (w : World) (h : RX K J w p M R G) (ha : Acy M rk) (hu : up < M.n) (hi : i < M.n) (hn : M.n <= 1000000) (hge : ∀ k, k < M.n -> (M.pl k).up = -1 \/ 0 <= (M.pl k).up)
  (kd : Nat) (hkd : (M.nd up).kind = kd) (vv : Bool) (hvv : ze6 (M.nd up).name = vv) :
  Calls Tryz.prog 168 #[.pointer (some ⟨p, 0, none⟩), .int .i64 (up : Int), .int .i64 (i : Int)] w fun e w' => Yn (RFits M up i) e /\ Kept (fun k => k < w.heap.size) w w' := by
 have rwi := fun (X : World) (hX : Kept (fun k => k < w.heap.size) w X) => zim K p up i M R G rk X (h.kept hX) ha hu hi hn hge
 obtain ⟨A, hY⟩ := h
 obtain ⟨g, hg, -, -, hgl⟩ := hY.nat (by omega)
 have hpl := hY.plt
 have c1 := hY.c1
 rw [hg] at c1
 have c0 : w.cell? ⟨g, up * 14, none⟩ = some (.int .u8 ((M.nd up).kind : Int)) := hY.cell hg hu 0 _ rfl
 have d1 : w.cell? ⟨g, up * 14 + 1, none⟩ = some (.string ⟨(M.nd up).name.toArray⟩) := hY.cell hg hu 1 _ rfl
 have d7 : w.cell? ⟨g, i * 14 + 7, none⟩ = some (.int .i64 (M.nd i).host) := hY.cell hg hi 7 _ rfl
 obtain ⟨S, hS⟩ : ∃ S : ByteArray, (⟨(M.nd up).name.toArray⟩ : ByteArray) = S := ⟨_, rfl⟩
 have hSl : S.toList = (M.nd up).name := by rw [<- hS, ByteArray.toList_eq]
 rw [hS] at d1
 rw [hkd] at c0
 have rv := zg9 S (fun k => k < w.heap.size) w
 rw [hSl, hvv] at rv
 obtain ⟨ho, hho⟩ : ∃ ho, (M.nd i).host = ho := ⟨_, rfl⟩
 rw [hho] at d7
 have HHO : Hid ((M.nd i).host = ho) := hho
 have hHold : zbp (M.nd up) = (if kd = 1 then !vv else decide (kd = 4) || decide (kd = 5)) := by unfold zbp; rw [hkd, hvv]
 obtain ⟨hb, hbe⟩ : ∃ hb, (if kd = 1 then !vv else decide (kd = 4) || decide (kd = 5)) = hb := ⟨_, rfl⟩
 have HH : Hid (zbp (M.nd up) = hb) := hHold.trans hbe
 have HC : Hid (∀ X, Kept (fun k => k < w.heap.size) w X -> X.cell? ⟨p, 1, none⟩ = some (.slice (some ⟨g, 0, none⟩) M.n A.nc) /\ X.cell? ⟨g, i * 14 + 7, none⟩ = some (.int .i64 ho)) := fun X hX => ⟨(hX.cell (p := ⟨p, 1, none⟩) hpl).trans c1, (hX.cell (p := ⟨g, i * 14 + 7, none⟩) hgl).trans d7⟩
 have HEND : Hid (∀ q : Bool, (q = true ↔ Wi M i up) -> hb = true -> i ≠ 0 -> ho < 0 -> ((!q) = true ↔ RFits M up i)) := fun q hq h1 e2 h3 => by
  have e3 : (M.nd i).host < 0 := by rw [HHO.out]; exact h3
  constructor
  ·intro hh
   refine ⟨by rw [HH.out]; exact h1, e2, e3, fun hw => ?_⟩
   rw [hq.2 hw] at hh; cases hh
  ·intro hh
   cases q with
   | false => rfl
   | true => exact absurd (hq.1 rfl) hh.2.2.2
 have HNO : Hid (hb = false \/ i = 0 \/ ¬ ho < 0 -> ¬ RFits M up i) := fun hh hf => by
  rcases hh with h1 | h1 | h1
  ·have := hf.1; rw [HH.out, h1] at this; cases this
  ·exact hf.2.1 h1
  ·exact h1 (by rw [<- HHO.out]; exact hf.2.2.1)
 have HNO2 : Hid (hb = false \/ i = 0 \/ ¬ ho < 0 -> (false = true ↔ RFits M up i)) := fun h1 => ⟨fun hh => (by cases hh), fun hh => absurd hh (HNO.out h1)⟩
 clear hY hS hSl hHold hho hkd hvv
 by_cases q1 : kd = 1
 ·subst q1
  rw [if_pos rfl] at hbe
  cases vv with
  | true =>
   have hb0 : hb = false := hbe.symm
   subst hb0
   clear rwi hbe
   go_enter Tryz.func168, Tryz.ntmps168
   go_wp2_with (go_at_call 128; refine rv.mono ?_; rintro e3 w3 ⟨rfl, hk3⟩)
   go_ret
   exact ⟨.mk false rfl (HNO2.out (.inl (by simp))), hk3⟩
  | false =>
   have hb0 : hb = true := hbe.symm
   subst hb0
   clear hbe
   go_enter Tryz.func168, Tryz.ntmps168
   go_upto_region 4 with (go_at_call 128; refine rv.mono ?_; rintro e3 w3 ⟨rfl, hk3⟩)
   obtain ⟨f1, f7⟩ := HC.out w3 hk3
   have rwi2 := rwi w3 hk3
   have HKX : Hid (Kept (fun k => k < w.heap.size) w w3) := hk3
   clear rwi rv c1 c0 d1 d7
   by_cases z0 : i = 0
   ·subst z0
    go_wp2
    go_ret
    exact ⟨.mk false rfl (HNO2.out (.inr (.inl (by simp)))), HKX.out⟩
   ·have z0' : ((i : Int) == 0) = false := by simp; omega
    by_cases zh : ho < 0
    ·have zh' : decide (ho < 0) = true := decide_eq_true zh
     go_wp2_with (go_at_call 233; refine rwi2.mono ?_; rintro e4 w4 ⟨q, rfl, hq, hw4⟩; replace hw4 := hw4.symm; subst hw4; have HQ : Hid (q = true ↔ Wi M i up) := hq; clear hq)
     go_ret
     exact ⟨.mk _ rfl (by rw [show ((i : Int) != 0) = true by simp; omega, Bool.true_and]; exact HEND.out q HQ.out (by simp) z0 zh), HKX.out⟩
    ·have zh' : decide (ho < 0) = false := decide_eq_false zh
     go_wp2
     go_ret
     exact ⟨.mk false rfl (HNO2.out (.inr (.inr zh))), HKX.out⟩
 have p1 : ((kd : Int) == 1) = false := by simp; omega
 rw [if_neg q1] at hbe
 by_cases q4 : kd = 4
 ·subst q4
  have hb0 : hb = true := hbe.symm
  subst hb0
  clear hbe
  go_enter Tryz.func168, Tryz.ntmps168
  go_upto_region 4 with fail
  have hkr : Kept (fun k => k < w.heap.size) w w := Kept.refl _ _
  obtain ⟨f1, f7⟩ := HC.out w hkr
  have rwi2 := rwi w hkr
  have HKX : Hid (Kept (fun k => k < w.heap.size) w w) := hkr
  clear rwi rv c1 c0 d1 d7
  by_cases z0 : i = 0
  ·subst z0
   go_wp2
   go_ret
   exact ⟨.mk false rfl (HNO2.out (.inr (.inl (by simp)))), HKX.out⟩
  ·have z0' : ((i : Int) == 0) = false := by simp; omega
   by_cases zh : ho < 0
   ·have zh' : decide (ho < 0) = true := decide_eq_true zh
    go_wp2_with (go_at_call 233; refine rwi2.mono ?_; rintro e4 w4 ⟨q, rfl, hq, hw4⟩; replace hw4 := hw4.symm; subst hw4; have HQ : Hid (q = true ↔ Wi M i up) := hq; clear hq)
    go_ret
    exact ⟨.mk _ rfl (by rw [show ((i : Int) != 0) = true by simp; omega, Bool.true_and]; exact HEND.out q HQ.out (by simp) z0 zh), HKX.out⟩
   ·have zh' : decide (ho < 0) = false := decide_eq_false zh
    go_wp2
    go_ret
    exact ⟨.mk false rfl (HNO2.out (.inr (.inr zh))), HKX.out⟩
 have p4 : ((kd : Int) == 4) = false := by simp; omega
 by_cases q5 : kd = 5
 ·subst q5
  have hb0 : hb = true := hbe.symm
  subst hb0
  clear hbe
  go_enter Tryz.func168, Tryz.ntmps168
  go_upto_region 4 with fail
  have hkr : Kept (fun k => k < w.heap.size) w w := Kept.refl _ _
  obtain ⟨f1, f7⟩ := HC.out w hkr
  have rwi2 := rwi w hkr
  have HKX : Hid (Kept (fun k => k < w.heap.size) w w) := hkr
  clear rwi rv c1 c0 d1 d7
  by_cases z0 : i = 0
  ·subst z0
   go_wp2
   go_ret
   exact ⟨.mk false rfl (HNO2.out (.inr (.inl (by simp)))), HKX.out⟩
  ·have z0' : ((i : Int) == 0) = false := by simp; omega
   by_cases zh : ho < 0
   ·have zh' : decide (ho < 0) = true := decide_eq_true zh
    go_wp2_with (go_at_call 233; refine rwi2.mono ?_; rintro e4 w4 ⟨q, rfl, hq, hw4⟩; replace hw4 := hw4.symm; subst hw4; have HQ : Hid (q = true ↔ Wi M i up) := hq; clear hq)
    go_ret
    exact ⟨.mk _ rfl (by rw [show ((i : Int) != 0) = true by simp; omega, Bool.true_and]; exact HEND.out q HQ.out (by simp) z0 zh), HKX.out⟩
   ·have zh' : decide (ho < 0) = false := decide_eq_false zh
    go_wp2
    go_ret
    exact ⟨.mk false rfl (HNO2.out (.inr (.inr zh))), HKX.out⟩
 have p5 : ((kd : Int) == 5) = false := by simp; omega
 have hb0 : hb = false := by rw [<- hbe, decide_eq_false q4, decide_eq_false q5]; rfl
 subst hb0
 clear hbe rwi rv
 go_enter Tryz.func168, Tryz.ntmps168
 go_wp2
 go_ret
 exact ⟨.mk false rfl (HNO2.out (.inl (by simp))), Kept.refl _ _⟩
end
section
open Go.RowKit Go.Sort
theorem zbv {n : Nat} {i : Int} (h : i < 0 \/ (n : Int) <= i) : (decide (0 <= i) && decide (i < (n : Int))) = false := by
 rcases h with h | h
 ·rw [decide_eq_false (by omega)]; rfl
 ·rw [decide_eq_false (show ¬ i < (n : Int) by omega), Bool.and_false]
theorem zal {n k : Nat} (h : k < n) : (decide (0 <= (k : Int)) && decide ((k : Int) < (n : Int))) = true := by
 rw [decide_eq_true (by omega), decide_eq_true (by omega)]; rfl
theorem zhx (K : Nat -> Prop) (p : Nat) (M : Dm) (R G : Nat -> List Nat) (i : Int) (w : World) (h : RX K J w p M R G) (hi : i < 0 \/ (M.n : Int) <= i) :
  Calls Tryz.prog 96 #[.pointer (some ⟨p, 0, none⟩), .int .i64 i] w fun e w' => e = .returned (.int .i64 80) /\ w' = w := by
 have rt := zae K p M R G i w h
 rw [zbv hi] at rt
 clear h hi
 go_enter Tryz.func96, Tryz.ntmps96
 go_wp2_with (go_at_call 160; refine rt.mono ?_; rintro e1 w3 ⟨rfl, hw3⟩; replace hw3 := hw3.symm; subst hw3)
 go_ret
 exact ⟨rfl, rfl⟩
theorem zgc (K : Nat -> Prop) (p i : Nat) (M : Dm) (R G : Nat -> List Nat) (w : World) (h : RX K J w p M R G) (hi : i < M.n) (hn : M.n <= 1000000) (hup : (M.pl i).up = -1 \/ ∃ u : Nat, u < M.n /\ (M.pl i).up = (u : Int)) (hrl : ∀ u, u < M.n -> (R u).length <= 1000000) :
  Calls Tryz.prog 96 #[.pointer (some ⟨p, 0, none⟩), .int .i64 (i : Int)] w fun e w' => Kept K w w' /\ (((M.pl i).up = -1 /\ e = .returned (.int .i64 81) /\ RX K J w' p M R G) \/ ((M.pl i).up ≠ -1 /\ e = .returned (.int .i64 0) /\ RX K J w' p (zcu M i) (zch M R i) G)) := by
 have rt := zae K p M R G (i : Int) w h
 rw [zal hi] at rt
 have ro := zj4 K p i M R G w h hi hn hup hrl
 have HX : Hid (RX K J w p M R G) := h
 obtain ⟨A, hY⟩ := h
 obtain ⟨g, hg, -, -, hgl⟩ := hY.nat (by omega)
 have c1 := hY.c1
 rw [hg] at c1
 have c4 : w.cell? ⟨g, i * 14 + 4, none⟩ = some (.int .i64 (M.pl i).up) := hY.cell hg hi 4 _ rfl
 clear hY hg hrl
 rcases hup with hup | ⟨u, hu, hup⟩
 ·rw [hup] at c4
  have HU : Hid ((M.pl i).up = -1) := hup
  clear ro hup
  go_enter Tryz.func96, Tryz.ntmps96
  go_wp2_with (go_at_call 160; refine rt.mono ?_; rintro e1 w3 ⟨rfl, hw3⟩; replace hw3 := hw3.symm; subst hw3)
  go_ret
  exact ⟨Kept.refl _ _, .inl ⟨HU.out, rfl, HX.out⟩⟩
 ·rw [hup] at c4
  have HU : Hid ((M.pl i).up ≠ -1) := by show Hid _; exact (show (M.pl i).up ≠ -1 by omega)
  have e0 : decide ((u : Int) < 0) = false := decide_eq_false (by omega)
  clear hup
  go_enter Tryz.func96, Tryz.ntmps96
  go_wp2_with (first | (go_at_call 160; refine rt.mono ?_; rintro e1 w3 ⟨rfl, hw3⟩; replace hw3 := hw3.symm; subst hw3) | (go_at_call 172; refine ro.mono ?_; rintro e1 w4 ⟨rfl, hX4, hK4⟩))
  go_ret
  exact ⟨hK4, .inr ⟨HU.out, rfl, hX4⟩⟩
theorem zi5 (K : Nat -> Prop) (p : Nat) (M : Dm) (R G : Nat -> List Nat) (i : Int) (S : ByteArray) (w : World) (h : RX K J w p M R G) (hi : i < 0 \/ (M.n : Int) <= i) :
  Calls Tryz.prog 102 #[.pointer (some ⟨p, 0, none⟩), .int .i64 i, .string S] w fun e w' => e = .returned (.int .i64 80) /\ w' = w := by
 have rt := zae K p M R G i w h
 rw [zbv hi] at rt
 clear h hi
 go_enter Tryz.func102, Tryz.ntmps102
 go_wp2_with (go_at_call 160; refine rt.mono ?_; rintro e1 w3 ⟨rfl, hw3⟩; replace hw3 := hw3.symm; subst hw3)
 go_ret
 exact ⟨rfl, rfl⟩
theorem zhz (K : Nat -> Prop) (p i : Nat) (M : Dm) (R G : Nat -> List Nat) (S : ByteArray) (w : World) (h : RX K J w p M R G) (hi : i < M.n) (hn : M.n <= 1000000) :
  Calls Tryz.prog 102 #[.pointer (some ⟨p, 0, none⟩), .int .i64 (i : Int), .string S] w fun e w' => Kept K w w' /\ ((((M.nd i).kind ≠ 2 /\ (M.nd i).kind ≠ 3) /\ e = .returned (.int .i64 81) /\ RX K J w' p M R G) \/ (((M.nd i).kind = 2 \/ (M.nd i).kind = 3) /\ e = .returned (.int .i64 0) /\ RX K J w' p (M.setN i { M.nd i with data := S.toList }) R G)) := by
 have rt := zae K p M R G (i : Int) w h
 rw [zal hi] at rt
 have HX : Hid (RX K J w p M R G) := h
 obtain ⟨A, hY⟩ := h
 obtain ⟨g, hg, -, -, hgl⟩ := hY.nat (by omega)
 have c1 := hY.c1
 rw [hg] at c1
 have c0 : w.cell? ⟨g, i * 14, none⟩ = some (.int .u8 ((M.nd i).kind : Int)) := hY.cell hg hi 0 _ rfl
 have c2 : w.cell? ⟨g, i * 14 + 2, none⟩ = some (sv (M.nd i).data) := hY.cell hg hi 2 _ rfl
 have fz := hY.fg hg (i * 14 + 2)
 obtain ⟨hY2, hK2⟩ := hY.setData hg hi S.toList
 have eS : sv S.toList = .string S := by rw [ByteArray.toList_eq]
 rw [eS] at hY2 hK2
 have HX2 : Hid (RX K J (w.setCell ⟨g, i * 14 + 2, none⟩ (.string S)) p (M.setN i { M.nd i with data := S.toList }) R G) := ⟨_, hY2⟩
 have HK2 : Hid (Kept K w (w.setCell ⟨g, i * 14 + 2, none⟩ (.string S))) := hK2
 obtain ⟨kd, hkd⟩ : ∃ kd, (M.nd i).kind = kd := ⟨_, rfl⟩
 have HKD : Hid ((M.nd i).kind = kd) := hkd
 rw [hkd] at c0
 clear hY hg hY2 hK2 hkd eS
 by_cases q2 : kd = 2
 ·subst q2
  go_enter Tryz.func102, Tryz.ntmps102
  go_wp2_with (go_at_call 160; refine rt.mono ?_; rintro e1 w3 ⟨rfl, hw3⟩; replace hw3 := hw3.symm; subst hw3)
  go_ret
  exact ⟨HK2.out, .inr ⟨.inl HKD.out, rfl, HX2.out⟩⟩
 have p2 : ((kd : Int) == 2) = false := by simp; omega
 by_cases q3 : kd = 3
 ·subst q3
  go_enter Tryz.func102, Tryz.ntmps102
  go_wp2_with (go_at_call 160; refine rt.mono ?_; rintro e1 w3 ⟨rfl, hw3⟩; replace hw3 := hw3.symm; subst hw3)
  go_ret
  exact ⟨HK2.out, .inr ⟨.inr HKD.out, rfl, HX2.out⟩⟩
 have p3 : ((kd : Int) == 3) = false := by simp; omega
 have n2 : ((kd : Int) != 2) = true := by simp; omega
 have n3 : ((kd : Int) != 3) = true := by simp; omega
 go_enter Tryz.func102, Tryz.ntmps102
 go_wp2_with (go_at_call 160; refine rt.mono ?_; rintro e1 w3 ⟨rfl, hw3⟩; replace hw3 := hw3.symm; subst hw3)
 go_ret
 exact ⟨Kept.refl _ _, .inl ⟨⟨by rw [HKD.out]; exact q2, by rw [HKD.out]; exact q3⟩, rfl, HX.out⟩⟩
end
end Go.Proofs.YtfeinppedejlpaaGreat
