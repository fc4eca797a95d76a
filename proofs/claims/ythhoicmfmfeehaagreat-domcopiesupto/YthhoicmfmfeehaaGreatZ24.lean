/-
  The document's own out, put, next.
-/
import Derived.Test.YthhoicmfmfeehaaGreatZ18
namespace Go.Proofs.YthhoicmfmfeehaaGreat
open Go.RowKit Go.Sort
set_option linter.unusedVariables false
/-- A node is taken out: of the document's own. -/
def rOutM (M : Dm) (i : Nat) : Dm := M.setP (updL M.pl i { M.pl i with up := -1 })
def rOutR (M : Dm) (R : Nat → List Nat) (i : Nat) : Nat → List Nat := if (M.pl i).up = -1 then R else updR R (M.pl i).up.toNat (wo (R (M.pl i).up.toNat) (i : Int))
set_option maxRecDepth 20000 in
set_option maxHeartbeats 2000000 in
theorem rout_any (K : Nat → Prop) (p i : Nat) (M : Dm) (R G : Nat → List Nat) (w : World) (h : RX K w p M R G) (hi : i < M.n) (hn : M.n ≤ 1000000) (hup : (M.pl i).up = -1 ∨ ∃ u : Nat, u < M.n ∧ (M.pl i).up = (u : Int)) (hrl : ∀ u, u < M.n → (R u).length ≤ 1000000) :
    Calls Tryz.prog 85 #[.pointer (some ⟨p, 0, none⟩), .int .i64 (i : Int)] w fun e w' => e = .returned (.tuple #[]) ∧ RX K w' p (rOutM M i) (rOutR M R i) G ∧ Kept K w w' := by
  obtain ⟨A, h⟩ := h
  obtain ⟨g, hg, -, -, hgl0⟩ := h.nat (by omega)
  have c1 := h.c1
  rw [hg] at c1
  have c4 : w.cell? ⟨g, i * 14 + 4, none⟩ = some (.int .i64 (M.pl i).up) := h.cell hg hi 4 _ rfl
  have fz := h.fg hg (i * 14 + 4)
  rcases hup with hup | ⟨u, hu, hup⟩
  · obtain ⟨hY, hK⟩ := h.setUp hg hi (-1)
    have HX : Hid (RX K (w.setCell ⟨g, i * 14 + 4, none⟩ (.int .i64 (-1))) p (rOutM M i) (rOutR M R i) G) := ⟨A, by unfold rOutR; rw [if_pos hup]; exact hY⟩
    have HK : Hid (Kept K w (w.setCell ⟨g, i * 14 + 4, none⟩ (.int .i64 (-1)))) := hK
    rw [hup] at c4
    clear h hY hK hup hrl
    go_enter Tryz.func85, Tryz.ntmps85
    go_wp2
    go_end0
    exact ⟨rfl, HX.out, HK.out⟩
  · have e0 : decide ((u : Int) ≥ 0) = true := decide_eq_true (by omega)
    have u5 : w.cell? ⟨g, u * 14 + 5, none⟩ = some (.slice (A.ka u) (R u).length (A.kc u)) := h.cell hg hu 5 _ rfl
    rw [hup] at c4
    have hY := h
    have HYr : Hid (RY K w p M R G A) := h
    have hka := (h.kid u hu).to (F' := fun k => k < w.heap.size) (w' := w) (fun g hg => hg.1) (fun _ _ => rfl)
    obtain ⟨ka, hkae⟩ : ∃ ka, A.ka u = ka := ⟨_, rfl⟩
    obtain ⟨kc, hkce⟩ : ∃ kc, A.kc u = kc := ⟨_, rfl⟩
    obtain ⟨l, hle⟩ : ∃ l, R u = l := ⟨_, rfl⟩
    obtain ⟨ln, hlne⟩ : ∃ ln, l.length = ln := ⟨_, rfl⟩
    have hlb := hrl u hu
    rw [hkae, hkce, hle, hlne] at u5
    rw [hle, hlne] at hlb
    rw [hkae, hle] at hka
    have rw1 := rwithout_any l ka ln kc hlne (by omega) (i : Int) w.drew (hka.to (fun _ h => h) (fun _ _ => rfl))
    have u5d : w.drew.cell? ⟨g, u * 14 + 5, none⟩ = some (.slice ka ln kc) := u5
    have c1d : w.drew.cell? ⟨p, 1, none⟩ = some (.slice (some ⟨g, 0, none⟩) M.n A.nc) := c1
    have hpl : p < w.drew.heap.size := h.plt
    have hgl : g < w.drew.heap.size := hgl0
    have fz5 : w.drew.frozen? ⟨g, u * 14 + 5, none⟩ = false := h.fg hg _
    have HLE : Hid (R u = l) := hle
    clear h hY hka hkae hkce hle hlne hrl
    go_enter Tryz.func85, Tryz.ntmps85
    go_upto_region 2 with fail
    go_region_with (go_at_call 91; refine rw1.mono ?_; rintro e w3 ⟨ao, c, rfl, hO, hk3⟩; have c1w : w3.cell? ⟨p, 1, none⟩ = some (.slice (some ⟨g, 0, none⟩) M.n A.nc) := (hk3.cell (p := ⟨p, 1, none⟩) hpl).trans c1d; have u5w : w3.cell? ⟨g, u * 14 + 5, none⟩ = some (.slice ka ln kc) := (hk3.cell (p := ⟨g, u * 14 + 5, none⟩) hgl).trans u5d; have fzw : w3.frozen? ⟨g, u * 14 + 5, none⟩ = false := (hk3.frozen (p := ⟨g, u * 14 + 5, none⟩) hgl).trans fz5)
    all_goals
      have k3 : Kept (fun k => k < w.heap.size) w w3 := ((Kept.refl _ w).drew).trans hk3
      have hOl : IntsAt (fun x => w.heap.size ≤ x ∧ x < w3.heap.size) w3 ao (wo l (i : Int)) := hO.intsAt fun x hx => ⟨Nat.le_of_not_lt (OwnZ.out hO hx).1, (OwnZ.out hO hx).2⟩
      obtain ⟨hY4, hK4⟩ := HYr.out.setKids k3 hg hu (wo l (i : Int)) ao c hOl hO.2.1
      obtain ⟨V, hV⟩ : ∃ V, w3.setCell ⟨g, u * 14 + 5, none⟩ (.slice ao (wo l (i : Int)).length c) = V := ⟨_, rfl⟩
      rw [hV] at hY4 hK4 ⊢
      have hg4 : (A.setK u ao c).na = some ⟨g, 0, none⟩ := hg
      obtain ⟨hY5, hK5⟩ := hY4.setUp hg4 hi (-1)
      have v1 := hY4.c1
      rw [hg4] at v1
      have v4 : V.cell? ⟨g, i * 14 + 4, none⟩ = some (.int .i64 (M.pl i).up) := hY4.cell hg4 hi 4 _ rfl
      have v5 := hY4.fg hg4 (i * 14 + 4)
      have v1' : V.cell? ⟨p, 1, none⟩ = some (.slice (some ⟨g, 0, none⟩) M.n A.nc) := v1
      have HX : Hid (RX K (V.setCell ⟨g, i * 14 + 4, none⟩ (.int .i64 (-1))) p (rOutM M i) (rOutR M R i) G) := ⟨_, by unfold rOutR; rw [if_neg (by omega), hup, Int.toNat_natCast, HLE.out]; exact hY5⟩
      have HK : Hid (Kept K w (V.setCell ⟨g, i * 14 + 4, none⟩ (.int .i64 (-1)))) := ((k3.mono HYr.out.lt).trans hK4).trans hK5
      clear c1w u5w fzw hO hk3 k3 hOl hY4 hK4 hV hY5 hK5 v1 rw1 u5d c1d
      go_wp2
      go_end0
      exact ⟨rfl, HX.out, HK.out⟩
end Go.Proofs.YthhoicmfmfeehaaGreat
