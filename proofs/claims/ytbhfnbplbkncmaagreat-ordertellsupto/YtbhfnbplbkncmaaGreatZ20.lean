/-
  The document's own out, put, next.
  The document's own put, next.
-/
import Derived.Test.YtbhfnbplbkncmaaGreatZ19
namespace Go.Proofs.YtbhfnbplbkncmaaGreat
open Go.RowKit Go.Sort
set_option linter.unusedVariables false
/-- A node is taken out: of the document's own. -/
def rOutM (M : Dm) (i : Nat) : Dm := M.setP (updL M.pl i { M.pl i with up := -1 })
def rOutR (M : Dm) (R : Nat → List Nat) (i : Nat) : Nat → List Nat := if (M.pl i).up = -1 then R else updR R (M.pl i).up.toNat (wo (R (M.pl i).up.toNat) (i : Int))
set_option maxRecDepth 20000 in
set_option maxHeartbeats 2000000 in
theorem rout_any (K : Nat → Prop) (p i : Nat) (M : Dm) (R G : Nat → List Nat) (w : World) (h : RX K w p M R G) (hi : i < M.n) (hn : M.n ≤ 1000000) (hup : (M.pl i).up = -1 ∨ ∃ u : Nat, u < M.n ∧ (M.pl i).up = (u : Int)) (hrl : ∀ u, u < M.n → (R u).length ≤ 1000000) :
    Calls Tryz.prog 153 #[.pointer (some ⟨p, 0, none⟩), .int .i64 (i : Int)] w fun e w' => e = .returned (.tuple #[]) ∧ RX K w' p (rOutM M i) (rOutR M R i) G ∧ Kept K w w' := by
  obtain ⟨A, h⟩ := h
  obtain ⟨g, hg, -, -, hgl0⟩ := h.nat (by omega)
  have c1 := h.c1
  rw [hg] at c1
  have c4 : w.cell? ⟨g, i * 14 + 4, none⟩ = some (.int .i64 (M.pl i).up) := h.cell hg hi 4 _ rfl
  have fz := h.fg hg (i * 14 + 4)
  rcases hup with hup | ⟨u, hu, hup⟩
  · obtain ⟨hY, hK⟩ := h.setUp hg hi (-1)
    have HX : Hid (RX K (w.setCell ⟨g, i * 14 + 4, none⟩ (.int .i64 (-1))) p (rOutM M i) (rOutR M R i) G) := ⟨A, by unfold rOutR; rw [if_pos hup]; exact hY⟩
    have HK : Hid (Kept K w (w.setCell ⟨g, i * 14 + 4, none⟩ (.int .i64 (-1)))) := hK
    rw [hup] at c4
    clear h hY hK hup hrl
    go_enter Tryz.func153, Tryz.ntmps153
    go_wp2
    go_end0
    exact ⟨rfl, HX.out, HK.out⟩
  · have e0 : decide ((u : Int) ≥ 0) = true := decide_eq_true (by omega)
    have u5 : w.cell? ⟨g, u * 14 + 5, none⟩ = some (.slice (A.ka u) (R u).length (A.kc u)) := h.cell hg hu 5 _ rfl
    rw [hup] at c4
    have hY := h
    have HYr : Hid (RY K w p M R G A) := h
    have hka := (h.kid u hu).to (F' := fun k => k < w.heap.size) (w' := w) (fun g hg => hg.1) (fun _ _ => rfl)
    obtain ⟨ka, hkae⟩ : ∃ ka, A.ka u = ka := ⟨_, rfl⟩
    obtain ⟨kc, hkce⟩ : ∃ kc, A.kc u = kc := ⟨_, rfl⟩
    obtain ⟨l, hle⟩ : ∃ l, R u = l := ⟨_, rfl⟩
    obtain ⟨ln, hlne⟩ : ∃ ln, l.length = ln := ⟨_, rfl⟩
    have hlb := hrl u hu
    rw [hkae, hkce, hle, hlne] at u5
    rw [hle, hlne] at hlb
    rw [hkae, hle] at hka
    have rw1 := rwithout_any l ka ln kc hlne (by omega) (i : Int) w.drew (hka.to (fun _ h => h) (fun _ _ => rfl))
    have u5d : w.drew.cell? ⟨g, u * 14 + 5, none⟩ = some (.slice ka ln kc) := u5
    have c1d : w.drew.cell? ⟨p, 1, none⟩ = some (.slice (some ⟨g, 0, none⟩) M.n A.nc) := c1
    have hpl : p < w.drew.heap.size := h.plt
    have hgl : g < w.drew.heap.size := hgl0
    have fz5 : w.drew.frozen? ⟨g, u * 14 + 5, none⟩ = false := h.fg hg _
    have HLE : Hid (R u = l) := hle
    clear h hY hka hkae hkce hle hlne hrl
    go_enter Tryz.func153, Tryz.ntmps153
    go_upto_region 2 with fail
    go_region_with (go_at_call 167; refine rw1.mono ?_; rintro e w3 ⟨ao, c, rfl, hO, hk3⟩; have c1w : w3.cell? ⟨p, 1, none⟩ = some (.slice (some ⟨g, 0, none⟩) M.n A.nc) := (hk3.cell (p := ⟨p, 1, none⟩) hpl).trans c1d; have u5w : w3.cell? ⟨g, u * 14 + 5, none⟩ = some (.slice ka ln kc) := (hk3.cell (p := ⟨g, u * 14 + 5, none⟩) hgl).trans u5d; have fzw : w3.frozen? ⟨g, u * 14 + 5, none⟩ = false := (hk3.frozen (p := ⟨g, u * 14 + 5, none⟩) hgl).trans fz5)
    all_goals
      have k3 : Kept (fun k => k < w.heap.size) w w3 := ((Kept.refl _ w).drew).trans hk3
      have hOl : IntsAt (fun x => w.heap.size ≤ x ∧ x < w3.heap.size) w3 ao (wo l (i : Int)) := hO.intsAt fun x hx => ⟨Nat.le_of_not_lt (OwnZ.out hO hx).1, (OwnZ.out hO hx).2⟩
      obtain ⟨hY4, hK4⟩ := HYr.out.setKids k3 hg hu (wo l (i : Int)) ao c hOl hO.2.1
      obtain ⟨V, hV⟩ : ∃ V, w3.setCell ⟨g, u * 14 + 5, none⟩ (.slice ao (wo l (i : Int)).length c) = V := ⟨_, rfl⟩
      rw [hV] at hY4 hK4 ⊢
      have hg4 : (A.setK u ao c).na = some ⟨g, 0, none⟩ := hg
      obtain ⟨hY5, hK5⟩ := hY4.setUp hg4 hi (-1)
      have v1 := hY4.c1
      rw [hg4] at v1
      have v4 : V.cell? ⟨g, i * 14 + 4, none⟩ = some (.int .i64 (M.pl i).up) := hY4.cell hg4 hi 4 _ rfl
      have v5 := hY4.fg hg4 (i * 14 + 4)
      have v1' : V.cell? ⟨p, 1, none⟩ = some (.slice (some ⟨g, 0, none⟩) M.n A.nc) := v1
      have HX : Hid (RX K (V.setCell ⟨g, i * 14 + 4, none⟩ (.int .i64 (-1))) p (rOutM M i) (rOutR M R i) G) := ⟨_, by unfold rOutR; rw [if_neg (by omega), hup, Int.toNat_natCast, HLE.out]; exact hY5⟩
      have HK : Hid (Kept K w (V.setCell ⟨g, i * 14 + 4, none⟩ (.int .i64 (-1)))) := ((k3.mono HYr.out.lt).trans hK4).trans hK5
      clear c1w u5w fzw hO hk3 k3 hOl hY4 hK4 hV hY5 hK5 v1 rw1 u5d c1d
      go_wp2
      go_end0
      exact ⟨rfl, HX.out, HK.out⟩
end Go.Proofs.YtbhfnbplbkncmaaGreat

namespace Go.Proofs.YtbhfnbplbkncmaaGreat
open Go.RowKit Go.Sort
set_option linter.unusedVariables false
/-- The rows ahead of which one stands, put in. -/
def insF (l : List Nat) (i : Nat) (bef : Int) : List Nat := l.flatMap fun (k : Nat) => if (k : Int) = bef then [i, k] else [k]
def insW (l : List Nat) (i : Nat) (bef : Int) : List Nat := if bef < 0 then insF l i bef ++ [i] else insF l i bef
theorem insF_snoc (l : List Nat) (x i : Nat) (bef : Int) : insF (l ++ [x]) i bef = insF l i bef ++ (if (x : Int) = bef then [i, x] else [x]) := by
  unfold insF
  rw [List.flatMap_append]
  simp
theorem insF_len (l : List Nat) (i : Nat) (bef : Int) : (insF l i bef).length ≤ 2 * l.length := by
  unfold insF
  induction l with
  | nil => exact Nat.le_refl _
  | cons x r ih =>
    rw [List.flatMap_cons, List.length_append, List.length_cons]
    have : (if (x : Int) = bef then [i, x] else [x]).length ≤ 2 := by split <;> simp
    omega
def rPutM (M : Dm) (up i : Nat) : Dm := (rOutM M i).setP (updL (rOutM M i).pl i { (rOutM M i).pl i with up := (up : Int) })
def rPutR (M : Dm) (R : Nat → List Nat) (up i : Nat) (bef : Int) : Nat → List Nat := updR (rOutR M R i) up (insW (rOutR M R i up) i bef)
theorem rOutR_len {M : Dm} {R : Nat → List Nat} {i : Nat} {n b : Nat} (h : ∀ u, u < n → (R u).length ≤ b) : ∀ u, u < n → (rOutR M R i u).length ≤ b := by
  intro u hu
  unfold rOutR
  by_cases c : (M.pl i).up = -1
  · rw [if_pos c]; exact h u hu
  · rw [if_neg c]
    by_cases c2 : u = (M.pl i).up.toNat
    · rw [c2, updR_same]
      rw [c2] at hu
      have h1 := h _ hu
      have h2 := wo_len (R (M.pl i).up.toNat) (i : Int)
      omega
    · rw [updR_ne _ _ c2]; exact h u hu
set_option maxRecDepth 20000 in
set_option maxHeartbeats 4000000 in
theorem rput_any (K : Nat → Prop) (p up i : Nat) (bef : Int) (M : Dm) (R G : Nat → List Nat) (w : World) (h : RX K w p M R G) (hu : up < M.n) (hi : i < M.n) (hn : M.n ≤ 1000000) (hup : (M.pl i).up = -1 ∨ ∃ u : Nat, u < M.n ∧ (M.pl i).up = (u : Int)) (hrl : ∀ u, u < M.n → (R u).length ≤ 1000000) (hbb : -1 ≤ bef) (hbb2 : bef ≤ 1000000000) :
    Calls Tryz.prog 151 #[.pointer (some ⟨p, 0, none⟩), .int .i64 (up : Int), .int .i64 (i : Int), .int .i64 bef] w fun e w' => e = .returned (.tuple #[]) ∧ RX K w' p (rPutM M up i) (rPutR M R up i bef) G ∧ Kept K w w' := by
  have ro := rout_any K p i M R G w h hi hn hup hrl
  have HRL : Hid (∀ u, u < M.n → (rOutR M R i u).length ≤ 1000000) := rOutR_len hrl
  clear h hrl hup
  go_enter Tryz.func151, Tryz.ntmps151
  go_wp2_with fail
  refine ro.mono ?_
  rintro e w1 ⟨rfl, ⟨A, hY⟩, hK1⟩
  have hn1 : (rOutM M i).n = M.n := rfl
  obtain ⟨g, hg, -, -, hgl⟩ := hY.nat (by rw [hn1]; omega)
  have c1 := hY.c1
  rw [hg] at c1
  have c1' : w1.cell? ⟨p, 1, none⟩ = some (.slice (some ⟨g, 0, none⟩) M.n A.nc) := c1
  have hu1 : up < (rOutM M i).n := hu
  have u5 : w1.cell? ⟨g, up * 14 + 5, none⟩ = some (.slice (A.ka up) (rOutR M R i up).length (A.kc up)) := hY.cell hg hu1 5 _ rfl
  have hka := (hY.kid up hu1).to (F' := fun k => k < w1.heap.size) (w' := w1) (fun g hg => hg.1) (fun _ _ => rfl)
  have hlb := HRL.out up hu
  obtain ⟨ka, hkae⟩ : ∃ ka, A.ka up = ka := ⟨_, rfl⟩
  obtain ⟨kc, hkce⟩ : ∃ kc, A.kc up = kc := ⟨_, rfl⟩
  obtain ⟨l, hle⟩ : ∃ l, rOutR M R i up = l := ⟨_, rfl⟩
  obtain ⟨ln, hlne⟩ : ∃ ln, l.length = ln := ⟨_, rfl⟩
  rw [hkae, hkce, hle, hlne] at u5
  rw [hle, hlne] at hlb
  rw [hkae, hle] at hka
  have HY : Hid (RY K w1 p (rOutM M i) (rOutR M R i) G A) := hY
  have HA : Hid (IntsAt (fun k => k < w1.heap.size) w1 ka l) := hka
  have HL : Hid (l.length = ln) := hlne
  have HLE : Hid (rOutR M R i up = l) := hle
  have HK1 : Hid (Kept K w w1) := hK1
  have HG : Hid (A.na = some ⟨g, 0, none⟩) := hg
  clear ro hY hK1 hka hkae hkce hle hlne c1 HRL hg
  go_upto_region 4 with fail
  go_loopg [8, 10] ln (fun gh v8 v10 wr => ∃ (j : Nat) (ao : Option Addr) (c : Nat) (m : List Nat), gh = ln - j ∧ j ≤ ln ∧ v10 = .int .i64 (j : Int) ∧ m = insF (l.take j) i bef ∧ v8 = .slice ao m.length c ∧ OwnZ (fun k => k < w1.heap.size) wr 3 1 ao m.length c (ivs m) ∧ Kept (fun k => k < w1.heap.size) w1 wr)
  case atStart => exact ⟨0, none, 0, [], rfl, Nat.zero_le _, rfl, rfl, rfl, OwnZ.nil _ _ _ _, Kept.refl _ _⟩
  case round =>
    obtain ⟨j, ao, c, m, hgj, hj, rfl, hm, rfl, hO, hK⟩ := hrel
    have HO : Hid (OwnZ (fun k => k < w1.heap.size) wr 3 1 ao m.length c (ivs m)) := hO
    have HK : Hid (Kept (fun k => k < w1.heap.size) w1 wr) := hK
    have hml : m.length ≤ 2 * j := by
      rw [hm]
      have h1 := insF_len (l.take j) i bef
      rw [List.length_take] at h1
      omega
    by_cases hlt : j < ln
    · have hl : j < l.length := by rw [HL.out]; exact hlt
      obtain ⟨g1, o1, rfl, hg1, hc⟩ := HA.out j hl
      have d : wr.cell? ⟨g1, o1 + j, none⟩ = some (.int .i64 (l[j] : Int)) := (hK.cell (p := ⟨g1, o1 + j, none⟩) hg1).trans hc
      have htk : l.take (j + 1) = l.take j ++ [l[j]] := List.take_succ_eq_append_getElem hl
      obtain ⟨y, hy⟩ : ∃ y, l[j] = y := ⟨_, rfl⟩
      rw [hy] at d htk
      have HM : Hid (m = insF (l.take j) i bef) := hm
      have HT : Hid (l.take (j + 1) = l.take j ++ [y]) := htk
      by_cases hxy : (y : Int) = bef
      · subst hxy
        obtain ⟨ao', c', w', hr', hO', hK'⟩ := appI hO (fun k hk => Nat.lt_of_lt_of_le hk hK.size) (by omega) (i : Int)
        have d' : w'.cell? ⟨g1, o1 + j, none⟩ = some (.int .i64 (y : Int)) := (hK'.cell (p := ⟨g1, o1 + j, none⟩) hg1).trans d
        obtain ⟨ao2, c2, w2, hr2, hO2, hK2⟩ := appI hO' (fun k hk => Nat.lt_of_lt_of_le hk (Nat.le_trans hK.size hK'.size)) (by omega) (y : Int)
        have HM2 : Hid ((m ++ [i]) ++ [y] = insF (l.take (j + 1)) i (y : Int)) := by
          have : (m ++ [i]) ++ [y] = insF (l.take (j + 1)) i (y : Int) := by rw [HT.out, insF_snoc, if_pos rfl, HM.out, List.append_assoc]; rfl
          exact (show Hid _ from this)
        have HO2 : Hid (OwnZ (fun k => k < w1.heap.size) w2 3 1 ao2 ((m ++ [i]) ++ [y]).length c2 (ivs ((m ++ [i]) ++ [y]))) := by
          have : OwnZ (fun k => k < w1.heap.size) w2 3 1 ao2 ((m ++ [i]) ++ [y]).length c2 (ivs ((m ++ [i]) ++ [y])) := by
            rw [ivs, List.map_append, List.map_append, List.length_append, List.length_append]; exact hO2
          exact (show Hid _ from this)
        have HK2 : Hid (Kept (fun k => k < w1.heap.size) w1 w2) := (HK.out.trans hK').trans hK2
        obtain ⟨ml, hml2⟩ : ∃ ml, m.length = ml := ⟨_, rfl⟩
        have HML : Hid (m.length = ml) := hml2
        rw [hml2] at hr' hr2 hml ⊢
        clear hO hK hc hm htk hy hO' hK' hml2 hO2 hK2
        go_wp2_with (first | (at_builtin; refine wpList_appR (w' := w') rfl (.tmp 34) (.tmp 36) 32 32 rfl _ _ (.slice ao' (ml + 1) c') rfl rfl hr' ?_) | (at_builtin; refine wpList_appR (w' := w2) rfl (.tmp 38) (.tmp 43) 32 32 rfl _ _ (.slice ao2 (ml + 1 + 1) c2) rfl rfl hr2 ?_))
        go_roundg (ln - (j + 1))
        case rel => exact ⟨j + 1, ao2, c2, (m ++ [i]) ++ [y], rfl, by omega, by go_num, HM2.out, by rw [List.length_append, List.length_append, HML.out]; rfl, HO2.out, HK2.out⟩
        case measure => omega
      · have e1 : ((y : Int) == bef) = false := by simpa using hxy
        obtain ⟨ao2, c2, w2, hr2, hO2, hK2⟩ := appI hO (fun k hk => Nat.lt_of_lt_of_le hk hK.size) (by omega) (y : Int)
        have HM2 : Hid (m ++ [y] = insF (l.take (j + 1)) i bef) := by
          have : m ++ [y] = insF (l.take (j + 1)) i bef := by rw [HT.out, insF_snoc, if_neg hxy, HM.out]
          exact (show Hid _ from this)
        have HO2 : Hid (OwnZ (fun k => k < w1.heap.size) w2 3 1 ao2 (m ++ [y]).length c2 (ivs (m ++ [y]))) := by
          have : OwnZ (fun k => k < w1.heap.size) w2 3 1 ao2 (m ++ [y]).length c2 (ivs (m ++ [y])) := by
            rw [ivs, List.map_append, List.length_append]; exact hO2
          exact (show Hid _ from this)
        have HK2 : Hid (Kept (fun k => k < w1.heap.size) w1 w2) := HK.out.trans hK2
        obtain ⟨ml, hml2⟩ : ∃ ml, m.length = ml := ⟨_, rfl⟩
        have HML : Hid (m.length = ml) := hml2
        rw [hml2] at hr2 hml ⊢
        clear hO hK hc hm htk hy hml2 hO2 hK2
        go_wp2_with (at_builtin; refine wpList_appR (w' := w2) rfl (.tmp 38) (.tmp 43) 32 32 rfl _ _ (.slice ao2 (ml + 1) c2) rfl rfl hr2 ?_)
        go_roundg (ln - (j + 1))
        case rel => exact ⟨j + 1, ao2, c2, m ++ [y], rfl, by omega, by go_num, HM2.out, by rw [List.length_append, HML.out]; rfl, HO2.out, HK2.out⟩
        case measure => omega
    · have hjn : ln = j := by omega
      subst hjn
      have hm2 : m = insF l i bef := by rw [hm, List.take_of_length_le (by rw [HL.out]; exact Nat.le_refl _)]
      -- what is stored, whatever the row is
      have fin : ∀ (V : World) (ao2 : Option Addr) (c2 : Nat) (m2 : List Nat), m2 = insW l i bef → OwnZ (fun k => k < w1.heap.size) V 3 1 ao2 m2.length c2 (ivs m2) → Kept (fun k => k < w1.heap.size) w1 V →
          V.cell? ⟨p, 1, none⟩ = some (.slice (some ⟨g, 0, none⟩) M.n A.nc) ∧ (∃ u, V.cell? ⟨g, up * 14 + 5, none⟩ = some u) ∧ V.frozen? ⟨g, up * 14 + 5, none⟩ = false ∧
          ∃ V2, V2 = V.setCell ⟨g, up * 14 + 5, none⟩ (.slice ao2 m2.length c2) ∧ V2.cell? ⟨p, 1, none⟩ = some (.slice (some ⟨g, 0, none⟩) M.n A.nc) ∧ (∃ u, V2.cell? ⟨g, i * 14 + 4, none⟩ = some u) ∧ V2.frozen? ⟨g, i * 14 + 4, none⟩ = false ∧
            RX K (V2.setCell ⟨g, i * 14 + 4, none⟩ (.int .i64 (up : Int))) p (rPutM M up i) (rPutR M R up i bef) G ∧ Kept K w (V2.setCell ⟨g, i * 14 + 4, none⟩ (.int .i64 (up : Int))) := by
        intro V ao2 c2 m2 hm2 hOV hKV
        have hYV := HY.out.kept hKV
        have hOl : IntsAt (fun x => w1.heap.size ≤ x ∧ x < V.heap.size) V ao2 m2 := hOV.intsAt fun x hx => ⟨Nat.le_of_not_lt (OwnZ.out hOV hx).1, (OwnZ.out hOV hx).2⟩
        have hg' := HG.out
        obtain ⟨hY4, hK4⟩ := HY.out.setKids hKV hg' hu1 m2 ao2 c2 hOl hOV.2.1
        have hg4 : (A.setK up ao2 c2).na = some ⟨g, 0, none⟩ := hg'
        have hi4 : i < (rOutM M i).n := hi
        obtain ⟨hY5, hK5⟩ := hY4.setUp hg4 hi4 (up : Int)
        have q1 := hYV.c1
        rw [hg'] at q1
        have q4 := hY4.c1
        rw [hg4] at q4
        have r1 : V.cell? ⟨g, up * 14 + 5, none⟩ = some (.slice (A.ka up) (rOutR M R i up).length (A.kc up)) := hYV.cell hg' hu1 5 _ rfl
        have r2 : V.frozen? ⟨g, up * 14 + 5, none⟩ = false := hYV.fg hg' _
        have r3 : (V.setCell ⟨g, up * 14 + 5, none⟩ (.slice ao2 m2.length c2)).cell? ⟨g, i * 14 + 4, none⟩ = some (.int .i64 ((rOutM M i).pl i).up) := hY4.cell hg4 hi4 4 _ rfl
        have r4 : (V.setCell ⟨g, up * 14 + 5, none⟩ (.slice ao2 m2.length c2)).frozen? ⟨g, i * 14 + 4, none⟩ = false := hY4.fg hg4 _
        have r5 : RX K ((V.setCell ⟨g, up * 14 + 5, none⟩ (.slice ao2 m2.length c2)).setCell ⟨g, i * 14 + 4, none⟩ (.int .i64 (up : Int))) p (rPutM M up i) (rPutR M R up i bef) G := by
          refine ⟨A.setK up ao2 c2, ?_⟩
          unfold rPutR
          rw [HLE.out, ← hm2]
          exact hY5
        have r6 : Kept K w V := HK1.out.trans (hKV.mono HY.out.lt)
        exact ⟨q1, ⟨_, r1⟩, r2, _, rfl, q4, ⟨_, r3⟩, r4, r5, (r6.trans hK4).trans hK5⟩
      by_cases hneg : bef < 0
      · have e1 : decide (bef < 0) = true := decide_eq_true hneg
        obtain ⟨ao2, c2, w2, hr2, hO2, hK2⟩ := appI hO (fun k hk => Nat.lt_of_lt_of_le hk hK.size) (by omega) (i : Int)
        have hO2' : OwnZ (fun k => k < w1.heap.size) w2 3 1 ao2 (m ++ [i]).length c2 (ivs (m ++ [i])) := by
          rw [ivs, List.map_append, List.length_append]; exact hO2
        obtain ⟨q1, ⟨u2, q2⟩, q3, V2, hV2, q4, ⟨u5, q5⟩, q6, q7, q8⟩ := fin w2 ao2 c2 (m ++ [i]) (by rw [hm2]; unfold insW; rw [if_pos hneg]) hO2' (hK.trans hK2)
        have elen : (m ++ [i]).length = m.length + 1 := by rw [List.length_append]; rfl
        rw [elen] at hV2
        obtain ⟨ml, hml2⟩ : ∃ ml, m.length = ml := ⟨_, rfl⟩
        rw [hml2] at hr2 hV2 ⊢
        have HV2 : Hid (V2 = w2.setCell ⟨g, up * 14 + 5, none⟩ (.slice ao2 (ml + 1) c2)) := hV2
        have HX : Hid (RX K (V2.setCell ⟨g, i * 14 + 4, none⟩ (.int .i64 (up : Int))) p (rPutM M up i) (rPutR M R up i bef) G ∧ Kept K w (V2.setCell ⟨g, i * 14 + 4, none⟩ (.int .i64 (up : Int)))) := ⟨q7, q8⟩
        clear hO hK hm hm2 fin hO2 hK2 hO2' hV2 elen hml2 q7 q8
        go_upto_region 12 with (at_builtin; refine wpList_appR (w' := w2) rfl (.tmp 47) (.tmp 49) 32 32 rfl _ _ (.slice ao2 (ml + 1) c2) rfl rfl hr2 ?_)
        rw [← HV2.out]
        go_wp2
        go_end0
        exact ⟨rfl, HX.out.1, HX.out.2⟩
      · have e1 : decide (bef < 0) = false := decide_eq_false hneg
        obtain ⟨q1, ⟨u2, q2⟩, q3, V2, hV2, q4, ⟨u5, q5⟩, q6, q7, q8⟩ := fin wr ao c m (by rw [hm2]; unfold insW; rw [if_neg hneg]) hO hK
        obtain ⟨ml, hml2⟩ : ∃ ml, m.length = ml := ⟨_, rfl⟩
        rw [hml2] at hV2 ⊢
        have HV2 : Hid (V2 = wr.setCell ⟨g, up * 14 + 5, none⟩ (.slice ao ml c)) := hV2
        have HX : Hid (RX K (V2.setCell ⟨g, i * 14 + 4, none⟩ (.int .i64 (up : Int))) p (rPutM M up i) (rPutR M R up i bef) G ∧ Kept K w (V2.setCell ⟨g, i * 14 + 4, none⟩ (.int .i64 (up : Int)))) := ⟨q7, q8⟩
        clear hO hK hm hm2 fin hV2 hml2 q7 q8
        go_upto_region 12 with fail
        rw [← HV2.out]
        go_wp2
        go_end0
        exact ⟨rfl, HX.out.1, HX.out.2⟩
end Go.Proofs.YtbhfnbplbkncmaaGreat
