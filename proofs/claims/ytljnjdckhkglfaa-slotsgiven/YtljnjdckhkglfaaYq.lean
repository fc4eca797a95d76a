/-
  What is given by hand, and shown in that order (pure); the steps of SlotsGiven.
-/
import Derived.Test.YtljnjdckhkglfaaYj
namespace Go.Proofs.Ytljnjdckhkglfaa
open Go.RowKit
set_option linter.unusedVariables false
abbrev fgM : Fg := ⟨false, true, false, false, false⟩
/-- Each once, in the order in which they come. -/
def ddpA (acc : List Nat) (l : List Nat) : List Nat := l.foldl (fun a x => if x ∈ a then a else a ++ [x]) acc
/-- .. but one. -/
def wntA (go : Nat) (acc : List Nat) (l : List Nat) : List Nat := l.foldl (fun a x => if x = go ∨ x ∈ a then a else a ++ [x]) acc
theorem ddpA_mem : ∀ (l acc : List Nat) (k : Nat), k ∈ ddpA acc l → k ∈ acc ∨ k ∈ l
  | [], acc, k, h => .inl h
  | x :: r, acc, k, h => by
    have := ddpA_mem r (if x ∈ acc then acc else acc ++ [x]) k h
    rcases this with h | h
    · split at h
      · exact .inl h
      · rcases List.mem_append.1 h with h | h
        · exact .inl h
        · exact .inr (by rw [List.mem_singleton.1 h]; exact List.mem_cons_self ..)
    · exact .inr (List.mem_cons_of_mem _ h)
theorem ddp_wnt (go : Nat) : ∀ (l acc : List Nat), (ddpA acc l).filter (fun k => decide (k ≠ go)) = wntA go (acc.filter fun k => decide (k ≠ go)) l
  | [], acc => rfl
  | x :: r, acc => by
    show (ddpA (if x ∈ acc then acc else acc ++ [x]) r).filter _ = wntA go (if x = go ∨ x ∈ acc.filter (fun k => decide (k ≠ go)) then _ else _) r
    by_cases h : x ∈ acc
    · rw [if_pos h, ddp_wnt go r acc, if_pos]
      by_cases e : x = go
      · exact .inl e
      · exact .inr (List.mem_filter.2 ⟨h, decide_eq_true e⟩)
    · rw [if_neg h, ddp_wnt go r (acc ++ [x]), List.filter_append]
      by_cases e : x = go
      · rw [if_pos (.inl e)]
        congr 1
        rw [List.filter_cons, if_neg (by rw [decide_eq_false (fun h => h e)]; decide)]
        simp
      · rw [if_neg (fun hh => by
          rcases hh with hh | hh
          · exact e hh
          · exact h (List.mem_filter.1 hh).1)]
        congr 1
        rw [List.filter_cons, if_pos (decide_eq_true e)]
        rfl
theorem wntA_snoc (go : Nat) (acc l : List Nat) (x : Nat) : wntA go acc (l ++ [x]) = if x = go ∨ x ∈ wntA go acc l then wntA go acc l else wntA go acc l ++ [x] := by
  unfold wntA
  rw [List.foldl_append]
  rfl
theorem wntA_len (go : Nat) : ∀ (l acc : List Nat), (wntA go acc l).length ≤ acc.length + l.length
  | [], acc => Nat.le_refl _
  | x :: r, acc => by
    have := wntA_len go r (if x = go ∨ x ∈ acc then acc else acc ++ [x])
    refine Nat.le_trans this ?_
    rw [List.length_cons]
    split
    · omega
    · rw [List.length_append, List.length_singleton]; omega
theorem gsR_ddp (slot n : Nat) : ∀ (l : List Nat) (L : Nat → Lk) (acc : List Nat), (∀ x ∈ l, x < n) → (∀ k, k < n → ((L k).up = (slot : Int) ↔ k ∈ acc)) → (∀ k, k < n → (L k).up = (slot : Int) ∨ (L k).up = -1) →
    gsR slot L (updR (fun _ => []) slot acc) l = updR (fun _ => []) slot (ddpA acc l)
  | [], L, acc, _, _, _ => rfl
  | x :: r, L, acc, h0, h1, h2 => by
    show gsR slot (if (L x).up = (slot : Int) then L else putL L slot x (-1)) (if (L x).up = (slot : Int) then updR (fun _ => []) slot acc else updR (outR L (updR (fun _ => []) slot acc) x) slot (outR L (updR (fun _ => []) slot acc) x slot ++ [x])) r = updR _ slot (ddpA (if x ∈ acc then acc else acc ++ [x]) r)
    have hxn := h0 x (List.mem_cons_self ..)
    have h0' : ∀ y ∈ r, y < n := fun y hy => h0 y (List.mem_cons_of_mem _ hy)
    by_cases c : (L x).up = (slot : Int)
    · rw [if_pos c, if_pos c, if_pos ((h1 x hxn).1 c)]
      exact gsR_ddp slot n r L acc h0' h1 h2
    · have hx : x ∉ acc := fun h => c ((h1 x hxn).2 h)
      have hu : (L x).up = -1 := by rcases h2 x hxn with h | h; exact absurd h c; exact h
      have eo : outR L (updR (fun _ => []) slot acc) x = updR (fun _ => []) slot acc := by unfold outR; rw [if_pos hu]
      rw [if_neg c, if_neg c, if_neg hx, eo, updR_same, updR_updR]
      refine gsR_ddp slot n r (putL L slot x (-1)) (acc ++ [x]) h0' (fun k hk => ?_) (fun k hk => ?_)
      · by_cases e : k = x
        · subst e
          rw [put_up_same]
          exact ⟨fun _ => List.mem_append.2 (.inr (List.mem_singleton.2 rfl)), fun _ => rfl⟩
        · rw [put_up e, h1 k hk]
          exact ⟨fun h => List.mem_append.2 (.inl h), fun h => by
            rcases List.mem_append.1 h with h | h
            · exact h
            · exact absurd (List.mem_singleton.1 h) e⟩
      · by_cases e : k = x
        · subst e; rw [put_up_same]; exact .inl rfl
        · rw [put_up e]; exact h2 k hk
theorem rw4_mem {kd : List Nat} {k u : Nat} (h : k ∈ rw4 [] kd u) : k = 3 ∧ u = 2 ∨ k ∈ kd ∧ u = 1 := by
  unfold rw4 at h
  by_cases c3 : u = 3
  · rw [if_pos c3] at h; cases h
  · rw [if_neg c3] at h
    by_cases c1 : u = 1
    · rw [if_pos c1] at h; exact .inr ⟨h, c1⟩
    · rw [if_neg c1] at h
      by_cases c2 : u = 2
      · rw [if_pos c2] at h; exact .inl ⟨List.mem_singleton.1 h, c2⟩
      · rw [if_neg c2] at h; cases h
theorem rw4_far {own kd : List Nat} {k : Nat} (h : 4 ≤ k) : rw4 own kd k = [] := by
  unfold rw4; rw [if_neg (by omega), if_neg (by omega), if_neg (by omega)]
theorem rw4_upd (kd kd' : List Nat) : updR (rw4 [] kd) 1 kd' = rw4 [] kd' := by
  funext k
  unfold updR
  by_cases c : k = 1
  · rw [if_pos c]; subst c; rfl
  · rw [if_neg c]; unfold rw4; simp only [if_neg c]
section
variable {K : Nat → Prop} {w w' : World} {p N go : Nat} {kd : List Nat}
theorem stG_make (h : Dst K w p (xsR fgM [] N 0) (rw4 [] kd)) (hN : N < 60) : Calls Try.prog 16 #[.pointer (some ⟨p, 0, none⟩), plainV 2 ⟨#[]⟩ ⟨#[120]⟩] w fun e w' => e = .returned (.tuple #[.int .i64 ((4 + N : Nat) : Int), .int .u16 0]) ∧ Dst K w' p (xsR fgM [] (N + 1) 0) (rw4 [] kd) ∧ Kept K w w' := by
  have hl := xsR_len fgM [] N 0
  refine (h.make 2 2 ⟨#[]⟩ ⟨#[120]⟩ [] [120] rfl empB_list xB_list sound_txt (by decide) (by rw [hl]; exact rw4_far (by omega)) (by omega)).mono ?_
  rintro e w' ⟨rfl, h', hk⟩
  refine ⟨by rw [hl, Nat.add_zero], ?_, hk⟩
  have : xsR fgM [] N 0 ++ [(Mk.nd ⟨2, [], [120], []⟩).new] = xsR fgM [] (N + 1) 0 := by
    unfold xsR; rw [List.replicate_succ']; simp only [List.replicate_zero, List.append_nil, List.append_assoc]; rfl
  rw [this] at h'; exact h'
theorem stG_in (h : Dst K w p (xsR fgM [] (N + 1) 0) (rw4 [] (List.range' 4 N))) (hN : N < 60) : Calls Try.prog 17 #[.pointer (some ⟨p, 0, none⟩), .int .i64 1, .int .i64 ((4 + N : Nat) : Int), .int .i64 (-1)] w fun e w' => e = .returned (.int .u16 0) ∧ Dst K w' p (xsR fgM [] (N + 1) 0) (rw4 [] (List.range' 4 (N + 1))) ∧ Kept K w w' := by
  have hl := xsR_len fgM [] (N + 1) 0
  obtain ⟨d, ed⟩ := xsR_own (f := fgM) (l := []) (N := N + 1) (J := 0) (k := 4 + N) (by omega) (by omega)
  refine (h.ins 1 (4 + N) (by omega) (by omega) (by omega) (by rw [xsR_1]; rfl) (by omega) (by rw [ed]; show (2 : Nat) ≠ 5; decide) (by rw [ed]; show (2 : Nat) ≠ 4; decide) (fun u _ hm => ?_) (rw4_far (by omega)) (fun k hk => by have := xsR_host hk; omega)).mono ?_
  · rcases rw4_mem hm with ⟨a, _⟩ | ⟨a, _⟩
    · omega
    · rw [List.mem_range'_1] at a; omega
  rintro e w' ⟨rfl, h', hk⟩
  refine ⟨rfl, ?_, hk⟩
  rw [rw4_upd] at h'
  rw [List.range'_1_concat]
  exact h'
theorem stG_out (h : Dst K w p (xsR fgM [] N 0) (rw4 [] (List.range' 4 N))) (hg : 4 ≤ go) (hg2 : go < 4 + N) : Calls Try.prog 18 #[.pointer (some ⟨p, 0, none⟩), .int .i64 (go : Int)] w fun e w' => e = .returned (.int .u16 0) ∧ Dst K w' p (xsR fgM [] N 0) (rw4 [] ((List.range' 4 N).erase go)) ∧ Kept K w w' := by
  have hl := xsR_len fgM [] N 0
  refine (h.remove go 1 (by omega) (by omega) (by show go ∈ List.range' 4 N; rw [List.mem_range'_1]; omega)).mono ?_
  rintro e w' ⟨rfl, h', hk⟩
  rw [rw4_upd] at h'
  exact ⟨rfl, h', hk⟩
theorem stG_give (h : Dst K w p (xsR fgM [] N 0) (rw4 [] ((List.range' 4 N).erase go))) (hg : 4 ≤ go) (hg2 : go < 4 + N) (l : List Nat) (hl : ∀ x ∈ l, 4 ≤ x ∧ x < 4 + N) (hf : l.length ≤ 60) (al : Option Addr) (n cap : Nat) (hn : l.length = n) (hr : RowI w al l) (hra : ∀ g o, al = some ⟨g, o, none⟩ → l ≠ [] → K g) :
    Calls Try.prog 24 #[.pointer (some ⟨p, 0, none⟩), .int .i64 3, .slice al n cap] w fun e w' => e = .returned (.int .u16 0) ∧ (∃ M R G rk, Rd K w' p M R G rk ∧ asgI M R G 3 = wntA go [] l ∧ findI M R (go : Int) = -1) ∧ Kept K w w' := by
  obtain ⟨M, R, G, hK, hd⟩ := h
  obtain ⟨rk, hI⟩ := hK.inv
  have hlen := xsR_len fgM [] N 0
  have hMn : M.n = 4 + N := by rw [hd.n, hlen]; rfl
  have hle : M.n ≤ 100000 := Nat.le_trans hK.le hK.lim
  have e3 : M.nd 3 = slA [] := by rw [hd.nd 3 (by omega), xsR_3]
  have ek : ∀ k, 4 ≤ k → k < 4 + N → ∃ d, M.nd k = txD d := fun k h1 h2 => by
    obtain ⟨d, e⟩ := xsR_own (f := fgM) (l := []) (N := N) (J := 0) (k := k) (by omega) h1
    exact ⟨d, by rw [hd.nd k (by omega), e]⟩
  have hG : GiveOk2 M 3 l := by
    refine ⟨by omega, fun i hi => by have := hl i hi; omega, by omega, ?_⟩
    have h1 : inN M.n ((3 : Nat) : Int) := ⟨by omega, by omega⟩
    have h2 : ∀ x ∈ l.map (fun k : Nat => (k : Int)), inN M.n x := fun x hx => by
      obtain ⟨k, hk, rfl⟩ := List.mem_map.1 hx
      have := hl k hk
      exact ⟨by omega, by omega⟩
    have h3 : ∀ x ∈ l.map (fun k : Nat => (k : Int)), shows M x := fun x hx => by
      obtain ⟨k, hk, rfl⟩ := List.mem_map.1 hx
      have := hl k hk
      obtain ⟨d, e⟩ := ek k this.1 this.2
      unfold shows
      rw [Int.toNat_natCast, e]
      exact .inr rfl
    refine ⟨fun h => absurd h1 h, fun _ h => ?_, fun _ _ h => ?_, fun _ _ _ _ h => ?_, fun _ _ _ _ _ h => ?_, fun _ _ _ _ _ _ => rfl⟩
    · obtain ⟨x, hx, hh⟩ := h; exact absurd (h2 x hx) hh
    · rw [Int.toNat_natCast, e3] at h
      rcases h with h | h
      · exact absurd rfl h
      · exact absurd rfl h
    · obtain ⟨x, hx, hh⟩ := h; exact absurd (h3 x hx) hh
    · rw [List.length_map] at h; omega
  refine (give_ok2 K p 3 l n hn al cap M G w hK.d hI.gw hG (by omega) hr hra).mono ?_
  rintro e w' ⟨rfl, hX, hk⟩
  have h3 : 3 < M.n := by omega
  have hlM : ∀ i ∈ l, i < M.n := fun i hi => by have := (hl i hi).2; omega
  have hW0 := WF.outs h3 (G 3) hI.gw rfl
  have hW1 := WF.gs h3 l hW0 hlM
  have eG : outsL M.gf (G 3) = M.gf := by rw [hd.g]; rfl
  have eU : updR G 3 [] = updR (fun _ => []) 3 [] := by rw [hd.g]
  have hgu : ∀ k, k < M.n → (M.gf k).up = -1 := fun k hk => by
    rcases hI.gw.inn k hk with e | ⟨u, _, _, hm⟩
    · exact e
    · rw [hd.g] at hm; cases hm
  refine ⟨rfl, ?_, hk⟩
  rw [eG] at hX hW1
  rw [eU] at hW1
  have eR : gsR 3 M.gf (updR (fun _ => []) 3 []) l = updR (fun _ => []) 3 (ddpA [] l) :=
    gsR_ddp 3 M.n l M.gf [] (fun x hx => by have := hl x hx; omega) (fun k hk => by rw [hgu k hk]; exact ⟨fun h => by omega, fun h => by cases h⟩) (fun k hk => .inr (hgu k hk))
  rw [eR] at hW1
  have hgft : GftOk M (updR (fun _ => []) 3 (ddpA [] l)) := fun u hu k hk => by
    by_cases c : u = 3
    · subst c
      rw [updR_same] at hk
      rcases ddpA_mem l [] k hk with h | h
      · cases h
      · obtain ⟨d, e⟩ := ek k (hl k h).1 (hl k h).2
        rw [e, e3]
        exact ⟨.inr rfl, rfl, rfl⟩
    · rw [updR_ne _ _ c] at hk; cases hk
  have hI' := hI.setG hW1 hgft
  have hRd : Rd K w' p (M.setG (addsL M.gf 3 l)) R (updR (fun _ => []) 3 (ddpA [] l)) rk := ⟨hX, hI', hle⟩
  refine ⟨_, _, _, _, hRd, ?_, ?_⟩
  · have hu3 := hd.up hI (i := 3) (u := 2) (by omega) (List.mem_singleton.2 rfl)
    have hf2 := hd.free hI (i := 2) (by omega) (fun u _ hm => by
      rcases rw4_mem hm with ⟨a, _⟩ | ⟨a, _⟩
      · omega
      · have := List.mem_range'_1.1 (List.mem_of_mem_erase a); omega)
    have e2 : M.nd 2 = rtN fgM 1 := by rw [hd.nd 2 (by omega), xsR_2]
    have ho : ofZ (M.setG (addsL M.gf 3 l)) ((3 : Nat) : Int) = ((2 : Nat) : Int) := ofZ_eq (M := M.setG (addsL M.gf 3 l)) (by show 3 < M.n; omega) (.yes (.up (m := 2) hu3 (.here hf2)) (by show (M.nd 2).kind = 5; rw [e2]; rfl))
    have ei := asgI_in (M := M.setG (addsL M.gf 3 l)) (R := R) (G := updR (fun _ => []) 3 (ddpA [] l)) (i := 3) (by show 3 < M.n; omega)
    refine Eq.trans ei ?_
    unfold asgL
    rw [ho, if_neg (by
      rintro (h | h)
      · rw [show (M.setG (addsL M.gf 3 l)).nd 3 = slA [] from e3] at h; cases h
      · omega), Int.toNat_natCast]
    unfold shwL
    rw [show (M.setG (addsL M.gf 3 l)).nd 2 = rtN fgM 1 from e2, if_pos (show (rtN fgM 1).fl.b = true from rfl), updR_same]
    have := ddp_wnt go l []
    rw [show ([] : List Nat).filter (fun k => decide (k ≠ go)) = [] from rfl] at this
    rw [← this]
    refine List.filter_congr fun k hk => ?_
    rcases ddpA_mem l [] k hk with h | h
    · cases h
    · have hkl := hl k h
      show decide ((M.pl k).up = 1) = decide (k ≠ go)
      by_cases c : k = go
      · have := hd.free hI (i := k) (by omega) (fun u _ hm => by
          rcases rw4_mem hm with ⟨a, _⟩ | ⟨a, _⟩
          · omega
          · rw [c] at a
            exact absurd a (List.Nodup.not_mem_erase List.nodup_range'))
        rw [this, decide_eq_false (by decide), decide_eq_false (fun h => h c)]
      · have := hd.up hI (i := k) (u := 1) (by omega) (by
          show k ∈ (List.range' 4 N).erase go
          exact (List.mem_erase_of_ne c).2 (List.mem_range'_1.2 (by omega)))
        rw [this, decide_eq_true (by rfl), decide_eq_true c]
  · rw [findI_in (M := M.setG (addsL M.gf 3 l)) (by show go < M.n; omega)]
    have := hd.free hI (i := go) (by omega) (fun u _ hm => by
      rcases rw4_mem hm with ⟨a, _⟩ | ⟨a, _⟩
      · omega
      · exact absurd a (List.Nodup.not_mem_erase List.nodup_range'))
    unfold findZ
    rw [if_pos (.inr (.inl this))]
end
end Go.Proofs.Ytljnjdckhkglfaa
