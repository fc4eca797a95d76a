/-
  What the document's SameAttrs, Same and SameFaults answer of what is alike.
-/
import Derived.Test.YtncfgahnjakeiaaDoorKnown
namespace Go.Proofs.YtncfgahnjakeiaaDoor
open Go.RowKit

/-- Tokens lie at a slice, from some cell on. -/
def ToksAt (w : World) (ta : Option Addr) (l : List Tk) : Prop :=
  ∀ j (h : j < l.length), ∃ g o aa ac, ta = some ⟨g, o, none⟩ ∧ g < w.heap.size ∧ AtsIn (fun k => k < w.heap.size) w aa l[j].attrs ∧ w.cell? ⟨g, o + j * 6, none⟩ = some (.int .u8 (l[j].kind : Int)) ∧ w.cell? ⟨g, o + j * 6 + 1, none⟩ = some (sv l[j].name) ∧ w.cell? ⟨g, o + j * 6 + 2, none⟩ = some (.slice aa l[j].attrs.length ac) ∧
    w.cell? ⟨g, o + j * 6 + 3, none⟩ = some (.bool l[j].self) ∧ w.cell? ⟨g, o + j * 6 + 4, none⟩ = some (sv l[j].data) ∧ w.cell? ⟨g, o + j * 6 + 5, none⟩ = some (.int .i64 (l[j].pl : Int))
theorem ToksIn.at_ {w : World} {ta : Option Addr} {l : List Tk} (h : ToksIn (fun k => k < w.heap.size) w ta l) : ToksAt w ta l := fun j hj => by
  obtain ⟨g, aa, ac, h1, h2, h3, c⟩ := h j hj
  refine ⟨g, 0, aa, ac, h1, h2, h3, ?_⟩
  rw [Nat.zero_add]
  exact c
theorem ToksAt.kept {w w' : World} {ta : Option Addr} {l : List Tk} (h : ToksAt w ta l) (hk : Kept (fun k => k < w.heap.size) w w') : ToksAt w' ta l := fun j hj => by
  obtain ⟨g, o, aa, ac, h1, h2, h3, c0, c1, c2, c3, c4, c5⟩ := h j hj
  have e : ∀ i, w'.cell? ⟨g, i, none⟩ = w.cell? ⟨g, i, none⟩ := fun i => hk.cell (p := ⟨g, i, none⟩) h2
  exact ⟨g, o, aa, ac, h1, Nat.lt_of_lt_of_le h2 hk.size, h3.kept hk (fun k hk' => Nat.lt_of_lt_of_le hk' hk.size), by rw [e]; exact c0, by rw [e]; exact c1, by rw [e]; exact c2, by rw [e]; exact c3, by rw [e]; exact c4, by rw [e]; exact c5⟩

set_option maxRecDepth 20000 in
set_option maxHeartbeats 1000000 in
theorem sameA_any (l : List Atr) (aa ab : Option Addr) (ca cb : Nat) (hn : l.length ≤ 100000) (w : World) (ha : AtsIn (fun k => k < w.heap.size) w aa l) (hb : AtsIn (fun k => k < w.heap.size) w ab l) :
    Calls Tryd.prog 18 #[.slice aa l.length ca, .slice ab l.length cb] w fun e w' => e = .returned (.bool true) ∧ ∃ m, w' = w.drewN m := by
  have HA : Hid (AtsIn (fun k => k < w.heap.size) w aa l) := ha
  have HB : Hid (AtsIn (fun k => k < w.heap.size) w ab l) := hb
  obtain ⟨n, hne⟩ : ∃ n, l.length = n := ⟨_, rfl⟩
  have HN : Hid (l.length = n) := hne
  rw [hne] at hn ⊢
  clear ha hb hne
  go_enter Tryd.func18, Tryd.ntmps18
  go_wp2_with fail
  go_loopg [5] n (fun gm i wr => ∃ k m : Nat, gm = n - k ∧ k ≤ n ∧ i = .int .i64 k ∧ wr = w.drewN m)
  case atStart => exact ⟨0, 0, rfl, Nat.zero_le _, rfl, rfl⟩
  case round =>
    obtain ⟨k, m, hgk, hk, rfl, rfl⟩ := hrel
    by_cases hlt : k < n
    · obtain ⟨g, rfl, _, c0, c1⟩ := HA.out k (by rw [HN.out]; exact hlt)
      obtain ⟨g', rfl, _, d0, d1⟩ := HB.out k (by rw [HN.out]; exact hlt)
      clear HA HB
      obtain ⟨U, hU⟩ : ∃ S : ByteArray, (⟨(l[k]'(by rw [HN.out]; exact hlt)).name.toArray⟩ : ByteArray) = S := ⟨_, rfl⟩
      obtain ⟨V, hV⟩ : ∃ S : ByteArray, (⟨(l[k]'(by rw [HN.out]; exact hlt)).value.toArray⟩ : ByteArray) = S := ⟨_, rfl⟩
      replace c0 : w.cell? ⟨g, k * 2, none⟩ = some (.string U) := by rw [← hU]; exact c0
      replace c1 : w.cell? ⟨g, k * 2 + 1, none⟩ = some (.string V) := by rw [← hV]; exact c1
      replace d0 : w.cell? ⟨g', k * 2, none⟩ = some (.string U) := by rw [← hU]; exact d0
      replace d1 : w.cell? ⟨g', k * 2 + 1, none⟩ = some (.string V) := by rw [← hV]; exact d1
      clear hU hV HN
      go_wp2_with fail
      go_quiet (fail)
      go_wp2
      go_roundg (n - (k + 1))
      case rel => exact ⟨k + 1, _, rfl, by omega, by go_num, rfl⟩
      case measure => omega
    · have hkk : k = n := by omega
      subst hkk
      go_wp2
      go_ret
      exact ⟨rfl, m, rfl⟩

set_option maxRecDepth 20000 in
set_option maxHeartbeats 1000000 in
theorem sameF_any (l : List Fl) (aa ab : Option Addr) (ca cb : Nat) (hn : l.length ≤ 1000000) (w : World) (ha : FltsIn (fun k => k < w.heap.size) w aa l) (hb : FltsIn (fun k => k < w.heap.size) w ab l) :
    Calls Tryd.prog 14 #[.slice aa l.length ca, .slice ab l.length cb] w fun e w' => e = .returned (.bool true) ∧ ∃ m, w' = w.drewN m := by
  have HA : Hid (FltsIn (fun k => k < w.heap.size) w aa l) := ha
  have HB : Hid (FltsIn (fun k => k < w.heap.size) w ab l) := hb
  obtain ⟨n, hne⟩ : ∃ n, l.length = n := ⟨_, rfl⟩
  have HN : Hid (l.length = n) := hne
  rw [hne] at hn ⊢
  clear ha hb hne
  go_enter Tryd.func14, Tryd.ntmps14
  go_wp2_with fail
  go_loopg [5] n (fun gm i wr => ∃ k m : Nat, gm = n - k ∧ k ≤ n ∧ i = .int .i64 k ∧ wr = w.drewN m)
  case atStart => exact ⟨0, 0, rfl, Nat.zero_le _, rfl, rfl⟩
  case round =>
    obtain ⟨k, m, hgk, hk, rfl, rfl⟩ := hrel
    by_cases hlt : k < n
    · obtain ⟨g, rfl, _, c0, c1⟩ := HA.out k (by rw [HN.out]; exact hlt)
      obtain ⟨g', rfl, _, d0, d1⟩ := HB.out k (by rw [HN.out]; exact hlt)
      clear HA HB
      obtain ⟨u, hu⟩ : ∃ u, (l[k]'(by rw [HN.out]; exact hlt)).kind = u := ⟨_, rfl⟩
      obtain ⟨v, hv⟩ : ∃ u, (l[k]'(by rw [HN.out]; exact hlt)).pl = u := ⟨_, rfl⟩
      rw [hu] at c0 d0
      rw [hv] at c1 d1
      replace c0 : w.cell? ⟨g, k * 2, none⟩ = some (.int .u8 (u : Int)) := c0
      replace c1 : w.cell? ⟨g, k * 2 + 1, none⟩ = some (.int .i64 (v : Int)) := c1
      replace d0 : w.cell? ⟨g', k * 2, none⟩ = some (.int .u8 (u : Int)) := d0
      replace d1 : w.cell? ⟨g', k * 2 + 1, none⟩ = some (.int .i64 (v : Int)) := d1
      clear hu hv HN
      go_wp2_with fail
      go_quiet (fail)
      go_wp2
      go_roundg (n - (k + 1))
      case rel => exact ⟨k + 1, _, rfl, by omega, by go_num, rfl⟩
      case measure => omega
    · have hkk : k = n := by omega
      subst hkk
      go_wp2
      go_ret
      exact ⟨rfl, m, rfl⟩

set_option maxRecDepth 20000 in
set_option maxHeartbeats 1000000 in
theorem same_any (l : List Tk) (ta tb : Option Addr) (ca cb : Nat) (hn : l.length ≤ 1000000) (hat : ∀ t ∈ l, t.attrs.length ≤ 100000) (K : Nat → Prop) (w : World) (hK : ∀ k, K k → k < w.heap.size) (ha : ToksAt w ta l) (hb : ToksAt w tb l) :
    Calls Tryd.prog 11 #[.slice ta l.length ca, .slice tb l.length cb] w fun e w' => e = .returned (.bool true) ∧ Kept K w w' := by
  have HA : Hid (∀ X, Kept (fun k => k < w.heap.size) w X → ToksAt X ta l) := fun X hX => ha.kept hX
  have HB : Hid (∀ X, Kept (fun k => k < w.heap.size) w X → ToksAt X tb l) := fun X hX => hb.kept hX
  have HKK : Hid (∀ X, Kept (fun k => k < w.heap.size) w X → Kept K w X) := fun X hX => hX.mono hK
  obtain ⟨B, hB⟩ : ∃ B : Nat → Prop, (fun k => k < w.heap.size) = B := ⟨_, rfl⟩
  have hBl : ∀ k, B k → k < w.heap.size := fun k hk => by rw [← hB] at hk; exact hk
  rw [hB] at HA HB HKK
  obtain ⟨n, hne⟩ : ∃ n, l.length = n := ⟨_, rfl⟩
  have HN : Hid (l.length = n) := hne
  have HAT : Hid (∀ t ∈ l, t.attrs.length ≤ 100000) := hat
  rw [hne] at hn ⊢
  clear ha hb hne hat hB
  go_enter Tryd.func11, Tryd.ntmps11
  go_wp2_with fail
  go_loopg [5] n (fun gm i wr => ∃ k : Nat, gm = n - k ∧ k ≤ n ∧ i = .int .i64 k ∧ Kept B w wr)
  case atStart => exact ⟨0, rfl, Nat.zero_le _, rfl, Kept.refl _ _⟩
  case round =>
    obtain ⟨k, hgk, hk, rfl, kp⟩ := hrel
    by_cases hlt : k < n
    · have hlt' : k < l.length := by rw [HN.out]; exact hlt
      obtain ⟨g, o, aa, ac, rfl, gl, ha, c0, c1, c2, c3, c4, c5⟩ := HA.out wr kp k hlt'
      obtain ⟨g', o', ab, ac', rfl, gl', hb, d0, d1, d2, d3, d4, d5⟩ := HB.out wr kp k hlt'
      have hal := HAT.out l[k] (List.getElem_mem hlt')
      obtain ⟨tk, htk⟩ : ∃ t, l[k] = t := ⟨_, rfl⟩
      rw [htk] at ha hb hal c0 c1 c2 c3 c4 c5 d0 d1 d2 d3 d4 d5
      clear HA HB HAT HN htk hlt'
      obtain ⟨kind, name, attrs, self, data, pl⟩ := tk
      dsimp only at ha hb hal c0 c1 c2 c3 c4 c5 d0 d1 d2 d3 d4 d5
      obtain ⟨U, hU⟩ : ∃ S : ByteArray, (⟨name.toArray⟩ : ByteArray) = S := ⟨_, rfl⟩
      obtain ⟨V, hV⟩ : ∃ S : ByteArray, (⟨data.toArray⟩ : ByteArray) = S := ⟨_, rfl⟩
      replace c1 : wr.cell? ⟨g, o + k * 6 + 1, none⟩ = some (.string U) := by rw [← hU]; exact c1
      replace d1 : wr.cell? ⟨g', o' + k * 6 + 1, none⟩ = some (.string U) := by rw [← hU]; exact d1
      replace c4 : wr.cell? ⟨g, o + k * 6 + 4, none⟩ = some (.string V) := by rw [← hV]; exact c4
      replace d4 : wr.cell? ⟨g', o' + k * 6 + 4, none⟩ = some (.string V) := by rw [← hV]; exact d4
      clear hU hV
      have e0 : ∀ oo i, (wr.alloc oo).cell? ⟨g', i, none⟩ = wr.cell? ⟨g', i, none⟩ := fun oo i => World.cell?_of_block (w := wr) (Below.heap_alloc _ _ _ gl')
      have x0 := fun oo => (e0 oo (o' + k * 6)).trans d0
      have x1 := fun oo => (e0 oo (o' + k * 6 + 1)).trans d1
      have x2 := fun oo => (e0 oo (o' + k * 6 + 2)).trans d2
      have x3 := fun oo => (e0 oo (o' + k * 6 + 3)).trans d3
      have x4 := fun oo => (e0 oo (o' + k * 6 + 4)).trans d4
      have x5 := fun oo => (e0 oo (o' + k * 6 + 5)).trans d5
      have HS : Hid (∀ X, Kept (fun k => k < wr.heap.size) wr X → Calls Tryd.prog 18 #[.slice aa attrs.length ac, .slice ab attrs.length ac'] X fun e w' => e = .returned (.bool true) ∧ ∃ m, w' = X.drewN m) := fun X hX =>
        sameA_any attrs aa ab ac ac' hal X (ha.kept hX fun k hk => Nat.lt_of_lt_of_le hk hX.size) (hb.kept hX fun k hk => Nat.lt_of_lt_of_le hk hX.size)
      have hka : ∀ p q, Kept (fun k => k < wr.heap.size) wr ((wr.alloc p).alloc q) := fun p q => ((Kept.refl _ wr).alloc (fun _ h => h) p).alloc (fun k hk => by have : k < wr.heap.size := hk; simp; omega) q
      have hkb : ∀ p q, Kept B w ((wr.alloc p).alloc q) := fun p q => kp.trans ((hka p q).mono fun k hk => Nat.lt_of_lt_of_le (hBl k hk) kp.size)
      have hs := fun p q => HS.out _ (hka p q)
      clear HS ha hb hka e0 gl gl' d0 d1 d2 d3 d4 d5
      go_wp2_with fail
      refine (hs _ _).mono ?_
      rintro e w2 ⟨rfl, m, rfl⟩
      go_wp2
      go_roundg (n - (k + 1))
      case rel => exact ⟨k + 1, rfl, by omega, by go_num, (hkb _ _).drewN m⟩
      case measure => omega
    · have hkk : k = n := by omega
      subst hkk
      have hf := HKK.out wr kp
      go_wp2
      go_ret
      exact ⟨rfl, hf⟩
end Go.Proofs.YtncfgahnjakeiaaDoor
