/-
  TreeVoid: what the Go text answers, name by name.
-/
import Derived.Test.YtffllhohlfblnaaED
namespace Go.Proofs.Ytffllhohlfblnaa
open Go.RowKit Go.Sort

/-- Tokens in a block whose cells are known. -/
theorem toks_of_rep {K : Nat → Prop} {w : World} {l : List Tk} {cs : List Value} (h : TokRep K w l cs) (g : Nat) (hg : K g) (hc : ∀ i u, cs[i]? = some u → w.cell? ⟨g, i, none⟩ = some u) : ToksIn K w (some ⟨g, 0, none⟩) l := by
  intro j hj
  obtain ⟨aa, ac, h1, h2⟩ := h.get j hj
  exact ⟨g, aa, ac, rfl, hg, h1, hc _ _ (h2 0 _ rfl), hc _ _ (h2 1 _ rfl), hc _ _ (h2 2 _ rfl), hc _ _ (h2 3 _ rfl), hc _ _ (h2 4 _ rfl), hc _ _ (h2 5 _ rfl)⟩
theorem rep_plain (K : Nat → Prop) (w : World) : ∀ l : List Tk, (∀ t ∈ l, t.attrs = []) → TokRep K w l (l.flatMap fun t => tokCells t none 0)
  | [], _ => rfl
  | t :: r, h => ⟨none, 0, r.flatMap fun t => tokCells t none 0, rfl, by rw [h t (by simp)]; exact AtsIn.nil _ _ _, rep_plain K w r fun x hx => h x (by simp [hx])⟩
theorem toks_new (X : World) (N : Nat) (l : List Tk) (cur : Array Value) (hl : ∀ t ∈ l, t.attrs = []) (hN : X.heap.size = N) (hc : cur.toList = l.flatMap fun t => tokCells t none 0) : ToksIn (fun k => k < (X.alloc (.cells cur 43)).heap.size) (X.alloc (.cells cur 43)) (some ⟨N, 0, none⟩) l := by
  refine toks_of_rep (rep_plain _ _ l hl) N (by rw [← hN]; simp) fun i u hu => ?_
  rw [← hN, cell_block (heap_alloc_new X _), ← Array.getElem?_toList, hc]
  exact hu
/-- The first fault, and the depth of an item. -/
theorem flt0 {w : World} {fa : Option Addr} {f : Fl} {r : List Fl} (h : FltsIn (fun k => k < w.heap.size) w fa (f :: r)) : ∃ g, fa = some ⟨g, 0, none⟩ ∧ w.cell? ⟨g, 0, none⟩ = some (.int .u8 (f.kind : Int)) := by
  obtain ⟨g, h1, _, h3, _⟩ := h 0 (by simp)
  exact ⟨g, h1, by simpa using h3⟩

theorem vb0 (c : UInt8) (r : List UInt8) : buildL [⟨1, [97, 114, 101, 97], [], false, [], 0⟩, ⟨3, [], [], false, c :: r, 0⟩, ⟨2, [97, 114, 101, 97], [], false, [], 0⟩] = some ⟨[⟨0, 1, [97, 114, 101, 97], [], []⟩, ⟨0, 2, [], [], c :: r⟩], [⟨8, 0⟩], []⟩ := rfl

set_option maxRecDepth 20000 in
set_option maxHeartbeats 1000000 in
theorem void0 (a0 : Int) (a1 : ByteArray) (hm : a0.tmod 12 = 0) (hz : a1.size ≤ 100) (h0 : (a1.toList == []) = false) (w : World) :
    Calls Try.prog 6 #[.int .u8 a0, .string a1] w fun e w' => e = .returned (.bool true) ∧ Kept (fun k => k < w.heap.size) w w' := by
  have hz' : decide ((a1.size : Int) > 100) = false := decide_eq_false (by omega)
  have rk := known_any w
  obtain ⟨c, r, hcr⟩ : ∃ c r, a1.toList = c :: r := by
    cases h : a1.toList with
    | nil => rw [h] at h0; cases h0
    | cons c r => exact ⟨c, r, rfl⟩
  have ha1 : a1 = ⟨(c :: r).toArray⟩ := by rw [← hcr, ByteArray.toList_eq]
  have HA1 : Hid (a1 = ⟨(c :: r).toArray⟩) := ha1
  clear ha1 hcr
  go_enter Try.func6, Try.ntmps6
  go_wp2_with fail
  refine rk.mono ?_
  rintro e w1 ⟨rfl, k1⟩
  have HK1 : Hid (Kept (fun k => k < w.heap.size) w w1) := k1
  clear rk k1
  obtain ⟨X, hX⟩ : ∃ X, w1.alloc (.cells #[.string ⟨#[97, 114, 101, 97]⟩, .string ⟨#[98, 97, 115, 101]⟩, .string ⟨#[98, 114]⟩, .string ⟨#[99, 111, 108]⟩, .string ⟨#[101, 109, 98, 101, 100]⟩, .string ⟨#[105, 109, 103]⟩, .string ⟨#[105, 110, 112, 117, 116]⟩, .string ⟨#[108, 105, 110, 107]⟩, .string ⟨#[109, 101, 116, 97]⟩, .string ⟨#[115, 111, 117, 114, 99, 101]⟩, .string ⟨#[116, 114, 97, 99, 107]⟩, .string ⟨#[119, 98, 114]⟩] 9) = X := ⟨_, rfl⟩
  obtain ⟨N, hN⟩ : ∃ N, w1.heap.size + 1 = N := ⟨_, rfl⟩
  have kX : Kept (fun k => k < w1.heap.size) w1 X := by rw [← hX]; exact (Kept.refl _ w1).alloc (fun _ h => h) _
  have sX : X.heap.size = N := by rw [← hX, ← hN]; simp
  obtain ⟨V, hV⟩ : ∃ V, X.alloc (.cells #[.int .u8 1, .string ⟨#[97, 114, 101, 97]⟩, .slice none 0 0, .bool false, .string ⟨#[]⟩, .int .i64 0, .int .u8 3, .string ⟨#[]⟩, .slice none 0 0, .bool false, .string a1, .int .i64 0, .int .u8 2, .string ⟨#[97, 114, 101, 97]⟩, .slice none 0 0, .bool false, .string ⟨#[]⟩, .int .i64 0] 43) = V := ⟨_, rfl⟩
  have kV : Kept (fun k => k < X.heap.size) X V := by rw [← hV]; exact (Kept.refl _ X).alloc (fun _ h => h) _
  have hT : ToksIn (fun k => k < V.heap.size) V (some ⟨N, 0, none⟩) [⟨1, [97, 114, 101, 97], [], false, [], 0⟩, ⟨3, [], [], false, c :: r, 0⟩, ⟨2, [97, 114, 101, 97], [], false, [], 0⟩] := by
    rw [← hV]
    exact toks_new X N _ _ (by simp) sX (by rw [HA1.out]; rfl)
  have r2 := build_any [⟨1, [97, 114, 101, 97], [], false, [], 0⟩, ⟨3, [], [], false, c :: r, 0⟩, ⟨2, [97, 114, 101, 97], [], false, [], 0⟩] (some ⟨N, 0, none⟩) 3 3 rfl (by decide) (by show 6 ≤ 600000; decide) (by intro t ht; simp at ht; rcases ht with rfl | rfl | rfl <;> intro x hx <;> cases hx) V hT
  rw [vb0] at r2
  have r2' : Calls Try.prog 11 #[.slice (some ⟨N, 0, none⟩) 3 3] V fun e w' => (∃ ia ic fa fc, e = .returned (.tuple #[.slice ia 2 ic, .slice fa 1 fc, .int .u16 0]) ∧ ItsIn w' ia [⟨0, 1, [97, 114, 101, 97], [], []⟩, ⟨0, 2, [], [], c :: r⟩] ∧ FltsIn (fun k => k < w'.heap.size) w' fa [⟨8, 0⟩]) ∧ Kept (fun k => k < V.heap.size) V w' := by
    refine r2.mono ?_
    rintro e w' ⟨⟨ia, ic, fa, fc, h1, h2, h3, -⟩, h4⟩
    exact ⟨⟨ia, ic, fa, fc, h1, h2, h3⟩, h4⟩
  have HX : Hid (w1.alloc (.cells #[.string ⟨#[97, 114, 101, 97]⟩, .string ⟨#[98, 97, 115, 101]⟩, .string ⟨#[98, 114]⟩, .string ⟨#[99, 111, 108]⟩, .string ⟨#[101, 109, 98, 101, 100]⟩, .string ⟨#[105, 109, 103]⟩, .string ⟨#[105, 110, 112, 117, 116]⟩, .string ⟨#[108, 105, 110, 107]⟩, .string ⟨#[109, 101, 116, 97]⟩, .string ⟨#[115, 111, 117, 114, 99, 101]⟩, .string ⟨#[116, 114, 97, 99, 107]⟩, .string ⟨#[119, 98, 114]⟩] 9) = X) := hX
  have HN : Hid (w1.heap.size + 1 = N) := hN
  have HV : Hid (X.alloc (.cells #[.int .u8 1, .string ⟨#[97, 114, 101, 97]⟩, .slice none 0 0, .bool false, .string ⟨#[]⟩, .int .i64 0, .int .u8 3, .string ⟨#[]⟩, .slice none 0 0, .bool false, .string a1, .int .i64 0, .int .u8 2, .string ⟨#[97, 114, 101, 97]⟩, .slice none 0 0, .bool false, .string ⟨#[]⟩, .int .i64 0] 43) = V) := hV
  have HKV : Hid (Kept (fun k => k < w.heap.size) w V) := HK1.out.trans ((kX.mono fun k h => Nat.lt_of_lt_of_le h HK1.out.size).trans (kV.mono fun k h => Nat.lt_of_lt_of_le (Nat.lt_of_lt_of_le h HK1.out.size) kX.size))
  clear r2 hX hN kX sX hV kV hT HK1
  go_wp2_with fail
  rw [HX.out, HN.out, HV.out]
  refine r2'.mono ?_
  rintro e w2 ⟨⟨ia, ic, fa, fc, rfl, hI, hF⟩, k2⟩
  have HK2 : Hid (Kept (fun k => k < w.heap.size) w w2) := HKV.out.trans (k2.mono fun k h => Nat.lt_of_lt_of_le h HKV.out.size)
  obtain ⟨gf, hgf, cf⟩ := flt0 hF
  obtain ⟨g, aa1, ac1, hg, -, -, -, c1⟩ := hI 0 (by simp)
  obtain ⟨g2, aa2, ac2, hg2, -, -, -, c2⟩ := hI 1 (by simp)
  subst hgf
  subst hg
  injection hg2 with hg2
  injection hg2 with hg2
  subst hg2
  have m0 : w2.cell? ⟨gf, 0, none⟩ = some (.int .u8 8) := cf
  have m1 : w2.cell? ⟨g, 0, none⟩ = some (.int .i64 0) := c1 0 _ rfl
  have m2 : w2.cell? ⟨g, 5, none⟩ = some (.int .i64 0) := c2 0 _ rfl
  clear r2' hI hF k2 cf c1 c2 HX HN HV HKV HA1
  go_wp2
  go_ret
  exact ⟨rfl, HK2.out⟩

theorem vb1 (c : UInt8) (r : List UInt8) : buildL [⟨1, [98, 97, 115, 101], [], false, [], 0⟩, ⟨3, [], [], false, c :: r, 0⟩, ⟨2, [98, 97, 115, 101], [], false, [], 0⟩] = some ⟨[⟨0, 1, [98, 97, 115, 101], [], []⟩, ⟨0, 2, [], [], c :: r⟩], [⟨8, 0⟩], []⟩ := rfl

set_option maxRecDepth 20000 in
set_option maxHeartbeats 1000000 in
theorem void1 (a0 : Int) (a1 : ByteArray) (hm : a0.tmod 12 = 1) (hz : a1.size ≤ 100) (h0 : (a1.toList == []) = false) (w : World) :
    Calls Try.prog 6 #[.int .u8 a0, .string a1] w fun e w' => e = .returned (.bool true) ∧ Kept (fun k => k < w.heap.size) w w' := by
  have hz' : decide ((a1.size : Int) > 100) = false := decide_eq_false (by omega)
  have rk := known_any w
  obtain ⟨c, r, hcr⟩ : ∃ c r, a1.toList = c :: r := by
    cases h : a1.toList with
    | nil => rw [h] at h0; cases h0
    | cons c r => exact ⟨c, r, rfl⟩
  have ha1 : a1 = ⟨(c :: r).toArray⟩ := by rw [← hcr, ByteArray.toList_eq]
  have HA1 : Hid (a1 = ⟨(c :: r).toArray⟩) := ha1
  clear ha1 hcr
  go_enter Try.func6, Try.ntmps6
  go_wp2_with fail
  refine rk.mono ?_
  rintro e w1 ⟨rfl, k1⟩
  have HK1 : Hid (Kept (fun k => k < w.heap.size) w w1) := k1
  clear rk k1
  obtain ⟨X, hX⟩ : ∃ X, w1.alloc (.cells #[.string ⟨#[97, 114, 101, 97]⟩, .string ⟨#[98, 97, 115, 101]⟩, .string ⟨#[98, 114]⟩, .string ⟨#[99, 111, 108]⟩, .string ⟨#[101, 109, 98, 101, 100]⟩, .string ⟨#[105, 109, 103]⟩, .string ⟨#[105, 110, 112, 117, 116]⟩, .string ⟨#[108, 105, 110, 107]⟩, .string ⟨#[109, 101, 116, 97]⟩, .string ⟨#[115, 111, 117, 114, 99, 101]⟩, .string ⟨#[116, 114, 97, 99, 107]⟩, .string ⟨#[119, 98, 114]⟩] 9) = X := ⟨_, rfl⟩
  obtain ⟨N, hN⟩ : ∃ N, w1.heap.size + 1 = N := ⟨_, rfl⟩
  have kX : Kept (fun k => k < w1.heap.size) w1 X := by rw [← hX]; exact (Kept.refl _ w1).alloc (fun _ h => h) _
  have sX : X.heap.size = N := by rw [← hX, ← hN]; simp
  obtain ⟨V, hV⟩ : ∃ V, X.alloc (.cells #[.int .u8 1, .string ⟨#[98, 97, 115, 101]⟩, .slice none 0 0, .bool false, .string ⟨#[]⟩, .int .i64 0, .int .u8 3, .string ⟨#[]⟩, .slice none 0 0, .bool false, .string a1, .int .i64 0, .int .u8 2, .string ⟨#[98, 97, 115, 101]⟩, .slice none 0 0, .bool false, .string ⟨#[]⟩, .int .i64 0] 43) = V := ⟨_, rfl⟩
  have kV : Kept (fun k => k < X.heap.size) X V := by rw [← hV]; exact (Kept.refl _ X).alloc (fun _ h => h) _
  have hT : ToksIn (fun k => k < V.heap.size) V (some ⟨N, 0, none⟩) [⟨1, [98, 97, 115, 101], [], false, [], 0⟩, ⟨3, [], [], false, c :: r, 0⟩, ⟨2, [98, 97, 115, 101], [], false, [], 0⟩] := by
    rw [← hV]
    exact toks_new X N _ _ (by simp) sX (by rw [HA1.out]; rfl)
  have r2 := build_any [⟨1, [98, 97, 115, 101], [], false, [], 0⟩, ⟨3, [], [], false, c :: r, 0⟩, ⟨2, [98, 97, 115, 101], [], false, [], 0⟩] (some ⟨N, 0, none⟩) 3 3 rfl (by decide) (by show 6 ≤ 600000; decide) (by intro t ht; simp at ht; rcases ht with rfl | rfl | rfl <;> intro x hx <;> cases hx) V hT
  rw [vb1] at r2
  have r2' : Calls Try.prog 11 #[.slice (some ⟨N, 0, none⟩) 3 3] V fun e w' => (∃ ia ic fa fc, e = .returned (.tuple #[.slice ia 2 ic, .slice fa 1 fc, .int .u16 0]) ∧ ItsIn w' ia [⟨0, 1, [98, 97, 115, 101], [], []⟩, ⟨0, 2, [], [], c :: r⟩] ∧ FltsIn (fun k => k < w'.heap.size) w' fa [⟨8, 0⟩]) ∧ Kept (fun k => k < V.heap.size) V w' := by
    refine r2.mono ?_
    rintro e w' ⟨⟨ia, ic, fa, fc, h1, h2, h3, -⟩, h4⟩
    exact ⟨⟨ia, ic, fa, fc, h1, h2, h3⟩, h4⟩
  have HX : Hid (w1.alloc (.cells #[.string ⟨#[97, 114, 101, 97]⟩, .string ⟨#[98, 97, 115, 101]⟩, .string ⟨#[98, 114]⟩, .string ⟨#[99, 111, 108]⟩, .string ⟨#[101, 109, 98, 101, 100]⟩, .string ⟨#[105, 109, 103]⟩, .string ⟨#[105, 110, 112, 117, 116]⟩, .string ⟨#[108, 105, 110, 107]⟩, .string ⟨#[109, 101, 116, 97]⟩, .string ⟨#[115, 111, 117, 114, 99, 101]⟩, .string ⟨#[116, 114, 97, 99, 107]⟩, .string ⟨#[119, 98, 114]⟩] 9) = X) := hX
  have HN : Hid (w1.heap.size + 1 = N) := hN
  have HV : Hid (X.alloc (.cells #[.int .u8 1, .string ⟨#[98, 97, 115, 101]⟩, .slice none 0 0, .bool false, .string ⟨#[]⟩, .int .i64 0, .int .u8 3, .string ⟨#[]⟩, .slice none 0 0, .bool false, .string a1, .int .i64 0, .int .u8 2, .string ⟨#[98, 97, 115, 101]⟩, .slice none 0 0, .bool false, .string ⟨#[]⟩, .int .i64 0] 43) = V) := hV
  have HKV : Hid (Kept (fun k => k < w.heap.size) w V) := HK1.out.trans ((kX.mono fun k h => Nat.lt_of_lt_of_le h HK1.out.size).trans (kV.mono fun k h => Nat.lt_of_lt_of_le (Nat.lt_of_lt_of_le h HK1.out.size) kX.size))
  clear r2 hX hN kX sX hV kV hT HK1
  go_wp2_with fail
  rw [HX.out, HN.out, HV.out]
  refine r2'.mono ?_
  rintro e w2 ⟨⟨ia, ic, fa, fc, rfl, hI, hF⟩, k2⟩
  have HK2 : Hid (Kept (fun k => k < w.heap.size) w w2) := HKV.out.trans (k2.mono fun k h => Nat.lt_of_lt_of_le h HKV.out.size)
  obtain ⟨gf, hgf, cf⟩ := flt0 hF
  obtain ⟨g, aa1, ac1, hg, -, -, -, c1⟩ := hI 0 (by simp)
  obtain ⟨g2, aa2, ac2, hg2, -, -, -, c2⟩ := hI 1 (by simp)
  subst hgf
  subst hg
  injection hg2 with hg2
  injection hg2 with hg2
  subst hg2
  have m0 : w2.cell? ⟨gf, 0, none⟩ = some (.int .u8 8) := cf
  have m1 : w2.cell? ⟨g, 0, none⟩ = some (.int .i64 0) := c1 0 _ rfl
  have m2 : w2.cell? ⟨g, 5, none⟩ = some (.int .i64 0) := c2 0 _ rfl
  clear r2' hI hF k2 cf c1 c2 HX HN HV HKV HA1
  go_wp2
  go_ret
  exact ⟨rfl, HK2.out⟩

theorem vb2 (c : UInt8) (r : List UInt8) : buildL [⟨1, [98, 114], [], false, [], 0⟩, ⟨3, [], [], false, c :: r, 0⟩, ⟨2, [98, 114], [], false, [], 0⟩] = some ⟨[⟨0, 1, [98, 114], [], []⟩, ⟨0, 2, [], [], c :: r⟩, ⟨0, 1, [98, 114], [], []⟩], [⟨8, 0⟩], []⟩ := rfl

set_option maxRecDepth 20000 in
set_option maxHeartbeats 1000000 in
theorem void2 (a0 : Int) (a1 : ByteArray) (hm : a0.tmod 12 = 2) (hz : a1.size ≤ 100) (h0 : (a1.toList == []) = false) (w : World) :
    Calls Try.prog 6 #[.int .u8 a0, .string a1] w fun e w' => e = .returned (.bool true) ∧ Kept (fun k => k < w.heap.size) w w' := by
  have hz' : decide ((a1.size : Int) > 100) = false := decide_eq_false (by omega)
  have rk := known_any w
  obtain ⟨c, r, hcr⟩ : ∃ c r, a1.toList = c :: r := by
    cases h : a1.toList with
    | nil => rw [h] at h0; cases h0
    | cons c r => exact ⟨c, r, rfl⟩
  have ha1 : a1 = ⟨(c :: r).toArray⟩ := by rw [← hcr, ByteArray.toList_eq]
  have HA1 : Hid (a1 = ⟨(c :: r).toArray⟩) := ha1
  clear ha1 hcr
  go_enter Try.func6, Try.ntmps6
  go_wp2_with fail
  refine rk.mono ?_
  rintro e w1 ⟨rfl, k1⟩
  have HK1 : Hid (Kept (fun k => k < w.heap.size) w w1) := k1
  clear rk k1
  obtain ⟨X, hX⟩ : ∃ X, w1.alloc (.cells #[.string ⟨#[97, 114, 101, 97]⟩, .string ⟨#[98, 97, 115, 101]⟩, .string ⟨#[98, 114]⟩, .string ⟨#[99, 111, 108]⟩, .string ⟨#[101, 109, 98, 101, 100]⟩, .string ⟨#[105, 109, 103]⟩, .string ⟨#[105, 110, 112, 117, 116]⟩, .string ⟨#[108, 105, 110, 107]⟩, .string ⟨#[109, 101, 116, 97]⟩, .string ⟨#[115, 111, 117, 114, 99, 101]⟩, .string ⟨#[116, 114, 97, 99, 107]⟩, .string ⟨#[119, 98, 114]⟩] 9) = X := ⟨_, rfl⟩
  obtain ⟨N, hN⟩ : ∃ N, w1.heap.size + 1 = N := ⟨_, rfl⟩
  have kX : Kept (fun k => k < w1.heap.size) w1 X := by rw [← hX]; exact (Kept.refl _ w1).alloc (fun _ h => h) _
  have sX : X.heap.size = N := by rw [← hX, ← hN]; simp
  obtain ⟨V, hV⟩ : ∃ V, X.alloc (.cells #[.int .u8 1, .string ⟨#[98, 114]⟩, .slice none 0 0, .bool false, .string ⟨#[]⟩, .int .i64 0, .int .u8 3, .string ⟨#[]⟩, .slice none 0 0, .bool false, .string a1, .int .i64 0, .int .u8 2, .string ⟨#[98, 114]⟩, .slice none 0 0, .bool false, .string ⟨#[]⟩, .int .i64 0] 43) = V := ⟨_, rfl⟩
  have kV : Kept (fun k => k < X.heap.size) X V := by rw [← hV]; exact (Kept.refl _ X).alloc (fun _ h => h) _
  have hT : ToksIn (fun k => k < V.heap.size) V (some ⟨N, 0, none⟩) [⟨1, [98, 114], [], false, [], 0⟩, ⟨3, [], [], false, c :: r, 0⟩, ⟨2, [98, 114], [], false, [], 0⟩] := by
    rw [← hV]
    exact toks_new X N _ _ (by simp) sX (by rw [HA1.out]; rfl)
  have r2 := build_any [⟨1, [98, 114], [], false, [], 0⟩, ⟨3, [], [], false, c :: r, 0⟩, ⟨2, [98, 114], [], false, [], 0⟩] (some ⟨N, 0, none⟩) 3 3 rfl (by decide) (by show 6 ≤ 600000; decide) (by intro t ht; simp at ht; rcases ht with rfl | rfl | rfl <;> intro x hx <;> cases hx) V hT
  rw [vb2] at r2
  have r2' : Calls Try.prog 11 #[.slice (some ⟨N, 0, none⟩) 3 3] V fun e w' => (∃ ia ic fa fc, e = .returned (.tuple #[.slice ia 3 ic, .slice fa 1 fc, .int .u16 0]) ∧ ItsIn w' ia [⟨0, 1, [98, 114], [], []⟩, ⟨0, 2, [], [], c :: r⟩, ⟨0, 1, [98, 114], [], []⟩] ∧ FltsIn (fun k => k < w'.heap.size) w' fa [⟨8, 0⟩]) ∧ Kept (fun k => k < V.heap.size) V w' := by
    refine r2.mono ?_
    rintro e w' ⟨⟨ia, ic, fa, fc, h1, h2, h3, -⟩, h4⟩
    exact ⟨⟨ia, ic, fa, fc, h1, h2, h3⟩, h4⟩
  have HX : Hid (w1.alloc (.cells #[.string ⟨#[97, 114, 101, 97]⟩, .string ⟨#[98, 97, 115, 101]⟩, .string ⟨#[98, 114]⟩, .string ⟨#[99, 111, 108]⟩, .string ⟨#[101, 109, 98, 101, 100]⟩, .string ⟨#[105, 109, 103]⟩, .string ⟨#[105, 110, 112, 117, 116]⟩, .string ⟨#[108, 105, 110, 107]⟩, .string ⟨#[109, 101, 116, 97]⟩, .string ⟨#[115, 111, 117, 114, 99, 101]⟩, .string ⟨#[116, 114, 97, 99, 107]⟩, .string ⟨#[119, 98, 114]⟩] 9) = X) := hX
  have HN : Hid (w1.heap.size + 1 = N) := hN
  have HV : Hid (X.alloc (.cells #[.int .u8 1, .string ⟨#[98, 114]⟩, .slice none 0 0, .bool false, .string ⟨#[]⟩, .int .i64 0, .int .u8 3, .string ⟨#[]⟩, .slice none 0 0, .bool false, .string a1, .int .i64 0, .int .u8 2, .string ⟨#[98, 114]⟩, .slice none 0 0, .bool false, .string ⟨#[]⟩, .int .i64 0] 43) = V) := hV
  have HKV : Hid (Kept (fun k => k < w.heap.size) w V) := HK1.out.trans ((kX.mono fun k h => Nat.lt_of_lt_of_le h HK1.out.size).trans (kV.mono fun k h => Nat.lt_of_lt_of_le (Nat.lt_of_lt_of_le h HK1.out.size) kX.size))
  clear r2 hX hN kX sX hV kV hT HK1
  go_wp2_with fail
  rw [HX.out, HN.out, HV.out]
  refine r2'.mono ?_
  rintro e w2 ⟨⟨ia, ic, fa, fc, rfl, hI, hF⟩, k2⟩
  have HK2 : Hid (Kept (fun k => k < w.heap.size) w w2) := HKV.out.trans (k2.mono fun k h => Nat.lt_of_lt_of_le h HKV.out.size)
  obtain ⟨gf, hgf, cf⟩ := flt0 hF
  obtain ⟨g, aa1, ac1, hg, -, -, -, c1⟩ := hI 0 (by simp)
  obtain ⟨g2, aa2, ac2, hg2, -, -, -, c2⟩ := hI 1 (by simp)
  subst hgf
  subst hg
  injection hg2 with hg2
  injection hg2 with hg2
  subst hg2
  have m0 : w2.cell? ⟨gf, 0, none⟩ = some (.int .u8 8) := cf
  have m1 : w2.cell? ⟨g, 0, none⟩ = some (.int .i64 0) := c1 0 _ rfl
  have m2 : w2.cell? ⟨g, 5, none⟩ = some (.int .i64 0) := c2 0 _ rfl
  clear r2' hI hF k2 cf c1 c2 HX HN HV HKV HA1
  go_wp2
  go_ret
  exact ⟨rfl, HK2.out⟩

theorem vb3 (c : UInt8) (r : List UInt8) : buildL [⟨1, [99, 111, 108], [], false, [], 0⟩, ⟨3, [], [], false, c :: r, 0⟩, ⟨2, [99, 111, 108], [], false, [], 0⟩] = some ⟨[⟨0, 1, [99, 111, 108], [], []⟩, ⟨0, 2, [], [], c :: r⟩], [⟨8, 0⟩], []⟩ := rfl

set_option maxRecDepth 20000 in
set_option maxHeartbeats 1000000 in
theorem void3 (a0 : Int) (a1 : ByteArray) (hm : a0.tmod 12 = 3) (hz : a1.size ≤ 100) (h0 : (a1.toList == []) = false) (w : World) :
    Calls Try.prog 6 #[.int .u8 a0, .string a1] w fun e w' => e = .returned (.bool true) ∧ Kept (fun k => k < w.heap.size) w w' := by
  have hz' : decide ((a1.size : Int) > 100) = false := decide_eq_false (by omega)
  have rk := known_any w
  obtain ⟨c, r, hcr⟩ : ∃ c r, a1.toList = c :: r := by
    cases h : a1.toList with
    | nil => rw [h] at h0; cases h0
    | cons c r => exact ⟨c, r, rfl⟩
  have ha1 : a1 = ⟨(c :: r).toArray⟩ := by rw [← hcr, ByteArray.toList_eq]
  have HA1 : Hid (a1 = ⟨(c :: r).toArray⟩) := ha1
  clear ha1 hcr
  go_enter Try.func6, Try.ntmps6
  go_wp2_with fail
  refine rk.mono ?_
  rintro e w1 ⟨rfl, k1⟩
  have HK1 : Hid (Kept (fun k => k < w.heap.size) w w1) := k1
  clear rk k1
  obtain ⟨X, hX⟩ : ∃ X, w1.alloc (.cells #[.string ⟨#[97, 114, 101, 97]⟩, .string ⟨#[98, 97, 115, 101]⟩, .string ⟨#[98, 114]⟩, .string ⟨#[99, 111, 108]⟩, .string ⟨#[101, 109, 98, 101, 100]⟩, .string ⟨#[105, 109, 103]⟩, .string ⟨#[105, 110, 112, 117, 116]⟩, .string ⟨#[108, 105, 110, 107]⟩, .string ⟨#[109, 101, 116, 97]⟩, .string ⟨#[115, 111, 117, 114, 99, 101]⟩, .string ⟨#[116, 114, 97, 99, 107]⟩, .string ⟨#[119, 98, 114]⟩] 9) = X := ⟨_, rfl⟩
  obtain ⟨N, hN⟩ : ∃ N, w1.heap.size + 1 = N := ⟨_, rfl⟩
  have kX : Kept (fun k => k < w1.heap.size) w1 X := by rw [← hX]; exact (Kept.refl _ w1).alloc (fun _ h => h) _
  have sX : X.heap.size = N := by rw [← hX, ← hN]; simp
  obtain ⟨V, hV⟩ : ∃ V, X.alloc (.cells #[.int .u8 1, .string ⟨#[99, 111, 108]⟩, .slice none 0 0, .bool false, .string ⟨#[]⟩, .int .i64 0, .int .u8 3, .string ⟨#[]⟩, .slice none 0 0, .bool false, .string a1, .int .i64 0, .int .u8 2, .string ⟨#[99, 111, 108]⟩, .slice none 0 0, .bool false, .string ⟨#[]⟩, .int .i64 0] 43) = V := ⟨_, rfl⟩
  have kV : Kept (fun k => k < X.heap.size) X V := by rw [← hV]; exact (Kept.refl _ X).alloc (fun _ h => h) _
  have hT : ToksIn (fun k => k < V.heap.size) V (some ⟨N, 0, none⟩) [⟨1, [99, 111, 108], [], false, [], 0⟩, ⟨3, [], [], false, c :: r, 0⟩, ⟨2, [99, 111, 108], [], false, [], 0⟩] := by
    rw [← hV]
    exact toks_new X N _ _ (by simp) sX (by rw [HA1.out]; rfl)
  have r2 := build_any [⟨1, [99, 111, 108], [], false, [], 0⟩, ⟨3, [], [], false, c :: r, 0⟩, ⟨2, [99, 111, 108], [], false, [], 0⟩] (some ⟨N, 0, none⟩) 3 3 rfl (by decide) (by show 6 ≤ 600000; decide) (by intro t ht; simp at ht; rcases ht with rfl | rfl | rfl <;> intro x hx <;> cases hx) V hT
  rw [vb3] at r2
  have r2' : Calls Try.prog 11 #[.slice (some ⟨N, 0, none⟩) 3 3] V fun e w' => (∃ ia ic fa fc, e = .returned (.tuple #[.slice ia 2 ic, .slice fa 1 fc, .int .u16 0]) ∧ ItsIn w' ia [⟨0, 1, [99, 111, 108], [], []⟩, ⟨0, 2, [], [], c :: r⟩] ∧ FltsIn (fun k => k < w'.heap.size) w' fa [⟨8, 0⟩]) ∧ Kept (fun k => k < V.heap.size) V w' := by
    refine r2.mono ?_
    rintro e w' ⟨⟨ia, ic, fa, fc, h1, h2, h3, -⟩, h4⟩
    exact ⟨⟨ia, ic, fa, fc, h1, h2, h3⟩, h4⟩
  have HX : Hid (w1.alloc (.cells #[.string ⟨#[97, 114, 101, 97]⟩, .string ⟨#[98, 97, 115, 101]⟩, .string ⟨#[98, 114]⟩, .string ⟨#[99, 111, 108]⟩, .string ⟨#[101, 109, 98, 101, 100]⟩, .string ⟨#[105, 109, 103]⟩, .string ⟨#[105, 110, 112, 117, 116]⟩, .string ⟨#[108, 105, 110, 107]⟩, .string ⟨#[109, 101, 116, 97]⟩, .string ⟨#[115, 111, 117, 114, 99, 101]⟩, .string ⟨#[116, 114, 97, 99, 107]⟩, .string ⟨#[119, 98, 114]⟩] 9) = X) := hX
  have HN : Hid (w1.heap.size + 1 = N) := hN
  have HV : Hid (X.alloc (.cells #[.int .u8 1, .string ⟨#[99, 111, 108]⟩, .slice none 0 0, .bool false, .string ⟨#[]⟩, .int .i64 0, .int .u8 3, .string ⟨#[]⟩, .slice none 0 0, .bool false, .string a1, .int .i64 0, .int .u8 2, .string ⟨#[99, 111, 108]⟩, .slice none 0 0, .bool false, .string ⟨#[]⟩, .int .i64 0] 43) = V) := hV
  have HKV : Hid (Kept (fun k => k < w.heap.size) w V) := HK1.out.trans ((kX.mono fun k h => Nat.lt_of_lt_of_le h HK1.out.size).trans (kV.mono fun k h => Nat.lt_of_lt_of_le (Nat.lt_of_lt_of_le h HK1.out.size) kX.size))
  clear r2 hX hN kX sX hV kV hT HK1
  go_wp2_with fail
  rw [HX.out, HN.out, HV.out]
  refine r2'.mono ?_
  rintro e w2 ⟨⟨ia, ic, fa, fc, rfl, hI, hF⟩, k2⟩
  have HK2 : Hid (Kept (fun k => k < w.heap.size) w w2) := HKV.out.trans (k2.mono fun k h => Nat.lt_of_lt_of_le h HKV.out.size)
  obtain ⟨gf, hgf, cf⟩ := flt0 hF
  obtain ⟨g, aa1, ac1, hg, -, -, -, c1⟩ := hI 0 (by simp)
  obtain ⟨g2, aa2, ac2, hg2, -, -, -, c2⟩ := hI 1 (by simp)
  subst hgf
  subst hg
  injection hg2 with hg2
  injection hg2 with hg2
  subst hg2
  have m0 : w2.cell? ⟨gf, 0, none⟩ = some (.int .u8 8) := cf
  have m1 : w2.cell? ⟨g, 0, none⟩ = some (.int .i64 0) := c1 0 _ rfl
  have m2 : w2.cell? ⟨g, 5, none⟩ = some (.int .i64 0) := c2 0 _ rfl
  clear r2' hI hF k2 cf c1 c2 HX HN HV HKV HA1
  go_wp2
  go_ret
  exact ⟨rfl, HK2.out⟩

theorem vb4 (c : UInt8) (r : List UInt8) : buildL [⟨1, [101, 109, 98, 101, 100], [], false, [], 0⟩, ⟨3, [], [], false, c :: r, 0⟩, ⟨2, [101, 109, 98, 101, 100], [], false, [], 0⟩] = some ⟨[⟨0, 1, [101, 109, 98, 101, 100], [], []⟩, ⟨0, 2, [], [], c :: r⟩], [⟨8, 0⟩], []⟩ := rfl

set_option maxRecDepth 20000 in
set_option maxHeartbeats 1000000 in
theorem void4 (a0 : Int) (a1 : ByteArray) (hm : a0.tmod 12 = 4) (hz : a1.size ≤ 100) (h0 : (a1.toList == []) = false) (w : World) :
    Calls Try.prog 6 #[.int .u8 a0, .string a1] w fun e w' => e = .returned (.bool true) ∧ Kept (fun k => k < w.heap.size) w w' := by
  have hz' : decide ((a1.size : Int) > 100) = false := decide_eq_false (by omega)
  have rk := known_any w
  obtain ⟨c, r, hcr⟩ : ∃ c r, a1.toList = c :: r := by
    cases h : a1.toList with
    | nil => rw [h] at h0; cases h0
    | cons c r => exact ⟨c, r, rfl⟩
  have ha1 : a1 = ⟨(c :: r).toArray⟩ := by rw [← hcr, ByteArray.toList_eq]
  have HA1 : Hid (a1 = ⟨(c :: r).toArray⟩) := ha1
  clear ha1 hcr
  go_enter Try.func6, Try.ntmps6
  go_wp2_with fail
  refine rk.mono ?_
  rintro e w1 ⟨rfl, k1⟩
  have HK1 : Hid (Kept (fun k => k < w.heap.size) w w1) := k1
  clear rk k1
  obtain ⟨X, hX⟩ : ∃ X, w1.alloc (.cells #[.string ⟨#[97, 114, 101, 97]⟩, .string ⟨#[98, 97, 115, 101]⟩, .string ⟨#[98, 114]⟩, .string ⟨#[99, 111, 108]⟩, .string ⟨#[101, 109, 98, 101, 100]⟩, .string ⟨#[105, 109, 103]⟩, .string ⟨#[105, 110, 112, 117, 116]⟩, .string ⟨#[108, 105, 110, 107]⟩, .string ⟨#[109, 101, 116, 97]⟩, .string ⟨#[115, 111, 117, 114, 99, 101]⟩, .string ⟨#[116, 114, 97, 99, 107]⟩, .string ⟨#[119, 98, 114]⟩] 9) = X := ⟨_, rfl⟩
  obtain ⟨N, hN⟩ : ∃ N, w1.heap.size + 1 = N := ⟨_, rfl⟩
  have kX : Kept (fun k => k < w1.heap.size) w1 X := by rw [← hX]; exact (Kept.refl _ w1).alloc (fun _ h => h) _
  have sX : X.heap.size = N := by rw [← hX, ← hN]; simp
  obtain ⟨V, hV⟩ : ∃ V, X.alloc (.cells #[.int .u8 1, .string ⟨#[101, 109, 98, 101, 100]⟩, .slice none 0 0, .bool false, .string ⟨#[]⟩, .int .i64 0, .int .u8 3, .string ⟨#[]⟩, .slice none 0 0, .bool false, .string a1, .int .i64 0, .int .u8 2, .string ⟨#[101, 109, 98, 101, 100]⟩, .slice none 0 0, .bool false, .string ⟨#[]⟩, .int .i64 0] 43) = V := ⟨_, rfl⟩
  have kV : Kept (fun k => k < X.heap.size) X V := by rw [← hV]; exact (Kept.refl _ X).alloc (fun _ h => h) _
  have hT : ToksIn (fun k => k < V.heap.size) V (some ⟨N, 0, none⟩) [⟨1, [101, 109, 98, 101, 100], [], false, [], 0⟩, ⟨3, [], [], false, c :: r, 0⟩, ⟨2, [101, 109, 98, 101, 100], [], false, [], 0⟩] := by
    rw [← hV]
    exact toks_new X N _ _ (by simp) sX (by rw [HA1.out]; rfl)
  have r2 := build_any [⟨1, [101, 109, 98, 101, 100], [], false, [], 0⟩, ⟨3, [], [], false, c :: r, 0⟩, ⟨2, [101, 109, 98, 101, 100], [], false, [], 0⟩] (some ⟨N, 0, none⟩) 3 3 rfl (by decide) (by show 6 ≤ 600000; decide) (by intro t ht; simp at ht; rcases ht with rfl | rfl | rfl <;> intro x hx <;> cases hx) V hT
  rw [vb4] at r2
  have r2' : Calls Try.prog 11 #[.slice (some ⟨N, 0, none⟩) 3 3] V fun e w' => (∃ ia ic fa fc, e = .returned (.tuple #[.slice ia 2 ic, .slice fa 1 fc, .int .u16 0]) ∧ ItsIn w' ia [⟨0, 1, [101, 109, 98, 101, 100], [], []⟩, ⟨0, 2, [], [], c :: r⟩] ∧ FltsIn (fun k => k < w'.heap.size) w' fa [⟨8, 0⟩]) ∧ Kept (fun k => k < V.heap.size) V w' := by
    refine r2.mono ?_
    rintro e w' ⟨⟨ia, ic, fa, fc, h1, h2, h3, -⟩, h4⟩
    exact ⟨⟨ia, ic, fa, fc, h1, h2, h3⟩, h4⟩
  have HX : Hid (w1.alloc (.cells #[.string ⟨#[97, 114, 101, 97]⟩, .string ⟨#[98, 97, 115, 101]⟩, .string ⟨#[98, 114]⟩, .string ⟨#[99, 111, 108]⟩, .string ⟨#[101, 109, 98, 101, 100]⟩, .string ⟨#[105, 109, 103]⟩, .string ⟨#[105, 110, 112, 117, 116]⟩, .string ⟨#[108, 105, 110, 107]⟩, .string ⟨#[109, 101, 116, 97]⟩, .string ⟨#[115, 111, 117, 114, 99, 101]⟩, .string ⟨#[116, 114, 97, 99, 107]⟩, .string ⟨#[119, 98, 114]⟩] 9) = X) := hX
  have HN : Hid (w1.heap.size + 1 = N) := hN
  have HV : Hid (X.alloc (.cells #[.int .u8 1, .string ⟨#[101, 109, 98, 101, 100]⟩, .slice none 0 0, .bool false, .string ⟨#[]⟩, .int .i64 0, .int .u8 3, .string ⟨#[]⟩, .slice none 0 0, .bool false, .string a1, .int .i64 0, .int .u8 2, .string ⟨#[101, 109, 98, 101, 100]⟩, .slice none 0 0, .bool false, .string ⟨#[]⟩, .int .i64 0] 43) = V) := hV
  have HKV : Hid (Kept (fun k => k < w.heap.size) w V) := HK1.out.trans ((kX.mono fun k h => Nat.lt_of_lt_of_le h HK1.out.size).trans (kV.mono fun k h => Nat.lt_of_lt_of_le (Nat.lt_of_lt_of_le h HK1.out.size) kX.size))
  clear r2 hX hN kX sX hV kV hT HK1
  go_wp2_with fail
  rw [HX.out, HN.out, HV.out]
  refine r2'.mono ?_
  rintro e w2 ⟨⟨ia, ic, fa, fc, rfl, hI, hF⟩, k2⟩
  have HK2 : Hid (Kept (fun k => k < w.heap.size) w w2) := HKV.out.trans (k2.mono fun k h => Nat.lt_of_lt_of_le h HKV.out.size)
  obtain ⟨gf, hgf, cf⟩ := flt0 hF
  obtain ⟨g, aa1, ac1, hg, -, -, -, c1⟩ := hI 0 (by simp)
  obtain ⟨g2, aa2, ac2, hg2, -, -, -, c2⟩ := hI 1 (by simp)
  subst hgf
  subst hg
  injection hg2 with hg2
  injection hg2 with hg2
  subst hg2
  have m0 : w2.cell? ⟨gf, 0, none⟩ = some (.int .u8 8) := cf
  have m1 : w2.cell? ⟨g, 0, none⟩ = some (.int .i64 0) := c1 0 _ rfl
  have m2 : w2.cell? ⟨g, 5, none⟩ = some (.int .i64 0) := c2 0 _ rfl
  clear r2' hI hF k2 cf c1 c2 HX HN HV HKV HA1
  go_wp2
  go_ret
  exact ⟨rfl, HK2.out⟩

theorem vb5 (c : UInt8) (r : List UInt8) : buildL [⟨1, [105, 109, 103], [], false, [], 0⟩, ⟨3, [], [], false, c :: r, 0⟩, ⟨2, [105, 109, 103], [], false, [], 0⟩] = some ⟨[⟨0, 1, [105, 109, 103], [], []⟩, ⟨0, 2, [], [], c :: r⟩], [⟨8, 0⟩], []⟩ := rfl

set_option maxRecDepth 20000 in
set_option maxHeartbeats 1000000 in
theorem void5 (a0 : Int) (a1 : ByteArray) (hm : a0.tmod 12 = 5) (hz : a1.size ≤ 100) (h0 : (a1.toList == []) = false) (w : World) :
    Calls Try.prog 6 #[.int .u8 a0, .string a1] w fun e w' => e = .returned (.bool true) ∧ Kept (fun k => k < w.heap.size) w w' := by
  have hz' : decide ((a1.size : Int) > 100) = false := decide_eq_false (by omega)
  have rk := known_any w
  obtain ⟨c, r, hcr⟩ : ∃ c r, a1.toList = c :: r := by
    cases h : a1.toList with
    | nil => rw [h] at h0; cases h0
    | cons c r => exact ⟨c, r, rfl⟩
  have ha1 : a1 = ⟨(c :: r).toArray⟩ := by rw [← hcr, ByteArray.toList_eq]
  have HA1 : Hid (a1 = ⟨(c :: r).toArray⟩) := ha1
  clear ha1 hcr
  go_enter Try.func6, Try.ntmps6
  go_wp2_with fail
  refine rk.mono ?_
  rintro e w1 ⟨rfl, k1⟩
  have HK1 : Hid (Kept (fun k => k < w.heap.size) w w1) := k1
  clear rk k1
  obtain ⟨X, hX⟩ : ∃ X, w1.alloc (.cells #[.string ⟨#[97, 114, 101, 97]⟩, .string ⟨#[98, 97, 115, 101]⟩, .string ⟨#[98, 114]⟩, .string ⟨#[99, 111, 108]⟩, .string ⟨#[101, 109, 98, 101, 100]⟩, .string ⟨#[105, 109, 103]⟩, .string ⟨#[105, 110, 112, 117, 116]⟩, .string ⟨#[108, 105, 110, 107]⟩, .string ⟨#[109, 101, 116, 97]⟩, .string ⟨#[115, 111, 117, 114, 99, 101]⟩, .string ⟨#[116, 114, 97, 99, 107]⟩, .string ⟨#[119, 98, 114]⟩] 9) = X := ⟨_, rfl⟩
  obtain ⟨N, hN⟩ : ∃ N, w1.heap.size + 1 = N := ⟨_, rfl⟩
  have kX : Kept (fun k => k < w1.heap.size) w1 X := by rw [← hX]; exact (Kept.refl _ w1).alloc (fun _ h => h) _
  have sX : X.heap.size = N := by rw [← hX, ← hN]; simp
  obtain ⟨V, hV⟩ : ∃ V, X.alloc (.cells #[.int .u8 1, .string ⟨#[105, 109, 103]⟩, .slice none 0 0, .bool false, .string ⟨#[]⟩, .int .i64 0, .int .u8 3, .string ⟨#[]⟩, .slice none 0 0, .bool false, .string a1, .int .i64 0, .int .u8 2, .string ⟨#[105, 109, 103]⟩, .slice none 0 0, .bool false, .string ⟨#[]⟩, .int .i64 0] 43) = V := ⟨_, rfl⟩
  have kV : Kept (fun k => k < X.heap.size) X V := by rw [← hV]; exact (Kept.refl _ X).alloc (fun _ h => h) _
  have hT : ToksIn (fun k => k < V.heap.size) V (some ⟨N, 0, none⟩) [⟨1, [105, 109, 103], [], false, [], 0⟩, ⟨3, [], [], false, c :: r, 0⟩, ⟨2, [105, 109, 103], [], false, [], 0⟩] := by
    rw [← hV]
    exact toks_new X N _ _ (by simp) sX (by rw [HA1.out]; rfl)
  have r2 := build_any [⟨1, [105, 109, 103], [], false, [], 0⟩, ⟨3, [], [], false, c :: r, 0⟩, ⟨2, [105, 109, 103], [], false, [], 0⟩] (some ⟨N, 0, none⟩) 3 3 rfl (by decide) (by show 6 ≤ 600000; decide) (by intro t ht; simp at ht; rcases ht with rfl | rfl | rfl <;> intro x hx <;> cases hx) V hT
  rw [vb5] at r2
  have r2' : Calls Try.prog 11 #[.slice (some ⟨N, 0, none⟩) 3 3] V fun e w' => (∃ ia ic fa fc, e = .returned (.tuple #[.slice ia 2 ic, .slice fa 1 fc, .int .u16 0]) ∧ ItsIn w' ia [⟨0, 1, [105, 109, 103], [], []⟩, ⟨0, 2, [], [], c :: r⟩] ∧ FltsIn (fun k => k < w'.heap.size) w' fa [⟨8, 0⟩]) ∧ Kept (fun k => k < V.heap.size) V w' := by
    refine r2.mono ?_
    rintro e w' ⟨⟨ia, ic, fa, fc, h1, h2, h3, -⟩, h4⟩
    exact ⟨⟨ia, ic, fa, fc, h1, h2, h3⟩, h4⟩
  have HX : Hid (w1.alloc (.cells #[.string ⟨#[97, 114, 101, 97]⟩, .string ⟨#[98, 97, 115, 101]⟩, .string ⟨#[98, 114]⟩, .string ⟨#[99, 111, 108]⟩, .string ⟨#[101, 109, 98, 101, 100]⟩, .string ⟨#[105, 109, 103]⟩, .string ⟨#[105, 110, 112, 117, 116]⟩, .string ⟨#[108, 105, 110, 107]⟩, .string ⟨#[109, 101, 116, 97]⟩, .string ⟨#[115, 111, 117, 114, 99, 101]⟩, .string ⟨#[116, 114, 97, 99, 107]⟩, .string ⟨#[119, 98, 114]⟩] 9) = X) := hX
  have HN : Hid (w1.heap.size + 1 = N) := hN
  have HV : Hid (X.alloc (.cells #[.int .u8 1, .string ⟨#[105, 109, 103]⟩, .slice none 0 0, .bool false, .string ⟨#[]⟩, .int .i64 0, .int .u8 3, .string ⟨#[]⟩, .slice none 0 0, .bool false, .string a1, .int .i64 0, .int .u8 2, .string ⟨#[105, 109, 103]⟩, .slice none 0 0, .bool false, .string ⟨#[]⟩, .int .i64 0] 43) = V) := hV
  have HKV : Hid (Kept (fun k => k < w.heap.size) w V) := HK1.out.trans ((kX.mono fun k h => Nat.lt_of_lt_of_le h HK1.out.size).trans (kV.mono fun k h => Nat.lt_of_lt_of_le (Nat.lt_of_lt_of_le h HK1.out.size) kX.size))
  clear r2 hX hN kX sX hV kV hT HK1
  go_wp2_with fail
  rw [HX.out, HN.out, HV.out]
  refine r2'.mono ?_
  rintro e w2 ⟨⟨ia, ic, fa, fc, rfl, hI, hF⟩, k2⟩
  have HK2 : Hid (Kept (fun k => k < w.heap.size) w w2) := HKV.out.trans (k2.mono fun k h => Nat.lt_of_lt_of_le h HKV.out.size)
  obtain ⟨gf, hgf, cf⟩ := flt0 hF
  obtain ⟨g, aa1, ac1, hg, -, -, -, c1⟩ := hI 0 (by simp)
  obtain ⟨g2, aa2, ac2, hg2, -, -, -, c2⟩ := hI 1 (by simp)
  subst hgf
  subst hg
  injection hg2 with hg2
  injection hg2 with hg2
  subst hg2
  have m0 : w2.cell? ⟨gf, 0, none⟩ = some (.int .u8 8) := cf
  have m1 : w2.cell? ⟨g, 0, none⟩ = some (.int .i64 0) := c1 0 _ rfl
  have m2 : w2.cell? ⟨g, 5, none⟩ = some (.int .i64 0) := c2 0 _ rfl
  clear r2' hI hF k2 cf c1 c2 HX HN HV HKV HA1
  go_wp2
  go_ret
  exact ⟨rfl, HK2.out⟩

theorem vb6 (c : UInt8) (r : List UInt8) : buildL [⟨1, [105, 110, 112, 117, 116], [], false, [], 0⟩, ⟨3, [], [], false, c :: r, 0⟩, ⟨2, [105, 110, 112, 117, 116], [], false, [], 0⟩] = some ⟨[⟨0, 1, [105, 110, 112, 117, 116], [], []⟩, ⟨0, 2, [], [], c :: r⟩], [⟨8, 0⟩], []⟩ := rfl

set_option maxRecDepth 20000 in
set_option maxHeartbeats 1000000 in
theorem void6 (a0 : Int) (a1 : ByteArray) (hm : a0.tmod 12 = 6) (hz : a1.size ≤ 100) (h0 : (a1.toList == []) = false) (w : World) :
    Calls Try.prog 6 #[.int .u8 a0, .string a1] w fun e w' => e = .returned (.bool true) ∧ Kept (fun k => k < w.heap.size) w w' := by
  have hz' : decide ((a1.size : Int) > 100) = false := decide_eq_false (by omega)
  have rk := known_any w
  obtain ⟨c, r, hcr⟩ : ∃ c r, a1.toList = c :: r := by
    cases h : a1.toList with
    | nil => rw [h] at h0; cases h0
    | cons c r => exact ⟨c, r, rfl⟩
  have ha1 : a1 = ⟨(c :: r).toArray⟩ := by rw [← hcr, ByteArray.toList_eq]
  have HA1 : Hid (a1 = ⟨(c :: r).toArray⟩) := ha1
  clear ha1 hcr
  go_enter Try.func6, Try.ntmps6
  go_wp2_with fail
  refine rk.mono ?_
  rintro e w1 ⟨rfl, k1⟩
  have HK1 : Hid (Kept (fun k => k < w.heap.size) w w1) := k1
  clear rk k1
  obtain ⟨X, hX⟩ : ∃ X, w1.alloc (.cells #[.string ⟨#[97, 114, 101, 97]⟩, .string ⟨#[98, 97, 115, 101]⟩, .string ⟨#[98, 114]⟩, .string ⟨#[99, 111, 108]⟩, .string ⟨#[101, 109, 98, 101, 100]⟩, .string ⟨#[105, 109, 103]⟩, .string ⟨#[105, 110, 112, 117, 116]⟩, .string ⟨#[108, 105, 110, 107]⟩, .string ⟨#[109, 101, 116, 97]⟩, .string ⟨#[115, 111, 117, 114, 99, 101]⟩, .string ⟨#[116, 114, 97, 99, 107]⟩, .string ⟨#[119, 98, 114]⟩] 9) = X := ⟨_, rfl⟩
  obtain ⟨N, hN⟩ : ∃ N, w1.heap.size + 1 = N := ⟨_, rfl⟩
  have kX : Kept (fun k => k < w1.heap.size) w1 X := by rw [← hX]; exact (Kept.refl _ w1).alloc (fun _ h => h) _
  have sX : X.heap.size = N := by rw [← hX, ← hN]; simp
  obtain ⟨V, hV⟩ : ∃ V, X.alloc (.cells #[.int .u8 1, .string ⟨#[105, 110, 112, 117, 116]⟩, .slice none 0 0, .bool false, .string ⟨#[]⟩, .int .i64 0, .int .u8 3, .string ⟨#[]⟩, .slice none 0 0, .bool false, .string a1, .int .i64 0, .int .u8 2, .string ⟨#[105, 110, 112, 117, 116]⟩, .slice none 0 0, .bool false, .string ⟨#[]⟩, .int .i64 0] 43) = V := ⟨_, rfl⟩
  have kV : Kept (fun k => k < X.heap.size) X V := by rw [← hV]; exact (Kept.refl _ X).alloc (fun _ h => h) _
  have hT : ToksIn (fun k => k < V.heap.size) V (some ⟨N, 0, none⟩) [⟨1, [105, 110, 112, 117, 116], [], false, [], 0⟩, ⟨3, [], [], false, c :: r, 0⟩, ⟨2, [105, 110, 112, 117, 116], [], false, [], 0⟩] := by
    rw [← hV]
    exact toks_new X N _ _ (by simp) sX (by rw [HA1.out]; rfl)
  have r2 := build_any [⟨1, [105, 110, 112, 117, 116], [], false, [], 0⟩, ⟨3, [], [], false, c :: r, 0⟩, ⟨2, [105, 110, 112, 117, 116], [], false, [], 0⟩] (some ⟨N, 0, none⟩) 3 3 rfl (by decide) (by show 6 ≤ 600000; decide) (by intro t ht; simp at ht; rcases ht with rfl | rfl | rfl <;> intro x hx <;> cases hx) V hT
  rw [vb6] at r2
  have r2' : Calls Try.prog 11 #[.slice (some ⟨N, 0, none⟩) 3 3] V fun e w' => (∃ ia ic fa fc, e = .returned (.tuple #[.slice ia 2 ic, .slice fa 1 fc, .int .u16 0]) ∧ ItsIn w' ia [⟨0, 1, [105, 110, 112, 117, 116], [], []⟩, ⟨0, 2, [], [], c :: r⟩] ∧ FltsIn (fun k => k < w'.heap.size) w' fa [⟨8, 0⟩]) ∧ Kept (fun k => k < V.heap.size) V w' := by
    refine r2.mono ?_
    rintro e w' ⟨⟨ia, ic, fa, fc, h1, h2, h3, -⟩, h4⟩
    exact ⟨⟨ia, ic, fa, fc, h1, h2, h3⟩, h4⟩
  have HX : Hid (w1.alloc (.cells #[.string ⟨#[97, 114, 101, 97]⟩, .string ⟨#[98, 97, 115, 101]⟩, .string ⟨#[98, 114]⟩, .string ⟨#[99, 111, 108]⟩, .string ⟨#[101, 109, 98, 101, 100]⟩, .string ⟨#[105, 109, 103]⟩, .string ⟨#[105, 110, 112, 117, 116]⟩, .string ⟨#[108, 105, 110, 107]⟩, .string ⟨#[109, 101, 116, 97]⟩, .string ⟨#[115, 111, 117, 114, 99, 101]⟩, .string ⟨#[116, 114, 97, 99, 107]⟩, .string ⟨#[119, 98, 114]⟩] 9) = X) := hX
  have HN : Hid (w1.heap.size + 1 = N) := hN
  have HV : Hid (X.alloc (.cells #[.int .u8 1, .string ⟨#[105, 110, 112, 117, 116]⟩, .slice none 0 0, .bool false, .string ⟨#[]⟩, .int .i64 0, .int .u8 3, .string ⟨#[]⟩, .slice none 0 0, .bool false, .string a1, .int .i64 0, .int .u8 2, .string ⟨#[105, 110, 112, 117, 116]⟩, .slice none 0 0, .bool false, .string ⟨#[]⟩, .int .i64 0] 43) = V) := hV
  have HKV : Hid (Kept (fun k => k < w.heap.size) w V) := HK1.out.trans ((kX.mono fun k h => Nat.lt_of_lt_of_le h HK1.out.size).trans (kV.mono fun k h => Nat.lt_of_lt_of_le (Nat.lt_of_lt_of_le h HK1.out.size) kX.size))
  clear r2 hX hN kX sX hV kV hT HK1
  go_wp2_with fail
  rw [HX.out, HN.out, HV.out]
  refine r2'.mono ?_
  rintro e w2 ⟨⟨ia, ic, fa, fc, rfl, hI, hF⟩, k2⟩
  have HK2 : Hid (Kept (fun k => k < w.heap.size) w w2) := HKV.out.trans (k2.mono fun k h => Nat.lt_of_lt_of_le h HKV.out.size)
  obtain ⟨gf, hgf, cf⟩ := flt0 hF
  obtain ⟨g, aa1, ac1, hg, -, -, -, c1⟩ := hI 0 (by simp)
  obtain ⟨g2, aa2, ac2, hg2, -, -, -, c2⟩ := hI 1 (by simp)
  subst hgf
  subst hg
  injection hg2 with hg2
  injection hg2 with hg2
  subst hg2
  have m0 : w2.cell? ⟨gf, 0, none⟩ = some (.int .u8 8) := cf
  have m1 : w2.cell? ⟨g, 0, none⟩ = some (.int .i64 0) := c1 0 _ rfl
  have m2 : w2.cell? ⟨g, 5, none⟩ = some (.int .i64 0) := c2 0 _ rfl
  clear r2' hI hF k2 cf c1 c2 HX HN HV HKV HA1
  go_wp2
  go_ret
  exact ⟨rfl, HK2.out⟩

theorem vb7 (c : UInt8) (r : List UInt8) : buildL [⟨1, [108, 105, 110, 107], [], false, [], 0⟩, ⟨3, [], [], false, c :: r, 0⟩, ⟨2, [108, 105, 110, 107], [], false, [], 0⟩] = some ⟨[⟨0, 1, [108, 105, 110, 107], [], []⟩, ⟨0, 2, [], [], c :: r⟩], [⟨8, 0⟩], []⟩ := rfl

set_option maxRecDepth 20000 in
set_option maxHeartbeats 1000000 in
theorem void7 (a0 : Int) (a1 : ByteArray) (hm : a0.tmod 12 = 7) (hz : a1.size ≤ 100) (h0 : (a1.toList == []) = false) (w : World) :
    Calls Try.prog 6 #[.int .u8 a0, .string a1] w fun e w' => e = .returned (.bool true) ∧ Kept (fun k => k < w.heap.size) w w' := by
  have hz' : decide ((a1.size : Int) > 100) = false := decide_eq_false (by omega)
  have rk := known_any w
  obtain ⟨c, r, hcr⟩ : ∃ c r, a1.toList = c :: r := by
    cases h : a1.toList with
    | nil => rw [h] at h0; cases h0
    | cons c r => exact ⟨c, r, rfl⟩
  have ha1 : a1 = ⟨(c :: r).toArray⟩ := by rw [← hcr, ByteArray.toList_eq]
  have HA1 : Hid (a1 = ⟨(c :: r).toArray⟩) := ha1
  clear ha1 hcr
  go_enter Try.func6, Try.ntmps6
  go_wp2_with fail
  refine rk.mono ?_
  rintro e w1 ⟨rfl, k1⟩
  have HK1 : Hid (Kept (fun k => k < w.heap.size) w w1) := k1
  clear rk k1
  obtain ⟨X, hX⟩ : ∃ X, w1.alloc (.cells #[.string ⟨#[97, 114, 101, 97]⟩, .string ⟨#[98, 97, 115, 101]⟩, .string ⟨#[98, 114]⟩, .string ⟨#[99, 111, 108]⟩, .string ⟨#[101, 109, 98, 101, 100]⟩, .string ⟨#[105, 109, 103]⟩, .string ⟨#[105, 110, 112, 117, 116]⟩, .string ⟨#[108, 105, 110, 107]⟩, .string ⟨#[109, 101, 116, 97]⟩, .string ⟨#[115, 111, 117, 114, 99, 101]⟩, .string ⟨#[116, 114, 97, 99, 107]⟩, .string ⟨#[119, 98, 114]⟩] 9) = X := ⟨_, rfl⟩
  obtain ⟨N, hN⟩ : ∃ N, w1.heap.size + 1 = N := ⟨_, rfl⟩
  have kX : Kept (fun k => k < w1.heap.size) w1 X := by rw [← hX]; exact (Kept.refl _ w1).alloc (fun _ h => h) _
  have sX : X.heap.size = N := by rw [← hX, ← hN]; simp
  obtain ⟨V, hV⟩ : ∃ V, X.alloc (.cells #[.int .u8 1, .string ⟨#[108, 105, 110, 107]⟩, .slice none 0 0, .bool false, .string ⟨#[]⟩, .int .i64 0, .int .u8 3, .string ⟨#[]⟩, .slice none 0 0, .bool false, .string a1, .int .i64 0, .int .u8 2, .string ⟨#[108, 105, 110, 107]⟩, .slice none 0 0, .bool false, .string ⟨#[]⟩, .int .i64 0] 43) = V := ⟨_, rfl⟩
  have kV : Kept (fun k => k < X.heap.size) X V := by rw [← hV]; exact (Kept.refl _ X).alloc (fun _ h => h) _
  have hT : ToksIn (fun k => k < V.heap.size) V (some ⟨N, 0, none⟩) [⟨1, [108, 105, 110, 107], [], false, [], 0⟩, ⟨3, [], [], false, c :: r, 0⟩, ⟨2, [108, 105, 110, 107], [], false, [], 0⟩] := by
    rw [← hV]
    exact toks_new X N _ _ (by simp) sX (by rw [HA1.out]; rfl)
  have r2 := build_any [⟨1, [108, 105, 110, 107], [], false, [], 0⟩, ⟨3, [], [], false, c :: r, 0⟩, ⟨2, [108, 105, 110, 107], [], false, [], 0⟩] (some ⟨N, 0, none⟩) 3 3 rfl (by decide) (by show 6 ≤ 600000; decide) (by intro t ht; simp at ht; rcases ht with rfl | rfl | rfl <;> intro x hx <;> cases hx) V hT
  rw [vb7] at r2
  have r2' : Calls Try.prog 11 #[.slice (some ⟨N, 0, none⟩) 3 3] V fun e w' => (∃ ia ic fa fc, e = .returned (.tuple #[.slice ia 2 ic, .slice fa 1 fc, .int .u16 0]) ∧ ItsIn w' ia [⟨0, 1, [108, 105, 110, 107], [], []⟩, ⟨0, 2, [], [], c :: r⟩] ∧ FltsIn (fun k => k < w'.heap.size) w' fa [⟨8, 0⟩]) ∧ Kept (fun k => k < V.heap.size) V w' := by
    refine r2.mono ?_
    rintro e w' ⟨⟨ia, ic, fa, fc, h1, h2, h3, -⟩, h4⟩
    exact ⟨⟨ia, ic, fa, fc, h1, h2, h3⟩, h4⟩
  have HX : Hid (w1.alloc (.cells #[.string ⟨#[97, 114, 101, 97]⟩, .string ⟨#[98, 97, 115, 101]⟩, .string ⟨#[98, 114]⟩, .string ⟨#[99, 111, 108]⟩, .string ⟨#[101, 109, 98, 101, 100]⟩, .string ⟨#[105, 109, 103]⟩, .string ⟨#[105, 110, 112, 117, 116]⟩, .string ⟨#[108, 105, 110, 107]⟩, .string ⟨#[109, 101, 116, 97]⟩, .string ⟨#[115, 111, 117, 114, 99, 101]⟩, .string ⟨#[116, 114, 97, 99, 107]⟩, .string ⟨#[119, 98, 114]⟩] 9) = X) := hX
  have HN : Hid (w1.heap.size + 1 = N) := hN
  have HV : Hid (X.alloc (.cells #[.int .u8 1, .string ⟨#[108, 105, 110, 107]⟩, .slice none 0 0, .bool false, .string ⟨#[]⟩, .int .i64 0, .int .u8 3, .string ⟨#[]⟩, .slice none 0 0, .bool false, .string a1, .int .i64 0, .int .u8 2, .string ⟨#[108, 105, 110, 107]⟩, .slice none 0 0, .bool false, .string ⟨#[]⟩, .int .i64 0] 43) = V) := hV
  have HKV : Hid (Kept (fun k => k < w.heap.size) w V) := HK1.out.trans ((kX.mono fun k h => Nat.lt_of_lt_of_le h HK1.out.size).trans (kV.mono fun k h => Nat.lt_of_lt_of_le (Nat.lt_of_lt_of_le h HK1.out.size) kX.size))
  clear r2 hX hN kX sX hV kV hT HK1
  go_wp2_with fail
  rw [HX.out, HN.out, HV.out]
  refine r2'.mono ?_
  rintro e w2 ⟨⟨ia, ic, fa, fc, rfl, hI, hF⟩, k2⟩
  have HK2 : Hid (Kept (fun k => k < w.heap.size) w w2) := HKV.out.trans (k2.mono fun k h => Nat.lt_of_lt_of_le h HKV.out.size)
  obtain ⟨gf, hgf, cf⟩ := flt0 hF
  obtain ⟨g, aa1, ac1, hg, -, -, -, c1⟩ := hI 0 (by simp)
  obtain ⟨g2, aa2, ac2, hg2, -, -, -, c2⟩ := hI 1 (by simp)
  subst hgf
  subst hg
  injection hg2 with hg2
  injection hg2 with hg2
  subst hg2
  have m0 : w2.cell? ⟨gf, 0, none⟩ = some (.int .u8 8) := cf
  have m1 : w2.cell? ⟨g, 0, none⟩ = some (.int .i64 0) := c1 0 _ rfl
  have m2 : w2.cell? ⟨g, 5, none⟩ = some (.int .i64 0) := c2 0 _ rfl
  clear r2' hI hF k2 cf c1 c2 HX HN HV HKV HA1
  go_wp2
  go_ret
  exact ⟨rfl, HK2.out⟩

theorem vb8 (c : UInt8) (r : List UInt8) : buildL [⟨1, [109, 101, 116, 97], [], false, [], 0⟩, ⟨3, [], [], false, c :: r, 0⟩, ⟨2, [109, 101, 116, 97], [], false, [], 0⟩] = some ⟨[⟨0, 1, [109, 101, 116, 97], [], []⟩, ⟨0, 2, [], [], c :: r⟩], [⟨8, 0⟩], []⟩ := rfl

set_option maxRecDepth 20000 in
set_option maxHeartbeats 1000000 in
theorem void8 (a0 : Int) (a1 : ByteArray) (hm : a0.tmod 12 = 8) (hz : a1.size ≤ 100) (h0 : (a1.toList == []) = false) (w : World) :
    Calls Try.prog 6 #[.int .u8 a0, .string a1] w fun e w' => e = .returned (.bool true) ∧ Kept (fun k => k < w.heap.size) w w' := by
  have hz' : decide ((a1.size : Int) > 100) = false := decide_eq_false (by omega)
  have rk := known_any w
  obtain ⟨c, r, hcr⟩ : ∃ c r, a1.toList = c :: r := by
    cases h : a1.toList with
    | nil => rw [h] at h0; cases h0
    | cons c r => exact ⟨c, r, rfl⟩
  have ha1 : a1 = ⟨(c :: r).toArray⟩ := by rw [← hcr, ByteArray.toList_eq]
  have HA1 : Hid (a1 = ⟨(c :: r).toArray⟩) := ha1
  clear ha1 hcr
  go_enter Try.func6, Try.ntmps6
  go_wp2_with fail
  refine rk.mono ?_
  rintro e w1 ⟨rfl, k1⟩
  have HK1 : Hid (Kept (fun k => k < w.heap.size) w w1) := k1
  clear rk k1
  obtain ⟨X, hX⟩ : ∃ X, w1.alloc (.cells #[.string ⟨#[97, 114, 101, 97]⟩, .string ⟨#[98, 97, 115, 101]⟩, .string ⟨#[98, 114]⟩, .string ⟨#[99, 111, 108]⟩, .string ⟨#[101, 109, 98, 101, 100]⟩, .string ⟨#[105, 109, 103]⟩, .string ⟨#[105, 110, 112, 117, 116]⟩, .string ⟨#[108, 105, 110, 107]⟩, .string ⟨#[109, 101, 116, 97]⟩, .string ⟨#[115, 111, 117, 114, 99, 101]⟩, .string ⟨#[116, 114, 97, 99, 107]⟩, .string ⟨#[119, 98, 114]⟩] 9) = X := ⟨_, rfl⟩
  obtain ⟨N, hN⟩ : ∃ N, w1.heap.size + 1 = N := ⟨_, rfl⟩
  have kX : Kept (fun k => k < w1.heap.size) w1 X := by rw [← hX]; exact (Kept.refl _ w1).alloc (fun _ h => h) _
  have sX : X.heap.size = N := by rw [← hX, ← hN]; simp
  obtain ⟨V, hV⟩ : ∃ V, X.alloc (.cells #[.int .u8 1, .string ⟨#[109, 101, 116, 97]⟩, .slice none 0 0, .bool false, .string ⟨#[]⟩, .int .i64 0, .int .u8 3, .string ⟨#[]⟩, .slice none 0 0, .bool false, .string a1, .int .i64 0, .int .u8 2, .string ⟨#[109, 101, 116, 97]⟩, .slice none 0 0, .bool false, .string ⟨#[]⟩, .int .i64 0] 43) = V := ⟨_, rfl⟩
  have kV : Kept (fun k => k < X.heap.size) X V := by rw [← hV]; exact (Kept.refl _ X).alloc (fun _ h => h) _
  have hT : ToksIn (fun k => k < V.heap.size) V (some ⟨N, 0, none⟩) [⟨1, [109, 101, 116, 97], [], false, [], 0⟩, ⟨3, [], [], false, c :: r, 0⟩, ⟨2, [109, 101, 116, 97], [], false, [], 0⟩] := by
    rw [← hV]
    exact toks_new X N _ _ (by simp) sX (by rw [HA1.out]; rfl)
  have r2 := build_any [⟨1, [109, 101, 116, 97], [], false, [], 0⟩, ⟨3, [], [], false, c :: r, 0⟩, ⟨2, [109, 101, 116, 97], [], false, [], 0⟩] (some ⟨N, 0, none⟩) 3 3 rfl (by decide) (by show 6 ≤ 600000; decide) (by intro t ht; simp at ht; rcases ht with rfl | rfl | rfl <;> intro x hx <;> cases hx) V hT
  rw [vb8] at r2
  have r2' : Calls Try.prog 11 #[.slice (some ⟨N, 0, none⟩) 3 3] V fun e w' => (∃ ia ic fa fc, e = .returned (.tuple #[.slice ia 2 ic, .slice fa 1 fc, .int .u16 0]) ∧ ItsIn w' ia [⟨0, 1, [109, 101, 116, 97], [], []⟩, ⟨0, 2, [], [], c :: r⟩] ∧ FltsIn (fun k => k < w'.heap.size) w' fa [⟨8, 0⟩]) ∧ Kept (fun k => k < V.heap.size) V w' := by
    refine r2.mono ?_
    rintro e w' ⟨⟨ia, ic, fa, fc, h1, h2, h3, -⟩, h4⟩
    exact ⟨⟨ia, ic, fa, fc, h1, h2, h3⟩, h4⟩
  have HX : Hid (w1.alloc (.cells #[.string ⟨#[97, 114, 101, 97]⟩, .string ⟨#[98, 97, 115, 101]⟩, .string ⟨#[98, 114]⟩, .string ⟨#[99, 111, 108]⟩, .string ⟨#[101, 109, 98, 101, 100]⟩, .string ⟨#[105, 109, 103]⟩, .string ⟨#[105, 110, 112, 117, 116]⟩, .string ⟨#[108, 105, 110, 107]⟩, .string ⟨#[109, 101, 116, 97]⟩, .string ⟨#[115, 111, 117, 114, 99, 101]⟩, .string ⟨#[116, 114, 97, 99, 107]⟩, .string ⟨#[119, 98, 114]⟩] 9) = X) := hX
  have HN : Hid (w1.heap.size + 1 = N) := hN
  have HV : Hid (X.alloc (.cells #[.int .u8 1, .string ⟨#[109, 101, 116, 97]⟩, .slice none 0 0, .bool false, .string ⟨#[]⟩, .int .i64 0, .int .u8 3, .string ⟨#[]⟩, .slice none 0 0, .bool false, .string a1, .int .i64 0, .int .u8 2, .string ⟨#[109, 101, 116, 97]⟩, .slice none 0 0, .bool false, .string ⟨#[]⟩, .int .i64 0] 43) = V) := hV
  have HKV : Hid (Kept (fun k => k < w.heap.size) w V) := HK1.out.trans ((kX.mono fun k h => Nat.lt_of_lt_of_le h HK1.out.size).trans (kV.mono fun k h => Nat.lt_of_lt_of_le (Nat.lt_of_lt_of_le h HK1.out.size) kX.size))
  clear r2 hX hN kX sX hV kV hT HK1
  go_wp2_with fail
  rw [HX.out, HN.out, HV.out]
  refine r2'.mono ?_
  rintro e w2 ⟨⟨ia, ic, fa, fc, rfl, hI, hF⟩, k2⟩
  have HK2 : Hid (Kept (fun k => k < w.heap.size) w w2) := HKV.out.trans (k2.mono fun k h => Nat.lt_of_lt_of_le h HKV.out.size)
  obtain ⟨gf, hgf, cf⟩ := flt0 hF
  obtain ⟨g, aa1, ac1, hg, -, -, -, c1⟩ := hI 0 (by simp)
  obtain ⟨g2, aa2, ac2, hg2, -, -, -, c2⟩ := hI 1 (by simp)
  subst hgf
  subst hg
  injection hg2 with hg2
  injection hg2 with hg2
  subst hg2
  have m0 : w2.cell? ⟨gf, 0, none⟩ = some (.int .u8 8) := cf
  have m1 : w2.cell? ⟨g, 0, none⟩ = some (.int .i64 0) := c1 0 _ rfl
  have m2 : w2.cell? ⟨g, 5, none⟩ = some (.int .i64 0) := c2 0 _ rfl
  clear r2' hI hF k2 cf c1 c2 HX HN HV HKV HA1
  go_wp2
  go_ret
  exact ⟨rfl, HK2.out⟩

theorem vb9 (c : UInt8) (r : List UInt8) : buildL [⟨1, [115, 111, 117, 114, 99, 101], [], false, [], 0⟩, ⟨3, [], [], false, c :: r, 0⟩, ⟨2, [115, 111, 117, 114, 99, 101], [], false, [], 0⟩] = some ⟨[⟨0, 1, [115, 111, 117, 114, 99, 101], [], []⟩, ⟨0, 2, [], [], c :: r⟩], [⟨8, 0⟩], []⟩ := rfl

set_option maxRecDepth 20000 in
set_option maxHeartbeats 1000000 in
theorem void9 (a0 : Int) (a1 : ByteArray) (hm : a0.tmod 12 = 9) (hz : a1.size ≤ 100) (h0 : (a1.toList == []) = false) (w : World) :
    Calls Try.prog 6 #[.int .u8 a0, .string a1] w fun e w' => e = .returned (.bool true) ∧ Kept (fun k => k < w.heap.size) w w' := by
  have hz' : decide ((a1.size : Int) > 100) = false := decide_eq_false (by omega)
  have rk := known_any w
  obtain ⟨c, r, hcr⟩ : ∃ c r, a1.toList = c :: r := by
    cases h : a1.toList with
    | nil => rw [h] at h0; cases h0
    | cons c r => exact ⟨c, r, rfl⟩
  have ha1 : a1 = ⟨(c :: r).toArray⟩ := by rw [← hcr, ByteArray.toList_eq]
  have HA1 : Hid (a1 = ⟨(c :: r).toArray⟩) := ha1
  clear ha1 hcr
  go_enter Try.func6, Try.ntmps6
  go_wp2_with fail
  refine rk.mono ?_
  rintro e w1 ⟨rfl, k1⟩
  have HK1 : Hid (Kept (fun k => k < w.heap.size) w w1) := k1
  clear rk k1
  obtain ⟨X, hX⟩ : ∃ X, w1.alloc (.cells #[.string ⟨#[97, 114, 101, 97]⟩, .string ⟨#[98, 97, 115, 101]⟩, .string ⟨#[98, 114]⟩, .string ⟨#[99, 111, 108]⟩, .string ⟨#[101, 109, 98, 101, 100]⟩, .string ⟨#[105, 109, 103]⟩, .string ⟨#[105, 110, 112, 117, 116]⟩, .string ⟨#[108, 105, 110, 107]⟩, .string ⟨#[109, 101, 116, 97]⟩, .string ⟨#[115, 111, 117, 114, 99, 101]⟩, .string ⟨#[116, 114, 97, 99, 107]⟩, .string ⟨#[119, 98, 114]⟩] 9) = X := ⟨_, rfl⟩
  obtain ⟨N, hN⟩ : ∃ N, w1.heap.size + 1 = N := ⟨_, rfl⟩
  have kX : Kept (fun k => k < w1.heap.size) w1 X := by rw [← hX]; exact (Kept.refl _ w1).alloc (fun _ h => h) _
  have sX : X.heap.size = N := by rw [← hX, ← hN]; simp
  obtain ⟨V, hV⟩ : ∃ V, X.alloc (.cells #[.int .u8 1, .string ⟨#[115, 111, 117, 114, 99, 101]⟩, .slice none 0 0, .bool false, .string ⟨#[]⟩, .int .i64 0, .int .u8 3, .string ⟨#[]⟩, .slice none 0 0, .bool false, .string a1, .int .i64 0, .int .u8 2, .string ⟨#[115, 111, 117, 114, 99, 101]⟩, .slice none 0 0, .bool false, .string ⟨#[]⟩, .int .i64 0] 43) = V := ⟨_, rfl⟩
  have kV : Kept (fun k => k < X.heap.size) X V := by rw [← hV]; exact (Kept.refl _ X).alloc (fun _ h => h) _
  have hT : ToksIn (fun k => k < V.heap.size) V (some ⟨N, 0, none⟩) [⟨1, [115, 111, 117, 114, 99, 101], [], false, [], 0⟩, ⟨3, [], [], false, c :: r, 0⟩, ⟨2, [115, 111, 117, 114, 99, 101], [], false, [], 0⟩] := by
    rw [← hV]
    exact toks_new X N _ _ (by simp) sX (by rw [HA1.out]; rfl)
  have r2 := build_any [⟨1, [115, 111, 117, 114, 99, 101], [], false, [], 0⟩, ⟨3, [], [], false, c :: r, 0⟩, ⟨2, [115, 111, 117, 114, 99, 101], [], false, [], 0⟩] (some ⟨N, 0, none⟩) 3 3 rfl (by decide) (by show 6 ≤ 600000; decide) (by intro t ht; simp at ht; rcases ht with rfl | rfl | rfl <;> intro x hx <;> cases hx) V hT
  rw [vb9] at r2
  have r2' : Calls Try.prog 11 #[.slice (some ⟨N, 0, none⟩) 3 3] V fun e w' => (∃ ia ic fa fc, e = .returned (.tuple #[.slice ia 2 ic, .slice fa 1 fc, .int .u16 0]) ∧ ItsIn w' ia [⟨0, 1, [115, 111, 117, 114, 99, 101], [], []⟩, ⟨0, 2, [], [], c :: r⟩] ∧ FltsIn (fun k => k < w'.heap.size) w' fa [⟨8, 0⟩]) ∧ Kept (fun k => k < V.heap.size) V w' := by
    refine r2.mono ?_
    rintro e w' ⟨⟨ia, ic, fa, fc, h1, h2, h3, -⟩, h4⟩
    exact ⟨⟨ia, ic, fa, fc, h1, h2, h3⟩, h4⟩
  have HX : Hid (w1.alloc (.cells #[.string ⟨#[97, 114, 101, 97]⟩, .string ⟨#[98, 97, 115, 101]⟩, .string ⟨#[98, 114]⟩, .string ⟨#[99, 111, 108]⟩, .string ⟨#[101, 109, 98, 101, 100]⟩, .string ⟨#[105, 109, 103]⟩, .string ⟨#[105, 110, 112, 117, 116]⟩, .string ⟨#[108, 105, 110, 107]⟩, .string ⟨#[109, 101, 116, 97]⟩, .string ⟨#[115, 111, 117, 114, 99, 101]⟩, .string ⟨#[116, 114, 97, 99, 107]⟩, .string ⟨#[119, 98, 114]⟩] 9) = X) := hX
  have HN : Hid (w1.heap.size + 1 = N) := hN
  have HV : Hid (X.alloc (.cells #[.int .u8 1, .string ⟨#[115, 111, 117, 114, 99, 101]⟩, .slice none 0 0, .bool false, .string ⟨#[]⟩, .int .i64 0, .int .u8 3, .string ⟨#[]⟩, .slice none 0 0, .bool false, .string a1, .int .i64 0, .int .u8 2, .string ⟨#[115, 111, 117, 114, 99, 101]⟩, .slice none 0 0, .bool false, .string ⟨#[]⟩, .int .i64 0] 43) = V) := hV
  have HKV : Hid (Kept (fun k => k < w.heap.size) w V) := HK1.out.trans ((kX.mono fun k h => Nat.lt_of_lt_of_le h HK1.out.size).trans (kV.mono fun k h => Nat.lt_of_lt_of_le (Nat.lt_of_lt_of_le h HK1.out.size) kX.size))
  clear r2 hX hN kX sX hV kV hT HK1
  go_wp2_with fail
  rw [HX.out, HN.out, HV.out]
  refine r2'.mono ?_
  rintro e w2 ⟨⟨ia, ic, fa, fc, rfl, hI, hF⟩, k2⟩
  have HK2 : Hid (Kept (fun k => k < w.heap.size) w w2) := HKV.out.trans (k2.mono fun k h => Nat.lt_of_lt_of_le h HKV.out.size)
  obtain ⟨gf, hgf, cf⟩ := flt0 hF
  obtain ⟨g, aa1, ac1, hg, -, -, -, c1⟩ := hI 0 (by simp)
  obtain ⟨g2, aa2, ac2, hg2, -, -, -, c2⟩ := hI 1 (by simp)
  subst hgf
  subst hg
  injection hg2 with hg2
  injection hg2 with hg2
  subst hg2
  have m0 : w2.cell? ⟨gf, 0, none⟩ = some (.int .u8 8) := cf
  have m1 : w2.cell? ⟨g, 0, none⟩ = some (.int .i64 0) := c1 0 _ rfl
  have m2 : w2.cell? ⟨g, 5, none⟩ = some (.int .i64 0) := c2 0 _ rfl
  clear r2' hI hF k2 cf c1 c2 HX HN HV HKV HA1
  go_wp2
  go_ret
  exact ⟨rfl, HK2.out⟩

theorem vb10 (c : UInt8) (r : List UInt8) : buildL [⟨1, [116, 114, 97, 99, 107], [], false, [], 0⟩, ⟨3, [], [], false, c :: r, 0⟩, ⟨2, [116, 114, 97, 99, 107], [], false, [], 0⟩] = some ⟨[⟨0, 1, [116, 114, 97, 99, 107], [], []⟩, ⟨0, 2, [], [], c :: r⟩], [⟨8, 0⟩], []⟩ := rfl

set_option maxRecDepth 20000 in
set_option maxHeartbeats 1000000 in
theorem void10 (a0 : Int) (a1 : ByteArray) (hm : a0.tmod 12 = 10) (hz : a1.size ≤ 100) (h0 : (a1.toList == []) = false) (w : World) :
    Calls Try.prog 6 #[.int .u8 a0, .string a1] w fun e w' => e = .returned (.bool true) ∧ Kept (fun k => k < w.heap.size) w w' := by
  have hz' : decide ((a1.size : Int) > 100) = false := decide_eq_false (by omega)
  have rk := known_any w
  obtain ⟨c, r, hcr⟩ : ∃ c r, a1.toList = c :: r := by
    cases h : a1.toList with
    | nil => rw [h] at h0; cases h0
    | cons c r => exact ⟨c, r, rfl⟩
  have ha1 : a1 = ⟨(c :: r).toArray⟩ := by rw [← hcr, ByteArray.toList_eq]
  have HA1 : Hid (a1 = ⟨(c :: r).toArray⟩) := ha1
  clear ha1 hcr
  go_enter Try.func6, Try.ntmps6
  go_wp2_with fail
  refine rk.mono ?_
  rintro e w1 ⟨rfl, k1⟩
  have HK1 : Hid (Kept (fun k => k < w.heap.size) w w1) := k1
  clear rk k1
  obtain ⟨X, hX⟩ : ∃ X, w1.alloc (.cells #[.string ⟨#[97, 114, 101, 97]⟩, .string ⟨#[98, 97, 115, 101]⟩, .string ⟨#[98, 114]⟩, .string ⟨#[99, 111, 108]⟩, .string ⟨#[101, 109, 98, 101, 100]⟩, .string ⟨#[105, 109, 103]⟩, .string ⟨#[105, 110, 112, 117, 116]⟩, .string ⟨#[108, 105, 110, 107]⟩, .string ⟨#[109, 101, 116, 97]⟩, .string ⟨#[115, 111, 117, 114, 99, 101]⟩, .string ⟨#[116, 114, 97, 99, 107]⟩, .string ⟨#[119, 98, 114]⟩] 9) = X := ⟨_, rfl⟩
  obtain ⟨N, hN⟩ : ∃ N, w1.heap.size + 1 = N := ⟨_, rfl⟩
  have kX : Kept (fun k => k < w1.heap.size) w1 X := by rw [← hX]; exact (Kept.refl _ w1).alloc (fun _ h => h) _
  have sX : X.heap.size = N := by rw [← hX, ← hN]; simp
  obtain ⟨V, hV⟩ : ∃ V, X.alloc (.cells #[.int .u8 1, .string ⟨#[116, 114, 97, 99, 107]⟩, .slice none 0 0, .bool false, .string ⟨#[]⟩, .int .i64 0, .int .u8 3, .string ⟨#[]⟩, .slice none 0 0, .bool false, .string a1, .int .i64 0, .int .u8 2, .string ⟨#[116, 114, 97, 99, 107]⟩, .slice none 0 0, .bool false, .string ⟨#[]⟩, .int .i64 0] 43) = V := ⟨_, rfl⟩
  have kV : Kept (fun k => k < X.heap.size) X V := by rw [← hV]; exact (Kept.refl _ X).alloc (fun _ h => h) _
  have hT : ToksIn (fun k => k < V.heap.size) V (some ⟨N, 0, none⟩) [⟨1, [116, 114, 97, 99, 107], [], false, [], 0⟩, ⟨3, [], [], false, c :: r, 0⟩, ⟨2, [116, 114, 97, 99, 107], [], false, [], 0⟩] := by
    rw [← hV]
    exact toks_new X N _ _ (by simp) sX (by rw [HA1.out]; rfl)
  have r2 := build_any [⟨1, [116, 114, 97, 99, 107], [], false, [], 0⟩, ⟨3, [], [], false, c :: r, 0⟩, ⟨2, [116, 114, 97, 99, 107], [], false, [], 0⟩] (some ⟨N, 0, none⟩) 3 3 rfl (by decide) (by show 6 ≤ 600000; decide) (by intro t ht; simp at ht; rcases ht with rfl | rfl | rfl <;> intro x hx <;> cases hx) V hT
  rw [vb10] at r2
  have r2' : Calls Try.prog 11 #[.slice (some ⟨N, 0, none⟩) 3 3] V fun e w' => (∃ ia ic fa fc, e = .returned (.tuple #[.slice ia 2 ic, .slice fa 1 fc, .int .u16 0]) ∧ ItsIn w' ia [⟨0, 1, [116, 114, 97, 99, 107], [], []⟩, ⟨0, 2, [], [], c :: r⟩] ∧ FltsIn (fun k => k < w'.heap.size) w' fa [⟨8, 0⟩]) ∧ Kept (fun k => k < V.heap.size) V w' := by
    refine r2.mono ?_
    rintro e w' ⟨⟨ia, ic, fa, fc, h1, h2, h3, -⟩, h4⟩
    exact ⟨⟨ia, ic, fa, fc, h1, h2, h3⟩, h4⟩
  have HX : Hid (w1.alloc (.cells #[.string ⟨#[97, 114, 101, 97]⟩, .string ⟨#[98, 97, 115, 101]⟩, .string ⟨#[98, 114]⟩, .string ⟨#[99, 111, 108]⟩, .string ⟨#[101, 109, 98, 101, 100]⟩, .string ⟨#[105, 109, 103]⟩, .string ⟨#[105, 110, 112, 117, 116]⟩, .string ⟨#[108, 105, 110, 107]⟩, .string ⟨#[109, 101, 116, 97]⟩, .string ⟨#[115, 111, 117, 114, 99, 101]⟩, .string ⟨#[116, 114, 97, 99, 107]⟩, .string ⟨#[119, 98, 114]⟩] 9) = X) := hX
  have HN : Hid (w1.heap.size + 1 = N) := hN
  have HV : Hid (X.alloc (.cells #[.int .u8 1, .string ⟨#[116, 114, 97, 99, 107]⟩, .slice none 0 0, .bool false, .string ⟨#[]⟩, .int .i64 0, .int .u8 3, .string ⟨#[]⟩, .slice none 0 0, .bool false, .string a1, .int .i64 0, .int .u8 2, .string ⟨#[116, 114, 97, 99, 107]⟩, .slice none 0 0, .bool false, .string ⟨#[]⟩, .int .i64 0] 43) = V) := hV
  have HKV : Hid (Kept (fun k => k < w.heap.size) w V) := HK1.out.trans ((kX.mono fun k h => Nat.lt_of_lt_of_le h HK1.out.size).trans (kV.mono fun k h => Nat.lt_of_lt_of_le (Nat.lt_of_lt_of_le h HK1.out.size) kX.size))
  clear r2 hX hN kX sX hV kV hT HK1
  go_wp2_with fail
  rw [HX.out, HN.out, HV.out]
  refine r2'.mono ?_
  rintro e w2 ⟨⟨ia, ic, fa, fc, rfl, hI, hF⟩, k2⟩
  have HK2 : Hid (Kept (fun k => k < w.heap.size) w w2) := HKV.out.trans (k2.mono fun k h => Nat.lt_of_lt_of_le h HKV.out.size)
  obtain ⟨gf, hgf, cf⟩ := flt0 hF
  obtain ⟨g, aa1, ac1, hg, -, -, -, c1⟩ := hI 0 (by simp)
  obtain ⟨g2, aa2, ac2, hg2, -, -, -, c2⟩ := hI 1 (by simp)
  subst hgf
  subst hg
  injection hg2 with hg2
  injection hg2 with hg2
  subst hg2
  have m0 : w2.cell? ⟨gf, 0, none⟩ = some (.int .u8 8) := cf
  have m1 : w2.cell? ⟨g, 0, none⟩ = some (.int .i64 0) := c1 0 _ rfl
  have m2 : w2.cell? ⟨g, 5, none⟩ = some (.int .i64 0) := c2 0 _ rfl
  clear r2' hI hF k2 cf c1 c2 HX HN HV HKV HA1
  go_wp2
  go_ret
  exact ⟨rfl, HK2.out⟩

theorem vb11 (c : UInt8) (r : List UInt8) : buildL [⟨1, [119, 98, 114], [], false, [], 0⟩, ⟨3, [], [], false, c :: r, 0⟩, ⟨2, [119, 98, 114], [], false, [], 0⟩] = some ⟨[⟨0, 1, [119, 98, 114], [], []⟩, ⟨0, 2, [], [], c :: r⟩], [⟨8, 0⟩], []⟩ := rfl

set_option maxRecDepth 20000 in
set_option maxHeartbeats 1000000 in
theorem void11 (a0 : Int) (a1 : ByteArray) (hm : a0.tmod 12 = 11) (hz : a1.size ≤ 100) (h0 : (a1.toList == []) = false) (w : World) :
    Calls Try.prog 6 #[.int .u8 a0, .string a1] w fun e w' => e = .returned (.bool true) ∧ Kept (fun k => k < w.heap.size) w w' := by
  have hz' : decide ((a1.size : Int) > 100) = false := decide_eq_false (by omega)
  have rk := known_any w
  obtain ⟨c, r, hcr⟩ : ∃ c r, a1.toList = c :: r := by
    cases h : a1.toList with
    | nil => rw [h] at h0; cases h0
    | cons c r => exact ⟨c, r, rfl⟩
  have ha1 : a1 = ⟨(c :: r).toArray⟩ := by rw [← hcr, ByteArray.toList_eq]
  have HA1 : Hid (a1 = ⟨(c :: r).toArray⟩) := ha1
  clear ha1 hcr
  go_enter Try.func6, Try.ntmps6
  go_wp2_with fail
  refine rk.mono ?_
  rintro e w1 ⟨rfl, k1⟩
  have HK1 : Hid (Kept (fun k => k < w.heap.size) w w1) := k1
  clear rk k1
  obtain ⟨X, hX⟩ : ∃ X, w1.alloc (.cells #[.string ⟨#[97, 114, 101, 97]⟩, .string ⟨#[98, 97, 115, 101]⟩, .string ⟨#[98, 114]⟩, .string ⟨#[99, 111, 108]⟩, .string ⟨#[101, 109, 98, 101, 100]⟩, .string ⟨#[105, 109, 103]⟩, .string ⟨#[105, 110, 112, 117, 116]⟩, .string ⟨#[108, 105, 110, 107]⟩, .string ⟨#[109, 101, 116, 97]⟩, .string ⟨#[115, 111, 117, 114, 99, 101]⟩, .string ⟨#[116, 114, 97, 99, 107]⟩, .string ⟨#[119, 98, 114]⟩] 9) = X := ⟨_, rfl⟩
  obtain ⟨N, hN⟩ : ∃ N, w1.heap.size + 1 = N := ⟨_, rfl⟩
  have kX : Kept (fun k => k < w1.heap.size) w1 X := by rw [← hX]; exact (Kept.refl _ w1).alloc (fun _ h => h) _
  have sX : X.heap.size = N := by rw [← hX, ← hN]; simp
  obtain ⟨V, hV⟩ : ∃ V, X.alloc (.cells #[.int .u8 1, .string ⟨#[119, 98, 114]⟩, .slice none 0 0, .bool false, .string ⟨#[]⟩, .int .i64 0, .int .u8 3, .string ⟨#[]⟩, .slice none 0 0, .bool false, .string a1, .int .i64 0, .int .u8 2, .string ⟨#[119, 98, 114]⟩, .slice none 0 0, .bool false, .string ⟨#[]⟩, .int .i64 0] 43) = V := ⟨_, rfl⟩
  have kV : Kept (fun k => k < X.heap.size) X V := by rw [← hV]; exact (Kept.refl _ X).alloc (fun _ h => h) _
  have hT : ToksIn (fun k => k < V.heap.size) V (some ⟨N, 0, none⟩) [⟨1, [119, 98, 114], [], false, [], 0⟩, ⟨3, [], [], false, c :: r, 0⟩, ⟨2, [119, 98, 114], [], false, [], 0⟩] := by
    rw [← hV]
    exact toks_new X N _ _ (by simp) sX (by rw [HA1.out]; rfl)
  have r2 := build_any [⟨1, [119, 98, 114], [], false, [], 0⟩, ⟨3, [], [], false, c :: r, 0⟩, ⟨2, [119, 98, 114], [], false, [], 0⟩] (some ⟨N, 0, none⟩) 3 3 rfl (by decide) (by show 6 ≤ 600000; decide) (by intro t ht; simp at ht; rcases ht with rfl | rfl | rfl <;> intro x hx <;> cases hx) V hT
  rw [vb11] at r2
  have r2' : Calls Try.prog 11 #[.slice (some ⟨N, 0, none⟩) 3 3] V fun e w' => (∃ ia ic fa fc, e = .returned (.tuple #[.slice ia 2 ic, .slice fa 1 fc, .int .u16 0]) ∧ ItsIn w' ia [⟨0, 1, [119, 98, 114], [], []⟩, ⟨0, 2, [], [], c :: r⟩] ∧ FltsIn (fun k => k < w'.heap.size) w' fa [⟨8, 0⟩]) ∧ Kept (fun k => k < V.heap.size) V w' := by
    refine r2.mono ?_
    rintro e w' ⟨⟨ia, ic, fa, fc, h1, h2, h3, -⟩, h4⟩
    exact ⟨⟨ia, ic, fa, fc, h1, h2, h3⟩, h4⟩
  have HX : Hid (w1.alloc (.cells #[.string ⟨#[97, 114, 101, 97]⟩, .string ⟨#[98, 97, 115, 101]⟩, .string ⟨#[98, 114]⟩, .string ⟨#[99, 111, 108]⟩, .string ⟨#[101, 109, 98, 101, 100]⟩, .string ⟨#[105, 109, 103]⟩, .string ⟨#[105, 110, 112, 117, 116]⟩, .string ⟨#[108, 105, 110, 107]⟩, .string ⟨#[109, 101, 116, 97]⟩, .string ⟨#[115, 111, 117, 114, 99, 101]⟩, .string ⟨#[116, 114, 97, 99, 107]⟩, .string ⟨#[119, 98, 114]⟩] 9) = X) := hX
  have HN : Hid (w1.heap.size + 1 = N) := hN
  have HV : Hid (X.alloc (.cells #[.int .u8 1, .string ⟨#[119, 98, 114]⟩, .slice none 0 0, .bool false, .string ⟨#[]⟩, .int .i64 0, .int .u8 3, .string ⟨#[]⟩, .slice none 0 0, .bool false, .string a1, .int .i64 0, .int .u8 2, .string ⟨#[119, 98, 114]⟩, .slice none 0 0, .bool false, .string ⟨#[]⟩, .int .i64 0] 43) = V) := hV
  have HKV : Hid (Kept (fun k => k < w.heap.size) w V) := HK1.out.trans ((kX.mono fun k h => Nat.lt_of_lt_of_le h HK1.out.size).trans (kV.mono fun k h => Nat.lt_of_lt_of_le (Nat.lt_of_lt_of_le h HK1.out.size) kX.size))
  clear r2 hX hN kX sX hV kV hT HK1
  go_wp2_with fail
  rw [HX.out, HN.out, HV.out]
  refine r2'.mono ?_
  rintro e w2 ⟨⟨ia, ic, fa, fc, rfl, hI, hF⟩, k2⟩
  have HK2 : Hid (Kept (fun k => k < w.heap.size) w w2) := HKV.out.trans (k2.mono fun k h => Nat.lt_of_lt_of_le h HKV.out.size)
  obtain ⟨gf, hgf, cf⟩ := flt0 hF
  obtain ⟨g, aa1, ac1, hg, -, -, -, c1⟩ := hI 0 (by simp)
  obtain ⟨g2, aa2, ac2, hg2, -, -, -, c2⟩ := hI 1 (by simp)
  subst hgf
  subst hg
  injection hg2 with hg2
  injection hg2 with hg2
  subst hg2
  have m0 : w2.cell? ⟨gf, 0, none⟩ = some (.int .u8 8) := cf
  have m1 : w2.cell? ⟨g, 0, none⟩ = some (.int .i64 0) := c1 0 _ rfl
  have m2 : w2.cell? ⟨g, 5, none⟩ = some (.int .i64 0) := c2 0 _ rfl
  clear r2' hI hF k2 cf c1 c2 HX HN HV HKV HA1
  go_wp2
  go_ret
  exact ⟨rfl, HK2.out⟩
end Go.Proofs.Ytffllhohlfblnaa
