/-
  TreeEnds: the walk.
-/
import Derived.Test.YtffllhohlfblnabEn
import Derived.Test.YtffllhohlfblnabTl
import Derived.Test.YtffllhohlfblnabED
namespace Go.Proofs.Ytffllhohlfblnab
open Go.RowKit Go.Sort

/-- Bytes that came in, at a slice. -/
def RowAt (w : World) (a : Option Addr) (n : Nat) (z : Nat → Int) : Prop :=
  n = 0 ∨ ∃ g o, a = some ⟨g, o, none⟩ ∧ g < w.heap.size ∧ ∀ i, i < n → w.cell? ⟨g, o + i, none⟩ = some (.int .u8 (z i)) ∧ 0 ≤ z i ∧ z i ≤ 255
theorem TOwn.alloc {w0 w : World} {la : Option Addr} {n cap : Nat} {l : List Tk} (h : TOwn w0 w la n cap l) (o : Obj) : TOwn w0 (w.alloc o) la n cap l := by
  have kW : Kept (fun k => k < w.heap.size) w (w.alloc o) := (Kept.refl _ w).alloc (fun _ h => h) _
  exact ⟨h.own.to (fun g hg => (h.own.out hg).1) (fun g hg => kW.block g (h.own.out hg).2), h.len, h.plain, h.kept.trans (kW.mono fun k hk => Nat.lt_of_lt_of_le hk h.kept.size)⟩
/-- Which names are asked for. -/
def nsL (z : Nat → Int) (n : Nat) : List Nat := (List.range n).map fun i => (z i % 9).toNat
theorem nsL_succ (z : Nat → Int) (n : Nat) : nsL z (n + 1) = nsL z n ++ [(z n % 9).toNat] := by
  unfold nsL
  rw [List.range_succ, List.map_append]
  rfl
theorem nsL_lt (z : Nat → Int) (n : Nat) : ∀ x ∈ nsL z n, x < 9 := by
  intro x hx
  obtain ⟨i, _, rfl⟩ := List.mem_map.1 hx
  omega
theorem nsL_len (z : Nat → Int) (n : Nat) : (nsL z n).length = n := by simp [nsL]
def toksE (z : Nat → Int) (n : Nat) (d : List UInt8) : List Tk := (nsL z n).flatMap fun x => enT x d
theorem toksE_succ (z : Nat → Int) (n : Nat) (d : List UInt8) : toksE z (n + 1) d = toksE z n d ++ enT (z n % 9).toNat d := by
  unfold toksE
  rw [nsL_succ, List.flatMap_append]
  simp

set_option maxRecDepth 20000 in
set_option maxHeartbeats 4000000 in
theorem ends_any (a0 : Option Addr) (n cap0 : Nat) (z : Nat → Int) (a1 : ByteArray) (w : World) (h0 : RowAt w a0 n z) :
    Calls Try.prog 5 #[.slice a0 n cap0, .string a1] w fun e w' => e = .returned (.bool true) ∧ Kept (fun k => k < w.heap.size) w w' := by
  have rk := known_any w
  have early : (decide ((n : Int) > 200) = true ∨ decide ((a1.size : Int) > 100) = true ∨ (a1.toList == []) = true) → Calls Try.prog 5 #[.slice a0 n cap0, .string a1] w fun e w' => e = .returned (.bool true) ∧ Kept (fun k => k < w.heap.size) w w' := by
    intro hh
    by_cases q1 : decide ((n : Int) > 200) = true
    · clear hh h0
      go_enter Try.func5, Try.ntmps5
      go_wp2_with fail
      refine rk.mono ?_
      rintro e w1 ⟨rfl, k1⟩
      clear rk
      go_wp2
      go_ret
      exact ⟨rfl, k1⟩
    · have q1' : decide ((n : Int) > 200) = false := by simpa using q1
      by_cases q2 : decide ((a1.size : Int) > 100) = true
      · clear hh h0
        go_enter Try.func5, Try.ntmps5
        go_wp2_with fail
        refine rk.mono ?_
        rintro e w1 ⟨rfl, k1⟩
        clear rk
        go_wp2
        go_ret
        exact ⟨rfl, k1⟩
      · have q2' : decide ((a1.size : Int) > 100) = false := by simpa using q2
        have q3 : (a1.toList == []) = true := by
          rcases hh with hh | hh | hh
          · exact absurd hh q1
          · exact absurd hh q2
          · exact hh
        clear hh h0
        go_enter Try.func5, Try.ntmps5
        go_wp2_with fail
        refine rk.mono ?_
        rintro e w1 ⟨rfl, k1⟩
        clear rk
        go_wp2
        go_ret
        exact ⟨rfl, k1⟩
  by_cases q1 : n ≤ 200
  · by_cases q2 : a1.size ≤ 100
    · by_cases q3 : (a1.toList == []) = true
      · exact early (.inr (.inr q3))
      · have q1' : decide ((n : Int) > 200) = false := decide_eq_false (by omega)
        have q2' : decide ((a1.size : Int) > 100) = false := decide_eq_false (by omega)
        have q3' : (a1.toList == []) = false := by simpa using q3
        obtain ⟨c, r, hcr⟩ : ∃ c r, a1.toList = c :: r := by
          cases h : a1.toList with
          | nil => rw [h] at q3'; cases q3'
          | cons c r => exact ⟨c, r, rfl⟩
        have ha1 : a1 = ⟨(c :: r).toArray⟩ := by rw [← hcr, ByteArray.toList_eq]
        have HA1 : Hid (a1 = ⟨(c :: r).toArray⟩) := ha1
        have hb := en_build c r (nsL z n) [] (nsL_lt z n) (by rw [nsL_len]; show 0 + _ ≤ _; omega) (Nat.zero_le _)
        have HB : Hid (buildL (toksE z n (c :: r)) = some ⟨(nsL z n).flatMap fun x => enI x (c :: r), [], []⟩) := hb
        have HLEN : Hid (((nsL z n).flatMap fun x => enI x (c :: r)).length = 2 * n) := by show _ = _; rw [en_len, nsL_len]
        have H0 : Hid (RowAt w a0 n z) := h0
        clear early ha1 hcr hb h0 q3
        go_enter Try.func5, Try.ntmps5
        go_wp2_with fail
        refine rk.mono ?_
        rintro e w1 ⟨rfl, k1⟩
        have HK1 : Hid (Kept (fun k => k < w.heap.size) w w1) := k1
        clear rk k1
        go_upto_region 5 with fail
        go_loopg [6, 5] n (fun g v x wr => ∃ (k : Nat) (la : Option Addr) (m cap : Nat), g = n - k ∧ k ≤ n ∧ v = .int .i64 k ∧ x = .slice la m cap ∧ m = 3 * k ∧ TOwn w1 wr la m cap (toksE z k (c :: r)))
        case atStart => exact ⟨0, none, 0, 0, rfl, Nat.zero_le _, rfl, rfl, rfl, TOwn.nil w1⟩
        case round =>
          obtain ⟨k, la, m, cap, hgk, hk, rfl, rfl, hm3, hT⟩ := hrel
          by_cases hlt : k < n
          · obtain ⟨g, o, hg, hgl, hz⟩ : ∃ g o, a0 = some ⟨g, o, none⟩ ∧ g < w.heap.size ∧ ∀ i, i < n → w.cell? ⟨g, o + i, none⟩ = some (.int .u8 (z i)) ∧ 0 ≤ z i ∧ z i ≤ 255 := by
              rcases H0.out with h | h
              · omega
              · exact h
            subst hg
            obtain ⟨cz, hz0, hz1⟩ := hz k hlt
            have hkw : Kept (fun k => k < w.heap.size) w wr := HK1.out.trans (hT.kept.mono fun x hx => Nat.lt_of_lt_of_le hx HK1.out.size)
            have cz' : wr.cell? ⟨g, o + k, none⟩ = some (.int .u8 (z k)) := (hkw.cell (p := ⟨g, o + k, none⟩) hgl).trans cz
            have cza : ∀ oo, (wr.alloc oo).cell? ⟨g, o + k, none⟩ = some (.int .u8 (z k)) := fun oo => (Kept.cell ((Kept.refl (fun x => x < wr.heap.size) wr).alloc (fun _ h => h) oo) (p := ⟨g, o + k, none⟩) (Nat.lt_of_lt_of_le hgl hkw.size)).trans cz'
            obtain ⟨X, hX⟩ : ∃ X, wr.alloc (.cells #[.string ⟨#[100, 105, 118]⟩, .string ⟨#[115, 112, 97, 110]⟩, .string ⟨#[115, 101, 99, 116, 105, 111, 110]⟩, .string ⟨#[98]⟩, .string ⟨#[120, 45, 97]⟩, .string ⟨#[108, 105]⟩, .string ⟨#[112]⟩, .string ⟨#[97]⟩, .string ⟨#[104, 49]⟩] 9) = X := ⟨_, rfl⟩
            have hTX : TOwn w1 X la m cap (toksE z k (c :: r)) := by rw [← hX]; exact hT.alloc _
            have HX : Hid (wr.alloc (.cells #[.string ⟨#[100, 105, 118]⟩, .string ⟨#[115, 112, 97, 110]⟩, .string ⟨#[115, 101, 99, 116, 105, 111, 110]⟩, .string ⟨#[98]⟩, .string ⟨#[120, 45, 97]⟩, .string ⟨#[108, 105]⟩, .string ⟨#[112]⟩, .string ⟨#[97]⟩, .string ⟨#[104, 49]⟩] 9) = X) := hX
            have htm : (z k).tmod 9 = z k % 9 := Int.tmod_eq_emod_of_nonneg hz0
            have ht : decide ((k : Int) < (n : Int)) = true := decide_eq_true (by omega)
            have hmb : m ≤ 600 := by omega
            have hr : z k % 9 = 0 ∨ z k % 9 = 1 ∨ z k % 9 = 2 ∨ z k % 9 = 3 ∨ z k % 9 = 4 ∨ z k % 9 = 5 ∨ z k % 9 = 6 ∨ z k % 9 = 7 ∨ z k % 9 = 8 := by omega
            have HM3 : Hid (m = 3 * k) := hm3
            clear cz hz hkw hX hT hm3
            rcases hr with hr | hr | hr | hr | hr | hr | hr | hr | hr
            · obtain ⟨la', cap', w', hrun, hT'⟩ := hTX.app (by omega) 3 (by decide) (by decide) (enT 0 (c :: r)) rfl (by simp [enT]) #[.int .u8 1, .string ⟨#[100, 105, 118]⟩, .slice none 0 0, .bool false, .string ⟨#[]⟩, .int .i64 0, .int .u8 3, .string ⟨#[]⟩, .slice none 0 0, .bool false, .string a1, .int .i64 0, .int .u8 2, .string ⟨#[100, 105, 118]⟩, .slice none 0 0, .bool false, .string ⟨#[]⟩, .int .i64 0] (by rw [HA1.out]; rfl)
              have htr : (z k).tmod 9 = 0 := htm.trans hr
              have hT2 : TOwn w1 w' la' (m + 3) cap' (toksE z (k + 1) (c :: r)) := by
                rw [toksE_succ, hr]
                exact hT'
              have HT2 : Hid (TOwn w1 w' la' (m + 3) cap' (toksE z (k + 1) (c :: r))) := hT2
              clear hTX hT' hT2 htm hr
              go_upto_region 8 with fail
              rw [HX.out]
              go_wp2_with (at_builtin; refine wpList_appR (w' := w') rfl (.tmp 43) (.tmp 50) 29 29 rfl _ _ (.slice la' (m + 3) cap') rfl rfl hrun ?_)
              go_roundg (n - (k + 1))
              case rel => exact ⟨k + 1, la', m + 3, cap', rfl, by omega, by go_num, rfl, by have := HM3.out; omega, HT2.out⟩
              case measure => omega
            · obtain ⟨la', cap', w', hrun, hT'⟩ := hTX.app (by omega) 3 (by decide) (by decide) (enT 1 (c :: r)) rfl (by simp [enT]) #[.int .u8 1, .string ⟨#[115, 112, 97, 110]⟩, .slice none 0 0, .bool false, .string ⟨#[]⟩, .int .i64 0, .int .u8 3, .string ⟨#[]⟩, .slice none 0 0, .bool false, .string a1, .int .i64 0, .int .u8 2, .string ⟨#[115, 112, 97, 110]⟩, .slice none 0 0, .bool false, .string ⟨#[]⟩, .int .i64 0] (by rw [HA1.out]; rfl)
              have htr : (z k).tmod 9 = 1 := htm.trans hr
              have hT2 : TOwn w1 w' la' (m + 3) cap' (toksE z (k + 1) (c :: r)) := by
                rw [toksE_succ, hr]
                exact hT'
              have HT2 : Hid (TOwn w1 w' la' (m + 3) cap' (toksE z (k + 1) (c :: r))) := hT2
              clear hTX hT' hT2 htm hr
              go_upto_region 8 with fail
              rw [HX.out]
              go_wp2_with (at_builtin; refine wpList_appR (w' := w') rfl (.tmp 43) (.tmp 50) 29 29 rfl _ _ (.slice la' (m + 3) cap') rfl rfl hrun ?_)
              go_roundg (n - (k + 1))
              case rel => exact ⟨k + 1, la', m + 3, cap', rfl, by omega, by go_num, rfl, by have := HM3.out; omega, HT2.out⟩
              case measure => omega
            · obtain ⟨la', cap', w', hrun, hT'⟩ := hTX.app (by omega) 3 (by decide) (by decide) (enT 2 (c :: r)) rfl (by simp [enT]) #[.int .u8 1, .string ⟨#[115, 101, 99, 116, 105, 111, 110]⟩, .slice none 0 0, .bool false, .string ⟨#[]⟩, .int .i64 0, .int .u8 3, .string ⟨#[]⟩, .slice none 0 0, .bool false, .string a1, .int .i64 0, .int .u8 2, .string ⟨#[115, 101, 99, 116, 105, 111, 110]⟩, .slice none 0 0, .bool false, .string ⟨#[]⟩, .int .i64 0] (by rw [HA1.out]; rfl)
              have htr : (z k).tmod 9 = 2 := htm.trans hr
              have hT2 : TOwn w1 w' la' (m + 3) cap' (toksE z (k + 1) (c :: r)) := by
                rw [toksE_succ, hr]
                exact hT'
              have HT2 : Hid (TOwn w1 w' la' (m + 3) cap' (toksE z (k + 1) (c :: r))) := hT2
              clear hTX hT' hT2 htm hr
              go_upto_region 8 with fail
              rw [HX.out]
              go_wp2_with (at_builtin; refine wpList_appR (w' := w') rfl (.tmp 43) (.tmp 50) 29 29 rfl _ _ (.slice la' (m + 3) cap') rfl rfl hrun ?_)
              go_roundg (n - (k + 1))
              case rel => exact ⟨k + 1, la', m + 3, cap', rfl, by omega, by go_num, rfl, by have := HM3.out; omega, HT2.out⟩
              case measure => omega
            · obtain ⟨la', cap', w', hrun, hT'⟩ := hTX.app (by omega) 3 (by decide) (by decide) (enT 3 (c :: r)) rfl (by simp [enT]) #[.int .u8 1, .string ⟨#[98]⟩, .slice none 0 0, .bool false, .string ⟨#[]⟩, .int .i64 0, .int .u8 3, .string ⟨#[]⟩, .slice none 0 0, .bool false, .string a1, .int .i64 0, .int .u8 2, .string ⟨#[98]⟩, .slice none 0 0, .bool false, .string ⟨#[]⟩, .int .i64 0] (by rw [HA1.out]; rfl)
              have htr : (z k).tmod 9 = 3 := htm.trans hr
              have hT2 : TOwn w1 w' la' (m + 3) cap' (toksE z (k + 1) (c :: r)) := by
                rw [toksE_succ, hr]
                exact hT'
              have HT2 : Hid (TOwn w1 w' la' (m + 3) cap' (toksE z (k + 1) (c :: r))) := hT2
              clear hTX hT' hT2 htm hr
              go_upto_region 8 with fail
              rw [HX.out]
              go_wp2_with (at_builtin; refine wpList_appR (w' := w') rfl (.tmp 43) (.tmp 50) 29 29 rfl _ _ (.slice la' (m + 3) cap') rfl rfl hrun ?_)
              go_roundg (n - (k + 1))
              case rel => exact ⟨k + 1, la', m + 3, cap', rfl, by omega, by go_num, rfl, by have := HM3.out; omega, HT2.out⟩
              case measure => omega
            · obtain ⟨la', cap', w', hrun, hT'⟩ := hTX.app (by omega) 3 (by decide) (by decide) (enT 4 (c :: r)) rfl (by simp [enT]) #[.int .u8 1, .string ⟨#[120, 45, 97]⟩, .slice none 0 0, .bool false, .string ⟨#[]⟩, .int .i64 0, .int .u8 3, .string ⟨#[]⟩, .slice none 0 0, .bool false, .string a1, .int .i64 0, .int .u8 2, .string ⟨#[120, 45, 97]⟩, .slice none 0 0, .bool false, .string ⟨#[]⟩, .int .i64 0] (by rw [HA1.out]; rfl)
              have htr : (z k).tmod 9 = 4 := htm.trans hr
              have hT2 : TOwn w1 w' la' (m + 3) cap' (toksE z (k + 1) (c :: r)) := by
                rw [toksE_succ, hr]
                exact hT'
              have HT2 : Hid (TOwn w1 w' la' (m + 3) cap' (toksE z (k + 1) (c :: r))) := hT2
              clear hTX hT' hT2 htm hr
              go_upto_region 8 with fail
              rw [HX.out]
              go_wp2_with (at_builtin; refine wpList_appR (w' := w') rfl (.tmp 43) (.tmp 50) 29 29 rfl _ _ (.slice la' (m + 3) cap') rfl rfl hrun ?_)
              go_roundg (n - (k + 1))
              case rel => exact ⟨k + 1, la', m + 3, cap', rfl, by omega, by go_num, rfl, by have := HM3.out; omega, HT2.out⟩
              case measure => omega
            · obtain ⟨la', cap', w', hrun, hT'⟩ := hTX.app (by omega) 3 (by decide) (by decide) (enT 5 (c :: r)) rfl (by simp [enT]) #[.int .u8 1, .string ⟨#[108, 105]⟩, .slice none 0 0, .bool false, .string ⟨#[]⟩, .int .i64 0, .int .u8 3, .string ⟨#[]⟩, .slice none 0 0, .bool false, .string a1, .int .i64 0, .int .u8 2, .string ⟨#[108, 105]⟩, .slice none 0 0, .bool false, .string ⟨#[]⟩, .int .i64 0] (by rw [HA1.out]; rfl)
              have htr : (z k).tmod 9 = 5 := htm.trans hr
              have hT2 : TOwn w1 w' la' (m + 3) cap' (toksE z (k + 1) (c :: r)) := by
                rw [toksE_succ, hr]
                exact hT'
              have HT2 : Hid (TOwn w1 w' la' (m + 3) cap' (toksE z (k + 1) (c :: r))) := hT2
              clear hTX hT' hT2 htm hr
              go_upto_region 8 with fail
              rw [HX.out]
              go_wp2_with (at_builtin; refine wpList_appR (w' := w') rfl (.tmp 43) (.tmp 50) 29 29 rfl _ _ (.slice la' (m + 3) cap') rfl rfl hrun ?_)
              go_roundg (n - (k + 1))
              case rel => exact ⟨k + 1, la', m + 3, cap', rfl, by omega, by go_num, rfl, by have := HM3.out; omega, HT2.out⟩
              case measure => omega
            · obtain ⟨la', cap', w', hrun, hT'⟩ := hTX.app (by omega) 3 (by decide) (by decide) (enT 6 (c :: r)) rfl (by simp [enT]) #[.int .u8 1, .string ⟨#[112]⟩, .slice none 0 0, .bool false, .string ⟨#[]⟩, .int .i64 0, .int .u8 3, .string ⟨#[]⟩, .slice none 0 0, .bool false, .string a1, .int .i64 0, .int .u8 2, .string ⟨#[112]⟩, .slice none 0 0, .bool false, .string ⟨#[]⟩, .int .i64 0] (by rw [HA1.out]; rfl)
              have htr : (z k).tmod 9 = 6 := htm.trans hr
              have hT2 : TOwn w1 w' la' (m + 3) cap' (toksE z (k + 1) (c :: r)) := by
                rw [toksE_succ, hr]
                exact hT'
              have HT2 : Hid (TOwn w1 w' la' (m + 3) cap' (toksE z (k + 1) (c :: r))) := hT2
              clear hTX hT' hT2 htm hr
              go_upto_region 8 with fail
              rw [HX.out]
              go_wp2_with (at_builtin; refine wpList_appR (w' := w') rfl (.tmp 43) (.tmp 50) 29 29 rfl _ _ (.slice la' (m + 3) cap') rfl rfl hrun ?_)
              go_roundg (n - (k + 1))
              case rel => exact ⟨k + 1, la', m + 3, cap', rfl, by omega, by go_num, rfl, by have := HM3.out; omega, HT2.out⟩
              case measure => omega
            · obtain ⟨la', cap', w', hrun, hT'⟩ := hTX.app (by omega) 3 (by decide) (by decide) (enT 7 (c :: r)) rfl (by simp [enT]) #[.int .u8 1, .string ⟨#[97]⟩, .slice none 0 0, .bool false, .string ⟨#[]⟩, .int .i64 0, .int .u8 3, .string ⟨#[]⟩, .slice none 0 0, .bool false, .string a1, .int .i64 0, .int .u8 2, .string ⟨#[97]⟩, .slice none 0 0, .bool false, .string ⟨#[]⟩, .int .i64 0] (by rw [HA1.out]; rfl)
              have htr : (z k).tmod 9 = 7 := htm.trans hr
              have hT2 : TOwn w1 w' la' (m + 3) cap' (toksE z (k + 1) (c :: r)) := by
                rw [toksE_succ, hr]
                exact hT'
              have HT2 : Hid (TOwn w1 w' la' (m + 3) cap' (toksE z (k + 1) (c :: r))) := hT2
              clear hTX hT' hT2 htm hr
              go_upto_region 8 with fail
              rw [HX.out]
              go_wp2_with (at_builtin; refine wpList_appR (w' := w') rfl (.tmp 43) (.tmp 50) 29 29 rfl _ _ (.slice la' (m + 3) cap') rfl rfl hrun ?_)
              go_roundg (n - (k + 1))
              case rel => exact ⟨k + 1, la', m + 3, cap', rfl, by omega, by go_num, rfl, by have := HM3.out; omega, HT2.out⟩
              case measure => omega
            · obtain ⟨la', cap', w', hrun, hT'⟩ := hTX.app (by omega) 3 (by decide) (by decide) (enT 8 (c :: r)) rfl (by simp [enT]) #[.int .u8 1, .string ⟨#[104, 49]⟩, .slice none 0 0, .bool false, .string ⟨#[]⟩, .int .i64 0, .int .u8 3, .string ⟨#[]⟩, .slice none 0 0, .bool false, .string a1, .int .i64 0, .int .u8 2, .string ⟨#[104, 49]⟩, .slice none 0 0, .bool false, .string ⟨#[]⟩, .int .i64 0] (by rw [HA1.out]; rfl)
              have htr : (z k).tmod 9 = 8 := htm.trans hr
              have hT2 : TOwn w1 w' la' (m + 3) cap' (toksE z (k + 1) (c :: r)) := by
                rw [toksE_succ, hr]
                exact hT'
              have HT2 : Hid (TOwn w1 w' la' (m + 3) cap' (toksE z (k + 1) (c :: r))) := hT2
              clear hTX hT' hT2 htm hr
              go_upto_region 8 with fail
              rw [HX.out]
              go_wp2_with (at_builtin; refine wpList_appR (w' := w') rfl (.tmp 43) (.tmp 50) 29 29 rfl _ _ (.slice la' (m + 3) cap') rfl rfl hrun ?_)
              go_roundg (n - (k + 1))
              case rel => exact ⟨k + 1, la', m + 3, cap', rfl, by omega, by go_num, rfl, by have := HM3.out; omega, HT2.out⟩
              case measure => omega
          · have hkk : k = n := by omega
            subst hkk
            have r2 := hT.build (by omega) HB.out (2 * k) 0 HLEN.out rfl
            have ht : decide ((k : Int) < (k : Int)) = false := decide_eq_false (by omega)
            obtain ⟨N2, hN2⟩ : ∃ N, 2 * k = N := ⟨_, rfl⟩
            rw [hN2] at r2
            have HN2 : Hid (2 * k = N2) := hN2
            have e2 : (N2 : Int) = 2 * (k : Int) := by omega
            have hN2b : N2 ≤ 400 := by omega
            clear hT hN2 hm3
            go_wp2_with fail
            refine r2.mono ?_
            rintro e w2 ⟨⟨ia, ic, fa, fc, rfl, hI, -⟩, k2⟩
            have HI : Hid (ItsIn w2 ia ((nsL z k).flatMap fun x => enI x (c :: r))) := hI
            have HK2 : Hid (Kept (fun k => k < w.heap.size) w w2) := HK1.out.trans (k2.mono fun x hx => Nat.lt_of_lt_of_le hx HK1.out.size)
            clear r2 hI k2
            go_upto_region 13 with fail
            clear e2
            go_loopg [11] N2 (fun g v wx => ∃ j : Nat, g = N2 - j ∧ j ≤ N2 ∧ v = .int .i64 j ∧ wx = w2)
            case atStart => exact ⟨0, rfl, Nat.zero_le _, rfl, rfl⟩
            case round =>
              obtain ⟨j, hgj, hj, rfl, hwx⟩ := hrel
              subst hwx
              by_cases hjl : j < N2
              · have hjI : j < ((nsL z k).flatMap fun x => enI x (c :: r)).length := by rw [HLEN.out, HN2.out]; exact hjl
                obtain ⟨g1, aa, ac, hg1, -, -, -, hc⟩ := HI.out j hjI
                subst hg1
                obtain ⟨hd, hkd⟩ := en_get (c :: r) (nsL z k) j hjI
                have c0 := hc 0 _ rfl
                have c1 := hc 1 _ rfl
                rw [hd, Nat.add_zero] at c0
                rw [hkd] at c1
                have ht2 : decide ((j : Int) < (N2 : Int)) = true := decide_eq_true (by omega)
                have htm : (j : Int).tmod 2 = ((j % 2 : Nat) : Int) := by rw [Int.tmod_eq_emod_of_nonneg (by omega)]; omega
                clear hc hjI hd hkd
                rcases Nat.mod_two_eq_zero_or_one j with hj2 | hj2
                · rw [hj2] at c0 c1 htm
                  have htm' : (j : Int).tmod 2 = 0 := htm
                  clear htm
                  have c0' : _ = some (Value.int .i64 0) := c0
                  have c1' : _ = some (Value.int .u8 1) := c1
                  clear c0 c1 hj2
                  go_wp2
                  go_roundg (N2 - (j + 1))
                  case rel => exact ⟨j + 1, rfl, by omega, by go_num, rfl⟩
                  case measure => omega
                · rw [hj2] at c0 c1 htm
                  have htm' : (j : Int).tmod 2 = 1 := htm
                  clear htm
                  have c0' : _ = some (Value.int .i64 1) := c0
                  have c1' : _ = some (Value.int .u8 2) := c1
                  clear c0 c1 hj2
                  go_wp2
                  go_roundg (N2 - (j + 1))
                  case rel => exact ⟨j + 1, rfl, by omega, by go_num, rfl⟩
                  case measure => omega
              · have ht2 : decide ((j : Int) < (N2 : Int)) = false := decide_eq_false (by omega)
                clear HI
                go_wp2
                go_ret
                exact ⟨rfl, HK2.out⟩
    · exact early (.inr (.inl (decide_eq_true (by omega))))
  · exact early (.inl (decide_eq_true (by omega)))
end Go.Proofs.Ytffllhohlfblnab
