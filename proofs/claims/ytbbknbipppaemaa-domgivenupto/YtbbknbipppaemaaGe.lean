/-
  The walk of DomGiven, where little comes in.
-/
import Derived.Test.YtbbknbipppaemaaGd
namespace Go.Proofs.Ytbbknbipppaemaa
open Go.RowKit
set_option linter.unusedVariables false

/-- What 'last' says is what the document says. -/
def LastIs (L : Nat → Lk) (f : Nat → Int) : Prop := ∀ x, 0 < x → x < 11 → (f x = 0 ∧ (L x).up = -1) ∨ (11 ≤ f x ∧ (L x).up = f x)
theorem LastIs.give {L L' : Nat → Lk} {f : Nat → Int} (h : LastIs L f) {kk : Nat} (hk : 11 ≤ kk) {xs : List Nat} (hL : ∀ k, k < 14 → (L' k).up = if k ∈ xs then (kk : Int) else if (L k).up = (kk : Int) then -1 else (L k).up) :
    LastIs L' (fun x => if x ∈ xs then (kk : Int) else if f x = (kk : Int) then 0 else f x) := by
  intro x h0 h1
  have e := hL x (by omega)
  by_cases c : x ∈ xs
  · rw [if_pos c] at e
    refine .inr ?_
    show 11 ≤ (if x ∈ xs then (kk : Int) else _) ∧ _ = (if x ∈ xs then (kk : Int) else _)
    rw [if_pos c]
    exact ⟨by omega, e⟩
  · rw [if_neg c] at e
    show ((if x ∈ xs then (kk : Int) else if f x = (kk : Int) then 0 else f x) = 0 ∧ _) ∨ (11 ≤ (if x ∈ xs then (kk : Int) else if f x = (kk : Int) then 0 else f x) ∧ _ = (if x ∈ xs then (kk : Int) else if f x = (kk : Int) then 0 else f x))
    rw [if_neg c, e]
    rcases h x h0 h1 with ⟨h2, h3⟩ | ⟨h2, h3⟩
    · rw [h2, h3, if_neg (by omega), if_neg (by omega)]
      exact .inl ⟨rfl, rfl⟩
    · rw [h3]
      by_cases c2 : f x = (kk : Int)
      · rw [if_pos c2, if_pos c2]; exact .inl ⟨rfl, rfl⟩
      · rw [if_neg c2, if_neg c2]; exact .inr ⟨h2, rfl⟩
theorem own_blk {K : Nat → Prop} {w : World} {e : TypeId} {z : Nat} {ao : Option Addr} {n cap : Nat} {xs : List Value} (h : OwnZ K w e z ao n cap xs) {g o : Nat} (he : ao = some ⟨g, o, none⟩) : blkOf ao g := by
  rcases h.2.2.2 with ⟨r1, _⟩ | ⟨g', cur, r1, r2⟩
  · rw [r1] at he; cases he
  · rw [r1] at he ⊢
    injection he with he
    injection he with he
    rw [he]
    rfl
theorem blk_none (k : Nat) : ¬ blkOf none k := fun h => by cases h

set_option maxRecDepth 20000 in
set_option maxHeartbeats 4000000 in
theorem given_few (a : Option Addr) (len cap : Nat) (A : Nat → Option Addr) (C : Nat → Nat) (R : Nat → List UInt8) (w : World) (hr : RowsU w a len A C R) (hb : tot R len ≤ 150) :
    Calls Try.prog 7 #[.slice a len cap] w fun e w' => e = .returned (.bool true) ∧ Kept (fun k => k < w.heap.size) w w' := by
  have rk := known_any w
  have HR : Hid (RowsU w a len A C R) := hr
  have HT : Hid (tot R len ≤ 150) := hb
  have hlen : len ≤ 150 := by have := tot_mono R (Nat.zero_le len); omega
  clear hr hb
  go_enter Try.func7, Try.ntmps7
  go_upto_region 3 with fail
  go_loopg [3, 4] len (fun gh v3 v4 wr => ∃ i : Nat, gh = len - i ∧ i ≤ len ∧ v4 = .int .i64 (i : Int) ∧ v3 = .int .i64 (tot R i : Int) ∧ wr = w)
  case atStart => exact ⟨0, rfl, Nat.zero_le _, rfl, rfl, rfl⟩
  case round =>
    obtain ⟨i, hgi, hi, rfl, rfl, rfl⟩ := hrel
    by_cases hlt : i < len
    · obtain ⟨g, o, rfl, -, hc⟩ := HR.out.top i hlt
      have h1 : tot R (i + 1) ≤ 150 := by have := tot_mono R (show i + 1 ≤ len by omega); have := HT.out; omega
      have h2 : tot R (i + 1) = tot R i + ((R i).length + 1) := rfl
      have HE : Hid (tot R (i + 1) = tot R i + ((R i).length + 1)) := h2
      obtain ⟨L, hL⟩ : ∃ L, (R i).length = L := ⟨_, rfl⟩
      obtain ⟨T, hT⟩ : ∃ T, tot R i = T := ⟨_, rfl⟩
      rw [hL] at hc HE
      rw [hL, hT] at h2
      rw [hT] at HE ⊢
      have hs : T + (L + 1) ≤ 150 := by omega
      clear h1 h2 hL hT
      go_wp2
      go_roundg (len - (i + 1))
      case rel => exact ⟨i + 1, rfl, by omega, by go_num, by rw [HE.out]; go_num, rfl⟩
      case measure => omega
    · have hin : len = i := by omega
      subst hin
      have hgt : decide ((tot R len : Int) > 150) = false := decide_eq_false (by have := HT.out; omega)
      obtain ⟨T, hT⟩ : ∃ T, tot R len = T := ⟨_, rfl⟩
      rw [hT] at hgt ⊢
      clear hT
      obtain ⟨W0, rfl⟩ : ∃ W0, W0 = wr := ⟨_, rfl⟩
      go_upto_region 8 with (go_at_call 8; refine rk.mono ?_; rintro e w1 ⟨rfl, hk1⟩)
      have HK1 : Hid (Kept (fun k => k < W0.heap.size) W0 w1) := hk1
      have rp := plain_gf 10 (by decide) w1
      clear rk hk1 hgt
      go_wp2_with fail
      refine rp.mono ?_
      rintro e w2 ⟨p, M, R0, rk0, rfl, hp, hX, -, hD, -, hN, hK⟩
      have hK2 : Kept (fun k => k < W0.heap.size) W0 w2 := HK1.out.trans (hK.mono fun k h => Nat.lt_of_lt_of_le h HK1.out.size)
      obtain ⟨sB, hsB⟩ : ∃ sB, w2.heap.size = sB := ⟨_, rfl⟩
      obtain ⟨V, hV⟩ : ∃ V, w2.alloc (.cells #[.int .i64 0, .int .i64 0, .int .i64 0] 52) = V := ⟨_, rfl⟩
      have kV : Kept (fun k => k < w2.heap.size) w2 V := by rw [← hV]; exact (Kept.refl _ w2).alloc (fun _ h => h) _
      have hA1 : Arr V sB 52 3 (fun _ => 0) := by rw [← hV, ← hsB]; exact heap_alloc_new w2 _
      have hX1 : DX (fun k => k < W0.heap.size ∨ k = sB) V p M := hX.more kV (fun k hk => by
        rcases hk with h | h
        · exact .inl (Nat.lt_of_lt_of_le h HK1.out.size)
        · exact .inr (by omega)) (fun k hk => by
        rcases hk with h | h
        · exact Nat.lt_of_lt_of_le h (Nat.le_trans hK2.size kV.size)
        · rw [h]; exact hA1.lt)
      have hS1 : SG M 0 := ⟨hD.len, hD.lim, fun k h0 h1 => hD.divs k h0 (by omega), fun k h0 h1 => by omega, hN⟩
      have HX1 : Hid (DX (fun k => k < W0.heap.size ∨ k = sB) V p M) := hX1
      have HS1 : Hid (SG M 0) := hS1
      have HA1 : Hid (Arr V sB 52 3 (fun _ => 0)) := hA1
      have HKV : Hid (Kept (fun k => k < W0.heap.size) W0 V) := hK2.trans (kV.mono fun k h => Nat.lt_of_lt_of_le h hK2.size)
      have HSB : Hid (W0.heap.size ≤ sB) := by rw [← hsB]; exact hK2.size
      have HV : Hid (w2.alloc (.cells #[.int .i64 0, .int .i64 0, .int .i64 0] 52) = V) := hV
      have HSBe : Hid (w2.heap.size = sB) := hsB
      clear rp hX hD hN hK hK2 hV kV hA1 hX1 hS1 hsB
      go_upto_region 13 with fail
      rw [HV.out, HSBe.out]
      clear HV HSBe
      go_loopg [7] 3 (fun gh v wr => ∃ (j : Nat) (M : Dm), gh = 3 - j ∧ j ≤ 3 ∧ v = .int .i64 (j : Int) ∧ DX (fun k => k < W0.heap.size ∨ k = sB) wr p M ∧ SG M j ∧ Arr wr sB 52 3 (fun t => if t < j then ((11 + t : Nat) : Int) else 0) ∧ Kept (fun k => k < W0.heap.size) W0 wr)
      case atStart => exact ⟨0, M, rfl, Nat.zero_le _, rfl, HX1.out, HS1.out, HA1.out.congr fun t _ => by rw [if_neg (by omega)], HKV.out⟩
      case round =>
        clear HX1 HS1 HA1 HKV
        obtain ⟨j, M, hgj, hj, rfl, hX, hS, hA, hK⟩ := hrel
        by_cases hlt : j < 3
        · have rm := make1 (fun k => k < W0.heap.size ∨ k = sB) p M wr 1 1 slotB ⟨#[]⟩ slotN [] rfl slotB_list empB_list hX (by rw [hS.len]; omega) (by rw [hS.lim]; omega) sound_slot (by decide) (by rw [hS.len, hS.lim]; omega)
          rw [hS.len] at rm
          have HRM : Hid (Calls Try.prog 13 #[.pointer (some ⟨p, 0, none⟩), plainV 1 slotB ⟨#[]⟩] wr fun e w' => e = .returned (.tuple #[.int .i64 ((11 + j : Nat) : Int), .int .u16 0]) ∧ DX (fun k => k < W0.heap.size ∨ k = sB) w' p (M.add slotNd) ∧ Kept (fun k => k < W0.heap.size ∨ k = sB) wr w') := rm
          have HS : Hid (SG M j) := hS
          have HA : Hid (Arr wr sB 52 3 (fun t => if t < j then ((11 + t : Nat) : Int) else 0)) := hA
          have HK : Hid (Kept (fun k => k < W0.heap.size) W0 wr) := hK
          clear rm hX hS hA hK
          go_wp2_with fail
          refine HRM.out.mono ?_
          rintro e w3 ⟨rfl, hX3, hK3⟩
          have hA3 := HA.out.kept hK3 (.inr rfl)
          have hc3 := hA3.cell hlt
          rw [if_neg (by omega)] at hc3
          have hf3 : w3.frozen? ⟨sB, j, none⟩ = false := frozen_block hA3 j
          obtain ⟨V3, hV3⟩ : ∃ V3, w3.setCell ⟨sB, j, none⟩ (.int .i64 (11 + (j : Int))) = V3 := ⟨_, rfl⟩
          have HX3 : Hid (DX (fun k => k < W0.heap.size ∨ k = sB) V3 p (M.add slotNd)) := by rw [← hV3]; exact hX3.store (.inr rfl) _ _
          have HA3 : Hid (Arr V3 sB 52 3 (fun t => if t < j + 1 then ((11 + t : Nat) : Int) else 0)) := by
            rw [← hV3]
            refine (hA3.set j _).congr fun t ht => ?_
            by_cases c : t = j
            · rw [if_pos c, if_pos (by omega), c]; rfl
            · rw [if_neg c]
              by_cases c2 : t < j
              · rw [if_pos c2, if_pos (by omega)]
              · rw [if_neg c2, if_neg (by omega)]
          have HK3 : Hid (Kept (fun k => k < W0.heap.size) W0 V3) := by
            rw [← hV3]
            exact (HK.out.trans (hK3.mono fun k h => .inl h)).setCell (p := ⟨sB, j, none⟩) (fun h => by have := HSB.out; have : sB < W0.heap.size := h; omega) _
          have HV3 : Hid (w3.setCell ⟨sB, j, none⟩ (.int .i64 (11 + (j : Int))) = V3) := hV3
          clear HRM hX3 hK3 hA3 hV3 HA HK
          go_wp2
          rw [HV3.out]
          go_roundg (3 - (j + 1))
          case rel => exact ⟨j + 1, _, rfl, by omega, by go_num, HX3.out, HS.out.add, HA3.out, HK3.out⟩
          case measure => omega
        · have hj3 : j = 3 := by omega
          subst hj3
          obtain ⟨lB, hlB⟩ : ∃ lB, wr.heap.size = lB := ⟨_, rfl⟩
          obtain ⟨V, hV⟩ : ∃ V, wr.alloc (.cells #[.int .i64 0, .int .i64 0, .int .i64 0, .int .i64 0, .int .i64 0, .int .i64 0, .int .i64 0, .int .i64 0, .int .i64 0, .int .i64 0, .int .i64 0] 53) = V := ⟨_, rfl⟩
          have kV : Kept (fun k => k < wr.heap.size) wr V := by rw [← hV]; exact (Kept.refl _ wr).alloc (fun _ h => h) _
          have hA2 : Arr V lB 53 11 (fun _ => 0) := by rw [← hV, ← hlB]; exact heap_alloc_new wr _
          have hslt : sB < lB := by rw [← hlB]; exact hA.lt
          have hA1 : Arr V sB 52 3 (fun t => ((11 + t : Nat) : Int)) := (hA.kept kV hA.lt).congr fun t ht => by rw [if_pos ht]
          obtain ⟨K2, hK2⟩ : ∃ K2 : Nat → Prop, (fun k => k < W0.heap.size ∨ k = sB ∨ k = lB) = K2 := ⟨_, rfl⟩
          have hX2 : DX K2 V p M := by
            rw [← hK2]
            refine hX.more kV (fun k hk => ?_) (fun k hk => ?_)
            · rcases hk with h | h | h
              · exact .inl (.inl h)
              · exact .inl (.inr h)
              · exact .inr (by omega)
            · rcases hk with h | h | h
              · exact Nat.lt_of_lt_of_le h (Nat.le_trans hK.size kV.size)
              · rw [h]; exact hA1.lt
              · rw [h]; exact hA2.lt
          have HX2 : Hid (DX K2 V p (M.setG M.gf)) := hX2
          have HS : Hid (SG M 3) := hS
          have HA1 : Hid (Arr V sB 52 3 (fun t => ((11 + t : Nat) : Int))) := hA1
          have HA2 : Hid (Arr V lB 53 11 (fun _ => 0)) := hA2
          have HKs : Hid (K2 sB) := by rw [← hK2]; exact .inr (.inl rfl)
          have HKl : Hid (K2 lB) := by rw [← hK2]; exact .inr (.inr rfl)
          have HKw : Hid (∀ k, k < W0.heap.size → K2 k) := by rw [← hK2]; exact fun k h => .inl h
          have HLB : Hid (W0.heap.size ≤ lB) := by have := HSB.out; exact (show W0.heap.size ≤ lB by omega)
          have HKV : Hid (Kept (fun k => k < W0.heap.size) W0 V) := hK.trans (kV.mono fun k h => Nat.lt_of_lt_of_le h hK.size)
          have HV : Hid (wr.alloc (.cells #[.int .i64 0, .int .i64 0, .int .i64 0, .int .i64 0, .int .i64 0, .int .i64 0, .int .i64 0, .int .i64 0, .int .i64 0, .int .i64 0, .int .i64 0] 53) = V) := hV
          have HLBe : Hid (wr.heap.size = lB) := hlB
          have HSL : Hid (sB < lB) := hslt
          clear hX hS hA hK hA1 hA2 hX2 hV kV hlB hslt hK2
          go_upto_region 18 with fail
          rw [HV.out, HLBe.out]
          clear HV HLBe
          go_loopg [9] len (fun gh v wr => ∃ (i : Nat) (L : Nat → Lk) (f : Nat → Int), gh = len - i ∧ i ≤ len ∧ v = .int .i64 (i : Int) ∧ DX K2 wr p (M.setG L) ∧ WFx 14 L ∧ LastIs L f ∧ Arr wr lB 53 11 f ∧ Arr wr sB 52 3 (fun t => ((11 + t : Nat) : Int)) ∧ Kept (fun k => k < W0.heap.size) W0 wr)
          case atStart => exact ⟨0, M.gf, fun _ => 0, rfl, Nat.zero_le _, rfl, HX2.out, by have := HS.out.none.wf; rw [HS.out.len] at this; exact this, fun x _ _ => .inl ⟨rfl, by rw [HS.out.none x]; rfl⟩, HA2.out, HA1.out, HKV.out⟩
          case round =>
            clear HX2 HA1 HA2 HKV
            obtain ⟨i, L, f, hgi, hi, rfl, hX, hW, hT, hAl, hAs, hK⟩ := hrel
            by_cases hil : i < len
            · obtain ⟨q, hq⟩ : ∃ q, i % 3 = q := ⟨_, rfl⟩
              have hq3 : q < 3 := by omega
              have htm : (i : Int).tmod 3 = (q : Int) := by rw [Int.tmod_eq_emod_of_nonneg (by omega)]; omega
              have hcs := hAs.cell hq3
              obtain ⟨kk, hkk⟩ : ∃ kk : Nat, 11 + q = kk := ⟨_, rfl⟩
              rw [hkk] at hcs
              have hk1 : 11 ≤ kk := by omega
              have hk2 : kk < 14 := by omega
              have HX : Hid (DX K2 wr p (M.setG L)) := hX
              have HW : Hid (WFx 14 L) := hW
              have HTD : Hid (LastIs L f) := hT
              have HAl : Hid (Arr wr lB 53 11 f) := hAl
              have HAs : Hid (Arr wr sB 52 3 (fun t => ((11 + t : Nat) : Int))) := hAs
              have HK : Hid (Kept (fun k => k < W0.heap.size) W0 wr) := hK
              clear hX hW hT hAl hAs hK hq hkk
              go_upto_region 23 with fail
              obtain ⟨Wa, rfl⟩ : ∃ Wa, Wa = wr := ⟨_, rfl⟩
              go_loopg [12] 11 (fun gh v wy => ∃ j : Nat, gh = 11 - j ∧ j ≤ 11 ∧ v = .int .i64 (j : Int) ∧ DX K2 wy p (M.setG L) ∧ Arr wy lB 53 11 (fun x => if x < j ∧ f x = (kk : Int) then 0 else f x) ∧ Arr wy sB 52 3 (fun t => ((11 + t : Nat) : Int)) ∧ Kept (fun k => k < W0.heap.size) W0 wy)
              case atStart => exact ⟨0, rfl, Nat.zero_le _, rfl, HX.out, HAl.out.congr fun t _ => by rw [if_neg (fun h => by have := h.1; omega)], HAs.out, HK.out⟩
              case round =>
                clear HX HAl HAs HK hcs
                obtain ⟨j, hgj, hj, rfl, hX, hAl, hAs, hK⟩ := hrel
                by_cases hjl : j < 11
                · have hc := hAl.cell hjl
                  have hf := frozen_block hAl j
                  rw [if_neg (fun h => by have := h.1; omega)] at hc
                  obtain ⟨z, hz⟩ : ∃ z, f j = z := ⟨_, rfl⟩
                  rw [hz] at hc
                  by_cases cz : z = (kk : Int)
                  · subst cz
                    obtain ⟨V4, hV4⟩ : ∃ V4, wr.setCell ⟨lB, j, none⟩ (.int .i64 0) = V4 := ⟨_, rfl⟩
                    have HX4 : Hid (DX K2 V4 p (M.setG L)) := by rw [← hV4]; exact hX.store HKl.out _ _
                    have HA4 : Hid (Arr V4 lB 53 11 (fun x => if x < j + 1 ∧ f x = (kk : Int) then 0 else f x)) := by
                      rw [← hV4]
                      refine (hAl.set j 0).congr fun t ht => ?_
                      by_cases c : t = j
                      · rw [if_pos c, if_pos ⟨by omega, by rw [c]; exact hz⟩]
                      · rw [if_neg c]
                        by_cases c2 : t < j ∧ f t = (kk : Int)
                        · rw [if_pos c2, if_pos ⟨by omega, c2.2⟩]
                        · rw [if_neg c2, if_neg (fun h => c2 ⟨by omega, h.2⟩)]
                    have HS4 : Hid (Arr V4 sB 52 3 (fun t => ((11 + t : Nat) : Int))) := by
                      rw [← hV4]
                      exact hAs.kept ((Kept.refl (fun k => k ≠ lB) wr).setCell (p := ⟨lB, j, none⟩) (fun h => h rfl) _) (by have := HSL.out; omega)
                    have HK4 : Hid (Kept (fun k => k < W0.heap.size) W0 V4) := by
                      rw [← hV4]
                      exact hK.setCell (p := ⟨lB, j, none⟩) (fun h => by have := HLB.out; have : lB < W0.heap.size := h; omega) _
                    have HV4 : Hid (wr.setCell ⟨lB, j, none⟩ (.int .i64 0) = V4) := hV4
                    clear hX hAl hAs hK hV4 hz
                    go_wp2
                    rw [HV4.out]
                    go_roundg (11 - (j + 1))
                    case rel => exact ⟨j + 1, rfl, by omega, by go_num, HX4.out, HA4.out, HS4.out, HK4.out⟩
                    case measure => omega
                  · have hne : (z == (kk : Int)) = false := by simpa using cz
                    have HX4 : Hid (DX K2 wr p (M.setG L)) := hX
                    have HA4 : Hid (Arr wr lB 53 11 (fun x => if x < j + 1 ∧ f x = (kk : Int) then 0 else f x)) := hAl.congr fun t ht => by
                      by_cases c : t = j
                      · rw [if_neg (fun h => by have := h.1; omega), if_neg (fun h => cz (by rw [← hz, ← c]; exact h.2))]
                      · by_cases c2 : t < j ∧ f t = (kk : Int)
                        · rw [if_pos c2, if_pos ⟨by omega, c2.2⟩]
                        · rw [if_neg c2, if_neg (fun h => c2 ⟨by omega, h.2⟩)]
                    have HS4 : Hid (Arr wr sB 52 3 (fun t => ((11 + t : Nat) : Int))) := hAs
                    have HK4 : Hid (Kept (fun k => k < W0.heap.size) W0 wr) := hK
                    clear hX hAl hAs hK hz cz
                    go_wp2
                    go_roundg (11 - (j + 1))
                    case rel => exact ⟨j + 1, rfl, by omega, by go_num, HX4.out, HA4.out, HS4.out, HK4.out⟩
                    case measure => omega
                · have hj11 : j = 11 := by omega
                  subst hj11
                  obtain ⟨xs, hxs⟩ : ∃ xs, (R i).map (fun b => 1 + b.toNat % 10) = xs := ⟨_, rfl⟩
                  obtain ⟨n5, hn5⟩ : ∃ n5, (R i).length = n5 := ⟨_, rfl⟩
                  have hxl : xs.length = n5 := by rw [← hxs, List.length_map, hn5]
                  have hn150 : n5 ≤ 150 := by
                    have h1 := tot_mono R (show i + 1 ≤ len by omega)
                    have h2 : tot R (i + 1) = tot R i + ((R i).length + 1) := rfl
                    have := HT.out
                    omega
                  have HXX : Hid (∀ x ∈ xs, 0 < x ∧ x < 11) := fun x hx => by
                    rw [← hxs] at hx
                    obtain ⟨b, _, rfl⟩ := List.mem_map.1 hx
                    omega
                  have HXR : Hid (∀ k (h : k < n5), ∃ x o b, A i = some ⟨x, o, none⟩ ∧ x < W0.heap.size ∧ W0.cell? ⟨x, o + k, none⟩ = some (.int .u8 ((b : Nat) : Int)) ∧ b < 256 ∧ xs[k]? = some (1 + b % 10)) := fun k hk => by
                    obtain ⟨x, o, e1, e2, e3⟩ := HR.out.row i hil k (by rw [hn5]; exact hk)
                    refine ⟨x, o, _, e1, e2, e3, UInt8.toNat_lt _, ?_⟩
                    have hk' : k < (R i).length := by rw [hn5]; exact hk
                    rw [← hxs, List.getElem?_map, List.getElem?_eq_getElem hk']
                    rfl
                  have HXL : Hid (xs.length = n5) := hxl
                  have HX4 : Hid (DX (fun k => K2 k ∨ blkOf none k) wr p (M.setG L)) := hX.more (Kept.refl _ _) (fun k hk => by
                    rcases hk with h | h
                    · exact .inl h
                    · exact absurd h (blk_none k)) (fun k hk => by
                    rcases hk with h | h
                    · exact hX.lt k h
                    · exact absurd h (blk_none k))
                  obtain ⟨f4, hf4⟩ : ∃ f4 : Nat → Int, (fun x => if f x = (kk : Int) then 0 else f x) = f4 := ⟨_, rfl⟩
                  have HF4 : Hid ((fun x => if f x = (kk : Int) then 0 else f x) = f4) := hf4
                  have HA4 : Hid (Arr wr lB 53 11 f4) := hAl.congr fun t ht => by
                    rw [← hf4]
                    by_cases c : f t = (kk : Int)
                    · rw [if_pos ⟨ht, c⟩]; exact (if_pos c).symm
                    · rw [if_neg (fun h => c h.2)]; exact (if_neg c).symm
                  have HS4 : Hid (Arr wr sB 52 3 (fun t => ((11 + t : Nat) : Int))) := hAs
                  have HK4 : Hid (Kept (fun k => k < W0.heap.size) W0 wr) := hK
                  obtain ⟨go, oo, rfl, hgo, hco⟩ := HR.out.top i hil
                  rw [hn5] at hco
                  have HCO : Hid (W0.cell? ⟨go, oo + i, none⟩ = some (.slice (A i) n5 (C i))) := hco
                  have HGO : Hid (go < W0.heap.size) := hgo
                  clear hX hAl hAs hK hf4 hxs hn5 hxl hco hgo
                  go_upto_region 28 with fail
                  obtain ⟨Wb, rfl⟩ : ∃ Wb, Wb = wr := ⟨_, rfl⟩
                  go_loopg [11, 13] n5 (fun gh v11 v13 wz => ∃ (j : Nat) (ao : Option Addr) (c : Nat), gh = n5 - j ∧ j ≤ n5 ∧ v13 = .int .i64 (j : Int) ∧ v11 = .slice ao j c ∧ OwnZ K2 wz 3 1 ao j c (ivs (xs.take j)) ∧ DX (fun k => K2 k ∨ blkOf ao k) wz p (M.setG L) ∧ Arr wz lB 53 11 (fun x => if x ∈ xs.take j then (kk : Int) else f4 x) ∧ Arr wz sB 52 3 (fun t => ((11 + t : Nat) : Int)) ∧ Kept (fun k => k < W0.heap.size) W0 wz)
                  case atStart => exact ⟨0, none, 0, rfl, Nat.zero_le _, rfl, rfl, OwnZ.nil _ _ _ _, HX4.out, HA4.out.congr fun t _ => by rw [if_neg (by simp)], HS4.out, HK4.out⟩
                  case round =>
                    clear HX4 HA4 HS4 HK4
                    obtain ⟨j, ao, c, hgj, hj, rfl, rfl, hO, hX, hAl, hAs, hK⟩ := hrel
                    have hcw : wr.cell? ⟨go, oo + i, none⟩ = some (.slice (A i) n5 (C i)) := (hK.cell (p := ⟨go, oo + i, none⟩) HGO.out).trans HCO.out
                    by_cases hj5 : j < n5
                    · obtain ⟨x, o, b, hAi, hxw, hcb, hb256, hxj⟩ := HXR.out j hj5
                      rw [hAi] at hcw
                      have hcb' : wr.cell? ⟨x, o + j, none⟩ = some (.int .u8 (b : Int)) := (hK.cell (p := ⟨x, o + j, none⟩) hxw).trans hcb
                      obtain ⟨m, hm⟩ : ∃ m, b % 10 = m := ⟨_, rfl⟩
                      have htm5 : (b : Int).tmod 10 = (m : Int) := by rw [Int.tmod_eq_emod_of_nonneg (by omega)]; omega
                      have hm10 : m < 10 := by omega
                      rw [hm] at hxj
                      obtain ⟨ao', c', w', hr', hO', hX', hK'⟩ := own_appK hX (fun k hk => hX.lt k (.inl hk)) hO (by omega) (1 + (m : Int))
                      have hxl5 : xs.take (j + 1) = xs.take j ++ [1 + m] := by rw [List.take_add_one, hxj]; rfl
                      have HO5 : Hid (OwnZ K2 w' 3 1 ao' (j + 1) c' (ivs (xs.take (j + 1)))) := by
                        rw [hxl5, ivs, List.map_append]
                        exact hO'
                      have hbl : ∀ k, K2 k → ¬ blkOf ao k := fun k h1 h2 => (OwnZ.out hO h2).1 h1
                      have hkl : Kept (fun k => K2 k) wr w' := hK'
                      have hAl5 := hAl.kept hkl HKl.out
                      have hAs5 := hAs.kept hkl HKs.out
                      have hc5 := hAl5.cell (show 1 + m < 11 by omega)
                      have hf5 := frozen_block hAl5 (1 + m)
                      obtain ⟨z5, hz5⟩ : ∃ z5 : Int, (if (1 + m) ∈ xs.take j then (kk : Int) else f4 (1 + m)) = z5 := ⟨_, rfl⟩
                      rw [hz5] at hc5
                      obtain ⟨V5, hV5⟩ : ∃ V5, w'.setCell ⟨lB, 1 + m, none⟩ (.int .i64 (kk : Int)) = V5 := ⟨_, rfl⟩
                      have HO6 : Hid (OwnZ K2 V5 3 1 ao' (j + 1) c' (ivs (xs.take (j + 1)))) := by rw [← hV5]; exact HO5.out.store HKl.out _ _
                      have HX6 : Hid (DX (fun k => K2 k ∨ blkOf ao' k) V5 p (M.setG L)) := by rw [← hV5]; exact hX'.store (.inl HKl.out) _ _
                      have HA6 : Hid (Arr V5 lB 53 11 (fun x => if x ∈ xs.take (j + 1) then (kk : Int) else f4 x)) := by
                        rw [← hV5]
                        refine (hAl5.set (1 + m) (kk : Int)).congr fun t ht => ?_
                        rw [hxl5]
                        by_cases c1 : t = 1 + m
                        · rw [if_pos c1, if_pos (by rw [c1]; simp)]
                        · rw [if_neg c1]
                          by_cases c2 : t ∈ xs.take j
                          · rw [if_pos c2, if_pos (List.mem_append_left _ c2)]
                          · have c3 : ¬ t ∈ xs.take j ++ [1 + m] := fun h => by
                              rcases List.mem_append.1 h with h | h
                              · exact c2 h
                              · exact c1 (List.mem_singleton.1 h)
                            rw [if_neg c2, if_neg c3]
                      have HS6 : Hid (Arr V5 sB 52 3 (fun t => ((11 + t : Nat) : Int))) := by
                        rw [← hV5]
                        exact hAs5.kept ((Kept.refl (fun k => k ≠ lB) w').setCell (p := ⟨lB, 1 + m, none⟩) (fun h => h rfl) _) (by have := HSL.out; omega)
                      have HK6 : Hid (Kept (fun k => k < W0.heap.size) W0 V5) := by
                        rw [← hV5]
                        exact (hK.trans (hK'.mono HKw.out)).setCell (p := ⟨lB, 1 + m, none⟩) (fun h => by have := HLB.out; have : lB < W0.heap.size := h; omega) _
                      have HV5 : Hid (w'.setCell ⟨lB, 1 + m, none⟩ (.int .i64 (kk : Int)) = V5) := hV5
                      clear hO hX hAl hAs hK hO' hX' hK' hAl5 hAs5 hV5 hbl hkl hxl5 hcb hAi hm hxj hz5 HO5
                      go_upto_region 32 with (at_builtin; refine wpList_appR (w' := w') rfl (.tmp 93) (.tmp 95) 32 32 rfl _ _ (.slice ao' (j + 1) c') rfl rfl hr' ?_)
                      go_wp2
                      rw [HV5.out]
                      go_roundg (n5 - (j + 1))
                      case rel => exact ⟨j + 1, ao', c', rfl, by omega, by go_num, rfl, HO6.out, HX6.out, HA6.out, HS6.out, HK6.out⟩
                      case measure => omega
                    · have hjn : n5 = j := by omega
                      subst hjn
                      have hall : xs.take n5 = xs := List.take_of_length_le (by rw [HXL.out]; exact Nat.le_refl _)
                      rw [hall] at hO hAl
                      have hG : GiveOk (M.setG L) kk xs := by
                        refine ⟨by show kk < M.n; rw [HS.out.len]; omega, ?_, ?_, fun x hx => ?_, by rw [HXL.out]; omega⟩
                        · show (M.nd kk).kind = 1
                          rw [HS.out.slots kk hk1 (by omega)]; rfl
                        · show (M.nd kk).name = slotN
                          rw [HS.out.slots kk hk1 (by omega)]; rfl
                        · obtain ⟨x0, x1⟩ := HXX.out x hx
                          refine ⟨by show x < M.n; rw [HS.out.len]; omega, ?_, by omega⟩
                          show showB (M.nd x) = true
                          rw [HS.out.divs x x0 x1]; rfl
                      have hrow : RowI wr ao xs := fun k hk => by
                        obtain ⟨g, e, hc⟩ := hO.cell (j := k) (u := iv xs[k]) (by simp [ivs, hk])
                        exact ⟨g, 0, e, by rw [Nat.zero_add]; exact hc⟩
                      have rg := give_up (fun k => K2 k ∨ blkOf ao k) p kk xs n5 HXL.out ao c (M.setG L) wr hX (by show WFx M.n L; rw [HS.out.len]; exact HW.out) hG (by show M.n ≤ _; rw [HS.out.len]; omega) hrow (fun g o e hne => .inr (own_blk hO e))
                      have HRG : Hid (Calls Try.prog 18 #[.pointer (some ⟨p, 0, none⟩), .int .i64 (kk : Int), .slice ao n5 c] wr fun e w' => e = .returned (.int .u16 0) ∧ ∃ L', DX (fun k => K2 k ∨ blkOf ao k) w' p (M.setG L') ∧ WFx 14 L' ∧ (∀ k, k < 14 → (L' k).up = if k ∈ xs then (kk : Int) else if (L k).up = (kk : Int) then -1 else (L k).up) ∧ Kept (fun k => K2 k ∨ blkOf ao k) wr w') := rg.mono fun e w' h => by
                        obtain ⟨h1, L', h2, h3, h4, h5⟩ := h
                        have e14 : (M.setG L).n = 14 := HS.out.len
                        rw [e14] at h3 h4
                        exact ⟨h1, L', h2, h3, h4, h5⟩
                      have HAl7 : Hid (Arr wr lB 53 11 (fun x => if x ∈ xs then (kk : Int) else f4 x)) := hAl
                      have HAs7 : Hid (Arr wr sB 52 3 (fun t => ((11 + t : Nat) : Int))) := hAs
                      have HK7 : Hid (Kept (fun k => k < W0.heap.size) W0 wr) := hK
                      clear hO hX hAl hAs hK hall hG hrow rg
                      go_wp2_with fail
                      refine HRG.out.mono ?_
                      rintro e w7 ⟨rfl, L', hX7, hW7, hup7, hK7⟩
                      have hA7 := HAl7.out.kept hK7 (.inl HKl.out)
                      have HA7 : Hid (Arr w7 lB 53 11 (fun x => if x ∈ xs then (kk : Int) else f4 x)) := hA7
                      have HS7 : Hid (Arr w7 sB 52 3 (fun t => ((11 + t : Nat) : Int))) := HAs7.out.kept hK7 (.inl HKs.out)
                      have HT7 : Hid (LastIs L' (fun x => if x ∈ xs then (kk : Int) else f4 x)) := by rw [← HF4.out]; exact HTD.out.give hk1 hup7
                      have HX7 : Hid (DX K2 w7 p (M.setG L')) := hX7.more (Kept.refl _ _) (fun k h => .inl (.inl h)) (fun k h => hX7.lt k (.inl h))
                      have HW7 : Hid (WFx 14 L') := hW7
                      have HK8 : Hid (Kept (fun k => k < W0.heap.size) W0 w7) := HK7.out.trans (hK7.mono fun k h => .inl (HKw.out k h))
                      clear hX7 hW7 hup7 hK7 hA7 HRG HAl7 HAs7 HK7 hcw
                      go_upto_region 36 with fail
                      go_loopg [15] 10 (fun gh v wy => ∃ x : Nat, gh = 11 - x ∧ 1 ≤ x ∧ x ≤ 11 ∧ v = .int .i64 (x : Int) ∧ wy = w7)
                      case atStart => exact ⟨1, rfl, by omega, by omega, rfl, rfl⟩
                      case round =>
                        obtain ⟨x, hgx, hx1, hx11, rfl, rfl⟩ := hrel
                        by_cases hx : x < 11
                        · have hcx := HA7.out.cell hx
                          have rs := slot_in K2 p x (M.setG L') wr HX7.out (by show x < M.n; rw [HS.out.len]; omega) (by show M.n ≤ _; rw [HS.out.len]; omega)
                          obtain ⟨z, hz⟩ : ∃ z : Int, (if x ∈ xs then (kk : Int) else f4 x) = z := ⟨_, rfl⟩
                          have ht : ((if x ∈ xs then (kk : Int) else f4 x) = 0 ∧ (L' x).up = -1) ∨ (11 ≤ (if x ∈ xs then (kk : Int) else f4 x) ∧ (L' x).up = (if x ∈ xs then (kk : Int) else f4 x)) := HT7.out x (by omega) hx
                          rw [hz] at hcx ht
                          obtain ⟨u, hu⟩ : ∃ u : Int, ((M.setG L').gf x).up = u := ⟨_, rfl⟩
                          rw [hu] at rs
                          have ht' : (z = 0 ∧ u = -1) ∨ (11 ≤ z ∧ u = z) := by rw [← hu]; exact ht
                          clear ht hz hu
                          rcases ht' with ⟨rfl, rfl⟩ | ⟨hz11, rfl⟩
                          · go_wp2_with (go_at_call 19; refine rs.mono ?_; rintro e w9 ⟨rfl, hw9⟩; replace hw9 := hw9.symm; subst hw9)
                            go_roundg (11 - (x + 1))
                            case rel => exact ⟨x + 1, rfl, by omega, by omega, by go_num, rfl⟩
                            case measure => omega
                          · have hz0 : (u == 0) = false := by simpa using (show ¬ u = 0 by omega)
                            go_wp2_with (go_at_call 19; refine rs.mono ?_; rintro e w9 ⟨rfl, hw9⟩; replace hw9 := hw9.symm; subst hw9)
                            go_roundg (11 - (x + 1))
                            case rel => exact ⟨x + 1, rfl, by omega, by omega, by go_num, rfl⟩
                            case measure => omega
                        · clear HR
                          go_wp2
                          go_roundg (len - (i + 1))
                          case rel => exact ⟨i + 1, L', _, rfl, by omega, by go_num, HX7.out, HW7.out, HT7.out, HA7.out, HS7.out, HK8.out⟩
                          case measure => omega
            · have hiN : i = len := by omega
              have HK : Hid (Kept (fun k => k < W0.heap.size) W0 wr) := hK
              clear hX hW hT hAl hAs hK
              go_wp2
              go_ret
              exact ⟨rfl, HK.out⟩
end Go.Proofs.Ytbbknbipppaemaa
