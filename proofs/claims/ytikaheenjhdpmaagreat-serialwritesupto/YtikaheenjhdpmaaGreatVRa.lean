/-
  The document's own serial: its nodes as they lie in memory; is a root chosen?
-/
import Derived.Test.YtikaheenjhdpmaaGreatVX4
import Derived.Test.YtikaheenjhdpmaaGreatVEd
import Derived.Deep.MidRow
import Derived.Deep.DeepCutAuto
namespace Go.Proofs.YtikaheenjhdpmaaGreat
open Go.RowKit Go.Sort
set_option linter.unusedVariables false
set_option maxRecDepth 100000
set_option maxHeartbeats 8000000
structure RAt (M : Dm) (R : Nat -> List Nat) (r g nc i : Nat) (aa : Option Addr) (ac : Nat) (ka : Option Addr) (kc N : Nat) (Y : World) : Prop where
 c1 : Y.cell? ⟨r, 1, none⟩ = some (.slice (some ⟨g, 0, none⟩) M.n nc)
 c : ∀ f u, (zaz M R i aa ac ka kc)[f]? = some u -> Y.cell? ⟨g, i * 14 + f, none⟩ = some u
 ats : Zah (fun q => q < N) Y aa (M.nd i).attrs
 kid : Zaf (fun q => q < N) Y ka (R i)
theorem RX.at14 {K : Nat -> Prop} {w : World} {r : Nat} {M : Dm} {R G : Nat -> List Nat} (h : RX K TT w r M R G) : ∃ g nc, ∀ i, i < M.n -> ∃ aa ac ka kc, (M.nd i).attrs.length <= ac /\ ∀ Y, Kept (fun k => k < w.heap.size) w Y -> RAt M R r g nc i aa ac ka kc w.heap.size Y := by
 obtain ⟨A, h⟩ := h
 by_cases h0 : 0 < M.n
 ·obtain ⟨g, hg, -, -, -⟩ := h.nat h0
  refine ⟨g, A.nc, fun i hi => ⟨A.aa i, A.ac i, A.ka i, A.kc i, h.acl i hi, fun Y hY => ?_⟩⟩
  have h' := h.kept hY
  exact ⟨by rw [h'.c1, hg], fun f u hf => h'.cell hg hi f u hf, (h.ats i hi).to (fun q hq => hq.1) (fun q hq => hY.block q hq.1), (h.kid i hi).to (fun q hq => hq.1) (fun q hq => hY.block q hq.1)⟩
 ·exact ⟨0, 0, fun i hi => absurd hi (by omega)⟩
def RE (w0 : World) (r : Nat) (M : Dm) (R : Nat -> List Nat) (g nc : Nat) : Prop := ∀ i, i < M.n -> ∃ aa ac ka kc, ∀ Y, Kept (fun k => k < w0.heap.size) w0 Y -> RAt M R r g nc i aa ac ka kc w0.heap.size Y
structure Op0 (w0 : World) (sr : Bool) (la : Option Addr) (rn : Nat) (rl : List Int) : Prop where
 len : rl.length = rn
 few : rn <= 100000
 at_ : Za8 (fun k => k < w0.heap.size) w0 la rl
theorem zjb {w0 : World} {r : Nat} {M : Dm} {R : Nat -> List Nat} {g nc : Nat} (hE : RE w0 r M R g nc) (hn : M.n <= 100000) {sr : Bool} {la : Option Addr} {rn rc : Nat} {rl : List Int} (hO : Op0 w0 sr la rn rl) {s : Nat} (hs : s < M.n) (X : World) (hX : Kept (fun k => k < w0.heap.size) w0 X) :
  Calls Tryz.prog 63 #[.pointer (some ⟨r, 0, none⟩), .int .i64 (s : Int), .agg #[.bool sr, .slice la rn rc]] X fun e w' => e = .returned (.bool (zmy ⟨sr, zbv rl⟩ M s)) /\ Kept (fun k => k < X.heap.size) X w' := by
 obtain ⟨aa, ac, ka, kc, hA⟩ := hE s hs
 obtain ⟨W, N, hW, hN, hb, hkW, hz⟩ := zae X #[.bool sr, .slice la rn rc] 41
 have hwW : Kept (fun k => k < w0.heap.size) w0 W := hX.trans (hkW.mono fun k h => ltl h hX.size)
 have hat := hA W hwW
 have b0 : W.cell? ⟨N, 0, none⟩ = some (.bool sr) := by rw [zaa hb]; rfl
 have b1 : W.cell? ⟨N, 1, none⟩ = some (.slice la rn rc) := by rw [zaa hb]; rfl
 have c1 := hat.c1
 obtain ⟨fd, hfd⟩ : ∃ b, (M.nd s).fl.d = b := ⟨_, rfl⟩
 have c12 : W.cell? ⟨g, s * 14 + 12, none⟩ = some (.bool fd) := by rw [<- hfd]; exact hat.c 12 _ rfl
 have HRI : Hid (Za8 (fun k => k < W.heap.size) W la rl) := Za8.kept hO.at_ hwW fun g hg => ltl hg hwW.size
 have HRL : Hid (rl.length = rn) := hO.len
 have hrn := hO.few
 obtain ⟨m, hm⟩ : ∃ m, M.n = m := ⟨_, rfl⟩
 rw [hm] at c1 hs hn
 have HFD : Hid ((M.nd s).fl.d = fd) := hfd
 have HKW : Hid (Kept (fun k => k < X.heap.size) X W) := hkW
 have HW : Hid (X.alloc (.cells #[.bool sr, .slice la rn rc] 41) = W) := hW
 have HN : Hid (X.heap.size = N) := hN
 obtain ⟨res, hres⟩ : ∃ b, zmy ⟨sr, zbv rl⟩ M s = b := ⟨_, rfl⟩
 have HRES : Hid (zmy ⟨sr, zbv rl⟩ M s = res) := hres
 rw [hres]
 clear hE hO hX hA hW hN hb hkW hz hwW hat hm hfd hres
 go_enter Tryz.func63, Tryz.ntmps63
 go_upto_region 1 with fail
 rw [HW.out, HN.out]
 clear HW HN
 go_wp2_with fail
 go_loopg [7] rn (fun gm v wr => ∃ j : Nat, gm = rn - j /\ j <= rn /\ v = .int .i64 j /\ (∀ t, t < j -> ∀ h : t < rl.length, rl[t] ≠ (s : Int)) /\ wr = W)
 case atStart => exact ⟨0, rfl, Nat.zero_le _, rfl, fun t ht => absurd ht (Nat.not_lt_zero _), rfl⟩
 case round =>
  obtain ⟨j, hg, hj, rfl, hne, rfl⟩ := hrel
  by_cases hlt : j < rn
  ·have hjl : j < rl.length := by rw [HRL.out]; exact hlt
   obtain ⟨rg, ro, hra, hrg, hrc⟩ := HRI.out j hjl
   subst hra
   obtain ⟨z, hz⟩ : ∃ z, rl[j] = z := ⟨_, rfl⟩
   rw [hz] at hrc
   have HNE : Hid (∀ t, t < j -> ∀ h : t < rl.length, rl[t] ≠ (s : Int)) := hne
   have HZ : Hid (rl[j] = z) := hz
   clear hne hz
   by_cases hzi : z = (s : Int)
   ·have hr : res = true := by
     rw [<- HRES.out]
     show (zbv rl s || _) = true
     have : zbv rl s = true := by
      unfold zbv
      rw [List.contains_iff_mem, <- hzi, <- HZ.out]
      exact List.getElem_mem hjl
     rw [this]; rfl
    subst hzi
    subst hr
    go_wp2
    go_ret
    exact ⟨rfl, HKW.out⟩
   ·have hzb : (z == (s : Int)) = false := by simpa using hzi
    have HZI : Hid (z ≠ (s : Int)) := hzi
    clear hzi
    go_wp2
    go_roundg (rn - (j + 1))
    case rel =>
     refine ⟨j + 1, rfl, by omega, by go_num, fun t ht h => ?_, rfl⟩
     by_cases c : t < j
     ·exact HNE.out t c h
     ·have : t = j := by omega
      subst this
      rw [HZ.out]; exact HZI.out
    case measure => omega
  ·have hask : zbv rl s = false := by
    unfold zbv
    rw [Bool.eq_false_iff]
    intro hc
    obtain ⟨t, ht, e⟩ := List.getElem_of_mem (List.contains_iff_mem.1 hc)
    exact hne t (by rw [HRL.out] at ht; omega) ht e
   have hr : res = (sr && fd) := by
    rw [<- HRES.out]
    show (zbv rl s || (sr && (M.nd s).fl.d)) = _
    rw [hask, HFD.out, Bool.false_or]
   subst hr
   clear hne hask HRES
   cases sr with
   | false =>
    go_wp2
    go_ret
    exact ⟨rfl, HKW.out⟩
   | true =>
    go_wp2
    go_ret
    exact ⟨rfl, HKW.out⟩
def wF0 (a : Bool) : ByteArray := if a = true then ⟨#[60, 116, 101, 109, 112, 108, 97, 116, 101, 32, 115, 104, 97, 100, 111, 119, 114, 111, 111, 116, 109, 111, 100, 101, 61, 34, 99, 108, 111, 115, 101, 100, 34]⟩ else ⟨#[60, 116, 101, 109, 112, 108, 97, 116, 101, 32, 115, 104, 97, 100, 111, 119, 114, 111, 111, 116, 109, 111, 100, 101, 61, 34, 111, 112, 101, 110, 34]⟩
def wFs (w : ByteArray) (q : Bool) (s : ByteArray) : ByteArray := if q = true then w ++ s else w
def zlp : ByteArray := ⟨#[32, 115, 104, 97, 100, 111, 119, 114, 111, 111, 116, 100, 101, 108, 101, 103, 97, 116, 101, 115, 102, 111, 99, 117, 115, 61, 34, 34]⟩
def zl4 : ByteArray := ⟨#[32, 115, 104, 97, 100, 111, 119, 114, 111, 111, 116, 115, 101, 114, 105, 97, 108, 105, 122, 97, 98, 108, 101, 61, 34, 34]⟩
def zlv : ByteArray := ⟨#[32, 115, 104, 97, 100, 111, 119, 114, 111, 111, 116, 115, 108, 111, 116, 97, 115, 115, 105, 103, 110, 109, 101, 110, 116, 61, 34, 109, 97, 110, 117, 97, 108, 34]⟩
def zl0 : ByteArray := ⟨#[32, 115, 104, 97, 100, 111, 119, 114, 111, 111, 116, 99, 108, 111, 110, 97, 98, 108, 101, 61, 34, 34]⟩
theorem zfk {w s : ByteArray} {q : Bool} {a b : Nat} (h : w.size <= a) (hs : s.size <= b) : (wFs w q s).size <= a + b := by
 unfold wFs
 cases q with
 | true => rw [if_pos rfl, ByteArray.size_append]; omega
 | false => rw [if_neg (by decide)]; omega
theorem zuc (cs : Array Value) (h : cs.size = 5) : (Tryz.prog.info? 44).map (·.size) = some cs.size := by rw [h]; kernel_rfl
theorem ztu (f : Fg) : ((wFs (wFs (wFs (wFs (wF0 f.a) f.c zlp) f.d zl4) f.b zlv) f.e zl0) ++ ⟨#[62]⟩).toList = zdi zbp (flA f) := by
 rw [ByteArray.toList_eq]
 obtain ⟨a, b, c, d, e⟩ := f
 cases a <;> cases b <;> cases c <;> cases d <;> cases e <;> decide +kernel
end Go.Proofs.YtikaheenjhdpmaaGreat
