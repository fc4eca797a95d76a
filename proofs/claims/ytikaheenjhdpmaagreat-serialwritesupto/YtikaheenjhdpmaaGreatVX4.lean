/-
  What is within a node, one step further. A page of a document: what is in a node, however deep. What serial.Inner and serial.Outer answer. How long a text may be, and what leaves no trace: plain.
-/
import Derived.Test.YtikaheenjhdpmaaGreatVW32
import Derived.Test.YtikaheenjhdpmaaGreatVX3
import Derived.Test.YtikaheenjhdpmaaGreatVB16
namespace Go.Proofs.YtikaheenjhdpmaaGreat
section
open Go.RowKit
set_option linter.unusedVariables false
def fwc (M : Dm) (R : Nat -> List Nat) (i : Nat) : List Nat := (if (M.nd i).shadow = -1 then [] else [(M.nd i).shadow.toNat]) ++ ((if (M.nd i).content = -1 then [] else [(M.nd i).content.toNat]) ++ R i)
section
variable {M : Dm} {R G : Nat -> List Nat} {rk : Nat -> Nat}
theorem Inv.content {M : Dm} {R G : Nat -> List Nat} {rk : Nat -> Nat} (h : Inv M R G rk) {i : Nat} (hi : i < M.n) (hc : (M.nd i).content ≠ -1) : ∃ k : Nat, k < M.n /\ (M.nd i).content = (k : Int) /\ (M.nd k).kind = 4 /\ (M.nd k).host = (i : Int) /\ (M.pl k).up = -1 /\ rk i < rk k /\ (M.nd k).shadow = -1 /\ (M.nd k).content = -1 := by
 rcases h.core.cont i hi with e | ⟨k, hk, e, -, h4, hh⟩
 ·exact absurd e hc
 ·have hup : (M.pl k).up = -1 := by
   rcases h.core.host k hk with ⟨h1, -⟩ | ⟨q, -, -, h2, -⟩
   ·omega
   ·exact h2
  refine ⟨k, hk, e, h4, hh, hup, ?_, ?_, ?_⟩
  ·have hp : zbk M k = (i : Int) := by unfold zbk; rw [if_pos hup]; exact hh
   rcases h.good.acy k hk with e' | ⟨m, -, e', hr⟩
   ·omega
   ·have : m = i := by omega
    exact this ▸ hr
  ·rcases h.core.shad k hk with e' | ⟨q, -, -, h1, -⟩
   ·exact e'
   ·omega
  ·rcases h.core.cont k hk with e' | ⟨q, -, -, h1, -⟩
   ·exact e'
   ·omega
theorem zsp {i k : Nat} (h : k ∈ fwc M R i) : ((M.nd i).shadow ≠ -1 /\ k = (M.nd i).shadow.toNat) \/ ((M.nd i).content ≠ -1 /\ k = (M.nd i).content.toNat) \/ k ∈ R i := by
 unfold fwc at h
 rcases List.mem_append.1 h with h | h
 ·by_cases c : (M.nd i).shadow = -1
  ·rw [if_pos c] at h; cases h
  ·rw [if_neg c] at h; exact .inl ⟨c, List.mem_singleton.1 h⟩
 ·rcases List.mem_append.1 h with h | h
  ·by_cases c : (M.nd i).content = -1
   ·rw [if_pos c] at h; cases h
   ·rw [if_neg c] at h; exact .inr (.inl ⟨c, List.mem_singleton.1 h⟩)
  ·exact .inr (.inr h)
theorem Inv.shadowQ (h : Inv M R G rk) {i : Nat} (hi : i < M.n) (hs : (M.nd i).shadow ≠ -1) : ∃ q : Nat, (M.nd i).shadow = (q : Int) /\ q < M.n /\ (M.nd q).kind = 5 /\ (M.nd q).host = (i : Int) /\ (M.pl q).up = -1 /\ rk i < rk q := by
 rcases h.core.shad i hi with e | ⟨q, hq, e, -⟩
 ·exact absurd e hs
 ·have := h.shadow hi e
  exact ⟨q, e, hq, this.2.1, this.2.2.1, this.2.2.2.1, this.2.2.2.2.1⟩
theorem Inv.parC (h : Inv M R G rk) {i k : Nat} (hi : i < M.n) (hk : k ∈ fwc M R i) : k < M.n /\ rk i < rk k /\ zbk M k = (i : Int) := by
 rcases zsp hk with ⟨c, rfl⟩ | ⟨c, rfl⟩ | hk
 ·obtain ⟨q, e, hq, -, hh, hu, hr⟩ := h.shadowQ hi c
  rw [e, Int.toNat_natCast]
  exact ⟨hq, hr, by unfold zbk; rw [if_pos hu]; exact hh⟩
 ·obtain ⟨q, hq, e, -, hh, hu, hr, -⟩ := h.content hi c
  rw [e, Int.toNat_natCast]
  exact ⟨hq, hr, by unfold zbk; rw [if_pos hu]; exact hh⟩
 ·obtain ⟨h1, h2, h3⟩ := h.good.kid hi hk
  exact ⟨h1, h3, by unfold zbk; rw [if_neg (by omega)]; exact h2⟩
theorem Inv.onlyC (h : Inv M R G rk) : Only M.n (fwc M R) rk := by
 refine ⟨fun i hi k hk => ⟨(h.parC hi hk).1, (h.parC hi hk).2.1⟩, fun i j k hi hj h1 h2 => ?_, fun i hi => ?_⟩
 ·have a := (h.parC hi h1).2.2
  have b := (h.parC hj h2).2.2
  omega
 ·have kids : ∀ q, (M.pl q).up = -1 -> q ∉ R i := fun q hq hm => by have := (h.good.kid hi hm).2.1; omega
  have hn := h.good.wf.nodup i hi
  have hc : ((if (M.nd i).content = -1 then [] else [(M.nd i).content.toNat]) ++ R i).Nodup := by
   by_cases c : (M.nd i).content = -1
   ·rw [if_pos c]; exact hn
   ·rw [if_neg c]
    obtain ⟨q, hq, e, -, hh, hu, hr, -⟩ := h.content hi c
    rw [e, Int.toNat_natCast]
    exact List.nodup_cons.2 ⟨kids q hu, hn⟩
  unfold fwc
  by_cases c : (M.nd i).shadow = -1
  ·rw [if_pos c]; exact hc
  ·rw [if_neg c]
   obtain ⟨q, e, hq, h5, hh, hu, hr⟩ := h.shadowQ hi c
   rw [e, Int.toNat_natCast, List.singleton_append]
   refine List.nodup_cons.2 ⟨fun hm => ?_, hc⟩
   rcases List.mem_append.1 hm with hm | hm
   ·by_cases c2 : (M.nd i).content = -1
    ·rw [if_pos c2] at hm; cases hm
    ·rw [if_neg c2] at hm
     obtain ⟨q', hq', e', h4, -⟩ := h.content hi c2
     rw [e', Int.toNat_natCast] at hm
     have := List.mem_singleton.1 hm
     subst this
     omega
   ·exact kids q hu hm
end
end
section
open Go.RowKit
set_option linter.unusedVariables false
set_option maxRecDepth 100000
set_option maxHeartbeats 4000000
theorem zhz {w0 : World} {o : Ask} {c : Cf} {M : Dm} {R G : Nat -> List Nat} {rk : Nat -> Nat} (hI : Inv M R G rk) (hc : c.n = M.n) (hn : M.n <= 1000000) (sz : ∀ i, i < M.n -> Szd (M.nd i))
  (nd : ∀ i, i < M.n -> ∀ V, Kept (fun k => k < w0.heap.size) w0 V -> Calls Tryz.prog 20 #[.pointer (some ⟨c.d, 0, none⟩), .int .i64 (i : Int)] V fun e w' => Told V (M.nd i) (M.pl i).up (R i) e w') :
  ∀ f i, i < M.n -> dn M.n rk i < f -> Inn w0 o c (M.nd i) (R i) (zb0 o M R f i) := by
 intro f
 induction f with
 | zero => intro i _ h; exact absurd h (Nat.not_lt_zero _)
 | succ f ih =>
  intro i hi hd
  by_cases hv : isV (M.nd i) = true
  ·have e : zb0 o M R (f + 1) i = [] := if_pos hv
   rw [e]
   exact zmd hv
  ·have hv' : isV (M.nd i) = false := by simpa using hv
   have e : zb0 o M R (f + 1) i = zff o M (zb0 o M R f) (M.nd i) ++ zgh M (zb0 o M R f) (isR (M.nd (zfd (M.nd i) i))) (R (zfd (M.nd i) i)) := if_neg hv
   rw [e]
   have hsrc : zfd (M.nd i) i < M.n /\ dn M.n rk (zfd (M.nd i) i) <= dn M.n rk i := by
    unfold zfd
    by_cases cc : (M.nd i).content = -1
    ·rw [if_pos cc]; exact ⟨hi, Nat.le_refl _⟩
    ·rw [if_neg cc]
     have hm : (M.nd i).content.toNat ∈ fwc M R i := by
      unfold fwc; rw [if_neg cc]; simp
     obtain ⟨h1, h2, -⟩ := hI.parC hi hm
     exact ⟨h1, Nat.le_of_lt (zfx h1 h2)⟩
   have hkid : ∀ k ∈ R (zfd (M.nd i) i), k < M.n /\ dn M.n rk k < f := fun k hk => by
    have h1 := hI.good.falls _ hsrc.1 k hk
    have h2 := zfx (rk := rk) h1.1 h1.2
    exact ⟨h1.1, by omega⟩
   refine zn7 (y := M.nd (zfd (M.nd i) i)) (fun k => zq0 (zb0 o M R f) (M.nd k) k (isR (M.nd (zfd (M.nd i) i)))) M.nd (fun k => (M.pl k).up) R hv' rfl ?_ (fun k hk => by have := (hkid k hk).1; omega) (fun hs => ?_) (fun hs => ?_) (fun hc0 => ?_) (fun hc0 => ?_) (fun k hk => ?_)
   ·have h1 := hI.good.wf.nodup _ hsrc.1
    have h2 := zhp M.n (R (zfd (M.nd i) i)) h1 (fun k hk => (hkid k hk).1)
    omega
   ·unfold zff; rw [if_pos hs]
   ·obtain ⟨q, e1, hq, -, -, -, hr⟩ := hI.shadowQ hi hs
    have es : zff o M (zb0 o M R f) (M.nd i) = zhk (zb0 o M R f q) (M.nd q) (o.A q) o.ser := by
     unfold zff
     rw [if_neg hs, e1, Int.toNat_natCast]
     rfl
    rw [es, e1]
    refine ⟨by omega, by omega, fun K w l h hl => ?_⟩
    exact zqj (ih q hq (by have := zfx (rk := rk) hq hr; omega)) q (by omega) (by omega) (M.pl q).up K w l h (nd q hq w h.kept) hl
   ·unfold zfd; rw [if_pos hc0]; exact ⟨rfl, rfl⟩
   ·obtain ⟨h1, h2⟩ := hsrc
    have ec : (M.nd i).content = ((zfd (M.nd i) i : Nat) : Int) := by
     rcases hI.core.cont i hi with e1 | ⟨k, hk, e1, -⟩
     ·exact absurd e1 hc0
     ·unfold zfd; rw [if_neg hc0, e1, Int.toNat_natCast]
    exact ⟨by omega, by omega, (M.pl (zfd (M.nd i) i)).up, fun V hV => by rw [ec]; exact nd _ h1 V hV⟩
   ·obtain ⟨h1, h2⟩ := hkid k hk
    exact ⟨fun V hV => nd k h1 V hV, fun K w l ao ac ko kc h ha hi' hl => ziz (sz k h1) (fun _ => ih k h1 h2) _ K w l ao ac _ ko kc h ha hi' hl⟩
end
section
open Go.RowKit
set_option linter.unusedVariables false
set_option maxRecDepth 100000
set_option maxHeartbeats 4000000
structure Opt (w : World) where
 sr : Bool
 ra : Option Addr
 rn : Nat
 rc : Nat
 l : List Int
 len : l.length = rn
 few : rn <= 100000
 at_ : Za8 (fun k => k < w.heap.size) w ra l
def Opt.ask {w : World} (o : Opt w) : Ask := ⟨o.sr, zbv o.l⟩
abbrev Opt.val {w : World} (o : Opt w) : Value := .agg #[.bool o.sr, .slice o.ra o.rn o.rc]
theorem zmt (cs : Array Value) (h : cs.size = 2) : (Tryz.prog.info? 41).map (·.size) = some cs.size := by rw [h]; kernel_rfl
theorem zts (args : Array Value) (X : World) : (callFunc 66 args).run Tryz.prog X = .ok (.enter 66 args) X := zay Tryz.func66 (by kernel_rfl) (c := _) rfl args X
theorem zs3 (args : Array Value) (X : World) : (callFunc 65 args).run Tryz.prog X = .ok (.enter 65 args) X := zay Tryz.func65 (by kernel_rfl) (c := _) rfl args X
theorem zog {o : Oper} {a : Act} {X : World} {x : Operand} {N : Nat} {cs : Array Value} (ho : o.op = .load 46 x) (hx : a.eval x = .pointer (some ⟨N, 0, none⟩)) (hb : X.heap[N]? = some (.cells cs 46 (0, 0))) (hc : cs.size = 14) :
  (execOp a.eval o).run Tryz.prog X = .ok (.value (.agg cs)) X := by
 unfold execOp
 simp only [ho, hx, Instr.loadAt, Instr.sureAddr, Sem.run_bind, Sem.run_pure, Result.andThen_ok, run_loadVar_row X N 46 46 cs (0, 0) _ hb Tryz.underlying46 rfl (zdu cs hc)]
section
variable {K : Nat -> Prop} {p : Nat} {M : Dm} {R G : Nat -> List Nat} {rk : Nat -> Nat}
theorem zi2 (hI : Inv M R G rk) (hn : M.n <= 100000) (sz : ∀ i, i < M.n -> Szd (M.nd i)) (f i : Nat) (hi : i < M.n) (hf : dn M.n rk i < f) (w : World) (hX : DX K w p M) (o : Opt w) (hl : (zb0 o.ask M R f i).length <= 1099511627776) :
  Calls Tryz.prog 21 #[.pointer (some ⟨p, 0, none⟩), .int .i64 (i : Int), o.val] w fun e w' => e = .returned (.string ⟨(zb0 o.ask M R f i).toArray⟩) /\ Kept (fun k => k < w.heap.size) w w' := by
 have hnd : ∀ i, i < M.n -> ∀ V, Kept (fun k => k < w.heap.size) w V -> Calls Tryz.prog 20 #[.pointer (some ⟨p, 0, none⟩), .int .i64 (i : Int)] V fun e w' => Told V (M.nd i) (M.pl i).up (R i) e w' := fun i hi V hV => zef K p i M R V (hX.kept hV) hI.good.wf hi (by omega) hI.good.few
 have hlen : ∀ X, Kept (fun k => k < w.heap.size) w X -> Calls Tryz.prog 12 #[.pointer (some ⟨p, 0, none⟩)] X fun e w' => e = .returned (.int .i64 (M.n : Int)) /\ Kept (fun k => k < X.heap.size) X w' := fun X h => by
  obtain ⟨ga, cap, hY⟩ := hX.kept h
  exact (zhl p M.n cap ga X hY.c1).mono fun e w' h => ⟨h.1, by rw [h.2]; exact Kept.refl _ _⟩
 have hpos := hI.core.pos
 obtain ⟨L, hL⟩ : ∃ L, zb0 o.ask M R f i = L := ⟨_, rfl⟩
 have INN : Hid (∀ c : Cf, c.d = p -> c.n = M.n -> Inn w o.ask c (M.nd i) (R i) L) := fun c h1 h2 => by
  rw [<- hL]
  exact zhz hI h2 (by omega) sz (by rw [h1]; exact hnd) f i hi hf
 rw [hL] at hl ⊢
 obtain ⟨ask, hask⟩ : ∃ a, o.ask = a := ⟨_, rfl⟩
 rw [hask] at INN
 obtain ⟨sr, ra, rn, rc, l, len, few, at_⟩ := o
 have ha : ask = ⟨sr, zbv l⟩ := hask.symm
 have HASK : Hid (ask = ⟨sr, zbv l⟩) := ha
 have HAT : Hid (Za8 (fun k => k < w.heap.size) w ra l) := at_
 have HLEN : Hid _ := hlen
 have HND := hnd i hi
 have HL : Hid (L.length <= 1099511627776) := hl
 obtain ⟨W, N, hW, hN, hb, hkW, hzW⟩ := zae w #[.bool sr, .slice ra rn rc] 41
 have r9 := HND W hkW
 have HW : Hid (w.alloc (.cells #[.bool sr, .slice ra rn rc] 41) = W) := hW
 have HN : Hid (w.heap.size = N) := hN
 have HB : Hid (W.heap[N]? = some (.cells #[.bool sr, .slice ra rn rc] 41 (0, 0))) := hb
 have HKW : Hid (Kept (fun k => k < w.heap.size) w W) := hkW
 obtain ⟨x, hx⟩ : ∃ x, M.nd i = x := ⟨_, rfl⟩
 obtain ⟨q, hq⟩ : ∃ q, R i = q := ⟨_, rfl⟩
 obtain ⟨up, hup⟩ : ∃ u, (M.pl i).up = u := ⟨_, rfl⟩
 rw [hx, hq, hup] at r9
 rw [hx, hq] at INN
 obtain ⟨n, hnn⟩ : ∃ n, M.n = n := ⟨_, rfl⟩
 rw [hnn] at INN hn hpos HLEN hi
 have HLN : Hid (l.length = rn) := len
 show Calls Tryz.prog 21 #[.pointer (some ⟨p, 0, none⟩), .int .i64 (i : Int), .agg #[.bool sr, .slice ra rn rc]] w _
 clear HND hnd hlen hX sz hI hL hask ha hl at_ hW hN hb hkW hzW hx hq hup hf hnn len
 go_enter Tryz.func21, Tryz.ntmps21
 go_upto_region 1 with fail
 rw [HW.out, HN.out]
 clear HW HN
 go_wp2_with fail
 refine r9.mono ?_
 rintro e w1 ⟨ao, ac, ko, kc, rfl, hAt, hQt, hK⟩
 obtain ⟨V, N1, hV, hN1, hb1, hk1, hz1⟩ := zae w1 (nW x ao ac up ko q.length kc) 46
 have hkV : Kept (fun k => k < W.heap.size) W V := hK.trans (hk1.mono fun k h => ltl h hK.size)
 have hbo : V.heap[N]? = some (.cells #[.bool sr, .slice ra rn rc] 41 (0, 0)) := (hkV.block N (zac HB.out)).trans HB.out
 have hwV : Kept (fun k => k < w.heap.size) w V := HKW.out.trans (hkV.mono fun k h => ltl h HKW.out.size)
 have hiV : Zaf (fun k => k < V.heap.size) V ko q := by
  have h1 : Zaf (fun k => k < w1.heap.size) w1 ko q := hQt.intsAt fun g hg => (Zad.out hQt hg).2
  exact h1.go (fun k h => by omega) hk1
 have rp := zfs p n sr ra rn rc l HLN.out few hpos (by omega) V (Za8.kept HAT.out hwV fun g hg => ltl hg hwV.size) (fun X hX => HLEN.out X (hwV.trans (hX.mono fun k h => ltl h hwV.size)))
 have HV : Hid (w1.alloc (.cells (nW x ao ac up ko q.length kc) 46) = V) := hV
 have HN1 : Hid (w1.heap.size = N1) := hN1
 have HB1 : Hid (V.heap[N1]? = some (.cells (nW x ao ac up ko q.length kc) 46 (0, 0))) := hb1
 have HWV : Hid (Kept (fun k => k < w.heap.size) w V) := hwV
 have HIV : Hid (Zaf (fun k => k < V.heap.size) V ko q) := hiV
 clear r9 hAt hQt hK hV hN1 hb1 hk1 hz1 hkV hwV hiV HAT HLEN
 go_upto_region 2 with fail
 rw [HV.out, HN1.out]
 clear HV HN1
 go_wp2_with (refine wpList_load_row rfl 41 _ rfl N rfl 41 #[.bool sr, .slice ra rn rc] (0, 0) _ hbo Tryz.underlying41 rfl (zmt _ rfl) ?_)
 refine rp.mono ?_
 rintro e X ⟨b, g, rfl, hg, hgb, hA, hP, hKX⟩
 have hbX : X.heap[N1]? = some (.cells (nW x ao ac up ko q.length kc) 46 (0, 0)) := (hKX.block N1 (zac HB1.out)).trans HB1.out
 have hq : Pq w ask (fun k => k < V.heap.size \/ k = g) X ⟨b, p, sr, g, n⟩ [] :=
  ⟨hP, by rw [HASK.out]; exact hA, .inr rfl, fun k h => .inl (ltl h HWV.out.size), HWV.out.trans (hKX.mono fun k h => ltl h HWV.out.size), by rw [HASK.out]⟩
 have ri := INN.out ⟨b, p, sr, g, n⟩ rfl rfl _ X [] ao ac up ko kc hq (HIV.out.go (fun k h => .inl h) hKX) (by have := HL.out; rw [List.length_nil]; omega)
 rw [List.nil_append] at ri
 have HKX : Hid (Kept (fun k => k < w.heap.size) w X) := HWV.out.trans (hKX.mono fun k h => ltl h HWV.out.size)
 clear rp hg hgb hA hP hKX hq hbo HB HB1 INN HIV
 go_wp2_with (refine wpList_load_row rfl 46 _ rfl N1 rfl 46 (nW x ao ac up ko q.length kc) (0, 0) _ hbX Tryz.underlying46 rfl (zdu _ rfl) ?_)
 refine ri.mono ?_
 rintro e Y ⟨rfl, hqY, hKY⟩
 have rs := znm _ ⟨b, p, sr, g, n⟩ L Y hqY.pg HL.out
 have HKY : Hid (Kept (fun k => k < w.heap.size) w Y) := HKX.out.trans (hKY.mono fun k h => .inl (ltl h HWV.out.size))
 have HOL : Hid (∀ k, k < w.heap.size -> k < V.heap.size) := fun k h => ltl h HWV.out.size
 clear ri hqY hKY hbX HKX HWV
 go_wp2_with fail
 refine rs.mono ?_
 rintro e Z ⟨rfl, hKZ⟩
 have HKZ : Hid (Kept (fun k => k < w.heap.size) w Z) := HKY.out.trans (hKZ.mono fun k h => .inl (HOL.out k h))
 clear rs hKZ HKY
 go_wp2
 go_ret
 exact ⟨rfl, HKZ.out⟩
theorem zea (hI : Inv M R G rk) (hn : M.n <= 100000) (sz : ∀ i, i < M.n -> Szd (M.nd i)) (f i : Nat) (hi : i < M.n) (hf : dn M.n rk i < f) (w : World) (hX : DX K w p M) (o : Opt w) (y : Nd) (rr : ∀ V, Kept (fun k => k < w.heap.size) w V -> Calls Tryz.prog 20 #[.pointer (some ⟨p, 0, none⟩), .int .i64 (M.pl i).up] V fun e w' => ∃ ao ac up ko kn kc z, e = .returned (.tuple #[.agg (nW y ao ac up ko kn kc), .int .u16 z]) /\ Kept (fun k => k < V.heap.size) V w') (hup1 : -1 <= (M.pl i).up /\ (M.pl i).up <= 1000000) (hl : (zb1 (zb0 o.ask M R f i) (M.nd i) (isR y)).length <= 1099511627776) :
  Calls Tryz.prog 23 #[.pointer (some ⟨p, 0, none⟩), .int .i64 (i : Int), o.val] w fun e w' => e = .returned (.string ⟨(zb1 (zb0 o.ask M R f i) (M.nd i) (isR y)).toArray⟩) /\ Kept (fun k => k < w.heap.size) w w' := by
 have hnd : ∀ i, i < M.n -> ∀ V, Kept (fun k => k < w.heap.size) w V -> Calls Tryz.prog 20 #[.pointer (some ⟨p, 0, none⟩), .int .i64 (i : Int)] V fun e w' => Told V (M.nd i) (M.pl i).up (R i) e w' := fun i hi V hV => zef K p i M R V (hX.kept hV) hI.good.wf hi (by omega) hI.good.few
 have hlen : ∀ X, Kept (fun k => k < w.heap.size) w X -> Calls Tryz.prog 12 #[.pointer (some ⟨p, 0, none⟩)] X fun e w' => e = .returned (.int .i64 (M.n : Int)) /\ Kept (fun k => k < X.heap.size) X w' := fun X h => by
  obtain ⟨ga, cap, hY⟩ := hX.kept h
  exact (zhl p M.n cap ga X hY.c1).mono fun e w' h => ⟨h.1, by rw [h.2]; exact Kept.refl _ _⟩
 have hpos := hI.core.pos
 obtain ⟨L, hL⟩ : ∃ L, zb1 (zb0 o.ask M R f i) (M.nd i) (isR y) = L := ⟨_, rfl⟩
 have INN : Hid (∀ c : Cf, c.d = p -> c.n = M.n -> ∀ (K : Nat -> Prop) (V : World) (l : List UInt8) (ao : Option Addr) (ac : Nat) (up : Int) (ko : Option Addr) (kc : Nat), Pq w o.ask K V c l -> Zah K V ao (M.nd i).attrs -> Zaf K V ko (R i) -> l.length + L.length <= 1099511627776 -> Calls Tryz.prog 65 #[.pointer (some ⟨c.b, 0, none⟩), .agg (nW (M.nd i) ao ac up ko (R i).length kc), .bool (isR y)] V fun e w' => e = .returned (.tuple #[]) /\ Pq w o.ask K w' c (l ++ L) /\ Kept K V w') := fun c h1 h2 K V l ao ac up ko kc hq ha hi' hll => by
  rw [<- hL] at hll ⊢
  exact ziz (sz i hi) (fun _ => zhz hI h2 (by omega) sz (by rw [h1]; exact hnd) f i hi hf) _ K V l ao ac up ko kc hq ha hi' hll
 rw [hL] at hl ⊢
 have RR : Hid _ := rr
 obtain ⟨ask, hask⟩ : ∃ a, o.ask = a := ⟨_, rfl⟩
 rw [hask] at INN
 obtain ⟨sr, ra, rn, rc, l, len, few, at_⟩ := o
 have ha : ask = ⟨sr, zbv l⟩ := hask.symm
 have HASK : Hid (ask = ⟨sr, zbv l⟩) := ha
 have HAT : Hid (Za8 (fun k => k < w.heap.size) w ra l) := at_
 have HLEN : Hid _ := hlen
 have HND := hnd i hi
 have HL : Hid (L.length <= 1099511627776) := hl
 obtain ⟨W, N, hW, hN, hb, hkW, hzW⟩ := zae w #[.bool sr, .slice ra rn rc] 41
 have r9 := HND W hkW
 have HW : Hid (w.alloc (.cells #[.bool sr, .slice ra rn rc] 41) = W) := hW
 have HN : Hid (w.heap.size = N) := hN
 have HB : Hid (W.heap[N]? = some (.cells #[.bool sr, .slice ra rn rc] 41 (0, 0))) := hb
 have HKW : Hid (Kept (fun k => k < w.heap.size) w W) := hkW
 obtain ⟨x, hx⟩ : ∃ x, M.nd i = x := ⟨_, rfl⟩
 obtain ⟨q, hq⟩ : ∃ q, R i = q := ⟨_, rfl⟩
 obtain ⟨up, hup⟩ : ∃ u, (M.pl i).up = u := ⟨_, rfl⟩
 rw [hx, hq, hup] at r9
 rw [hup] at RR hup1
 rw [hx, hq] at INN
 obtain ⟨n, hnn⟩ : ∃ n, M.n = n := ⟨_, rfl⟩
 rw [hnn] at INN hn hpos HLEN hi
 have HLN : Hid (l.length = rn) := len
 show Calls Tryz.prog 23 #[.pointer (some ⟨p, 0, none⟩), .int .i64 (i : Int), .agg #[.bool sr, .slice ra rn rc]] w _
 clear rr HND hnd hlen hX sz hI hL hask ha hl at_ hW hN hb hkW hzW hx hq hup hf hnn len
 go_enter Tryz.func23, Tryz.ntmps23
 go_upto_region 1 with fail
 rw [HW.out, HN.out]
 clear HW HN
 go_wp2_with fail
 refine r9.mono ?_
 rintro e w1 ⟨ao, ac, ko, kc, rfl, hAt, hQt, hK⟩
 obtain ⟨V, N1, hV, hN1, hb1, hk1, hz1⟩ := zae w1 (nW x ao ac up ko q.length kc) 46
 have hkV : Kept (fun k => k < W.heap.size) W V := hK.trans (hk1.mono fun k h => ltl h hK.size)
 have hbo : V.heap[N]? = some (.cells #[.bool sr, .slice ra rn rc] 41 (0, 0)) := (hkV.block N (zac HB.out)).trans HB.out
 have hwV : Kept (fun k => k < w.heap.size) w V := HKW.out.trans (hkV.mono fun k h => ltl h HKW.out.size)
 have hiV : Zaf (fun k => k < V.heap.size) V ko q := by
  have h1 : Zaf (fun k => k < w1.heap.size) w1 ko q := hQt.intsAt fun g hg => (Zad.out hQt hg).2
  exact h1.go (fun k h => by omega) hk1
 have haV : Zah (fun k => k < V.heap.size) V ao x.attrs := by
  have h1 : Zah (fun k => k < w1.heap.size) w1 ao x.attrs := hAt.atsAt (K' := fun k => k < w1.heap.size) fun g hg => (Zad.out hAt hg).2
  exact h1.go (fun k h => by omega) hk1
 have HAV : Hid (Zah (fun k => k < V.heap.size) V ao x.attrs) := haV
 have d4 : V.cell? ⟨N1, 4, none⟩ = some (.int .i64 up) := by rw [zaa hb1]; rfl
 have r8 := RR.out V hwV
 have HBO : Hid (V.heap[N]? = some (.cells #[.bool sr, .slice ra rn rc] 41 (0, 0))) := hbo
 have HV : Hid (w1.alloc (.cells (nW x ao ac up ko q.length kc) 46) = V) := hV
 have HN1 : Hid (w1.heap.size = N1) := hN1
 have HB1 : Hid (V.heap[N1]? = some (.cells (nW x ao ac up ko q.length kc) 46 (0, 0))) := hb1
 have HWV : Hid (Kept (fun k => k < w.heap.size) w V) := hwV
 have HIV : Hid (Zaf (fun k => k < V.heap.size) V ko q) := hiV
 clear r9 hAt hQt hK hV hN1 hb1 hk1 hz1 hkV hwV hiV haV hbo RR
 go_upto_region 2 with fail
 rw [HV.out, HN1.out]
 clear HV HN1
 go_wp2_with fail
 refine r8.mono ?_
 rintro e w2 ⟨ao2, ac2, up2, ko2, kn2, kc2, z2, rfl, hK2⟩
 obtain ⟨U, N2, hU, hN2, hb2, hk2, hz2⟩ := zae w2 (nW y ao2 ac2 up2 ko2 kn2 kc2) 46
 have hVU : Kept (fun k => k < V.heap.size) V U := hK2.trans (hk2.mono fun k h => ltl h hK2.size)
 have hwU : Kept (fun k => k < w.heap.size) w U := HWV.out.trans (hVU.mono fun k h => ltl h HWV.out.size)
 have hbo : U.heap[N]? = some (.cells #[.bool sr, .slice ra rn rc] 41 (0, 0)) := (hVU.block N (zac HBO.out)).trans HBO.out
 have rp := zfs p n sr ra rn rc l HLN.out few hpos (by omega) U (Za8.kept HAT.out hwU fun g hg => ltl hg hwU.size) (fun X hX => HLEN.out X (hwU.trans (hX.mono fun k h => ltl h hwU.size)))
 have HU : Hid (w2.alloc (.cells (nW y ao2 ac2 up2 ko2 kn2 kc2) 46) = U) := hU
 have HN2 : Hid (w2.heap.size = N2) := hN2
 have HB2 : Hid (U.heap[N2]? = some (.cells (nW y ao2 ac2 up2 ko2 kn2 kc2) 46 (0, 0))) := hb2
 have HBU : Hid (U.heap[N1]? = some (.cells (nW x ao ac up ko q.length kc) 46 (0, 0))) := (hVU.block N1 (zac HB1.out)).trans HB1.out
 have HWU : Hid (Kept (fun k => k < w.heap.size) w U) := hwU
 have HIU : Hid (Zaf (fun k => k < U.heap.size) U ko q) := HIV.out.go (fun k h => ltl h hVU.size) hVU
 have HAU : Hid (Zah (fun k => k < U.heap.size) U ao x.attrs) := HAV.out.go (fun k h => ltl h hVU.size) hVU
 clear r8 hK2 hU hN2 hb2 hk2 hz2 hVU hwU HAT HLEN HWV HIV HAV HB1 HBO d4
 go_upto_region 5 with fail
 rw [HU.out, HN2.out]
 clear HU HN2
 go_wp2_with (refine wpList_load_row rfl 41 _ rfl N rfl 41 #[.bool sr, .slice ra rn rc] (0, 0) _ hbo Tryz.underlying41 rfl (zmt _ rfl) ?_)
 refine rp.mono ?_
 rintro e X ⟨b, g, rfl, hg, hgb, hA, hP, hKX⟩
 have hbX : X.heap[N1]? = some (.cells (nW x ao ac up ko q.length kc) 46 (0, 0)) := (hKX.block N1 (zac HBU.out)).trans HBU.out
 have hb2X : X.heap[N2]? = some (.cells (nW y ao2 ac2 up2 ko2 kn2 kc2) 46 (0, 0)) := (hKX.block N2 (zac HB2.out)).trans HB2.out
 have hq : Pq w ask (fun k => k < U.heap.size \/ k = g) X ⟨b, p, sr, g, n⟩ [] :=
  ⟨hP, by rw [HASK.out]; exact hA, .inr rfl, fun k h => .inl (ltl h HWU.out.size), HWU.out.trans (hKX.mono fun k h => ltl h HWU.out.size), by rw [HASK.out]⟩
 have HQX : Hid (Pq w ask (fun k => k < U.heap.size \/ k = g) X ⟨b, p, sr, g, n⟩ []) := hq
 have HKX : Hid (Kept (fun k => k < U.heap.size) U X) := hKX
 have HL1 : Hid (∀ Y, Kept (fun k => k < U.heap.size \/ k = g) X Y -> Y.heap[N1]? = some (.cells (nW x ao ac up ko q.length kc) 46 (0, 0))) := fun Y hY => (hY.block N1 (.inl (zac HBU.out))).trans hbX
 have HL2 : Hid (∀ Y, Kept (fun k => k < U.heap.size \/ k = g) X Y -> Y.heap[N2]? = some (.cells (nW y ao2 ac2 up2 ko2 kn2 kc2) 46 (0, 0))) := fun Y hY => (hY.block N2 (.inl (zac HB2.out))).trans hb2X
 clear rp hg hgb hA hP hKX hq hbo HB2 HBU hbX hb2X
 go_upto_region 6 with fail
 refine wp_region_held_drew (S := fun Y => Kept (fun k => k < U.heap.size \/ k = g) X Y) (by kernel_rfl) ((Kept.refl _ X).drew) (fun hHeld => ?_)
 refine tkH 0 30 (.pointer (some ⟨b, 0, none⟩)) rfl rfl (by kernel_rfl) (by rfl) (by intro Y hY; go_simp; try with_reducible rfl) (fun _ _ _ h => h) hHeld ?_
 try simp only [Act.put, List.setIfInBounds_toArray, List.set_cons_zero, List.set_cons_succ]
 refine tkH 1 31 (.agg (nW x ao ac up ko q.length kc)) rfl rfl (by kernel_rfl) (by rfl) (by intro Y hY; exact zog rfl rfl (HL1.out Y hY) rfl) (fun _ _ _ h => h) hHeld ?_
 try simp only [Act.put, List.setIfInBounds_toArray, List.set_cons_zero, List.set_cons_succ]
 refine tkH 2 32 (.agg (nW y ao2 ac2 up2 ko2 kn2 kc2)) rfl rfl (by kernel_rfl) (by rfl) (by intro Y hY; exact zog rfl rfl (HL2.out Y hY) rfl) (fun _ _ _ h => h) hHeld ?_
 try simp only [Act.put, List.setIfInBounds_toArray, List.set_cons_zero, List.set_cons_succ]
 have rw' := zhu y ao2 ac2 up2 ko2 kn2 kc2 X.drew
 refine clH 3 33 66 #[.agg (nW y ao2 ac2 up2 ko2 kn2 kc2)] rfl rfl (by kernel_rfl) (by rfl) rfl (by first | rfl | (simp [Act.eval]; done) | (simp [Act.eval, Act.put]; done)) (zts _ _) rw' ?_
 rintro e Y ⟨rfl, hkY⟩
 have hXY : Kept (fun k => k < X.heap.size) X Y := ((Kept.refl _ X).drew).trans hkY
 refine ⟨_, rfl, hXY.mono HQX.out.lt, fun hHeld2 => ?_⟩
 replace hHeld := hHeld2
 clear hHeld2
 try simp only [Act.put, List.setIfInBounds_toArray, List.set_cons_zero, List.set_cons_succ]
 have hUY : Kept (fun k => k < U.heap.size) U Y := HKX.out.trans (hXY.mono fun k h => HQX.out.lt k (.inl h))
 have ro := INN.out ⟨b, p, sr, g, n⟩ rfl rfl _ Y [] ao ac up ko kc (HQX.out.stay hXY) (HAU.out.go (fun k h => .inl h) hUY) (HIU.out.go (fun k h => .inl h) hUY) (by have := HL.out; rw [List.length_nil]; omega)
 rw [List.nil_append] at ro
 refine clH 4 34 65 #[.pointer (some ⟨b, 0, none⟩), .agg (nW x ao ac up ko q.length kc), .bool (isR y)] rfl rfl (by kernel_rfl) (by rfl) rfl (by first | rfl | (simp [Act.eval]; done) | (simp [Act.eval, Act.put]; done)) (zs3 _ _) ro ?_
 rintro e Z ⟨rfl, hqZ, hkZ⟩
 refine ⟨_, rfl, hHeld.trans hkZ, fun hHeld2 => ?_⟩
 try simp only [Act.put, List.setIfInBounds_toArray, List.set_cons_zero, List.set_cons_succ]
 refine wpAnyH_done (by kernel_rfl) ?_ _
 have rs := znm _ ⟨b, p, sr, g, n⟩ L Z hqZ.pg HL.out
 have HKZ : Hid (Kept (fun k => k < w.heap.size) w Z) := (HWU.out.trans (HKX.out.mono fun k h => ltl h HWU.out.size)).trans (hHeld2.mono fun k h => .inl (ltl h HWU.out.size))
 have HOL : Hid (∀ k, k < w.heap.size -> k < U.heap.size) := fun k h => ltl h HWU.out.size
 clear hHeld hHeld2 rw' hkY hXY hUY ro hqZ hkZ INN HQX HKX HL1 HL2 HAU HIU HWU
 go_wp2_with fail
 refine rs.mono ?_
 rintro e Z2 ⟨rfl, hKZ⟩
 have HKZ2 : Hid (Kept (fun k => k < w.heap.size) w Z2) := HKZ.out.trans (hKZ.mono fun k h => .inl (HOL.out k h))
 clear rs hKZ HKZ
 go_wp2
 go_ret
 exact ⟨rfl, HKZ2.out⟩
end
end
section
open Go.RowKit
set_option linter.unusedVariables false
section
variable {M : Dm} {R G : Nat -> List Nat} {rk : Nat -> Nat} {o : Ask}
def BB : Nat := 7000000
theorem zhe : ∀ (l : List Atr), (∀ a ∈ l, a.name.length <= 60 /\ a.value.length <= 2000) -> (zcv l).length <= 13000 * l.length
 | [], _ => by simp [zcv]
 | a :: l, h => by
  have ih := zhe l fun b hb => h b (List.mem_cons_of_mem _ hb)
  have ha := h a List.mem_cons_self
  have he := zeg true a.value
  have e : zcv (a :: l) = zpo a ++ zcv l := by unfold zcv; rw [List.flatMap_cons]
  rw [e, List.length_append, List.length_cons]
  unfold zpo
  simp only [List.length_append, List.length_cons, List.length_nil]
  omega
theorem zob (h : Inv M R G rk) {k : Nat} (hk : k < M.n) (L : List UInt8) (raw : Bool) : (zb1 L (M.nd k) raw).length <= BB + L.length := by
 have ho := h.ex.okd k hk
 have ha := h.core.atr hk
 unfold BB
 unfold zb1
 by_cases k1 : (M.nd k).kind = 1
 ·rw [if_pos k1]
  obtain ⟨hv, hs⟩ := h.core.el k hk k1
  have hn : (M.nd k).name.length <= 60 := by
   unfold za4 at hv
   simp only [Bool.and_eq_true, decide_eq_true_eq] at hv
   exact hv.1.2
  have h50 : (M.nd k).attrs.length <= 50 := by
   unfold za3 at hs
   simp only [Bool.and_eq_true, decide_eq_true_eq] at hs
   exact hs.1
  have hat := zhe (M.nd k).attrs ha
  have h1 : (zdi (M.nd k).name (M.nd k).attrs).length <= 2000000 := by
   unfold zdi; simp only [List.length_append, List.length_cons, List.length_nil]; omega
  have h2 : (zdm (M.nd k).name).length <= 100 := by
   unfold zdm; simp only [List.length_append, List.length_cons, List.length_nil]; omega
  rw [List.length_append]
  split
  ·rw [List.length_nil]; omega
  ·rw [List.length_append]; omega
 ·rw [if_neg k1]
  have he := zeg false (M.nd k).data
  have hd := ho.1
  split
  ·split <;> omega
  ·split
   ·simp only [List.length_append, List.length_cons, List.length_nil]; omega
   ·split
    ·rename_i k6
     have := h.ex.nsz k hk k6
     unfold zld
     simp only [List.length_append, List.length_cons, List.length_nil]; omega
    ·split
     ·omega
     ·rw [List.length_nil]; omega
theorem zsk (f : Fg) : (zdi zbp (flA f)).length <= 100000 := by
 obtain ⟨a, b, c, d, e⟩ := f
 cases a <;> cases b <;> cases c <;> cases d <;> cases e <;> decide +kernel
theorem zkm (B : Nat) (inn : Nat -> List UInt8) (T : Nat -> List Nat) (raw : Bool) : ∀ (l : List Nat), (∀ k ∈ l, (zq0 inn (M.nd k) k raw).length <= B * (T k).length) -> (zgh M inn raw l).length <= B * (l.flatMap T).length
 | [], _ => Nat.zero_le _
 | k :: l, h => by
  rw [zlq, List.length_append, List.flatMap_cons, List.length_append, Nat.mul_add]
  exact Nat.add_le_add (h k List.mem_cons_self) (zkm B inn T raw l fun j hj => h j (List.mem_cons_of_mem _ hj))
theorem zqz (h : Inv M R G rk) : ∀ (f i : Nat), i < M.n -> (zb0 o M R f i).length + BB <= BB * (tr M.n (fwc M R) i).length
 | 0, i, hi => by
  rw [zi7 h.onlyC.falls hi, List.length_cons, Nat.mul_add]
  show 0 + BB <= _
  omega
 | f + 1, i, hi => by
  have ih := zqz h f
  have hO := h.onlyC
  have hout : ∀ k, k < M.n -> ∀ raw, (zq0 (zb0 o M R f) (M.nd k) k raw).length <= BB * (tr M.n (fwc M R) k).length := fun k hk raw => by
   have h1 := zob h hk (zb0 o M R f k) raw
   have h2 := ih k hk
   rw [zn4]
   omega
  have hkids : ∀ u, u < M.n -> ∀ raw, (zgh M (zb0 o M R f) raw (R u)).length <= BB * ((R u).flatMap (tr M.n (fwc M R))).length := fun u hu raw => zkm BB _ _ raw (R u) fun k hk => hout k (h.good.kid hu hk).1 raw
  rw [zi7 hO.falls hi, List.length_cons]
  rw [show fwc M R i = (if (M.nd i).shadow = -1 then [] else [(M.nd i).shadow.toNat]) ++ ((if (M.nd i).content = -1 then [] else [(M.nd i).content.toNat]) ++ R i) from rfl, List.flatMap_append, List.flatMap_append, List.length_append, List.length_append]
  have goal : (zb0 o M R (f + 1) i).length <= BB * (((if (M.nd i).shadow = -1 then [] else [(M.nd i).shadow.toNat]).flatMap (tr M.n (fwc M R))).length + (((if (M.nd i).content = -1 then [] else [(M.nd i).content.toNat]).flatMap (tr M.n (fwc M R))).length + ((R i).flatMap (tr M.n (fwc M R))).length)) := by
   show (zq2 o M R (zb0 o M R f) i).length <= _
   unfold zq2
   split
   ·exact Nat.zero_le _
   ·rw [List.length_append, Nat.mul_add]
    refine Nat.add_le_add ?_ ?_
    ·unfold zff
     by_cases c : (M.nd i).shadow = -1
     ·rw [if_pos c]; exact Nat.zero_le _
     ·rw [if_neg c, if_neg c]
      obtain ⟨q, e, hq, -⟩ := h.shadowQ hi c
      rw [e, Int.toNat_natCast, List.flatMap_cons, List.flatMap_nil, List.append_nil]
      have h2 := ih q hq
      unfold zln
      split
      ·have h3 := zsk (M.nd q).fl
       have h4 : (zdm zbp).length <= 100 := by decide
       have h5 : BB = 7000000 := rfl
       rw [List.length_append, List.length_append]
       omega
      ·exact Nat.zero_le _
    ·by_cases c : (M.nd i).content = -1
     ·rw [show zfd (M.nd i) i = i from if_pos c, if_pos c]
      have := hkids i hi (isR (M.nd i))
      rw [List.flatMap_nil, List.length_nil, Nat.zero_add]
      exact this
     ·rw [show zfd (M.nd i) i = (M.nd i).content.toNat from if_neg c, if_neg c]
      have hm : (M.nd i).content.toNat ∈ fwc M R i := by unfold fwc; rw [if_neg c]; simp
      obtain ⟨hc, -, -⟩ := h.parC hi hm
      have h1 := hkids _ hc (isR (M.nd (M.nd i).content.toNat))
      rw [List.flatMap_cons, List.flatMap_nil, List.append_nil]
      have h2 : ((R (M.nd i).content.toNat).flatMap (tr M.n (fwc M R))).length <= (tr M.n (fwc M R) (M.nd i).content.toNat).length := by
       rw [zi7 hO.falls hc, List.length_cons]
       unfold fwc
       rw [List.flatMap_append, List.flatMap_append, List.length_append, List.length_append]
       omega
      refine Nat.le_trans h1 ?_
      refine Nat.mul_le_mul_left _ ?_
      omega
  rw [Nat.mul_add]
  omega
theorem zd3 (h : Inv M R G rk) (hn : M.n <= 100000) (f : Nat) {i : Nat} (hi : i < M.n) (raw : Bool) : (zb0 o M R f i).length <= 1000000000000 /\ (zb1 (zb0 o M R f i) (M.nd i) raw).length <= 1000000000000 := by
 have h1 := zqz (o := o) h f i hi
 have h2 := zt6 h.onlyC hi
 have h3 : BB * (tr M.n (fwc M R) i).length <= BB * 100000 := Nat.mul_le_mul_left _ (by omega)
 have h4 := zob h hi (zb0 o M R f i) raw
 have h5 : BB = 7000000 := rfl
 omega
theorem Inv.szd (h : Inv M R G rk) (k : Nat) (hk : k < M.n) : Szd (M.nd k) := by
 have ho := h.ex.okd k hk
 have ha := h.core.atr hk
 refine ⟨by have := h.good.few k hk; omega, fun a h' => by have := (ha a h').2; omega, fun _ => ho.1, ?_⟩
 by_cases h5 : (M.nd k).kind = 5
 ·omega
 ·have := h.ex.snd k hk h5
  unfold zat Nd.mk' Mk.it za6 at this
  refine Nat.le_of_not_lt fun hgt => ?_
  have n1 : (M.nd k).kind ≠ 1 := by omega
  have n2 : (M.nd k).kind ≠ 2 := by omega
  have n3 : (M.nd k).kind ≠ 3 := by omega
  have n4 : (M.nd k).kind ≠ 4 := by omega
  have n6 : (M.nd k).kind ≠ 6 := by omega
  simp [zba, zbe, n1, n2, n3, n4, n6] at this
def zg4 (M : Dm) (j : Nat) : Bool := if (M.pl j).up = -1 then false else isR (M.nd (M.pl j).up.toNat)
def yN : Nd := ⟨0, [], [], [], ⟨false, false, false, false, false⟩, 0, 0, 0⟩
theorem zlc {K : Nat -> Prop} {p : Nat} (hI : Inv M R G rk) (hn : M.n <= 100000) {j : Nat} (hj : j < M.n) (F : Nat) (hF : dn M.n rk j < F) (w : World) (hX : DX K w p M) (o : Opt w) :
  Calls Tryz.prog 21 #[.pointer (some ⟨p, 0, none⟩), .int .i64 (j : Int), o.val] w fun e w' => e = .returned (.string ⟨(zb0 o.ask M R F j).toArray⟩) /\ Kept (fun k => k < w.heap.size) w w' :=
 zi2 hI hn hI.szd F j hj hF w hX o (by have := (zd3 (o := o.ask) hI hn F hj false).1; omega)
theorem zl2 {K : Nat -> Prop} {p : Nat} (hI : Inv M R G rk) (hn : M.n <= 100000) {j : Nat} (hj : j < M.n) (F : Nat) (hF : dn M.n rk j < F) (w : World) (hX : DX K w p M) (o : Opt w) :
  Calls Tryz.prog 23 #[.pointer (some ⟨p, 0, none⟩), .int .i64 (j : Int), o.val] w fun e w' => e = .returned (.string ⟨(zb1 (zb0 o.ask M R F j) (M.nd j) (zg4 M j)).toArray⟩) /\ Kept (fun k => k < w.heap.size) w w' := by
 rcases hI.good.wf.inn j hj with e | ⟨u, hu, e, hm⟩
 ·have er : zg4 M j = isR yN := by unfold zg4; rw [if_pos e]; rfl
  rw [er]
  exact zea hI hn hI.szd F j hj hF w hX o yN (fun V hV => by
   rw [e]
   refine (zc4 K p M (-1) V (hX.kept hV) (.inl (by omega)) (by omega)).mono ?_
   rintro e w' ⟨rfl, hk⟩
   exact ⟨none, 0, 0, none, 0, 0, 80, rfl, hk⟩) (by rw [e]; exact ⟨by omega, by omega⟩) (by have := (zd3 (o := o.ask) hI hn F hj (isR yN)).2; omega)
 ·have er : zg4 M j = isR (M.nd u) := by unfold zg4; rw [if_neg (by rw [e]; omega), e, Int.toNat_natCast]
  rw [er]
  exact zea hI hn hI.szd F j hj hF w hX o (M.nd u) (fun V hV => by
   rw [e]
   refine (zef K p u M R V (hX.kept hV) hI.good.wf hu (by omega) hI.good.few).mono ?_
   rintro e w' ⟨ao, ac, ko, kc, rfl, -, -, hk⟩
   exact ⟨ao, ac, _, ko, _, kc, 0, rfl, hk⟩) (by rw [e]; exact ⟨by omega, by omega⟩) (by have := (zd3 (o := o.ask) hI hn F hj (isR (M.nd u))).2; omega)
end
end
end Go.Proofs.YtikaheenjhdpmaaGreat
