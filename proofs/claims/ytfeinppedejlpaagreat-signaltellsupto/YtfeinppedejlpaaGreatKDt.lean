/-
  SignalTells: the walk.
-/
import Derived.Test.YtfeinppedejlpaaGreatKDs
namespace Go.Proofs.YtfeinppedejlpaaGreat
open Go.RowKit Go.Sort
set_option linter.unusedVariables false
set_option maxRecDepth 100000
set_option maxHeartbeats 8000000
theorem SG.start {B : Nat} {E : Nat -> Prop} {w2 w3 w4 : World} {p r b c : Nat} (h : Grown (fun k => k < B) E w2 p r (Dm.new 300) (fun _ => []) (fun _ => []) (fun _ => 0) 300) (hB : B <= w2.heap.size)
  (hb : Bo (fun k => k = w2.heap.size \/ k = w2.heap.size + 1) w3 b 0 (fun _ => []) []) (k3 : Kept (fun k => k < w2.heap.size) w2 w3) (hd : DBo (fun k => k = w3.heap.size) w4 c 0 (fun _ => []) []) (k4 : Kept (fun k => k < w3.heap.size) w3 w4) :
  SG B E (fun k => k = w2.heap.size \/ k = w2.heap.size + 1) (fun k => k = w3.heap.size) w4 p r b c 0 0 (Dm.new 300) (fun _ => []) (fun _ => []) (fun _ => 0) (fun _ => []) [] (fun _ => []) [] := by
 have h0 : Grown (KB B (fun _ => False)) E w2 p r (Dm.new 300) (fun _ => []) (fun _ => []) (fun _ => 0) 300 := by
  have e : (KB B (fun _ => False)) = fun k => k < B := by funext k; unfold KB; simp
  rw [e]; exact h
 have h1 := h0.see hB ⟨fun _ h => h.elim, fun k hk => .inr (by rcases hk with rfl | rfl <;> omega), k3.mono fun k h => h.1⟩ hb.lt
 have s3 := k3.size
 have h2 := h1.see (E1 := fun k => (k = w2.heap.size \/ k = w2.heap.size + 1) \/ k = w3.heap.size) (Nat.le_trans hB s3) ⟨fun _ h => .inl h, fun k hk => hk.elim .inl (fun h => .inr (by omega)), k4.mono fun k h => h.1⟩ (fun k hk => hk.elim (fun h => ltl (hb.lt k h) k4.size) (fun h => hd.lt k h))
 refine ⟨h2, hb.keptA k4, hd, fun k hk hk2 => ?_, fun k hk => ?_, Nat.le_trans hB (Nat.le_trans s3 k4.size), Nat.zero_le _⟩
 ·have := hb.lt k hk
  omega
 ·rcases hk with (hk | hk) | hk <;> omega
theorem ztt (l : List Opx) (n : Nat) (hln : l.length = n) (hnn : n <= 60) (a : Option Addr) (c : Nat) (hok : ∀ o ∈ l, Zhc o) (hb : zcb l <= 6000) (sl : List Int) (sn : Nat) (hsn : sl.length = sn) (hs0 : 0 < sn) (hs9 : sn <= 2000000) (sa : Option Addr) (sc : Nat) (hsr : ∀ z ∈ sl, 0 <= z /\ z <= 255)
  (w : World) (h : Zcp (fun k => k < w.heap.size) w a l) (hS : Zto w sa sl) :
  Calls Tryz.prog 4 #[.slice a n c, .slice sa sn sc] w fun e w' => e = .returned (.bool true) /\ Kept (fun k => k < w.heap.size) w w' := by
 have rh := zgu l n hln (by omega) a c (by omega) w h
 have hg60 : decide ((n : Int) > 60) = false := decide_eq_false (by omega)
 have hsz0 : ((sn : Int) == 0) = false := by simp; omega
 obtain ⟨hv, hhv⟩ : ∃ hv, zcb l = hv := ⟨_, rfl⟩
 rw [hhv] at rh
 have hg6 : decide ((hv : Int) > 6000) = false := decide_eq_false (by omega)
 have HRN : Hid (∀ X, Calls Tryz.prog 28 #[.int .i64 300] X fun e w' => ∃ p, e = .returned (.pointer (some ⟨p, 0, none⟩)) /\ X.heap.size <= p /\ RX (fun k => k < X.heap.size) TT w' p (Dm.new 300) (fun _ => []) (fun _ => []) /\ Kept (fun k => k < X.heap.size) X w') := fun X => zgd 300 X (by decide) (by decide)
 have HL : Hid (l.length = n) := hln
 have HB : Hid (zcb l <= 900000) := by rw [hhv]; exact (by omega : hv <= 900000)
 have HH : Hid (Zcp (fun k => k < w.heap.size) w a l) := h
 have HOK : Hid (∀ o ∈ l, Zhc o) := hok
 have HSL : Hid (sl.length = sn) := hsn
 have HSR : Hid (∀ z ∈ sl, 0 <= z /\ z <= 255) := hsr
 have HS : Hid (Zto w sa sl) := hS
 clear hln hok h hhv hb hsn hsr hS
 go_enter Tryz.func4, Tryz.ntmps4
 go_wp2_with fail
 refine rh.mono ?_
 rintro e wA ⟨rfl, kwA⟩
 have rk0 := zd4 wA
 have HKu1 : Hid (Kept (fun k => k < w.heap.size) w wA) := kwA
 clear rh kwA
 go_wp2_with fail
 refine rk0.mono ?_
 rintro e wB ⟨rfl, kwB⟩
 have HKu2 : Hid (Kept (fun k => k < w.heap.size) w wB) := kt HKu1.out kwB
 have rn := zej 300 wB (by decide) (by decide)
 clear rk0 kwB hg6 hg60 hsz0 HKu1
 go_wp2_with fail
 refine rn.mono ?_
 rintro e w1 ⟨p, rfl, hp, hX1, k1⟩
 have rn2 := HRN.out w1
 have HX1 : Hid (DX (fun k => k < wB.heap.size) w1 p (Dm.new 300)) := hX1
 have HK1 : Hid (Kept (fun k => k < wB.heap.size) wB w1) := k1
 clear rn hX1 k1 HRN hp
 go_wp2_with fail
 refine rn2.mono ?_
 rintro e w2 ⟨r, rfl, hr, hX2, k2⟩
 have HG2 : Hid (Grown (fun k => k < wB.heap.size) (fun k => w1.heap.size <= k /\ k < w2.heap.size) w2 p r (Dm.new 300) (fun _ => []) (fun _ => []) (fun _ => 0) 300) := ⟨zh1 HX1.out HK1.out hX2 k2, Inv.new 300, rfl, by show 1 <= 300; decide⟩
 have HK2 : Hid (Kept (fun k => k < wB.heap.size) wB w2) := kt HK1.out k2
 have rb := zlg w2
 clear rn2 hX2 k2 hr HX1 HK1
 go_wp2_with fail
 refine rb.mono ?_
 rintro e w3 ⟨b, rfl, hBo, k3⟩
 have HBo : Hid (Bo (fun k => k = w2.heap.size \/ k = w2.heap.size + 1) w3 b 0 (fun _ => []) []) := hBo
 have HK3 : Hid (Kept (fun k => k < w2.heap.size) w2 w3) := k3
 have rb2 := zo2 w3
 clear rb hBo k3
 go_wp2_with fail
 refine rb2.mono ?_
 rintro e w4 ⟨cb, rfl, hDB, k4⟩
 have HSG : Hid (SG wB.heap.size (fun k => w1.heap.size <= k /\ k < w2.heap.size) (fun k => k = w2.heap.size \/ k = w2.heap.size + 1) (fun k => k = w3.heap.size) w4 p r b cb 0 0 (Dm.new 300) (fun _ => []) (fun _ => []) (fun _ => 0) (fun _ => []) [] (fun _ => []) []) := SG.start HG2.out HK2.out.size HBo.out HK3.out hDB k4
 have HK4 : Hid (Kept (fun k => k < wB.heap.size) wB w4) := (kt HK2.out HK3.out).trans (k4.mono fun k h => ltl h (Nat.le_trans HK2.out.size HK3.out.size))
 have HBK : Hid (Ziu (Dm.new 300) (fun _ => []) []) := ⟨List.nodup_nil, fun k hk => (by cases hk), fun i hi => absurd rfl hi, fun _ => Nat.zero_le _⟩
 clear rb2 hDB k4 HG2 HK2 HBo HK3
 go_upto_region 10 with fail
 go_loopg [9] n (fun gh v wr => ∃ (k nb mc : Nat) (E EB ED : Nat -> Prop) (M : Dm) (R G : Nat -> List Nat) (rk : Nat -> Nat) (kn : Nat -> List Nat) (pd : List Nat), gh = n - k /\ k <= n /\ v = .int .i64 (k : Int) /\ SG wB.heap.size E EB ED wr p r b cb nb mc M R G rk kn pd kn pd /\ Ziu M kn pd /\ nb <= 300 * k /\ Kept (fun k => k < wB.heap.size) wB wr)
 case atStart => exact ⟨0, 0, 0, _, _, _, _, _, _, _, _, _, rfl, Nat.zero_le _, rfl, HSG.out, HBK.out, Nat.le_refl _, HK4.out⟩
 case round =>
  clear HSG HK4 HBK
  obtain ⟨k, nb, mc, E, EB, ED, M, R, G, rk, kn, pd, hgk, hk, rfl, hSG, hBK, hnb, hK⟩ := hrel
  have hKw : Kept (fun k => k < w.heap.size) w wr := kt HKu2.out hK
  have HBK : Hid (Ziu M kn pd) := hBK
  by_cases hlt : k < n
  ·have hll : k < l.length := by rw [HL.out]; exact hlt
   obtain ⟨g, o, A, rfl, hg, hA, hc⟩ := HH.out k hll
   have hmem := List.getElem_mem hll
   obtain ⟨x, hx⟩ : ∃ x, l[k] = x := ⟨_, rfl⟩
   rw [hx] at hA hc hmem
   have hvx := zf3 hmem
   have hrange : wr.rangeAt g (o + k * 17) (opC x A) := fun f u hu => (hKw.cell (p := ⟨g, o + k * 17 + f, none⟩) hg).trans (hc f u hu)
   obtain ⟨N, hN⟩ : ∃ N, wr.heap.size = N := ⟨_, rfl⟩
   have hb1 : (wr.alloc (.cells zbf 50)).heap[N]? = some (.cells zbf 50 (0, 0)) := by rw [<- hN]; exact heap_alloc_new wr _
   obtain ⟨W1, hW1⟩ : ∃ W1, (wr.alloc (.cells zbf 50)).setRow N (opC x A).toArray = W1 := ⟨_, rfl⟩
   have hB1 : W1.heap[N]? = some (.cells (opC x A).toArray 50 (0, 0)) := by rw [<- hW1]; exact setRow_heap _ _ _ _ _ _ hb1
   have k1 : Kept (fun k => k < wr.heap.size) wr W1 := by rw [<- hW1]; exact zap ((Kept.refl _ wr).alloc (fun _ h => h) _) (by rw [hN]; exact Nat.lt_irrefl _) _
   obtain ⟨W2, hW2⟩ : ∃ W2, W1.setCell ⟨N, 4, none⟩ (.bool true) = W2 := ⟨_, rfl⟩
   have hB2 : W2.heap[N]? = some (.cells (opC { x with inn := true } A).toArray 50 (0, 0)) := by rw [<- hW2]; exact zbj hB1 4 (.bool true)
   have k2 : Kept (fun k => k < wr.heap.size) wr W2 := by rw [<- hW2]; exact k1.setCell (p := ⟨N, 4, none⟩) (by rw [hN]; exact Nat.lt_irrefl _) _
   have k2w : Kept (fun k => k < w.heap.size) w W2 := kt hKw k2
   have b4 : W1.cell? ⟨N, 4, none⟩ = some (.bool x.inn) := by rw [zaa hB1]; rfl
   have f4 : W1.frozen? ⟨N, 4, none⟩ = false := zak hB1 4
   have e0 : W2.cell? ⟨N, 0, none⟩ = some (.int .u8 (x.k : Int)) := by rw [zaa hB2]; rfl
   have hwu : w.heap.size <= wB.heap.size := HKu2.out.size
   have hG := hSG.g
   have hdoes := zf0 (KB wB.heap.size (fun k => EB k \/ ED k)) E p r M R G rk W2 { x with inn := true } A ⟨(hG.kept k2).two, hG.inv, hG.le, by rw [hG.lim]; decide, (HOK.out x hmem).inn, by have := HB.out; show opH x <= _; omega, hA.kept k2w (fun g hg => .inl (ltl hg hwu)), rfl⟩
   obtain ⟨cs, hcs⟩ : ∃ cs, (opC x A).toArray = cs := ⟨_, rfl⟩
   have hsz : cs.size = 17 := by rw [<- hcs]; rfl
   have hone : cs.all (·.oneCell') = true := by rw [<- hcs]; exact zdc x A
   have hlen : (opC x A).length = 17 := rfl
   obtain ⟨cl, hcl⟩ : ∃ cl, opC x A = cl := ⟨_, rfl⟩
   have hcc : cl.toArray = cs := by rw [<- hcl]; exact hcs
   rw [hcl] at hrange hlen
   have hil : (Tryz.prog.info? 50).map (·.size) = some cl.length := by rw [hlen]; exact zbr cs hsz |>.trans (by rw [hsz])
   have HW1 : Hid ((wr.alloc (.cells zbf 50)).setRow N cs = W1) := by rw [<- hcs]; exact hW1
   have HW2 : Hid (W1.setCell ⟨N, 4, none⟩ (.bool true) = W2) := hW2
   have HN : Hid (wr.heap.size = N) := hN
   obtain ⟨cs2, hcs2⟩ : ∃ cs2, (opC { x with inn := true } A).toArray = cs2 := ⟨_, rfl⟩
   have hsz2 : cs2.size = 17 := by rw [<- hcs2]; rfl
   rw [hcs2] at hB2
   obtain ⟨q, hq⟩ : ∃ q, x.k % 16 = q := ⟨_, rfl⟩
   have hkm : (x.k : Int).tmod 16 = (q : Int) := by rw [<- hq]; rfl
   have HD : Hid (Calls Tryz.prog 31 #[.pointer (some ⟨p, 0, none⟩), .pointer (some ⟨r, 0, none⟩), .agg cs2] W2 (Zeb x.k (KB wB.heap.size (fun k => EB k \/ ED k)) p r M W2)) := by rw [<- hcs2]; exact hdoes
   have HSG : Hid (SG wB.heap.size E EB ED W2 p r b cb nb mc M R G rk kn pd kn pd) := hSG.kept k2
   have HKW2 : Hid (Kept (fun k => k < wB.heap.size) wB W2) := kt hK k2
   clear hG hSG hK hKw hc hA hmem hx hvx hdoes hq hW1 hW2 hB1 k1 k2 k2w hcs hcs2 hN hlen hcl hBK hwu
   go_upto_region 12 with fail
   go_upto_region 13 with (first | (refine wpList_load_mid rfl 50 _ rfl g (o + k * 17) rfl cl _ hrange Tryz.underlying50 rfl hil ?_; rw [hcc]) | (rw [HN.out]; refine wpList_store_row rfl 50 _ _ rfl N cs rfl rfl 50 _ hb1 (zbr _ hsz) (by rw [hsz]; rfl) hone ?_))
   rw [HW1.out]
   clear hrange hb1 HW1
   go_upto_region 14 with fail
   rw [HW2.out]
   clear b4 f4 HW2 HN
   go_upto_if 53 with fail
   go_cut [] (fun wx => ∃ (E : Nat -> Prop) (M : Dm) (R G : Nat -> List Nat) (rk : Nat -> Nat), SG wB.heap.size E EB ED wx p r b cb nb mc M R G rk kn pd kn pd /\ Ziu M kn pd /\ Kept (fun k => k < wB.heap.size) wB wx)
   case first =>
    by_cases q15 : q = 15
    ·subst q15
     clear HD
     go_wp2_with fail
     go_meet
     case rel => exact ⟨E, M, R, G, rk, HSG.out, HBK.out, HKW2.out⟩
    ·have n15 : ((q : Int) == 15) = false := by simp; omega
     have n15' : ((q : Int) != 15) = true := by simp; omega
     go_upto_region 15 with fail
     go_wp2_with (refine wpList_load_row rfl 50 _ rfl N rfl 50 cs2 (0, 0) _ hB2 Tryz.underlying50 rfl (zbr _ hsz2) ?_)
     refine HD.out.mono ?_
     rintro e w3 ⟨rfl, E', M', R', G', rk', h2, hI, hG', hK3⟩
     have HS3 : Hid (SG wB.heap.size E' EB ED w3 p r b cb nb mc M' R' G' rk' kn pd kn pd) := ⟨⟨h2, hI, hG'.limit.trans HSG.out.g.lim, hG'.le HSG.out.g.le⟩, HSG.out.bo.kept (hK3.mono fun k hk => .inr (.inl hk)), HSG.out.db.kept (hK3.mono fun k hk => .inr (.inr hk)), HSG.out.ap, HSG.out.le, Nat.le_trans HSG.out.hB hK3.size, HSG.out.mc9⟩
     have HK3 : Hid (Kept (fun k => k < wB.heap.size) wB w3) := HKW2.out.trans (hK3.mono fun k hk => .inl hk)
     have HB3 : Hid (Ziu M' kn pd) := HBK.out.grow hG'.toGrows
     clear HD h2 hI hG' hK3 HSG HKW2 e0 hB2 HBK
     go_wp2_with fail
     go_meet
     case rel => exact ⟨E', M', R', G', rk', HS3.out, HB3.out, HK3.out⟩
   case rest =>
    clear HD HSG HKW2 HBK e0 hB2 hsz hsz2 hkm hil hcc hone
    obtain ⟨E, M, R, G, rk, hSG, hBK, hK⟩ := hcut
    have hKw : Kept (fun k => k < w.heap.size) w wc := kt HKu2.out hK
    have hM3 : M.n <= 300 := by have := hSG.g.le; rw [hSG.g.lim] at this; exact this
    have HSG : Hid (SG wB.heap.size E EB ED wc p r b cb nb mc M R G rk kn pd kn pd) := hSG
    have HBK : Hid (Ziu M kn pd) := hBK
    have HK : Hid (Kept (fun k => k < wB.heap.size) wB wc) := hK
    have hpd : pd.length <= 300 := Nat.le_trans hBK.few hM3
    have hjs : k % sn < sn := Nat.mod_lt _ hs0
    obtain ⟨j, hj⟩ : ∃ j, k % sn = j := ⟨_, rfl⟩
    rw [hj] at hjs
    have hjl : j < sl.length := by rw [HSL.out]; exact hjs
    obtain ⟨sg, so, rfl, hsg, hcz⟩ := (HS.out.kept hKw) j hjl
    have hzr := HSR.out _ (List.getElem_mem hjl)
    obtain ⟨z, hz⟩ : ∃ z, sl[j] = z := ⟨_, rfl⟩
    rw [hz] at hcz hzr
    have hmod : (k : Int).tmod (sn : Int) = (j : Int) := by rw [<- hj]; rfl
    obtain ⟨qz, hqz⟩ : ∃ qz : Nat, z.tmod 4 = (qz : Int) := ⟨(z.tmod 4).toNat, by rw [Int.toNat_of_nonneg (Int.tmod_nonneg _ hzr.1)]⟩
    clear hSG hBK hK hKw hz hj hjl hzr
    go_upto_block 2 with fail
    go_cut [] (fun wx => ∃ (EB ED : Nat -> Prop) (nb mc : Nat) (kn : Nat -> List Nat) (pd : List Nat), SG wB.heap.size E EB ED wx p r b cb nb mc M R G rk kn pd kn pd /\ Ziu M kn pd /\ nb <= 300 * (k + 1) /\ Kept (fun k => k < wB.heap.size) wB wx)
    case first =>
     by_cases q01 : qz = 0 \/ qz = 1
     ·have hd0 : Rd (TK (KB wB.heap.size (fun k => EB k \/ ED k)) E) wc p M R G rk := ⟨HSG.out.g.two.d, HSG.out.g.inv, by omega⟩
      have rs1 := zkn HSG.out.bo hd0 (fun k hk => .inl (.inr (.inl hk))) (by omega) (by omega) HBK.out.len
      clear hd0
      rcases q01 with rfl | rfl
      all_goals
       go_wp2_with fail
       refine rs1.mono ?_
       rintro e X1 ⟨rfl, E1, n1, hB1, hn1, hg1⟩
       have HS1 : Hid (SG wB.heap.size E E1 ED X1 p r b cb n1 mc M R G rk (zck (za8 M R G) kn M.n) (seeP (za8 M R G) kn pd M.n) kn pd) := HSG.out.see1 hg1 hB1
       have HK1 : Hid (Kept (fun k => k < wB.heap.size) wB X1) := HK.out.trans (hg1.kept.mono fun k h => ⟨ltl h HK.out.size, fun he => by have := HSG.out.le k (.inl he); omega⟩)
       have rs2 := zp0 (asg := za8 M R G) HS1.out.db (by omega) HS1.out.mc9 (by omega) HBK.out.len (fun i hi => by have := zsr HSG.out.g.inv hi; omega) (HS1.out.reads hM3)
       clear rs1 hB1 hg1 hcz hqz hmod
       go_wp2_with fail
       refine rs2.mono ?_
       rintro e X2 ⟨rfl, E2, m2, hD2, hm2, hg2⟩
       have HS2 : Hid (SG wB.heap.size E E1 E2 X2 p r b cb n1 m2 M R G rk (zck (za8 M R G) kn M.n) (seeP (za8 M R G) kn pd M.n) (zck (za8 M R G) kn M.n) (seeP (za8 M R G) kn pd M.n)) := HS1.out.see2 hg2 hD2 hm2
       have HK2 : Hid (Kept (fun k => k < wB.heap.size) wB X2) := HK1.out.trans (hg2.kept.mono fun k h => ⟨ltl h HK1.out.size, fun he => by have := HS1.out.le k (.inr he); omega⟩)
       clear rs2 hD2 hg2
       go_wp2_with fail
       go_meet
       case rel => exact ⟨E1, E2, n1, m2, _, _, HS2.out, HBK.out.see HSG.out.g.inv (by omega), by omega, HK2.out⟩
     ·have z0 : ((qz : Int) == 0) = false := by simp; omega
      have z1 : ((qz : Int) == 1) = false := by simp; omega
      by_cases q2 : qz = 2
      ·subst q2
       have rt1 := zll HSG.out.bo (by omega)
       obtain ⟨pl, hpl⟩ : ∃ pl, pd.length = pl := ⟨_, rfl⟩
       have HPL : Hid (pd.length = pl) := hpl
       rw [hpl] at hpd
       clear hpl
       go_wp2_with fail
       refine rt1.mono ?_
       rintro e X1 ⟨ao1, ac1, rfl, hO1, hB1, hk1⟩
       rw [HPL.out]
       have HS1 : Hid (SG wB.heap.size E EB ED X1 p r b cb nb mc M R G rk kn [] kn pd) := HSG.out.see1 ⟨fun _ h => h, fun _ h => .inl h, hk1⟩ hB1
       have HI1 : Hid (Zad (fun k => k < X1.heap.size /\ ¬ ED k) X1 ao1 pd) := hO1.intsAt fun g hg => ⟨(hO1.out hg).2, fun he => (hO1.out hg).1 (HSG.out.db.lt g he)⟩
       have HK1 : Hid (Kept (fun k => k < wB.heap.size) wB X1) := HK.out.trans (hk1.mono fun k h => ⟨ltl h HK.out.size, fun he => by have := HSG.out.le k (.inl he); omega⟩)
       have rt2 := zod HS1.out.db
       clear rt1 hO1 hB1 hk1 hcz hqz hmod
       go_wp2_with fail
       refine rt2.mono ?_
       rintro e X2 ⟨⟨ao2, ac2, rfl, hI2⟩, hD2, hk2⟩
       rw [HPL.out]
       have HS2 : Hid (SG wB.heap.size E EB ED X2 p r b cb nb mc M R G rk kn [] kn []) := HS1.out.see2 ⟨fun _ h => h, fun _ h => .inl h, hk2⟩ hD2 HS1.out.mc9
       have HK2 : Hid (Kept (fun k => k < wB.heap.size) wB X2) := HK1.out.trans (hk2.mono fun k h => ⟨ltl h HK1.out.size, fun he => by have := HS1.out.le k (.inr he); omega⟩)
       have rsi := zby pd pd ao1 ao2 pl pl ac1 ac2 HPL.out HPL.out (by omega) (by omega) X2 (HI1.out.to (fun q hq => ltl hq.1 hk2.size) (fun q hq => hk2.block q hq)) hI2
       rw [decide_eq_true rfl] at rsi
       clear rt2 hI2 hD2 hk2 HI1
       go_wp2_with fail
       refine rsi.mono ?_
       rintro e X3 ⟨rfl, k3⟩
       have HS3 : Hid (SG wB.heap.size E EB ED X3 p r b cb nb mc M R G rk kn [] kn []) := HS2.out.kept k3
       have HK3 : Hid (Kept (fun k => k < wB.heap.size) wB X3) := kt HK2.out k3
       clear rsi k3
       go_wp2_with fail
       go_meet
       case rel => exact ⟨EB, ED, nb, mc, kn, [], HS3.out, ⟨List.nodup_nil, fun k hk => (by cases hk), HBK.out.inK, HBK.out.len⟩, by omega, HK3.out⟩
      ·have z2 : ((qz : Int) == 2) = false := by simp; omega
       go_wp2_with fail
       go_meet
       case rel => exact ⟨EB, ED, nb, mc, kn, pd, HSG.out, HBK.out, by omega, HK.out⟩
    case rest =>
     clear HSG HBK HK hcz hqz hmod hpd hnb
     obtain ⟨EB, ED, nb, mc, kn, pd, hSG, hBK, hnb, hK⟩ := hcut
     have hpd : pd.length <= 300 := Nat.le_trans hBK.few hM3
     have rp1 := zc2 hSG.bo (by omega)
     have HSG : Hid (SG wB.heap.size E EB ED wc p r b cb nb mc M R G rk kn pd kn pd) := hSG
     have HBK : Hid (Ziu M kn pd) := hBK
     have HK : Hid (Kept (fun k => k < wB.heap.size) wB wc) := hK
     obtain ⟨pl, hpl⟩ : ∃ pl, pd.length = pl := ⟨_, rfl⟩
     have HPL : Hid (pd.length = pl) := hpl
     rw [hpl] at hpd
     clear hSG hBK hK hpl
     go_wp2_with fail
     refine rp1.mono ?_
     rintro e X1 ⟨ao1, ac1, rfl, hO1, hk1⟩
     rw [HPL.out]
     have HS1 : Hid (SG wB.heap.size E EB ED X1 p r b cb nb mc M R G rk kn pd kn pd) := HSG.out.kept hk1
     have HI1 : Hid (Zad (fun k => k < X1.heap.size) X1 ao1 pd) := hO1.intsAt fun g hg => (hO1.out hg).2
     have HK1 : Hid (Kept (fun k => k < wB.heap.size) wB X1) := kt HK.out hk1
     have rp2 := zj5 HS1.out.db (by rw [HPL.out]; omega)
     clear rp1 hO1 hk1
     go_wp2_with fail
     refine rp2.mono ?_
     rintro e X2 ⟨ao2, ac2, rfl, hO2, hk2⟩
     rw [HPL.out]
     have hI2 : Zad (fun k => k < X2.heap.size) X2 ao2 pd := hO2.intsAt fun g hg => (hO2.out hg).2
     have HS2 : Hid (SG wB.heap.size E EB ED X2 p r b cb nb mc M R G rk kn pd kn pd) := HS1.out.kept hk2
     have HK2 : Hid (Kept (fun k => k < wB.heap.size) wB X2) := kt HK1.out hk2
     have rsi := zby pd pd ao1 ao2 pl pl ac1 ac2 HPL.out HPL.out (by omega) (by omega) X2 (HI1.out.to (fun q hq => ltl hq hk2.size) (fun q hq => hk2.block q hq)) hI2
     rw [decide_eq_true rfl] at rsi
     clear rp2 hO2 hI2 hk2 HI1
     go_wp2_with fail
     refine rsi.mono ?_
     rintro e X3 ⟨rfl, k3⟩
     have HS3 : Hid (SG wB.heap.size E EB ED X3 p r b cb nb mc M R G rk kn pd kn pd) := HS2.out.kept k3
     have HK3 : Hid (Kept (fun k => k < wB.heap.size) wB X3) := kt HK2.out k3
     clear rsi k3
     go_wp2
     go_roundg (n - (k + 1))
     case rel => exact ⟨k + 1, nb, mc, E, EB, ED, M, R, G, rk, kn, pd, rfl, by omega, by go_num, HS3.out, HBK.out, hnb, HK3.out⟩
     case measure => omega
  ·have HFIN : Hid (Kept (fun k => k < w.heap.size) w wr) := hKw
   clear hSG hBK hK hKw
   go_wp2
   go_ret
   exact ⟨rfl, HFIN.out⟩
theorem zt8 (a : Option Addr) (n c : Nat) (hv sn : Nat) (sa : Option Addr) (sc : Nat) (w : World) (hbad : 60 < n \/ sn = 0 \/ 6000 < hv) (rh : n <= 60 -> Calls Tryz.prog 25 #[.slice a n c] w fun e w' => e = .returned (.int .i64 (hv : Int)) /\ Kept (fun k => k < w.heap.size) w w') :
  Calls Tryz.prog 4 #[.slice a n c, .slice sa sn sc] w fun e w' => e = .returned (.bool true) /\ Kept (fun k => k < w.heap.size) w w' := by
 by_cases c60 : 60 < n
 ·have hg60 : decide ((n : Int) > 60) = true := decide_eq_true (by omega)
  have rk0 := zd4 w
  clear rh hbad
  go_enter Tryz.func4, Tryz.ntmps4
  go_wp2_with fail
  refine rk0.mono ?_
  rintro e wB ⟨rfl, kwB⟩
  have HK : Hid (Kept (fun k => k < w.heap.size) w wB) := kwB
  clear rk0 kwB
  go_wp2
  go_ret
  exact ⟨rfl, HK.out⟩
 ·have hg60 : decide ((n : Int) > 60) = false := decide_eq_false (by omega)
  have rh := rh (by omega)
  by_cases hs : sn = 0
  ·subst hs
   have rk0 := zd4 w
   clear rh hbad
   go_enter Tryz.func4, Tryz.ntmps4
   go_wp2_with fail
   refine rk0.mono ?_
   rintro e wB ⟨rfl, kwB⟩
   have HK : Hid (Kept (fun k => k < w.heap.size) w wB) := kwB
   clear rk0 kwB
   go_wp2
   go_ret
   exact ⟨rfl, HK.out⟩
  ·have hsz0 : ((sn : Int) == 0) = false := by simp; omega
   have hg6 : decide ((hv : Int) > 6000) = true := decide_eq_true (by omega)
   clear hbad
   go_enter Tryz.func4, Tryz.ntmps4
   go_wp2_with fail
   refine rh.mono ?_
   rintro e wA ⟨rfl, kwA⟩
   have HK1 : Hid (Kept (fun k => k < w.heap.size) w wA) := kwA
   have rk0 := zd4 wA
   clear rh kwA
   go_wp2_with fail
   refine rk0.mono ?_
   rintro e wB ⟨rfl, kwB⟩
   have HK : Hid (Kept (fun k => k < w.heap.size) w wB) := kt HK1.out kwB
   clear rk0 kwB
   go_wp2
   go_ret
   exact ⟨rfl, HK.out⟩
end Go.Proofs.YtfeinppedejlpaaGreat
