/-
 slots: Slots, what fills a slot, Flat.; slots.Flat.; portierelaw11: known.
-/
import Derived.Test.YtfeinppedejlpaaGreatKR4
import Derived.Test.YtfeinppedejlpaaGreatKE01
import Derived.Test.YtfeinppedejlpaaGreatKB06
namespace Go.Proofs.YtfeinppedejlpaaGreat
set_option linter.unusedVariables false
set_option maxRecDepth 100000
set_option maxHeartbeats 8000000
section
open Go.RowKit
def zqo (M : Dm) (R G : Nat -> List Nat) (i s : Nat) : List Nat := if zd7 M R G i s = [] then (R i).filter (fun k => za0 (M.nd k)) else zd7 M R G i s
noncomputable def arnd (M : Dm) (R G : Nat -> List Nat) (i s : Nat) : Int := if zd7 M R G i s = [] then (s : Int) else ofZ M (M.nd s).host
section
variable {M : Dm} {R G : Nat -> List Nat} {rk : Nat -> Nat}
theorem Inv.of_kid (h : Inv M R G rk) {u k : Nat} (hu : u < M.n) (hk : k ∈ R u) : ofZ M (k : Int) = ofZ M (u : Int) := by
 have hkd := h.good.kid hu hk
 rcases h.ofz hu with ⟨t, _, hT, e, h5⟩ | ⟨t, _, hT, e, h5⟩
 ·rw [e]; exact zcr hkd.1 (.yes (.up hkd.2.1 hT) h5)
 ·rw [e]; exact zcr hkd.1 (.no (.up hkd.2.1 hT) h5)
theorem Inv.nxt_fil (h : Inv M R G rk) {i s : Nat} (hi : i < M.n) (hsl : isS M i = true) (ho : ofZ M (i : Int) = (s : Int)) : nxt M R G i = zqo M R G i s := by
 have ha : za8 M R G i = zd7 M R G i s := by
  unfold za8
  have h1 : za9 (M.nd i) = true := by unfold isS at hsl; simp at hsl; exact hsl.1
  rw [h1, ho, if_neg (by rintro (hh | hh); cases hh; omega), Int.toNat_natCast]
 unfold nxt zqo
 rw [if_neg (by rw [hsl]; simp), ha]
theorem Inv.nxt_of (h : Inv M R G rk) {i s k : Nat} (hi : i < M.n) (hs : s < M.n) (h5 : (M.nd s).kind = 5) (hsl : isS M i = true) (ho : ofZ M (i : Int) = (s : Int)) (hk : k ∈ nxt M R G i) : ofZ M (k : Int) = arnd M R G i s := by
 obtain ⟨hkn, _, _, hc⟩ := h.nxt_mem hi hk
 obtain ⟨o, ho', eo, es, _⟩ := h.host hs h5
 have hf := h.nxt_fil hi hsl ho
 unfold arnd
 by_cases c : zd7 M R G i s = []
 ·rw [if_pos c]
  rw [hf] at hk
  unfold zqo at hk
  rw [if_pos c] at hk
  rw [h.of_kid hi (List.mem_filter.1 hk).1, ho]
 ·rw [if_neg c, eo]
  have ha : za8 M R G i = zd7 M R G i s := by
   unfold za8
   have h1 : za9 (M.nd i) = true := by unfold isS at hsl; simp at hsl; exact hsl.1
   rw [h1, ho, if_neg (by rintro (hh | hh); cases hh; omega), Int.toNat_natCast]
  rcases hc with e | ⟨_, e⟩
  ·obtain ⟨_, _, _, u, t, hu, ht, e1, e2, e3⟩ := h.find_slot hkn e
   have hts : t = s := by omega
   subst hts
   have hh := (h.shadow hu e2).2.2.1
   have huo : u = o := by omega
   subst huo
   have hm : k ∈ R u := by
    rcases h.good.wf.inn k hkn with h0 | ⟨v, hv, e', hm⟩
    ·omega
    ·have : v = u := by omega
     exact this ▸ hm
   exact h.of_kid hu hm
  ·rw [ha] at e; exact absurd e c
end
section
variable {K : Nat -> Prop} {w : World} {p : Nat} {M : Dm} {R G : Nat -> List Nat} {rk : Nat -> Nat}
theorem Rd.slots (h : Rd K w p M R G rk) (i : Int) : Calls Tryz.prog 23 #[.pointer (some ⟨p, 0, none⟩), .int .i64 i] w (Lst w ((trI M.n R i).filter fun k => za9 (M.nd k))) := by
 have r1 := zqj K p M R rk w h.d h.inv.good h.le i
 have hlt : ∀ x ∈ trI M.n R i, x < M.n := fun x hx => by
  by_cases c : i < 0 \/ (M.n : Int) <= i
  ·rw [zfn c] at hx; cases hx
  ·obtain ⟨k, hk, rfl⟩ : ∃ k : Nat, k < M.n /\ i = (k : Int) := ⟨i.toNat, by omega, by omega⟩
   rw [zdd hk] at hx
   exact zic h.inv.good.falls _ k hk x hx
 have hle := zh2 h.inv.good.only i
 have HR : Hid (Rd K w p M R G rk) := h
 obtain ⟨L, hL⟩ : ∃ L, trI M.n R i = L := ⟨_, rfl⟩
 rw [hL] at r1 hlt hle ⊢
 have HLT : Hid ((∀ x ∈ L, x < M.n) /\ L.length <= 1000000) := ⟨hlt, by have := h.le; omega⟩
 clear h hL hlt hle
 go_enter Tryz.func23, Tryz.ntmps23
 go_wp2_with fail
 refine r1.mono ?_
 rintro e w1 ⟨ta, tc, rfl, hTO, hk1⟩
 have hrow : Zad (fun g => g < w1.heap.size) w1 ta L := hTO.intsAt fun g hg => (hTO.out hg).2
 have HROW : Hid (Zad (fun g => g < w1.heap.size) w1 ta L) := hrow
 have r2 := (HR.out.kept hk1).byNumber (zqk w1)
 have HK1 : Hid (Kept (fun k => k < w.heap.size) w w1) := hk1
 obtain ⟨ll, hll⟩ : ∃ ll, L.length = ll := ⟨_, rfl⟩
 have HLL : Hid (L.length = ll) := hll
 rw [hll]
 clear r1 hTO hk1 hrow hll
 go_wp2_with fail
 refine r2.mono ?_
 rintro e w2 ⟨u, rfl, hT, hk2⟩
 have r3 := zgc L ll M.n HLL.out (by rw [<- HLL.out]; exact HLT.out.2) HLT.out.1 ta tc u _ w2 (HROW.out.to (fun g hg => ltl hg hk2.size) (fun g hg => hk2.block g hg)) hT
 have HK2 : Hid (Kept (fun k => k < w.heap.size) w w2) := kt HK1.out hk2
 obtain ⟨f9, caps9, hu9, -, -⟩ := hT
 subst hu9
 clear r2 hk2
 go_wp2_with fail
 refine r3.mono ?_
 rintro e w3 ⟨pa, pc, rfl, hPO, hk3⟩
 have HPO : Hid (Zac (fun k => k < w2.heap.size) w3 3 1 pa (L.filter fun k => za9 (M.nd k)).length pc (ivs (L.filter fun k => za9 (M.nd k)))) := hPO
 have HK3 : Hid (Kept (fun k => k < w2.heap.size) w2 w3) := hk3
 clear r3 hPO hk3
 go_wp2
 go_ret
 exact Lst.on (X := w2) ⟨pa, pc, rfl, HPO.out, HK3.out⟩ HK2.out
theorem Rd.fill (h : Rd K w p M R G rk) {i s : Nat} (hi : i < M.n) (hs : s < M.n) (h5 : (M.nd s).kind = 5) :
  Calls Tryz.prog 85 #[.pointer (some ⟨p, 0, none⟩), .int .i64 (i : Int), .int .i64 (s : Int)] w fun e w' => ∃ ao c, e = .returned (.tuple #[.slice ao (zqo M R G i s).length c, .int .i64 (arnd M R G i s)]) /\ Zac (fun k => k < w.heap.size) w' 3 1 ao (zqo M R G i s).length c (ivs (zqo M R G i s)) /\ Kept (fun k => k < w.heap.size) w w' := by
 have r1 := h.shown hi hs h5
 have HR : Hid (Rd K w p M R G rk) := h
 have HI : Hid (i < M.n /\ s < M.n /\ (M.nd s).kind = 5) := ⟨hi, hs, h5⟩
 obtain ⟨A, hA⟩ : ∃ A, zd7 M R G i s = A := ⟨_, rfl⟩
 have HF : Hid (zqo M R G i s = if A = [] then (R i).filter (fun k => za0 (M.nd k)) else A) := by unfold zqo; rw [hA]; exact rfl
 have HZ : Hid (arnd M R G i s = if A = [] then (s : Int) else ofZ M (M.nd s).host) := by unfold arnd; rw [hA]; exact rfl
 rw [hA] at r1
 obtain ⟨L, hL⟩ : ∃ L, zqo M R G i s = L := ⟨_, rfl⟩
 obtain ⟨Z, hZ⟩ : ∃ Z, arnd M R G i s = Z := ⟨_, rfl⟩
 rw [hL, hZ]
 rw [hL] at HF
 rw [hZ] at HZ
 clear h hi hs h5 hA hL hZ
 go_enter Tryz.func85, Tryz.ntmps85
 go_wp2_with fail
 refine r1.mono ?_
 rintro e w1 ⟨aa, ac, rfl, hAO, hk1⟩
 have HAO : Hid (Zac (fun k => k < w.heap.size) w1 3 1 aa A.length ac (ivs A)) := hAO
 have HK1 : Hid (Kept (fun k => k < w.heap.size) w w1) := hk1
 clear r1 hAO hk1
 by_cases ca : A = []
 ·have HL : Hid (L = (R i).filter fun k => za0 (M.nd k)) := by rw [HF.out, if_pos ca]; exact rfl
  have HS : Hid (Z = (s : Int)) := by rw [HZ.out, if_pos ca]; exact rfl
  subst ca
  have e0 : decide (((0 : Nat) : Int) > 0) = false := by decide
  have rn := (HR.out.kept HK1.out).node HI.out.1
  clear HF HZ HAO
  go_wp2_with fail
  refine rn.mono ?_
  rintro e v2 ⟨ao2, ac2, ko2, kc2, rfl, hO2, hQ2, hK2⟩
  obtain ⟨V2, N2, hV2, hN2, hB2⟩ := Zb1.of (up := (M.pl i).up) hO2 hQ2 hK2
  have HV2 : Hid (v2.alloc (.cells (nV (M.nd i) ao2 ac2 ((M.pl i).up) ko2 (R i).length kc2) 58) = V2) := hV2
  have HN2 : Hid (v2.heap.size = N2) := hN2
  have HB2 : Hid (Zb1 w1 V2 N2 (M.nd i) ((M.pl i).up) (R i) ao2 ac2 ko2 kc2) := hB2
  have HK2 : Hid (Kept (fun k => k < w.heap.size) w V2) := kt HK1.out hB2.kept
  obtain ⟨kl, hkl⟩ : ∃ kl, (R i).length = kl := ⟨_, rfl⟩
  have HKL : Hid ((R i).length = kl) := hkl
  have HC5 : Hid (∀ Y, Kept (fun k => k < V2.heap.size) V2 Y -> Y.cell? ⟨N2, 5, none⟩ = some (.slice ko2 kl kc2)) := fun Y hY => by rw [<- hkl]; exact (hB2.later hY).c5
  have RR : Hid (∀ Y, Kept (fun k => k < V2.heap.size) V2 Y -> Rd K Y p M R G rk) := fun Y hY => (HR.out.kept HK2.out).kept hY
  have HRL : Hid (kl <= 1000000 /\ ∀ k ∈ R i, k < M.n) := ⟨by rw [<- hkl]; have h1 := HR.out.inv.good.wf.len_le HI.out.1; have h2 := HR.out.le; omega, HR.out.inv.good.wf.lt i HI.out.1⟩
  clear rn hO2 hQ2 hK2 hV2 hN2 hB2 hkl
  go_upto_region 6 with fail
  rw [HV2.out, HN2.out]
  clear HV2 HN2
  refine wp_region_held_drew (S := fun Y => Kept (fun k => k < V2.heap.size) V2 Y) (by kernel_rfl) ((Kept.refl _ V2).drew) (fun hHeld => ?_)
  refine tkH 0 37 (.pointer (some ⟨N2, 5, none⟩)) rfl rfl (by kernel_rfl) (by rfl) (by intro Y hY; go_simp; try with_reducible rfl) (fun _ _ _ h => h) hHeld ?_
  try simp only [Act.put, sA, s0, s1]
  refine tkH 1 38 (.slice ko2 kl kc2) rfl rfl (by kernel_rfl) (by rfl) (by intro Y hY; have hc := HC5.out Y hY; go_simp; try with_reducible rfl) (fun _ _ _ h => h) hHeld ?_
  try simp only [Act.put, sA, s0, s1]
  refine tkH 2 39 (.pointer (some ⟨p, 0, none⟩)) rfl rfl (by kernel_rfl) (by rfl) (by intro Y hY; go_simp; try with_reducible rfl) (fun _ _ _ h => h) hHeld ?_
  try simp only [Act.put, sA, s0, s1]
  refine tkH 5 42 (.int .i64 (s : Int)) rfl rfl (by kernel_rfl) (by rfl) (by intro Y hY; go_simp; try with_reducible rfl) (fun _ _ _ h => h) hHeld ?_
  try simp only [Act.put, sA, s0, s1]
  refine clH 3 40 89 #[.pointer (some ⟨p, 0, none⟩), .func (.func 71) #[] #[]] rfl rfl (by kernel_rfl) (by rfl) rfl (by first | rfl | (simp [Act.eval]; done) | (simp [Act.eval, Act.put]; done)) (enter89 _ _) ((RR.out _ hHeld).byNumber (zqn _)) ?_
  rintro e Y ⟨u, rfl, hT, hk9⟩
  refine ⟨_, rfl, kt hHeld hk9, fun hHeld2 => ?_⟩
  replace hHeld := hHeld2
  clear hHeld2
  try simp only [Act.put, sA, s0, s1]
  have HKV3 : Hid (Kept (fun k => k < V2.heap.size) V2 Y) := hHeld
  have rp := zgc (R i) kl M.n HKL.out HRL.out.1 HRL.out.2 ko2 kc2 u _ Y (HB2.out.later hHeld).row hT
  refine clH 4 41 87 #[.slice ko2 kl kc2, u] rfl rfl (by kernel_rfl) (by rfl) rfl (by first | rfl | (simp [Act.eval]; done) | (simp [Act.eval, Act.put]; done)) (enter87 _ _) (rp) ?_
  rintro e Y4 ⟨pa, pc, rfl, hPO, hk9⟩
  refine ⟨_, rfl, kt hHeld hk9, fun hHeld2 => ?_⟩
  replace hHeld := hHeld2
  clear hHeld2
  try simp only [Act.put, sA, s0, s1]
  rw [<- HL.out] at hPO
  obtain ⟨pl, hpl⟩ : ∃ pl, L.length = pl := ⟨_, rfl⟩
  rw [<- HL.out, hpl]
  rw [hpl] at hPO
  have HK9 : Hid (Kept (fun k => k < Y.heap.size) Y Y4) := hk9
  have HPL : Hid (L.length = pl) := hpl
  have HPO : Hid (Zac (fun k => k < Y.heap.size) Y4 3 1 pa pl pc (ivs L)) := hPO
  refine tkH 6 6 (.slice pa pl pc) rfl rfl (by kernel_rfl) (by rfl) (by intro Y hY; go_simp; try with_reducible rfl) (fun _ _ _ h => h) hHeld ?_
  try simp only [Act.put, sA, s0, s1]
  refine tkH 7 7 (.int .i64 (s : Int)) rfl rfl (by kernel_rfl) (by rfl) (by intro Y hY; go_simp; try with_reducible rfl) (fun _ _ _ h => h) hHeld ?_
  try simp only [Act.put, sA, s0, s1]
  refine wpAnyH_done (by kernel_rfl) ?_ _
  clear hT hPO rp hpl hk9
  go_wp2
  go_ret2
  have hon := Lst.on (w := w) (X := Y) (l := L) (e := .returned (.slice pa L.length pc)) ⟨pa, pc, rfl, by rw [HPL.out]; exact HPO.out, HK9.out⟩ (kt HK2.out HKV3.out)
  obtain ⟨ao', c', e', hO', hK'⟩ := hon
  injection e' with e'
  injection e' with e1 e2 e3
  exact ⟨ao', c', by rw [HPL.out, HS.out, <- e1, <- e3]; rfl, hO', hK'⟩
 ·have HL : Hid (L = A) := by rw [HF.out, if_neg ca]; exact rfl
  have HS : Hid (Z = ofZ M (M.nd s).host) := by rw [HZ.out, if_neg ca]; exact rfl
  obtain ⟨al, hal⟩ : ∃ al, A.length = al := ⟨_, rfl⟩
  have h0 : 0 < al := by rw [<- hal]; exact List.length_pos_iff.2 ca
  have HAL : Hid (A.length = al) := hal
  have e0 : decide ((al : Int) > 0) = true := decide_eq_true (by omega)
  have rn := (HR.out.kept HK1.out).node HI.out.2.1
  rw [hal]
  clear ca hal HF HZ
  go_wp2_with fail
  refine rn.mono ?_
  rintro e v2 ⟨ao2, ac2, ko2, kc2, rfl, hO2, hQ2, hK2⟩
  obtain ⟨V2, N2, hV2, hN2, hB2⟩ := Zb1.of (up := (M.pl s).up) hO2 hQ2 hK2
  have HV2 : Hid (v2.alloc (.cells (nV (M.nd s) ao2 ac2 ((M.pl s).up) ko2 (R s).length kc2) 58) = V2) := hV2
  have HN2 : Hid (v2.heap.size = N2) := hN2
  have HB2 : Hid (Zb1 w1 V2 N2 (M.nd s) ((M.pl s).up) (R s) ao2 ac2 ko2 kc2) := hB2
  have HK2 : Hid (Kept (fun k => k < w1.heap.size) w1 V2) := hB2.kept
  have c7 := hB2.c7
  have HK2w : Hid (Kept (fun k => k < w.heap.size) w V2) := kt HK1.out hB2.kept
  have ro := (HR.out.kept HK2w.out).of (M.nd s).host
  rw [<- HS.out] at ro
  obtain ⟨ho, hho⟩ : ∃ ho, (M.nd s).host = ho := ⟨_, rfl⟩
  rw [hho] at c7 ro
  clear rn hO2 hQ2 hK2 hV2 hN2 hB2 hho HS
  go_upto_region 4 with fail
  rw [HV2.out, HN2.out]
  clear HV2 HN2
  go_wp2_with fail
  refine ro.mono ?_
  rintro e w3 ⟨rfl, hk3⟩
  have HK3 : Hid (Kept (fun k => k < w1.heap.size) w1 w3) := kt HK2.out hk3
  clear ro hk3 c7
  go_wp2
  go_ret2
  exact ⟨aa, ac, by rw [HL.out, HAL.out]; rfl, by rw [HL.out]; exact HAO.out.to (fun g hg => (HAO.out.out hg).1) (fun g hg => HK3.out.block g (HAO.out.out hg).2), kt HK1.out HK3.out⟩
end
end
section
open Go.RowKit
noncomputable def zax (M : Dm) (R G : Nat -> List Nat) (k : Nat) : List Nat := if isS M k = true then zbc M R G k else [k]
noncomputable def zfg (M : Dm) (R G : Nat -> List Nat) (i : Int) : List Nat := if i < 0 \/ (M.n : Int) <= i then [] else zbc M R G i.toNat
theorem zgb {M : Dm} {R G : Nat -> List Nat} {i : Nat} (hi : i < M.n) : zfg M R G (i : Int) = zbc M R G i := by
 unfold zfg
 rw [if_neg (by omega), Int.toNat_natCast]
theorem enter84 (args : Array Value) (X : World) : (callFunc 84 args).run Tryz.prog X = .ok (.enter 84 args) X := zan Tryz.func84 (by kernel_rfl) (c := _) rfl args X
abbrev zgs (bo b2 b3 : Nat) : Value := .func (.func 84) #[] #[.pointer (some ⟨b2, 0, none⟩), .pointer (some ⟨b3, 0, none⟩), .pointer (some ⟨bo, 0, none⟩)]
section
variable {K0 : Nat -> Prop} {w0 : World} {p : Nat} {M : Dm} {R G : Nat -> List Nat} {rk : Nat -> Nat}
theorem zsf (h : Rd K0 w0 p M R G rk) (bo b2 b3 : Nat) :
  ∀ (d i : Nat), dn M.n (rkA M R) i < d -> i < M.n -> isS M i = true -> ∀ (s : Nat), s < M.n -> (M.nd s).kind = 5 -> ofZ M (i : Int) = (s : Int) -> ∀ (K : Nat -> Prop) (X : World) (l : List Nat), (∀ k, k < w0.heap.size -> K k) -> K b2 -> K b3 -> Kept (fun k => k < w0.heap.size) w0 X -> X.cell? ⟨b2, 0, none⟩ = some (.pointer (some ⟨p, 0, none⟩)) -> X.cell? ⟨b3, 0, none⟩ = some (zgs bo b2 b3) ->
   Zec K X bo l -> l.length + (zbc M R G i).length <= 10000000 ->
   Calls Tryz.prog 84 #[.int .i64 (i : Int), .int .i64 (s : Int), .pointer (some ⟨b2, 0, none⟩), .pointer (some ⟨b3, 0, none⟩), .pointer (some ⟨bo, 0, none⟩)] X fun e X' => e = .returned (.tuple #[]) /\ Zec K X' bo (l ++ zbc M R G i) /\ Kept K X X' := by
 intro d
 induction d with
 | zero => exact fun i h => absurd h (Nat.not_lt_zero _)
 | succ d ih =>
  intro i hdi hi hsi s hs h5 hof K X l hw0 hK2 hK3 hX c2 c3 hO hlen
  have HF := h.inv.nxt_falls (G := G)
  have HIH : Hid (∀ k, k ∈ nxt M R G i -> isS M k = true -> ∀ (s : Nat), s < M.n -> (M.nd s).kind = 5 -> ofZ M (k : Int) = (s : Int) -> ∀ (K : Nat -> Prop) (X : World) (l : List Nat), (∀ k, k < w0.heap.size -> K k) -> K b2 -> K b3 -> Kept (fun k => k < w0.heap.size) w0 X -> X.cell? ⟨b2, 0, none⟩ = some (.pointer (some ⟨p, 0, none⟩)) -> X.cell? ⟨b3, 0, none⟩ = some (zgs bo b2 b3) ->
    Zec K X bo l -> l.length + (zbc M R G k).length <= 10000000 ->
    Calls Tryz.prog 84 #[.int .i64 (k : Int), .int .i64 (s : Int), .pointer (some ⟨b2, 0, none⟩), .pointer (some ⟨b3, 0, none⟩), .pointer (some ⟨bo, 0, none⟩)] X fun e X' => e = .returned (.tuple #[]) /\ Zec K X' bo (l ++ zbc M R G k) /\ Kept K X X') := fun k hk => by
   obtain ⟨h1, h2⟩ := HF i hi k hk
   have := zfh h1 h2
   exact ih k (by omega) h1
  have HEQ : Hid (zbc M R G i = (nxt M R G i).flatMap (zax M R G)) := h.inv.flat_eq hi hsi
  have HNX : Hid (∀ k ∈ nxt M R G i, k < M.n /\ ofZ M (k : Int) = arnd M R G i s) := fun k hk => ⟨(h.inv.nxt_mem hi hk).1, h.inv.nxt_of hi hs h5 hsi hof hk⟩
  have r1 := (h.kept hX).fill hi hs h5
  rw [<- h.inv.nxt_fil hi hsi hof] at r1
  have HR : Hid (Rd K0 w0 p M R G rk) := h
  have HO : Hid (Zec K X bo l) := hO
  have HX0 : Hid (Kept (fun k => k < w0.heap.size) w0 X) := hX
  have HW0 : Hid (∀ k, k < w0.heap.size -> K k) := hw0
  have HKB : Hid (K b2 /\ K b3) := ⟨hK2, hK3⟩
  have HLEN : Hid (l.length + (zbc M R G i).length <= 10000000) := hlen
  have HFL : Hid ((nxt M R G i).length <= 100000) := by
   have h1 := za4 M.n _ (h.inv.nxt_nd (G := G) hi) (fun x hx => (HF i hi x hx).1)
   exact (show Hid _ from Nat.le_trans h1 h.le)
  have HC : Hid (X.cell? ⟨b2, 0, none⟩ = some (.pointer (some ⟨p, 0, none⟩)) /\ X.cell? ⟨b3, 0, none⟩ = some (zgs bo b2 b3)) := ⟨c2, c3⟩
  obtain ⟨z, hz⟩ : ∃ z, arnd M R G i s = z := ⟨_, rfl⟩
  rw [hz] at r1 HNX
  clear ih hdi hw0 hK2 hK3 hX c3 hO hlen HF hi hsi hs h5 hof hz h
  go_enter Tryz.func84, Tryz.ntmps84
  go_wp2_with fail
  refine r1.mono ?_
  rintro e w1 ⟨fa, fc, rfl, hFO, hk1⟩
  have HROW : Hid (Zad (fun g => X.heap.size <= g /\ g < w1.heap.size) w1 fa (nxt M R G i)) := hFO.intsAt fun g hg => ⟨Nat.le_of_not_lt (hFO.out hg).1, (hFO.out hg).2⟩
  have hz2 := World.block_lt_of_cell? X _ HC.out.1
  have hz3 := World.block_lt_of_cell? X _ HC.out.2
  have HO1 : Hid (Zec (fun k => K k \/ (X.heap.size <= k /\ k < w1.heap.size)) w1 bo l) := HO.out.kept hk1 (fun k hk => hk.imp id fun h => h.1) (fun k hk => hk.elim (fun h => ltl (HO.out.2.1 k h) hk1.size) (fun h => h.2))
  have HD : Hid (w1.cell? ⟨b2, 0, none⟩ = some (.pointer (some ⟨p, 0, none⟩)) /\ w1.cell? ⟨b3, 0, none⟩ = some (zgs bo b2 b3)) := ⟨(hk1.cell (p := ⟨b2, 0, none⟩) hz2).trans HC.out.1, (hk1.cell (p := ⟨b3, 0, none⟩) hz3).trans HC.out.2⟩
  have HK1X : Hid (Kept K X w1) := hk1.mono fun k hk => HO.out.2.1 k hk
  have HK1w : Hid (Kept (fun k => k < w0.heap.size) w0 w1) := HX0.out.trans (hk1.mono fun k hk => ltl hk HX0.out.size)
  obtain ⟨fl, hfl⟩ : ∃ fl, (nxt M R G i).length = fl := ⟨_, rfl⟩
  have HFLN : Hid ((nxt M R G i).length = fl) := hfl
  have hfl9 : fl <= 100000 := by rw [<- hfl]; exact HFL.out
  rw [hfl]
  clear r1 hFO hk1 c2 hfl hz2 hz3
  go_upto_region 2 with fail
  go_loopg [22] fl (fun gh v22 wr => ∃ j : Nat, gh = fl - j /\ j <= fl /\ v22 = .int .i64 (j : Int) /\ Zec (fun k => K k \/ (X.heap.size <= k /\ k < w1.heap.size)) wr bo (l ++ ((nxt M R G i).take j).flatMap (zax M R G)) /\ Kept (fun k => K k \/ (X.heap.size <= k /\ k < w1.heap.size)) w1 wr)
  case atStart => exact ⟨0, rfl, Nat.zero_le _, rfl, by rw [List.take_zero, List.flatMap_nil, List.append_nil]; exact HO1.out, Kept.refl _ _⟩
  case round =>
   obtain ⟨j, hgj, hj, rfl, hOj, hKj⟩ := hrel
   have e2 : wr.cell? ⟨b2, 0, none⟩ = some (.pointer (some ⟨p, 0, none⟩)) := (hKj.cell (p := ⟨b2, 0, none⟩) (.inl HKB.out.1)).trans HD.out.1
   have e3 : wr.cell? ⟨b3, 0, none⟩ = some (zgs bo b2 b3) := (hKj.cell (p := ⟨b3, 0, none⟩) (.inl HKB.out.2)).trans HD.out.2
   by_cases hlt : j < fl
   ·have hjl : j < (nxt M R G i).length := by rw [HFLN.out]; exact hlt
    obtain ⟨g, o, rfl, hg, dd⟩ := HROW.out j hjl
    have d' : wr.cell? ⟨g, o + j, none⟩ = some (.int .i64 ((nxt M R G i)[j] : Int)) := (hKj.cell (p := ⟨g, o + j, none⟩) (.inr hg)).trans dd
    have hs := zf4 (zax M R G) (nxt M R G i) j hjl
    have hs2 := zh5 (zax M R G) (nxt M R G i) j hjl
    have hmem := List.getElem_mem hjl
    obtain ⟨x, hx⟩ : ∃ x, (nxt M R G i)[j] = x := ⟨_, rfl⟩
    rw [hx] at d' hs hs2 hmem
    obtain ⟨hxn, hxo⟩ := HNX.out x hmem
    have kwr : Kept (fun k => k < w0.heap.size) w0 wr := HK1w.out.trans (hKj.mono fun k hk => .inl (HW0.out k hk))
    have rn := (HR.out.kept kwr).node hxn
    have HMEM : Hid (x ∈ nxt M R G i) := hmem
    have HXN : Hid (x < M.n /\ ofZ M (x : Int) = z) := ⟨hxn, hxo⟩
    have hle0 : (l ++ ((nxt M R G i).take j).flatMap (zax M R G)).length + (zax M R G x).length <= 10000000 := by
     have := HLEN.out
     rw [HEQ.out, hs] at this
     simp only [List.length_append] at this ⊢
     omega
    have HLE : Hid ((l ++ ((nxt M R G i).take j).flatMap (zax M R G)).length + (zax M R G x).length <= 10000000) := hle0
    have hs3 : l ++ ((nxt M R G i).take (j + 1)).flatMap (zax M R G) = (l ++ ((nxt M R G i).take j).flatMap (zax M R G)) ++ zax M R G x := by rw [hs2]; simp
    have HS3 : Hid (l ++ ((nxt M R G i).take (j + 1)).flatMap (zax M R G) = (l ++ ((nxt M R G i).take j).flatMap (zax M R G)) ++ zax M R G x) := hs3
    have HKJ : Hid (Kept (fun k => K k \/ (X.heap.size <= k /\ k < w1.heap.size)) w1 wr) := hKj
    have HOJ : Hid (Zec (fun k => K k \/ (X.heap.size <= k /\ k < w1.heap.size)) wr bo (l ++ ((nxt M R G i).take j).flatMap (zax M R G))) := hOj
    have HKWR : Hid (Kept (fun k => k < w0.heap.size) w0 wr) := kwr
    have HEE : Hid (wr.cell? ⟨b2, 0, none⟩ = some (.pointer (some ⟨p, 0, none⟩)) /\ wr.cell? ⟨b3, 0, none⟩ = some (zgs bo b2 b3)) := ⟨e2, e3⟩
    clear dd hs hs2 hs3 hle0 hx hmem hOj hKj kwr hxn hxo e3
    go_wp2_with fail
    refine rn.mono ?_
    rintro e v2 ⟨ao2, ac2, ko2, kc2, rfl, hO2, hQ2, hK2⟩
    obtain ⟨V2, N2, hV2, hN2, hB2⟩ := Zb1.of (up := (M.pl x).up) hO2 hQ2 hK2
    have HV2 : Hid (v2.alloc (.cells (nV (M.nd x) ao2 ac2 ((M.pl x).up) ko2 (R x).length kc2) 58) = V2) := hV2
    have HN2 : Hid (v2.heap.size = N2) := hN2
    have HB2 : Hid (Zb1 wr V2 N2 (M.nd x) ((M.pl x).up) (R x) ao2 ac2 ko2 kc2) := hB2
    have rs := ze6 (M.nd x) ao2 ac2 (M.pl x).up ko2 (R x).length kc2 V2
    have hb2 := hB2.blk
    obtain ⟨cs, hcs⟩ : ∃ cs, nV (M.nd x) ao2 ac2 (M.pl x).up ko2 (R x).length kc2 = cs := ⟨_, rfl⟩
    have hcz : cs.size = 14 := by rw [<- hcs]; rfl
    rw [hcs] at rs hb2
    have HKV : Hid (Kept (fun k => k < wr.heap.size) wr V2) := hB2.kept
    obtain ⟨q, hq⟩ : ∃ q, za9 (M.nd x) = q := ⟨_, rfl⟩
    have HQ : Hid (za9 (M.nd x) = q) := hq
    rw [hq] at rs
    clear rn hO2 hQ2 hK2 hV2 hN2 hB2 hcs hq d' e2 HB2
    go_upto_region 5 with fail
    rw [HV2.out, HN2.out]
    clear HV2 HN2
    go_wp2_with (refine wpList_load_row rfl 58 _ rfl N2 rfl 58 cs (0, 0) _ hb2 Tryz.underlying58 rfl (zez cs hcz) ?_)
    refine rs.mono ?_
    rintro e w3 ⟨rfl, hk3⟩
    have k3 : Kept (fun k => k < wr.heap.size) wr w3 := kt HKV.out hk3
    have hO3 := HOJ.out.kept (K' := fun k => K k \/ (X.heap.size <= k /\ k < w1.heap.size)) k3 (fun k hk => .inl hk) (fun k hk => ltl (HOJ.out.2.1 k hk) k3.size)
    have f2 : w3.cell? ⟨b2, 0, none⟩ = some (.pointer (some ⟨p, 0, none⟩)) := (k3.cell (p := ⟨b2, 0, none⟩) (World.block_lt_of_cell? wr _ HEE.out.1)).trans HEE.out.1
    have f3 : w3.cell? ⟨b3, 0, none⟩ = some (zgs bo b2 b3) := (k3.cell (p := ⟨b3, 0, none⟩) (World.block_lt_of_cell? wr _ HEE.out.2)).trans HEE.out.2
    have HK3 : Hid (Kept (fun k => K k \/ (X.heap.size <= k /\ k < w1.heap.size)) w1 w3) := HKJ.out.trans (k3.mono fun k hk => HOJ.out.2.1 k hk)
    have HK3w : Hid (Kept (fun k => k < w0.heap.size) w0 w3) := HKWR.out.trans (k3.mono fun k hk => ltl hk HKWR.out.size)
    clear rs hk3 hb2 k3
    by_cases cs1 : isS M x = true
    ·have hg1 : zax M R G x = zbc M R G x := by unfold zax; rw [if_pos cs1]
     have hq1 : q = true /\ z ≠ -1 := by
      unfold isS at cs1
      rw [HQ.out, HXN.out.2] at cs1
      simpa using cs1
     obtain ⟨hq1, hz1⟩ := hq1
     subst hq1
     obtain ⟨t, ht, ht5, hte⟩ : ∃ t : Nat, t < M.n /\ (M.nd t).kind = 5 /\ z = (t : Int) := by
      rcases HR.out.inv.ofz HXN.out.1 with ⟨t, h1, _, h2, h3⟩ | ⟨t, h1, _, h2, h3⟩
      ·exact ⟨t, h1, h3, by rw [<- h2]; exact HXN.out.2.symm⟩
      ·exact absurd (HXN.out.2.symm.trans h2) hz1
     have hle := HLE.out
     rw [hg1] at hle
     have r := HIH.out x HMEM.out cs1 t ht ht5 (by rw [HXN.out.2, hte]) _ w3 _ (fun k hk => .inl (HW0.out k hk)) (.inl HKB.out.1) (.inl HKB.out.2) HK3w.out f2 f3 hO3 hle
     have e5 : ((t : Int) == -1) = false := by simp
     have e6 : ((t : Int) != -1) = true := by simp
     have he := enter84
     have HG1 : Hid (zax M R G x = zbc M R G x) := hg1
     subst hte
     clear cs1 hg1 hz1 hle hO3 f2 ht ht5
     go_wp2_with fail
     refine r.mono ?_
     rintro e w4 ⟨rfl, hO4, hk4⟩
     have HO4 : Hid (Zec (fun k => K k \/ (X.heap.size <= k /\ k < w1.heap.size)) w4 bo (l ++ ((nxt M R G i).take (j + 1)).flatMap (zax M R G))) := by rw [HS3.out, HG1.out]; exact hO4
     have HK4 : Hid (Kept (fun k => K k \/ (X.heap.size <= k /\ k < w1.heap.size)) w1 w4) := HK3.out.trans hk4
     clear r hO4 hk4 f3 he
     go_wp2
     go_roundg (fl - (j + 1))
     case rel => exact ⟨j + 1, rfl, by omega, by go_num, HO4.out, HK4.out⟩
     case measure => omega
    ·have hg1 : zax M R G x = [x] := by unfold zax; rw [if_neg cs1]
     have HG1 : Hid (zax M R G x = [x]) := hg1
     have hq1 : q = false \/ z = -1 := by
      unfold isS at cs1
      rw [HQ.out, HXN.out.2] at cs1
      cases q with
      | false => exact .inl rfl
      | true => right; simpa using cs1
     have hle := HLE.out
     obtain ⟨ao, c, ao', c', U, co, hrun, hfz, ⟨u9, hcu⟩, hO5, hK5⟩ := hO3.app (by rw [hg1] at hle; simp only [List.length_singleton] at hle; omega) x
     obtain ⟨Z5, hZ5⟩ : ∃ Z, U.setCell ⟨bo, 0, none⟩ (.slice ao' ((l ++ ((nxt M R G i).take j).flatMap (zax M R G)).length + 1) c') = Z := ⟨_, rfl⟩
     rw [hZ5] at hO5 hK5
     obtain ⟨ln, hln⟩ : ∃ ln, (l ++ ((nxt M R G i).take j).flatMap (zax M R G)).length = ln := ⟨_, rfl⟩
     rw [hln] at co hrun hZ5 hle
     have hln9 : ln <= 10000000 := by omega
     have HZ5 : Hid (U.setCell ⟨bo, 0, none⟩ (.slice ao' (ln + 1) c') = Z5) := hZ5
     have HO4 : Hid (Zec (fun k => K k \/ (X.heap.size <= k /\ k < w1.heap.size)) Z5 bo (l ++ ((nxt M R G i).take (j + 1)).flatMap (zax M R G))) := by rw [HS3.out, HG1.out]; exact hO5
     have HK4 : Hid (Kept (fun k => K k \/ (X.heap.size <= k /\ k < w1.heap.size)) w1 Z5) := HK3.out.trans hK5
     clear cs1 hg1 hle hO3 f2 f3 hln hZ5 hO5 hK5
     rcases hq1 with hq1 | hq1
     ·subst hq1
      go_upto_region 8 with (at_builtin; refine zae (w' := U) rfl (.tmp 42) (.tmp 44) 33 33 rfl _ _ (.slice ao' (ln + 1) c') rfl rfl hrun ?_)
      rw [HZ5.out]
      clear hrun hfz hcu co HZ5
      go_wp2
      go_roundg (fl - (j + 1))
      case rel => exact ⟨j + 1, rfl, by omega, by go_num, HO4.out, HK4.out⟩
      case measure => omega
     ·subst hq1
      cases q with
      | false =>
       go_upto_region 8 with (at_builtin; refine zae (w' := U) rfl (.tmp 42) (.tmp 44) 33 33 rfl _ _ (.slice ao' (ln + 1) c') rfl rfl hrun ?_)
       rw [HZ5.out]
       clear hrun hfz hcu co HZ5
       go_wp2
       go_roundg (fl - (j + 1))
       case rel => exact ⟨j + 1, rfl, by omega, by go_num, HO4.out, HK4.out⟩
       case measure => omega
      | true =>
       go_upto_region 8 with (at_builtin; refine zae (w' := U) rfl (.tmp 42) (.tmp 44) 33 33 rfl _ _ (.slice ao' (ln + 1) c') rfl rfl hrun ?_)
       rw [HZ5.out]
       clear hrun hfz hcu co HZ5
       go_wp2
       go_roundg (fl - (j + 1))
       case rel => exact ⟨j + 1, rfl, by omega, by go_num, HO4.out, HK4.out⟩
       case measure => omega
   ·have hjn : fl = j := by omega
    subst hjn
    have hall : (nxt M R G i).take fl = nxt M R G i := List.take_of_length_le (by rw [HFLN.out]; exact Nat.le_refl _)
    rw [hall, <- HEQ.out] at hOj
    have HO4 : Hid (Zec K wr bo (l ++ zbc M R G i)) := hOj.less fun k hk => .inl hk
    have HK4 : Hid (Kept K X wr) := HK1X.out.trans (hKj.mono fun k hk => .inl hk)
    clear hOj hKj e2 e3 hall
    go_wp2
    first
     | (go_end0; exact ⟨rfl, HO4.out, HK4.out⟩)
     | (refine bodyPost_ret (results_none rfl _ _ _) rfl ?_; exact ⟨rfl, HO4.out, HK4.out⟩)
theorem Rd.flat (h : Rd K0 w0 p M R G rk) (i : Int) : Calls Tryz.prog 21 #[.pointer (some ⟨p, 0, none⟩), .int .i64 i] w0 (Lst w0 (zfg M R G i)) := by
 obtain ⟨V1, V2, V3, V4, N0, N1, N2, e1, e2, e3, e4, n0, n1, n2, cn, fn, c0, c2, hK4, hs4, hO, c1⟩ := zun w0 p 101 (fun a b c => zgs b a c)
 have HR : Hid (Rd K0 w0 p M R G rk) := h
 have HO : Hid (Zec (fun k => k < w0.heap.size \/ k = N0 \/ k = N2) V4 N1 []) := hO
 have HK4 : Hid (Kept (fun k => k < w0.heap.size) w0 V4) := hK4
 have HE1 : Hid (w0.alloc (.cells #[.pointer (some ⟨p, 0, none⟩)] 25) = V1) := e1
 have HE2 : Hid (V1.alloc (.cells #[.slice none 0 0] 33) = V2) := e2
 have HE3 : Hid (V2.alloc (.cells #[.nilFunc] 101) = V3) := e3
 have HE4 : Hid (V3.setCell ⟨N2, 0, none⟩ (zgs N1 N0 N2) = V4) := e4
 have HN0 : Hid (w0.heap.size = N0) := n0
 have HN1 : Hid (N0 + 1 = N1) := n1
 have HN2 : Hid (N1 + 1 = N2) := n2
 have HC : Hid (V4.cell? ⟨N0, 0, none⟩ = some (.pointer (some ⟨p, 0, none⟩)) /\ V4.cell? ⟨N2, 0, none⟩ = some (zgs N1 N0 N2)) := ⟨c0, c2⟩
 have HLT : Hid (N0 < V4.heap.size /\ N2 < V4.heap.size) := ⟨by rw [hs4]; omega, by rw [hs4]; omega⟩
 have HC1 : Hid (V4.cell? ⟨N1, 0, none⟩ = some (.slice none 0 0)) := c1
 have HL1 : Hid (N1 < V4.heap.size) := World.block_lt_of_cell? V4 _ c1
 obtain ⟨L, hL⟩ : ∃ L, zfg M R G i = L := ⟨_, rfl⟩
 rw [hL]
 have ro := (h.kept hK4).rootOf i
 clear hO hK4 e1 e2 e3 e4 n0 n1 n2 hs4 c1
 by_cases cr : zfc M i = -1
 ·have HE : Hid (L = []) := by
   rw [<- hL]
   unfold zfg
   by_cases cI : i < 0 \/ (M.n : Int) <= i
   ·rw [if_pos cI]; exact rfl
   ·rw [if_neg cI]
    obtain ⟨k, rfl⟩ : ∃ k : Nat, i = (k : Int) := ⟨i.toNat, by omega⟩
    unfold zfc at cr
    rw [Int.toNat_natCast] at cr ⊢
    unfold zbc
    rw [if_neg]
    ·exact rfl
    ·unfold isS
     by_cases cs : za9 (M.nd k) = false
     ·rw [cs]; simp
     ·rw [if_neg (fun hh => hh.elim cI cs)] at cr
      rw [cr]; simp
  rw [cr] at ro
  clear h hL cr
  go_enter Tryz.func21, Tryz.ntmps21
  go_upto_region 3 with fail
  rw [HE1.out, HN0.out, HE2.out, HN1.out, HE3.out, HN2.out]
  go_upto_region 4 with fail
  rw [HE4.out]
  clear HE1 HE2 HE3 HE4 HN0 HN1 HN2 cn fn
  go_wp2_with fail
  refine ro.mono ?_
  rintro e v1 ⟨rfl, hK1⟩
  have d1 : v1.cell? ⟨N1, 0, none⟩ = some (.slice none 0 0) := (hK1.cell (p := ⟨N1, 0, none⟩) HL1.out).trans HC1.out
  have HK : Hid (Kept (fun k => k < w0.heap.size) w0 v1) := kt HK4.out hK1
  clear ro hK1 c0 c2
  go_wp2
  go_ret
  rw [HE.out]
  exact Lst.nil w0 _ HK.out
 ·have hin : ∃ k : Nat, i = (k : Int) /\ k < M.n /\ isS M k = true /\ ∃ t : Nat, t < M.n /\ (M.nd t).kind = 5 /\ ofZ M (k : Int) = (t : Int) /\ zfc M i = (t : Int) := by
   unfold zfc at cr ⊢
   by_cases cc : (i < 0 \/ (M.n : Int) <= i) \/ za9 (M.nd i.toNat) = false
   ·rw [if_pos cc] at cr; exact absurd rfl cr
   ·rw [if_neg cc] at cr ⊢
    obtain ⟨k, rfl⟩ : ∃ k : Nat, i = (k : Int) := ⟨i.toNat, by have : ¬ i < 0 := fun hh => cc (.inl (.inl hh)); omega⟩
    rw [Int.toNat_natCast] at cc
    have hk : k < M.n := by have : ¬ (M.n : Int) <= (k : Int) := fun hh => cc (.inl (.inr hh)); omega
    have hsl : za9 (M.nd k) = true := by cases hh : za9 (M.nd k) with | true => rfl | false => exact absurd (.inr hh) cc
    refine ⟨k, rfl, hk, by unfold isS; rw [hsl]; simpa using cr, ?_⟩
    rcases h.inv.ofz hk with ⟨t, h1, _, h2, h3⟩ | ⟨t, h1, _, h2, h3⟩
    ·exact ⟨t, h1, h3, h2, h2⟩
    ·exact absurd h2 cr
  obtain ⟨k, rfl, hk, hsk, t, ht, ht5, hof, hrt⟩ := hin
  have HL : Hid (zbc M R G k = L) := by rw [<- hL, zgb hk]; exact rfl
  have HWL : Hid ((zbc M R G k).length <= 100000) := Nat.le_trans (h.inv.flat_len hk) h.le
  have HKN : Hid (k < M.n /\ isS M k = true /\ t < M.n /\ (M.nd t).kind = 5 /\ ofZ M (k : Int) = (t : Int)) := ⟨hk, hsk, ht, ht5, hof⟩
  rw [hrt] at ro
  have e5 : ((t : Int) == -1) = false := by simp
  have e6 : ((t : Int) != -1) = true := by simp
  clear h hL cr hk hsk ht ht5 hof hrt
  go_enter Tryz.func21, Tryz.ntmps21
  go_upto_region 3 with fail
  rw [HE1.out, HN0.out, HE2.out, HN1.out, HE3.out, HN2.out]
  go_upto_region 4 with fail
  rw [HE4.out]
  clear HE1 HE2 HE3 HE4 HN1 HN2 cn fn
  go_wp2_with fail
  refine ro.mono ?_
  rintro e v1 ⟨rfl, hK1⟩
  have d0 : v1.cell? ⟨N0, 0, none⟩ = some (.pointer (some ⟨p, 0, none⟩)) := (hK1.cell (p := ⟨N0, 0, none⟩) HLT.out.1).trans HC.out.1
  have d2 : v1.cell? ⟨N2, 0, none⟩ = some (zgs N1 N0 N2) := (hK1.cell (p := ⟨N2, 0, none⟩) HLT.out.2).trans HC.out.2
  have hK5 : Kept (fun k => k < w0.heap.size) w0 v1 := kt HK4.out hK1
  have HK5 : Hid (Kept (fun k => k < w0.heap.size) w0 v1) := hK5
  have hO5 := HO.out.kept (K' := fun k => k < w0.heap.size \/ k = N0 \/ k = N2) hK1 (fun k hk => .inl hk) (fun k hk => ltl (HO.out.2.1 k hk) hK1.size)
  have r := zsf HR.out N1 N0 N2 _ k (Nat.lt_succ_self _) HKN.out.1 HKN.out.2.1 t HKN.out.2.2.1 HKN.out.2.2.2.1 HKN.out.2.2.2.2 _ v1 [] (fun k hk => .inl hk) (.inr (.inl rfl)) (.inr (.inr rfl)) hK5 d0 d2 hO5 (by have := HWL.out; simp only [List.length_nil]; omega)
  rw [HL.out, List.nil_append] at r
  have he := enter84
  clear ro hK1 c0 c2 hO5 hK5 d0
  go_wp2_with fail
  refine r.mono ?_
  rintro e w2 ⟨rfl, hO2, hk2⟩
  obtain ⟨-, -, ao, c, hb, hOZ⟩ := hO2
  have cb : w2.cell? ⟨N1, 0, none⟩ = some (.slice ao L.length c) := by rw [zaa hb]; rfl
  have HOZ : Hid (Zac (fun k => k < w0.heap.size) w2 3 1 ao L.length c (ivs L)) := hOZ.to (fun g hg hh => (hOZ.out hg).1 (.inl (.inl hh))) (fun _ _ => rfl)
  have HK6 : Hid (Kept (fun k => k < w0.heap.size) w0 w2) := HK5.out.trans (hk2.mono fun k hk => .inl hk)
  obtain ⟨ll, hll⟩ : ∃ ll, L.length = ll := ⟨_, rfl⟩
  have HLL : Hid (L.length = ll) := hll
  rw [hll] at cb
  clear r hb hOZ hk2 he d2 hll
  go_wp2
  go_ret
  exact ⟨ao, c, by rw [HLL.out]; rfl, HOZ.out, HK6.out⟩
end
end
section
open Go.RowKit
def s5 : Dm := (((((Dm.new 9).add zvh).add txN).add slN).add slN).addR 1 fg0
def s5R : Nat -> List Nat := zaw (zaw (zaw (zaw (zaw (fun _ => []) 1 []) 2 []) 3 []) 4 []) 5 []
def s6 : Dm := s5.setP (zea s5 s5R 1 2 (-1))
def s6R : Nat -> List Nat := zc6 s5 s5R 1 2 (-1)
def s7 : Dm := s6.setP (zea s6 s6R 5 3 (-1))
def s7R : Nat -> List Nat := zc6 s6 s6R 5 3 (-1)
def s8 : Dm := s7.setP (zea s7 s7R 5 4 (-1))
def s8R : Nat -> List Nat := zc6 s7 s7R 5 4 (-1)
theorem sF5 : Fits s5 1 2 (-1) := ⟨by kernel_rfl, by kernel_rfl, zgx (by kernel_rfl) (by decide), .inl rfl⟩
theorem sF6 : Fits s6 5 3 (-1) := ⟨by kernel_rfl, by kernel_rfl, zh4 (m := 1) (by kernel_rfl) (by decide) (zgx (by kernel_rfl) (by decide)), .inl rfl⟩
theorem sF7 : Fits s7 5 4 (-1) := ⟨by kernel_rfl, by kernel_rfl, zh4 (m := 1) (by kernel_rfl) (by decide) (zgx (by kernel_rfl) (by decide)), .inl rfl⟩
section
variable {G : Nat -> List Nat} {rk : Nat -> Nat}
theorem zt6 : ofZ s8 3 = 5 := zcr (M := s8) (i := 3) (z := 5) (by decide +kernel) (.yes (t := 5) (.up (m := 5) (by kernel_rfl) (.here (by kernel_rfl))) (by kernel_rfl))
theorem zu7 : ofZ s8 4 = 5 := zcr (M := s8) (i := 4) (z := 5) (by decide +kernel) (.yes (t := 5) (.up (m := 5) (by kernel_rfl) (.here (by kernel_rfl))) (by kernel_rfl))
theorem zns : za8 s8 s8R G 3 = [2] := by
 unfold za8
 have h1 : za9 (s8.nd 3) = true := by kernel_rfl
 have e : ofZ s8 ((3 : Nat) : Int) = 5 := zt6
 rw [h1, e, if_neg (by simp)]
 show zd7 s8 s8R G 3 5 = [2]
 unfold zd7
 have hb : (s8.nd 5).fl.b = false := by kernel_rfl
 rw [hb, if_neg (by simp)]
 have hf : zkf s8 s8R (atV zbp (s8.nd 3).attrs) 5 = ((3 : Nat) : Int) := by kernel_rfl
 rw [if_pos hf]
 have hr : (s8R (s8.nd 5).host.toNat).filter (fun k => zca (atV zbp (s8.nd 3).attrs) (s8.nd k)) = [2] := by kernel_rfl
 exact hr
theorem zua : za8 s8 s8R G 4 = [] := by
 unfold za8
 have h1 : za9 (s8.nd 4) = true := by kernel_rfl
 have e : ofZ s8 ((4 : Nat) : Int) = 5 := zu7
 rw [h1, e, if_neg (by simp)]
 show zd7 s8 s8R G 4 5 = []
 unfold zd7
 have hb : (s8.nd 5).fl.b = false := by kernel_rfl
 rw [hb, if_neg (by simp)]
 have hf : zkf s8 s8R (atV zbp (s8.nd 4).attrs) 5 = ((3 : Nat) : Int) := by kernel_rfl
 rw [hf, if_neg (by omega)]
theorem zts (h : Inv s8 s8R G rk) : zbi s8 s8R 2 = 3 := by
 have n6 : s8.n = 6 := by kernel_rfl
 exact (h.asg (i := 3) (k := 2) (by rw [n6]; decide) (by rw [n6]; decide)).1 (by rw [zns]; simp)
theorem zt0 (h : Inv s8 s8R G rk) : zbc s8 s8R G 3 = [2] := by
 have n6 : s8.n = 6 := by kernel_rfl
 have hs : isS s8 3 = true := by
  unfold isS
  have h1 : za9 (s8.nd 3) = true := by kernel_rfl
  have e : ofZ s8 ((3 : Nat) : Int) = 5 := zt6
  rw [h1, e]; decide
 have hs2 : isS s8 2 = false := by
  unfold isS
  have h1 : za9 (s8.nd 2) = false := by kernel_rfl
  rw [h1, Bool.false_and]
 rw [h.flat_eq (by rw [n6]; decide) hs]
 have hn : nxt s8 s8R G 3 = [2] := by unfold nxt; rw [hs, if_neg (by simp), zns, if_neg (by simp)]
 rw [hn, List.flatMap_singleton, if_neg (by rw [hs2]; simp)]
end
theorem zhm (w : World) : Calls Tryz.prog 13 #[] w fun e w' => e = .returned (.bool true) /\ Kept (fun k => k < w.heap.size) w w' := by
 have r0 := zej 9 w (by decide) (by decide)
 go_enter Tryz.func13, Tryz.ntmps13
 go_wp2_with fail
 refine r0.mono ?_
 rintro e w1 ⟨p, rfl, hp, hX1, hK1⟩
 have k1 : Kn (fun k => k < w.heap.size) w1 p (Dm.new 9) (fun _ => []) (fun _ => []) := Kn.new (w0 := w) hX1 (by decide) (by decide)
 have r1 := k1.make 1 1 zuv ⟨#[]⟩ [100, 105, 118] [] rfl zgf zbs zgk (by decide) (by decide)
 have HK1 : Hid (Kept (fun k => k < w.heap.size) w w1) := hK1
 clear r0 hX1 hK1 k1 hp
 go_wp2_with fail
 refine r1.mono ?_
 rintro e w2 ⟨rfl, k2, hK2⟩
 have r2 := k2.make 2 2 ⟨#[]⟩ ⟨#[120]⟩ [] [120] rfl zbs zko zgt (by decide) (by decide)
 have HK2 : Hid (Kept (fun k => k < w.heap.size) w w2) := HK1.out.trans hK2
 clear r1 k2 hK2
 go_wp2_with fail
 refine r2.mono ?_
 rintro e w3 ⟨rfl, k3, hK3⟩
 have r3 := k3.make 1 1 zjb ⟨#[]⟩ [115, 108, 111, 116] [] rfl zc1 zbs zf7 (by decide) (by decide)
 have HK3 : Hid (Kept (fun k => k < w.heap.size) w w3) := HK2.out.trans hK3
 clear r2 k3 hK3
 go_wp2_with fail
 refine r3.mono ?_
 rintro e w4 ⟨rfl, k4, hK4⟩
 have r4 := k4.make 1 1 zjb ⟨#[]⟩ [115, 108, 111, 116] [] rfl zc1 zbs zf7 (by decide) (by decide)
 have HK4 : Hid (Kept (fun k => k < w.heap.size) w w4) := HK3.out.trans hK4
 clear r3 k4 hK4
 go_wp2_with fail
 refine r4.mono ?_
 rintro e w5 ⟨rfl, k5, hK5⟩
 have r5 := k5.root (host := 1) fg0 (by decide) (by kernel_rfl) (by kernel_rfl) (by decide)
 have HK5 : Hid (Kept (fun k => k < w.heap.size) w w5) := HK4.out.trans hK5
 clear r4 k5 hK5
 go_wp2_with fail
 refine r5.mono ?_
 rintro e w6 ⟨rfl, k6, hK6⟩
 have k6' : ∃ G, Kn (fun k => k < w.heap.size) w6 p s5 s5R G := ⟨_, k6⟩
 obtain ⟨G, k6⟩ := k6'
 have r6 := k6.ins (up := 1) (i := 2) (-1) (by decide +kernel) (by decide +kernel) (.inl rfl) sF5
 have HK6 : Hid (Kept (fun k => k < w.heap.size) w w6) := HK5.out.trans hK6
 clear r5 hK6 k6
 go_wp2_with fail
 refine r6.mono ?_
 rintro e w7 ⟨rfl, k7, hK7⟩
 have k7' : Kn (fun k => k < w.heap.size) w7 p s6 s6R G := k7
 have r7 := k7'.ins (up := 5) (i := 3) (-1) (by decide +kernel) (by decide +kernel) (.inl rfl) sF6
 have HK7 : Hid (Kept (fun k => k < w.heap.size) w w7) := HK6.out.trans hK7
 clear r6 hK7 k7 k7'
 go_wp2_with fail
 refine r7.mono ?_
 rintro e w8 ⟨rfl, k8, hK8⟩
 have k8' : Kn (fun k => k < w.heap.size) w8 p s7 s7R G := k8
 have r8 := k8'.ins (up := 5) (i := 4) (-1) (by decide +kernel) (by decide +kernel) (.inl rfl) sF7
 have HK8 : Hid (Kept (fun k => k < w.heap.size) w w8) := HK7.out.trans hK8
 clear r7 hK8 k8 k8'
 go_wp2_with fail
 refine r8.mono ?_
 rintro e w9 ⟨rfl, k9, hK9⟩
 have k9' : Kn (fun k => k < w.heap.size) w9 p s8 s8R G := k9
 obtain ⟨rk, hR⟩ := k9'.rd
 have HK9 : Hid (Kept (fun k => k < w.heap.size) w w9) := HK8.out.trans hK9
 have HR : Hid (Rd (fun k => k < w.heap.size) w9 p s8 s8R G rk) := hR
 have n6 : s8.n = 6 := by kernel_rfl
 have ra := hR.assigned 3
 have ea : zkl s8 s8R G 3 = [2] := (zdk (i := 3) (by rw [n6]; decide)).trans zns
 rw [ea] at ra
 have RS : Hid (∀ X, Kept (fun k => k < w9.heap.size) w9 X -> Calls Tryz.prog 23 #[.pointer (some ⟨p, 0, none⟩), .int .i64 5] X (Lst X [3, 4])) := fun X hX => by
  have := (HR.out.kept hX).slots 5
  rw [show (trI s8.n s8R 5).filter (fun k => za9 (s8.nd k)) = [3, 4] from by kernel_rfl] at this
  exact this
 have RFI : Hid (∀ X, Kept (fun k => k < w9.heap.size) w9 X -> Calls Tryz.prog 16 #[.pointer (some ⟨p, 0, none⟩), .int .i64 2] X fun e w' => e = .returned (.int .i64 3) /\ Kept (fun k => k < X.heap.size) X w') := fun X hX => by
  have := (HR.out.kept hX).find 2
  rw [show zg4 s8 s8R 2 = 3 from (zga (i := 2) (by rw [n6]; decide)).trans (zts HR.out.inv)] at this
  exact this
 have RA4 : Hid (∀ X, Kept (fun k => k < w9.heap.size) w9 X -> Calls Tryz.prog 19 #[.pointer (some ⟨p, 0, none⟩), .int .i64 4] X (Lst X [])) := fun X hX => by
  have := (HR.out.kept hX).assigned 4
  rw [show zkl s8 s8R G 4 = [] from (zdk (i := 4) (by rw [n6]; decide)).trans zua] at this
  exact this
 have RFL : Hid (∀ X, Kept (fun k => k < w9.heap.size) w9 X -> Calls Tryz.prog 21 #[.pointer (some ⟨p, 0, none⟩), .int .i64 3] X (Lst X [2])) := fun X hX => by
  have := (HR.out.kept hX).flat 3
  rw [show zfg s8 s8R G 3 = [2] from (zgb (i := 3) (by rw [n6]; decide)).trans (zt0 HR.out.inv)] at this
  exact this
 clear r8 hK9 k9 k9' hR ea n6
 go_wp2_with fail
 refine ra.mono ?_
 rintro e w10 ⟨ga, ca, rfl, hO10, hk10⟩
 obtain ⟨g10, rfl, hg10, c10⟩ := zh9 hO10
 have rb := RS.out w10 hk10
 have HK10 : Hid (Kept (fun k => k < w9.heap.size) w9 w10) := hk10
 clear ra hO10 hk10
 go_wp2_with fail
 refine rb.mono ?_
 rintro e w11 ⟨gb, cb, rfl, -, hk11⟩
 have k911 : Kept (fun k => k < w9.heap.size) w9 w11 := kt HK10.out hk11
 have rf := RFI.out w11 k911
 have d10 : w11.cell? ⟨g10, 0, none⟩ = some (.int .i64 2) := (hk11.cell (p := ⟨g10, 0, none⟩) hg10).trans c10
 have hg10' : g10 < w11.heap.size := ltl hg10 hk11.size
 have HK11 : Hid (Kept (fun k => k < w9.heap.size) w9 w11) := k911
 clear rb hk11 k911 c10 hg10
 go_wp2_with fail
 refine rf.mono ?_
 rintro e w12 ⟨rfl, hk12⟩
 have k912 : Kept (fun k => k < w9.heap.size) w9 w12 := kt HK11.out hk12
 have r4 := RA4.out w12 k912
 have e10 : w12.cell? ⟨g10, 0, none⟩ = some (.int .i64 2) := (hk12.cell (p := ⟨g10, 0, none⟩) hg10').trans d10
 have HK12 : Hid (Kept (fun k => k < w9.heap.size) w9 w12) := k912
 clear rf hk12 k912 d10 hg10'
 go_wp2_with fail
 refine r4.mono ?_
 rintro e w13 ⟨gd, cd, rfl, -, hk13⟩
 have k913 : Kept (fun k => k < w9.heap.size) w9 w13 := kt HK12.out hk13
 have r5 := RFL.out w13 k913
 have HK13 : Hid (Kept (fun k => k < w9.heap.size) w9 w13) := k913
 clear r4 hk13 k913 e10
 go_wp2_with fail
 refine r5.mono ?_
 rintro e w14 ⟨ge, ce, rfl, -, hk14⟩
 have HK14 : Hid (Kept (fun k => k < w.heap.size) w w14) := (kt HK9.out HK13.out).trans (hk14.mono fun k h => ltl h (Nat.le_trans HK9.out.size HK13.out.size))
 clear r5 hk14
 go_wp2
 go_ret
 exact ⟨rfl, HK14.out⟩
end
end Go.Proofs.YtfeinppedejlpaaGreat
