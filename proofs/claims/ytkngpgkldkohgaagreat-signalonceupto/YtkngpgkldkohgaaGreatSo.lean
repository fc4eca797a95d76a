/-
  The walk of SignalOnce.
-/
import Derived.Test.YtkngpgkldkohgaaGreatZf
import Derived.Test.YtkngpgkldkohgaaGreatQs
import Derived.Test.YtkngpgkldkohgaaGreatC02
import Derived.Deep.MidRow
namespace Go.Proofs.YtkngpgkldkohgaaGreat
open Go.RowKit Go.Sort
set_option linter.unusedVariables false
set_option maxRecDepth 100000
set_option maxHeartbeats 8000000
theorem seeP_same {asg kn : Nat → List Nat} {pd : List Nat} : ∀ m, (∀ j, j < m → asg j = kn j) → seeP asg kn pd m = pd
  | 0, _ => rfl
  | m + 1, h => by
    show (if asg m = kn m then seeP asg kn pd m else mkP (seeP asg kn pd m) m) = pd
    rw [if_pos (h m (Nat.lt_succ_self _)), seeP_same m fun j hj => h j (by omega)]
/-- What a Board knows, and what is pending on it. -/
structure BdOk (M : Dm) (kn : Nat → List Nat) (pd : List Nat) : Prop where
  nd : pd.Nodup
  inP : ∀ k ∈ pd, k < M.n ∧ (M.nd k).name = slotN
  inK : ∀ i, kn i ≠ [] → i < M.n ∧ (M.nd i).name = slotN
  len : ∀ i, (kn i).length ≤ 1000000
theorem BdOk.grow {M M' : Dm} {kn : Nat → List Nat} {pd : List Nat} (h : BdOk M kn pd) (g : Grows M M') : BdOk M' kn pd :=
  ⟨h.nd, fun k hk => ⟨Nat.lt_of_lt_of_le (h.inP k hk).1 g.n, by rw [g.name k (h.inP k hk).1]; exact (h.inP k hk).2⟩, fun i hi => ⟨Nat.lt_of_lt_of_le (h.inK i hi).1 g.n, by rw [g.name i (h.inK i hi).1]; exact (h.inK i hi).2⟩, h.len⟩
section
variable {M : Dm} {R G : Nat → List Nat} {rk : Nat → Nat} {kn : Nat → List Nat} {pd : List Nat}
theorem asg_name {i : Nat} (h : asgL M R G i ≠ []) : (M.nd i).name = slotN := by
  cases c : isSl (M.nd i) with
  | true => exact (isSl_iff.1 c).2
  | false => exact absurd (u_not c) h
theorem BdOk.seeP (h : BdOk M kn pd) : ∀ m, m ≤ M.n → (Go.Proofs.YtkngpgkldkohgaaGreat.seeP (asgL M R G) kn pd m).Nodup ∧ ∀ k ∈ Go.Proofs.YtkngpgkldkohgaaGreat.seeP (asgL M R G) kn pd m, k < M.n ∧ (M.nd k).name = slotN
  | 0, _ => ⟨h.nd, h.inP⟩
  | m + 1, hm => by
    obtain ⟨h1, h2⟩ := h.seeP m (by omega)
    have e0 : Go.Proofs.YtkngpgkldkohgaaGreat.seeP (asgL M R G) kn pd (m + 1) = if asgL M R G m = kn m then Go.Proofs.YtkngpgkldkohgaaGreat.seeP (asgL M R G) kn pd m else mkP (Go.Proofs.YtkngpgkldkohgaaGreat.seeP (asgL M R G) kn pd m) m := rfl
    rw [e0]
    by_cases c : asgL M R G m = kn m
    · rw [if_pos c]; exact ⟨h1, h2⟩
    · rw [if_neg c]
      unfold mkP
      by_cases c2 : m ∈ Go.Proofs.YtkngpgkldkohgaaGreat.seeP (asgL M R G) kn pd m
      · rw [if_pos c2]; exact ⟨h1, h2⟩
      · rw [if_neg c2]
        refine ⟨List.nodup_append.2 ⟨h1, by simp, fun a ha b hb e => ?_⟩, fun k hk => ?_⟩
        · rw [List.mem_singleton.1 hb] at e
          exact c2 (e ▸ ha)
        · rcases List.mem_append.1 hk with hk | hk
          · exact h2 k hk
          · have : k = m := List.mem_singleton.1 hk
            subst this
            refine ⟨by omega, ?_⟩
            by_cases e : asgL M R G k = []
            · exact (h.inK k fun e2 => c (e.trans e2.symm)).2
            · exact asg_name e
theorem BdOk.see (h : BdOk M kn pd) (hI : Inv M R G rk) (hn : M.n ≤ 100000) : BdOk M (seeK (asgL M R G) kn M.n) (Go.Proofs.YtkngpgkldkohgaaGreat.seeP (asgL M R G) kn pd M.n) := by
  obtain ⟨h1, h2⟩ := h.seeP (R := R) (G := G) M.n (Nat.le_refl _)
  refine ⟨h1, h2, fun i hi => ?_, fun i => ?_⟩
  · unfold seeK at hi
    by_cases c : i < M.n
    · rw [if_pos c] at hi; exact ⟨c, asg_name hi⟩
    · rw [if_neg c] at hi; exact h.inK i hi
  · unfold seeK
    by_cases c : i < M.n
    · rw [if_pos c]
      have := nodup_le M.n _ (hI.asg_nd (G := G) c) (fun x hx => hI.asg_lt c hx)
      omega
    · rw [if_neg c]; exact h.len i
theorem BdOk.few (h : BdOk M kn pd) : pd.length ≤ M.n := nodup_le M.n _ h.nd fun k hk => (h.inP k hk).1
end
/-- The blocks that a call keeps: what was there, and the Board's. -/
def KB (B : Nat) (EB : Nat → Prop) (k : Nat) : Prop := k < B ∨ EB k
theorem Grown.see {B : Nat} {EB E1 E : Nat → Prop} {X X1 : World} {p r : Nat} {M : Dm} {R G : Nat → List Nat} {rk : Nat → Nat} {lim : Nat} (h : Grown (KB B EB) E X p r M R G rk lim) (hB : B ≤ X.heap.size) (g : Gr EB E1 X X1) (hl : ∀ k, E1 k → k < X1.heap.size) : Grown (KB B E1) E X1 p r M R G rk lim := by
  have hsz := g.kept.size
  have hEX : ∀ k, E k → k < X.heap.size := fun k hk => h.two.d.lt k (.inr hk)
  have back : ∀ k, k < X.heap.size → KB B E1 k → KB B EB k := fun k hk hh => by
    rcases hh with hh | hh
    · exact .inl hh
    · rcases g.new k hh with hh | hh
      · exact .inr hh
      · omega
  refine ⟨⟨h.two.d.move (fun q hq hn => g.kept.block q ⟨hq, fun he => hn (.inl (.inr he))⟩) (fun k hk hh => ?_) (fun k hh => ?_), h.two.r.move (fun q hq hn => g.kept.block q ⟨hq, fun he => hn (.inl (.inr he))⟩) hsz (fun k hk hh => ?_) (fun k hh => ?_), fun k hE hk => ?_⟩, h.inv, h.lim, h.le⟩
  · rcases hh with hh | hh
    · exact .inl (back k hk hh)
    · exact .inr hh
  · rcases hh with (hh | hh) | hh
    · omega
    · exact hl k hh
    · exact Nat.lt_of_lt_of_le (hEX k hh) hsz
  · rcases hh with hh | hh
    · exact .inl (back k hk hh)
    · exact .inr ⟨hk, hh.2⟩
  · rcases hh with (hh | hh) | hh
    · omega
    · exact hl k hh
    · exact hh.1
  · exact h.two.nk k hE (back k (hEX k hE) hk)
theorem Bo.ltE {E : Nat → Prop} {w : World} {b n : Nat} {kn : Nat → List Nat} {pd : List Nat} (h : Bo E w b n kn pd) : ∀ k, E k → k < w.heap.size := h.lt
theorem sonce_go (l : List Opx) (n : Nat) (hln : l.length = n) (hnn : n ≤ 60) (a : Option Addr) (c : Nat) (hok : ∀ o ∈ l, OpOk o) (hb : opsH l ≤ 6000) (w : World) (h : OpsAt (fun k => k < w.heap.size) w a l) :
    Calls Tryz.prog 7 #[.slice a n c] w fun e w' => e = .returned (.bool true) ∧ Kept (fun k => k < w.heap.size) w w' := by
  have rh := heavy_any l n hln (by omega) a c (by omega) w h
  have hg60 : decide ((n : Int) > 60) = false := decide_eq_false (by omega)
  obtain ⟨hv, hhv⟩ : ∃ hv, opsH l = hv := ⟨_, rfl⟩
  rw [hhv] at rh
  have hg6 : decide ((hv : Int) > 6000) = false := decide_eq_false (by omega)
  have HRN : Hid (∀ X, Calls Tryz.prog 32 #[.int .i64 300] X fun e w' => ∃ p, e = .returned (.pointer (some ⟨p, 0, none⟩)) ∧ X.heap.size ≤ p ∧ RX (fun k => k < X.heap.size) w' p (Dm.new 300) (fun _ => []) (fun _ => []) ∧ Kept (fun k => k < X.heap.size) X w') := fun X => rnew_yes 300 X (by decide) (by decide)
  have HL : Hid (l.length = n) := hln
  have HB : Hid (opsH l ≤ 900000) := by rw [hhv]; exact (by omega : hv ≤ 900000)
  have HH : Hid (OpsAt (fun k => k < w.heap.size) w a l) := h
  have HOK : Hid (∀ o ∈ l, OpOk o) := hok
  clear hln hok h hhv hb
  go_enter Tryz.func7, Tryz.ntmps7
  go_wp2_with fail
  refine rh.mono ?_
  rintro e wA ⟨rfl, kwA⟩
  have rk0 := gknown_any wA
  have HKu1 : Hid (Kept (fun k => k < w.heap.size) w wA) := kwA
  clear rh kwA
  go_wp2_with fail
  refine rk0.mono ?_
  rintro e wB ⟨rfl, kwB⟩
  have HKu2 : Hid (Kept (fun k => k < w.heap.size) w wB) := HKu1.out.trans (kwB.mono fun k h => Nat.lt_of_lt_of_le h HKu1.out.size)
  have rn := new_yes 300 wB (by decide) (by decide)
  clear rk0 kwB hg6 hg60
  go_wp2_with fail
  refine rn.mono ?_
  rintro e w1 ⟨p, rfl, hp, hX1, k1⟩
  have rn2 := HRN.out w1
  have HX1 : Hid (DX (fun k => k < wB.heap.size) w1 p (Dm.new 300)) := hX1
  have HK1 : Hid (Kept (fun k => k < wB.heap.size) wB w1) := k1
  clear rn hX1 k1 HRN hp
  go_wp2_with fail
  refine rn2.mono ?_
  rintro e w2 ⟨r, rfl, hr, hX2, k2⟩
  have HG2 : Hid (Grown (fun k => k < wB.heap.size) (fun k => w1.heap.size ≤ k ∧ k < w2.heap.size) w2 p r (Dm.new 300) (fun _ => []) (fun _ => []) (fun _ => 0) 300) := ⟨two_new HX1.out HK1.out hX2 k2, Inv.new 300, rfl, by show 1 ≤ 300; decide⟩
  have HK2 : Hid (Kept (fun k => k < wB.heap.size) wB w2) := HK1.out.trans (k2.mono fun k h => Nat.lt_of_lt_of_le h HK1.out.size)
  have rb := bnew_any w2
  clear rn2 hX2 k2 hr HX1 HK1
  go_wp2_with fail
  refine rb.mono ?_
  rintro e w3 ⟨b, rfl, hBo, k3⟩
  have HG3 : Hid (Grown (KB wB.heap.size (fun k => k = w2.heap.size ∨ k = w2.heap.size + 1)) (fun k => w1.heap.size ≤ k ∧ k < w2.heap.size) w3 p r (Dm.new 300) (fun _ => []) (fun _ => []) (fun _ => 0) 300) := by
    have h0 : Grown (KB wB.heap.size (fun _ => False)) (fun k => w1.heap.size ≤ k ∧ k < w2.heap.size) w2 p r (Dm.new 300) (fun _ => []) (fun _ => []) (fun _ => 0) 300 := by
      have e : (KB wB.heap.size (fun _ => False)) = fun k => k < wB.heap.size := by funext k; unfold KB; simp
      rw [e]; exact HG2.out
    exact h0.see HK2.out.size ⟨fun _ h => h.elim, fun k hk => .inr (by rcases hk with rfl | rfl <;> omega), k3.mono fun k h => h.1⟩ hBo.lt
  have HBo : Hid (Bo (fun k => k = w2.heap.size ∨ k = w2.heap.size + 1) w3 b 0 (fun _ => []) []) := hBo
  have HK3 : Hid (Kept (fun k => k < wB.heap.size) wB w3) := HK2.out.trans (k3.mono fun k h => Nat.lt_of_lt_of_le h HK2.out.size)
  have HBK : Hid (BdOk (Dm.new 300) (fun _ => []) []) := ⟨List.nodup_nil, fun k hk => (by cases hk), fun i hi => absurd rfl hi, fun _ => Nat.zero_le _⟩
  have HE3 : Hid (∀ k, (k = w2.heap.size ∨ k = w2.heap.size + 1) → wB.heap.size ≤ k) := fun k hk => by have := HK2.out.size; rcases hk with rfl | rfl <;> omega
  clear rb hBo k3 HG2 HK2
  go_upto_region 9 with fail
  go_loopg [6] n (fun gh v wr => ∃ (k nb : Nat) (E EB : Nat → Prop) (M : Dm) (R G : Nat → List Nat) (rk : Nat → Nat) (kn : Nat → List Nat) (pd : List Nat), gh = n - k ∧ k ≤ n ∧ v = .int .i64 (k : Int) ∧ Grown (KB wB.heap.size EB) E wr p r M R G rk 300 ∧ Bo EB wr b nb kn pd ∧ BdOk M kn pd ∧ nb ≤ 600 * k ∧ (∀ q, EB q → wB.heap.size ≤ q) ∧ Kept (fun k => k < wB.heap.size) wB wr)
  case atStart => exact ⟨0, 0, _, _, _, _, _, _, _, _, rfl, Nat.zero_le _, rfl, HG3.out, HBo.out, HBK.out, Nat.le_refl _, HE3.out, HK3.out⟩
  case round =>
    clear HG3 HBo HK3 HBK HE3
    obtain ⟨k, nb, E, EB, M, R, G, rk, kn, pd, hgk, hk, rfl, hG, hBo, hBK, hnb, hEB, hK⟩ := hrel
    have HBo : Hid (Bo EB wr b nb kn pd) := hBo
    have HBK : Hid (BdOk M kn pd) := hBK
    have HEB : Hid (∀ q, EB q → wB.heap.size ≤ q) := hEB
    have HKr : Hid (Kept (fun k => k < wB.heap.size) wB wr) := hK
    have hKw : Kept (fun k => k < w.heap.size) w wr := HKu2.out.trans (hK.mono fun k h => Nat.lt_of_lt_of_le h HKu2.out.size)
    by_cases hlt : k < n
    · have hll : k < l.length := by rw [HL.out]; exact hlt
      obtain ⟨g, o, A, rfl, hg, hA, hc⟩ := HH.out k hll
      have hmem := List.getElem_mem hll
      obtain ⟨x, hx⟩ : ∃ x, l[k] = x := ⟨_, rfl⟩
      rw [hx] at hA hc hmem
      have hvx := opsH_mem hmem
      have hrange : wr.rangeAt g (o + k * 17) (opC x A) := fun f u hu => (hKw.cell (p := ⟨g, o + k * 17 + f, none⟩) hg).trans (hc f u hu)
      obtain ⟨N, hN⟩ : ∃ N, wr.heap.size = N := ⟨_, rfl⟩
      have hb1 : (wr.alloc (.cells zero17 55)).heap[N]? = some (.cells zero17 55 (0, 0)) := by rw [← hN]; exact heap_alloc_new wr _
      obtain ⟨W1, hW1⟩ : ∃ W1, (wr.alloc (.cells zero17 55)).setRow N (opC x A).toArray = W1 := ⟨_, rfl⟩
      have hB1 : W1.heap[N]? = some (.cells (opC x A).toArray 55 (0, 0)) := by rw [← hW1]; exact setRow_heap _ _ _ _ _ _ hb1
      have k1 : Kept (fun k => k < wr.heap.size) wr W1 := by rw [← hW1]; exact kept_setRow ((Kept.refl _ wr).alloc (fun _ h => h) _) (by rw [hN]; exact Nat.lt_irrefl _) _
      obtain ⟨W2, hW2⟩ : ∃ W2, W1.setCell ⟨N, 4, none⟩ (.bool true) = W2 := ⟨_, rfl⟩
      have hB2 : W2.heap[N]? = some (.cells (opC { x with inn := true } A).toArray 55 (0, 0)) := by rw [← hW2]; exact heap_setCell_list hB1 4 (.bool true)
      have k2 : Kept (fun k => k < wr.heap.size) wr W2 := by rw [← hW2]; exact k1.setCell (p := ⟨N, 4, none⟩) (by rw [hN]; exact Nat.lt_irrefl _) _
      have k2w : Kept (fun k => k < w.heap.size) w W2 := hKw.trans (k2.mono fun k h => Nat.lt_of_lt_of_le h hKw.size)
      have b4 : W1.cell? ⟨N, 4, none⟩ = some (.bool x.inn) := by rw [cell_block hB1]; rfl
      have f4 : W1.frozen? ⟨N, 4, none⟩ = false := frozen_block hB1 4
      have e0 : W2.cell? ⟨N, 0, none⟩ = some (.int .u8 (x.k : Int)) := by rw [cell_block hB2]; rfl
      have hwu : w.heap.size ≤ wB.heap.size := HKu2.out.size
      have hdoes := does_any (KB wB.heap.size EB) E p r M R G rk W2 { x with inn := true } A ⟨(hG.kept k2).two, hG.inv, hG.le, by rw [hG.lim]; decide, (HOK.out x hmem).inn, by have := HB.out; show opH x ≤ _; omega, hA.kept k2w (fun g hg => .inl (Nat.lt_of_lt_of_le hg hwu))⟩
      obtain ⟨cs, hcs⟩ : ∃ cs, (opC x A).toArray = cs := ⟨_, rfl⟩
      have hsz : cs.size = 17 := by rw [← hcs]; rfl
      have hone : cs.all (·.oneCell') = true := by rw [← hcs]; exact opC_one x A
      have hlen : (opC x A).length = 17 := rfl
      obtain ⟨cl, hcl⟩ : ∃ cl, opC x A = cl := ⟨_, rfl⟩
      have hcc : cl.toArray = cs := by rw [← hcl]; exact hcs
      rw [hcl] at hrange hlen
      have hil : (Tryz.prog.info? 55).map (·.size) = some cl.length := by rw [hlen]; exact size37 cs hsz |>.trans (by rw [hsz])
      have HW1 : Hid ((wr.alloc (.cells zero17 55)).setRow N cs = W1) := by rw [← hcs]; exact hW1
      have HW2 : Hid (W1.setCell ⟨N, 4, none⟩ (.bool true) = W2) := hW2
      have HN : Hid (wr.heap.size = N) := hN
      obtain ⟨cs2, hcs2⟩ : ∃ cs2, (opC { x with inn := true } A).toArray = cs2 := ⟨_, rfl⟩
      have hsz2 : cs2.size = 17 := by rw [← hcs2]; rfl
      rw [hcs2] at hB2
      obtain ⟨q, hq⟩ : ∃ q, x.k % 16 = q := ⟨_, rfl⟩
      have hkm : (x.k : Int).tmod 16 = (q : Int) := by rw [← hq]; rfl
      have HD : Hid (Calls Tryz.prog 34 #[.pointer (some ⟨p, 0, none⟩), .pointer (some ⟨r, 0, none⟩), .agg cs2] W2 (DoesOk (KB wB.heap.size EB) p r M W2)) := by rw [← hcs2]; exact hdoes
      have HGW : Hid (Grown (KB wB.heap.size EB) E W2 p r M R G rk 300) := hG.kept k2
      have HBW : Hid (Bo EB W2 b nb kn pd) := hBo.keptA k2
      have HKW2 : Hid (Kept (fun k => k < wB.heap.size) wB W2) := hK.trans (k2.mono fun k h => Nat.lt_of_lt_of_le h hK.size)
      clear hG hK hKw hc hA hmem hx hvx hdoes hq hW1 hW2 hB1 k1 k2 k2w hcs hcs2 hN hlen hcl hBo hBK hEB HBo HKr hwu
      go_upto_region 11 with fail
      go_upto_region 12 with (first | (refine wpList_load_mid rfl 55 _ rfl g (o + k * 17) rfl cl _ hrange Tryz.underlying55 rfl hil ?_; rw [hcc]) | (rw [HN.out]; refine wpList_store_row rfl 55 _ _ rfl N cs rfl rfl 55 _ hb1 (size37 _ hsz) (by rw [hsz]; rfl) hone ?_))
      rw [HW1.out]
      clear hrange hb1 HW1
      go_upto_region 13 with fail
      rw [HW2.out]
      clear b4 f4 HW2
      by_cases q15 : q = 15
      · subst q15
        clear HD
        have HGX : Hid (Grown (KB wB.heap.size EB) E W2 p r M R G rk 300) := HGW.out
        have HBX : Hid (Bo EB W2 b nb kn pd) := HBW.out
        have HKX : Hid (Kept (fun k => k < wB.heap.size) wB W2) := HKW2.out
        have HOX : Hid (BdOk M kn pd) := HBK.out
        have hle0 : M.n ≤ 300 := by have := HGX.out.le; rw [HGX.out.lim] at this; exact this
        have hnb' : nb ≤ 36000 := by omega
        have hfw := HOX.out.few
        have hd0 : Rd (TK (KB wB.heap.size EB) E) W2 p M R G rk := ⟨HGX.out.two.d, HGX.out.inv, by omega⟩
        have rs1 := see_any HBX.out hd0 (fun k hk => .inl (.inr hk)) (by omega) (by omega) HOX.out.len
        clear hd0 hfw
        go_wp2_with fail
        refine rs1.mono ?_
        rintro e X1 ⟨rfl, E1, n1, hB1, hn1, hg1⟩
        have HO1 : Hid (BdOk M (seeK (asgL M R G) kn M.n) (seeP (asgL M R G) kn pd M.n)) := HOX.out.see HGX.out.inv (by omega)
        have HG1 : Hid (Grown (KB wB.heap.size E1) E X1 p r M R G rk 300) := HGX.out.see HKX.out.size hg1 hB1.lt
        have HEB1 : Hid (∀ q, E1 q → wB.heap.size ≤ q) := fun q hq => by
          rcases hg1.new q hq with h | h
          · exact HEB.out q h
          · exact Nat.le_trans HKX.out.size h
        have HK1 : Hid (Kept (fun k => k < wB.heap.size) wB X1) := HKX.out.trans (hg1.kept.mono fun k h => ⟨Nat.lt_of_lt_of_le h HKX.out.size, fun he => by have := HEB.out k he; omega⟩)
        obtain ⟨kn1, hkn1⟩ : ∃ f, seeK (asgL M R G) kn M.n = f := ⟨_, rfl⟩
        obtain ⟨pd1, hpd1⟩ : ∃ f, seeP (asgL M R G) kn pd M.n = f := ⟨_, rfl⟩
        have HSK : Hid (∀ j, j < M.n → asgL M R G j = kn1 j) := fun j hj => by rw [← hkn1]; unfold seeK; rw [if_pos hj]
        rw [hkn1, hpd1] at HO1 hB1
        obtain ⟨pl, hpl⟩ : ∃ q, pd1.length = q := ⟨_, rfl⟩
        have HPL : Hid (pd1.length = pl) := hpl
        have hpl3 : pl ≤ 300 := by have := HO1.out.few; omega
        have HB1 : Hid (Bo E1 X1 b n1 kn1 pd1) := hB1
        have rp1 := pending_any hB1 (by omega)
        clear rs1 hB1 hg1 hkn1 hpd1 hpl HGX HBX HKX HOX HEB
        go_wp2_with fail
        refine rp1.mono ?_
        rintro e X2 ⟨ao1, ac1, rfl, hO1, hk2⟩
        rw [HPL.out] at hO1
        rw [HPL.out]
        have hG2 := HG1.out.kept hk2
        have hB2' := HB1.out.keptA hk2
        have hd2 : Rd (TK (KB wB.heap.size E1) E) X2 p M R G rk := ⟨hG2.two.d, hG2.inv, by omega⟩
        have rs2 := see_any hB2' hd2 (fun k hk => .inl (.inr hk)) (by omega) (by rw [HPL.out]; omega) HO1.out.len
        rw [seeP_same _ HSK.out] at rs2
        have HI2 : Hid (IntsAt (fun q => q < X2.heap.size ∧ ¬ E1 q) X2 ao1 pd1) := hO1.intsAt fun q hq => ⟨(hO1.out hq).2, fun he => (hO1.out hq).1 (HB1.out.lt q he)⟩
        have HG2 : Hid (Grown (KB wB.heap.size E1) E X2 p r M R G rk 300) := hG2
        have HK2 : Hid (Kept (fun k => k < wB.heap.size) wB X2) := HK1.out.trans (hk2.mono fun k h => Nat.lt_of_lt_of_le h HK1.out.size)
        have HO2 : Hid (BdOk M (seeK (asgL M R G) kn1 M.n) pd1) := by
          have h := HO1.out.see HG1.out.inv (by omega)
          rw [seeP_same _ HSK.out] at h
          exact h
        clear rp1 hO1 hk2 hG2 hB2' hd2 HG1 HK1 HB1
        go_wp2_with fail
        refine rs2.mono ?_
        rintro e X3 ⟨rfl, E2, n2, hB3, hn2, hg3⟩
        have HG3 : Hid (Grown (KB wB.heap.size E2) E X3 p r M R G rk 300) := HG2.out.see HK2.out.size hg3 hB3.lt
        have HEB2 : Hid (∀ q, E2 q → wB.heap.size ≤ q) := fun q hq => by
          rcases hg3.new q hq with h | h
          · exact HEB1.out q h
          · exact Nat.le_trans HK2.out.size h
        have HK3 : Hid (Kept (fun k => k < wB.heap.size) wB X3) := HK2.out.trans (hg3.kept.mono fun k h => ⟨Nat.lt_of_lt_of_le h HK2.out.size, fun he => by have := HEB1.out k he; omega⟩)
        have HI3 : Hid (IntsAt (fun q => q < X3.heap.size) X3 ao1 pd1) := HI2.out.to (fun q hq => Nat.lt_of_lt_of_le hq.1 hg3.kept.size) (fun q hq => hg3.kept.block q hq)
        obtain ⟨kn2, hkn2⟩ : ∃ f, seeK (asgL M R G) kn1 M.n = f := ⟨_, rfl⟩
        rw [hkn2] at HO2 hB3
        have HB3 : Hid (Bo E2 X3 b n2 kn2 pd1) := hB3
        have rp2 := pending_any hB3 (by rw [HPL.out]; omega)
        clear rs2 hB3 hg3 hkn2 HG2 HK2 HI2 HEB1 HO1
        go_wp2_with fail
        refine rp2.mono ?_
        rintro e X4 ⟨ao2, ac2, rfl, hO4, hk4⟩
        rw [HPL.out] at hO4
        rw [HPL.out]
        have hI4 : IntsAt (fun q => q < X4.heap.size) X4 ao2 pd1 := hO4.intsAt fun q hq => (hO4.out hq).2
        have rsi := rsameInts_any pd1 pd1 ao1 ao2 pl pl ac1 ac2 HPL.out HPL.out (by omega) (by omega) X4 (HI3.out.to (fun q hq => Nat.lt_of_lt_of_le hq hk4.size) (fun q hq => hk4.block q hq)) hI4
        rw [decide_eq_true rfl] at rsi
        have HG4 : Hid (Grown (KB wB.heap.size E2) E X4 p r M R G rk 300) := HG3.out.kept hk4
        have HB4 : Hid (Bo E2 X4 b n2 kn2 pd1) := HB3.out.keptA hk4
        have HK4 : Hid (Kept (fun k => k < wB.heap.size) wB X4) := HK3.out.trans (hk4.mono fun k h => Nat.lt_of_lt_of_le h HK3.out.size)
        have HI4 : Hid (IntsAt (fun q => q < X4.heap.size) X4 ao2 pd1) := hI4
        clear rp2 hO4 hk4 hI4 HG3 HB3 HK3 HI3
        go_wp2_with fail
        refine rsi.mono ?_
        rintro e X5 ⟨rfl, hk5⟩
        have HG5 : Hid (Grown (KB wB.heap.size E2) E X5 p r M R G rk 300) := HG4.out.kept hk5
        have HB5 : Hid (Bo E2 X5 b n2 kn2 pd1) := HB4.out.keptA hk5
        have HK5 : Hid (Kept (fun k => k < wB.heap.size) wB X5) := HK4.out.trans (hk5.mono fun k h => Nat.lt_of_lt_of_le h HK4.out.size)
        have HI5 : Hid (IntsAt (fun q => q < X5.heap.size) X5 ao2 pd1) := HI4.out.to (fun q hq => Nat.lt_of_lt_of_le hq hk5.size) (fun q hq => hk5.block q hq)
        have hnbE : n2 ≤ 600 * (k + 1) := by omega
        clear rsi hk5 HG4 HB4 HK4 HI4 hn1 hn2
        go_upto_region 22 with fail
        go_loopg [10] pl (fun gh v wr => ∃ j : Nat, gh = pl - j ∧ j ≤ pl ∧ v = .int .i64 (j : Int) ∧ Kept (fun k => k < X5.heap.size) X5 wr)
        case atStart => exact ⟨0, rfl, Nat.zero_le _, rfl, Kept.refl _ _⟩
        case round =>
          obtain ⟨j, hgj, hj, rfl, hKj⟩ := hrel
          have HKj : Hid (Kept (fun k => k < X5.heap.size) X5 wr) := hKj
          by_cases hltj : j < pl
          · have hjp : j < pd1.length := by rw [HPL.out]; exact hltj
            obtain ⟨g2, o2, rfl, hgl, hc0⟩ := HI5.out j hjp
            obtain ⟨s, hs⟩ : ∃ s, pd1[j] = s := ⟨_, rfl⟩
            obtain ⟨hsn, hsm⟩ := HO2.out.inP s (by rw [← hs]; exact List.getElem_mem hjp)
            have hcj : wr.cell? ⟨g2, o2 + j, none⟩ = some (.int .i64 (s : Int)) := (hKj.cell (p := ⟨g2, o2 + j, none⟩) hgl).trans (by rw [hc0, hs])
            have rn := (HG5.out.kept hKj).node (by decide) hsn (Kept.refl _ wr)
            have HSJ : Hid (pd1[j] = s) := hs
            clear hc0 hs hgl hKj
            go_wp2_with fail
            refine rn.mono ?_
            rintro e v1 ⟨aoN, acN, koN, kcN, rfl, -, -, hKN⟩
            obtain ⟨x, hx⟩ : ∃ x, M.nd s = x := ⟨_, rfl⟩
            obtain ⟨upN, hupN⟩ : ∃ z, (M.pl s).up = z := ⟨_, rfl⟩
            obtain ⟨lnN, hlnN⟩ : ∃ z, (R s).length = z := ⟨_, rfl⟩
            rw [hx] at hsm
            rw [hx, hupN, hlnN]
            obtain ⟨V, N2, hV, hN2, hbV, hkV0, -⟩ := alloc_box v1 (nV x aoN acN upN koN lnN kcN) 41
            have hkV : Kept (fun k => k < wr.heap.size) wr V := hKN.trans (hkV0.mono fun k h => Nat.lt_of_lt_of_le h hKN.size)
            have c1 : V.cell? ⟨N2, 1, none⟩ = some (.string ⟨#[115, 108, 111, 116]⟩) := by rw [cell_block hbV]; show some (Value.string ⟨x.name.toArray⟩) = _; rw [hsm]
            have HV : Hid (v1.alloc (.cells (nV x aoN acN upN koN lnN kcN) 41) = V) := hV
            have HN2 : Hid (v1.heap.size = N2) := hN2
            have HKV : Hid (Kept (fun k => k < X5.heap.size) X5 V) := HKj.out.trans (hkV.mono fun k h => Nat.lt_of_lt_of_le h HKj.out.size)
            clear rn hKN hx hupN hlnN hV hN2 hbV hkV0 hkV hsm hsn hcj
            go_upto_region 25 with fail
            rw [HV.out, HN2.out]
            clear HV HN2
            go_upto_region 28 with fail
            go_loopg [13] j (fun gh v wr => ∃ i : Nat, gh = j - i ∧ i ≤ j ∧ v = .int .i64 (i : Int) ∧ Kept (fun k => k < X5.heap.size) X5 wr)
            case atStart => exact ⟨0, rfl, Nat.zero_le _, rfl, HKV.out⟩
            case round =>
              clear c1
              obtain ⟨i, hgi, hij, rfl, hKi⟩ := hrel
              have HKi : Hid (Kept (fun k => k < X5.heap.size) X5 wr) := hKi
              by_cases hlti : i < j
              · have hip : i < pd1.length := by omega
                obtain ⟨g3, o3, hao3, hgl3, hc3⟩ := HI5.out i hip
                obtain ⟨t, ht⟩ : ∃ s, pd1[i] = s := ⟨_, rfl⟩
                have e3 : g3 = g2 ∧ o3 = o2 := by
                  injection hao3 with h
                  injection h with h1 h2
                  exact ⟨h1.symm, h2.symm⟩
                obtain ⟨rfl, rfl⟩ := e3
                have d1 : wr.cell? ⟨g3, o3 + i, none⟩ = some (.int .i64 (t : Int)) := (hKi.cell (p := ⟨g3, o3 + i, none⟩) hgl3).trans (by rw [hc3, ht])
                have d2 : wr.cell? ⟨g3, o3 + j, none⟩ = some (.int .i64 (s : Int)) := by
                  obtain ⟨g4, o4, hao4, hgl4, hc4⟩ := HI5.out j hjp
                  injection hao4 with h
                  injection h with h1 h2
                  subst h1
                  subst h2
                  exact (hKi.cell (p := ⟨g3, o3 + j, none⟩) hgl4).trans (by rw [hc4, HSJ.out])
                have hne : t ≠ s := fun e => by
                  have := (List.getElem_inj (h₀ := hip) (h₁ := hjp) HO2.out.nd).1 (by rw [ht, HSJ.out]; exact e)
                  omega
                have hneb : ((t : Int) == (s : Int)) = false := by simp; omega
                clear hao3 hgl3 hc3 ht hKi hne
                go_upto_region 30 with fail
                go_big_quiet (fail)
                go_wp2
                go_roundg (j - (i + 1))
                case rel => exact ⟨i + 1, rfl, by omega, by go_num, HKi.out.drewN _⟩
                case measure => omega
              · clear hKi
                go_wp2
                go_roundg (pl - (j + 1))
                case rel => exact ⟨j + 1, rfl, by omega, by go_num, HKi.out⟩
                case measure => omega
          · clear hKj
            go_wp2
            go_roundg (n - (k + 1))
            case rel => exact ⟨k + 1, n2, E, E2, M, R, G, rk, kn2, pd1, rfl, by omega, by go_num, HG5.out.kept HKj.out, HB5.out.keptA HKj.out, HO2.out, hnbE, HEB2.out, HK5.out.trans (HKj.out.mono fun k h => Nat.lt_of_lt_of_le h HK5.out.size)⟩
            case measure => omega
      · have n15 : ((q : Int) == 15) = false := by simp; omega
        have n15' : ((q : Int) != 15) = true := by simp; omega
        go_upto_region 14 with fail
        go_wp2_with (refine wpList_load_row rfl 55 _ rfl N rfl 55 cs2 (0, 0) _ hB2 Tryz.underlying55 rfl (size37 _ hsz2) ?_)
        refine HD.out.mono ?_
        rintro e w4 ⟨rfl, E', M', R', G', rk', h2, hI, hG', hK4⟩
        have HGX : Hid (Grown (KB wB.heap.size EB) E' w4 p r M' R' G' rk' 300) := ⟨h2, hI, hG'.limit.trans HGW.out.lim, hG'.le HGW.out.le⟩
        have HBX : Hid (Bo EB w4 b nb kn pd) := HBW.out.kept (hK4.mono fun k h => .inr h)
        have HKX : Hid (Kept (fun k => k < wB.heap.size) wB w4) := HKW2.out.trans (hK4.mono fun k h => .inl h)
        have HOX : Hid (BdOk M' kn pd) := HBK.out.grow hG'
        clear HD h2 hI hG' hK4 e0 hB2
        have hle0 : M'.n ≤ 300 := by have := HGX.out.le; rw [HGX.out.lim] at this; exact this
        have hnb' : nb ≤ 36000 := by omega
        have hfw := HOX.out.few
        have hd0 : Rd (TK (KB wB.heap.size EB) E') w4 p M' R' G' rk' := ⟨HGX.out.two.d, HGX.out.inv, by omega⟩
        have rs1 := see_any HBX.out hd0 (fun k hk => .inl (.inr hk)) (by omega) (by omega) HOX.out.len
        clear hd0 hfw
        go_wp2_with fail
        refine rs1.mono ?_
        rintro e X1 ⟨rfl, E1, n1, hB1, hn1, hg1⟩
        have HO1 : Hid (BdOk M' (seeK (asgL M' R' G') kn M'.n) (seeP (asgL M' R' G') kn pd M'.n)) := HOX.out.see HGX.out.inv (by omega)
        have HG1 : Hid (Grown (KB wB.heap.size E1) E' X1 p r M' R' G' rk' 300) := HGX.out.see HKX.out.size hg1 hB1.lt
        have HEB1 : Hid (∀ q, E1 q → wB.heap.size ≤ q) := fun q hq => by
          rcases hg1.new q hq with h | h
          · exact HEB.out q h
          · exact Nat.le_trans HKX.out.size h
        have HK1 : Hid (Kept (fun k => k < wB.heap.size) wB X1) := HKX.out.trans (hg1.kept.mono fun k h => ⟨Nat.lt_of_lt_of_le h HKX.out.size, fun he => by have := HEB.out k he; omega⟩)
        obtain ⟨kn1, hkn1⟩ : ∃ f, seeK (asgL M' R' G') kn M'.n = f := ⟨_, rfl⟩
        obtain ⟨pd1, hpd1⟩ : ∃ f, seeP (asgL M' R' G') kn pd M'.n = f := ⟨_, rfl⟩
        have HSK : Hid (∀ j, j < M'.n → asgL M' R' G' j = kn1 j) := fun j hj => by rw [← hkn1]; unfold seeK; rw [if_pos hj]
        rw [hkn1, hpd1] at HO1 hB1
        obtain ⟨pl, hpl⟩ : ∃ q, pd1.length = q := ⟨_, rfl⟩
        have HPL : Hid (pd1.length = pl) := hpl
        have hpl3 : pl ≤ 300 := by have := HO1.out.few; omega
        have HB1 : Hid (Bo E1 X1 b n1 kn1 pd1) := hB1
        have rp1 := pending_any hB1 (by omega)
        clear rs1 hB1 hg1 hkn1 hpd1 hpl HGX HBX HKX HOX HEB
        go_wp2_with fail
        refine rp1.mono ?_
        rintro e X2 ⟨ao1, ac1, rfl, hO1, hk2⟩
        rw [HPL.out] at hO1
        rw [HPL.out]
        have hG2 := HG1.out.kept hk2
        have hB2' := HB1.out.keptA hk2
        have hd2 : Rd (TK (KB wB.heap.size E1) E') X2 p M' R' G' rk' := ⟨hG2.two.d, hG2.inv, by omega⟩
        have rs2 := see_any hB2' hd2 (fun k hk => .inl (.inr hk)) (by omega) (by rw [HPL.out]; omega) HO1.out.len
        rw [seeP_same _ HSK.out] at rs2
        have HI2 : Hid (IntsAt (fun q => q < X2.heap.size ∧ ¬ E1 q) X2 ao1 pd1) := hO1.intsAt fun q hq => ⟨(hO1.out hq).2, fun he => (hO1.out hq).1 (HB1.out.lt q he)⟩
        have HG2 : Hid (Grown (KB wB.heap.size E1) E' X2 p r M' R' G' rk' 300) := hG2
        have HK2 : Hid (Kept (fun k => k < wB.heap.size) wB X2) := HK1.out.trans (hk2.mono fun k h => Nat.lt_of_lt_of_le h HK1.out.size)
        have HO2 : Hid (BdOk M' (seeK (asgL M' R' G') kn1 M'.n) pd1) := by
          have h := HO1.out.see HG1.out.inv (by omega)
          rw [seeP_same _ HSK.out] at h
          exact h
        clear rp1 hO1 hk2 hG2 hB2' hd2 HG1 HK1 HB1
        go_wp2_with fail
        refine rs2.mono ?_
        rintro e X3 ⟨rfl, E2, n2, hB3, hn2, hg3⟩
        have HG3 : Hid (Grown (KB wB.heap.size E2) E' X3 p r M' R' G' rk' 300) := HG2.out.see HK2.out.size hg3 hB3.lt
        have HEB2 : Hid (∀ q, E2 q → wB.heap.size ≤ q) := fun q hq => by
          rcases hg3.new q hq with h | h
          · exact HEB1.out q h
          · exact Nat.le_trans HK2.out.size h
        have HK3 : Hid (Kept (fun k => k < wB.heap.size) wB X3) := HK2.out.trans (hg3.kept.mono fun k h => ⟨Nat.lt_of_lt_of_le h HK2.out.size, fun he => by have := HEB1.out k he; omega⟩)
        have HI3 : Hid (IntsAt (fun q => q < X3.heap.size) X3 ao1 pd1) := HI2.out.to (fun q hq => Nat.lt_of_lt_of_le hq.1 hg3.kept.size) (fun q hq => hg3.kept.block q hq)
        obtain ⟨kn2, hkn2⟩ : ∃ f, seeK (asgL M' R' G') kn1 M'.n = f := ⟨_, rfl⟩
        rw [hkn2] at HO2 hB3
        have HB3 : Hid (Bo E2 X3 b n2 kn2 pd1) := hB3
        have rp2 := pending_any hB3 (by rw [HPL.out]; omega)
        clear rs2 hB3 hg3 hkn2 HG2 HK2 HI2 HEB1 HO1
        go_wp2_with fail
        refine rp2.mono ?_
        rintro e X4 ⟨ao2, ac2, rfl, hO4, hk4⟩
        rw [HPL.out] at hO4
        rw [HPL.out]
        have hI4 : IntsAt (fun q => q < X4.heap.size) X4 ao2 pd1 := hO4.intsAt fun q hq => (hO4.out hq).2
        have rsi := rsameInts_any pd1 pd1 ao1 ao2 pl pl ac1 ac2 HPL.out HPL.out (by omega) (by omega) X4 (HI3.out.to (fun q hq => Nat.lt_of_lt_of_le hq hk4.size) (fun q hq => hk4.block q hq)) hI4
        rw [decide_eq_true rfl] at rsi
        have HG4 : Hid (Grown (KB wB.heap.size E2) E' X4 p r M' R' G' rk' 300) := HG3.out.kept hk4
        have HB4 : Hid (Bo E2 X4 b n2 kn2 pd1) := HB3.out.keptA hk4
        have HK4 : Hid (Kept (fun k => k < wB.heap.size) wB X4) := HK3.out.trans (hk4.mono fun k h => Nat.lt_of_lt_of_le h HK3.out.size)
        have HI4 : Hid (IntsAt (fun q => q < X4.heap.size) X4 ao2 pd1) := hI4
        clear rp2 hO4 hk4 hI4 HG3 HB3 HK3 HI3
        go_wp2_with fail
        refine rsi.mono ?_
        rintro e X5 ⟨rfl, hk5⟩
        have HG5 : Hid (Grown (KB wB.heap.size E2) E' X5 p r M' R' G' rk' 300) := HG4.out.kept hk5
        have HB5 : Hid (Bo E2 X5 b n2 kn2 pd1) := HB4.out.keptA hk5
        have HK5 : Hid (Kept (fun k => k < wB.heap.size) wB X5) := HK4.out.trans (hk5.mono fun k h => Nat.lt_of_lt_of_le h HK4.out.size)
        have HI5 : Hid (IntsAt (fun q => q < X5.heap.size) X5 ao2 pd1) := HI4.out.to (fun q hq => Nat.lt_of_lt_of_le hq hk5.size) (fun q hq => hk5.block q hq)
        have hnbE : n2 ≤ 600 * (k + 1) := by omega
        clear rsi hk5 HG4 HB4 HK4 HI4 hn1 hn2
        go_upto_region 22 with fail
        go_loopg [10] pl (fun gh v wr => ∃ j : Nat, gh = pl - j ∧ j ≤ pl ∧ v = .int .i64 (j : Int) ∧ Kept (fun k => k < X5.heap.size) X5 wr)
        case atStart => exact ⟨0, rfl, Nat.zero_le _, rfl, Kept.refl _ _⟩
        case round =>
          obtain ⟨j, hgj, hj, rfl, hKj⟩ := hrel
          have HKj : Hid (Kept (fun k => k < X5.heap.size) X5 wr) := hKj
          by_cases hltj : j < pl
          · have hjp : j < pd1.length := by rw [HPL.out]; exact hltj
            obtain ⟨g2, o2, rfl, hgl, hc0⟩ := HI5.out j hjp
            obtain ⟨s, hs⟩ : ∃ s, pd1[j] = s := ⟨_, rfl⟩
            obtain ⟨hsn, hsm⟩ := HO2.out.inP s (by rw [← hs]; exact List.getElem_mem hjp)
            have hcj : wr.cell? ⟨g2, o2 + j, none⟩ = some (.int .i64 (s : Int)) := (hKj.cell (p := ⟨g2, o2 + j, none⟩) hgl).trans (by rw [hc0, hs])
            have rn := (HG5.out.kept hKj).node (by decide) hsn (Kept.refl _ wr)
            have HSJ : Hid (pd1[j] = s) := hs
            clear hc0 hs hgl hKj
            go_wp2_with fail
            refine rn.mono ?_
            rintro e v1 ⟨aoN, acN, koN, kcN, rfl, -, -, hKN⟩
            obtain ⟨x, hx⟩ : ∃ x, M'.nd s = x := ⟨_, rfl⟩
            obtain ⟨upN, hupN⟩ : ∃ z, (M'.pl s).up = z := ⟨_, rfl⟩
            obtain ⟨lnN, hlnN⟩ : ∃ z, (R' s).length = z := ⟨_, rfl⟩
            rw [hx] at hsm
            rw [hx, hupN, hlnN]
            obtain ⟨V, N2, hV, hN2, hbV, hkV0, -⟩ := alloc_box v1 (nV x aoN acN upN koN lnN kcN) 41
            have hkV : Kept (fun k => k < wr.heap.size) wr V := hKN.trans (hkV0.mono fun k h => Nat.lt_of_lt_of_le h hKN.size)
            have c1 : V.cell? ⟨N2, 1, none⟩ = some (.string ⟨#[115, 108, 111, 116]⟩) := by rw [cell_block hbV]; show some (Value.string ⟨x.name.toArray⟩) = _; rw [hsm]
            have HV : Hid (v1.alloc (.cells (nV x aoN acN upN koN lnN kcN) 41) = V) := hV
            have HN2 : Hid (v1.heap.size = N2) := hN2
            have HKV : Hid (Kept (fun k => k < X5.heap.size) X5 V) := HKj.out.trans (hkV.mono fun k h => Nat.lt_of_lt_of_le h HKj.out.size)
            clear rn hKN hx hupN hlnN hV hN2 hbV hkV0 hkV hsm hsn hcj
            go_upto_region 25 with fail
            rw [HV.out, HN2.out]
            clear HV HN2
            go_upto_region 28 with fail
            go_loopg [13] j (fun gh v wr => ∃ i : Nat, gh = j - i ∧ i ≤ j ∧ v = .int .i64 (i : Int) ∧ Kept (fun k => k < X5.heap.size) X5 wr)
            case atStart => exact ⟨0, rfl, Nat.zero_le _, rfl, HKV.out⟩
            case round =>
              clear c1
              obtain ⟨i, hgi, hij, rfl, hKi⟩ := hrel
              have HKi : Hid (Kept (fun k => k < X5.heap.size) X5 wr) := hKi
              by_cases hlti : i < j
              · have hip : i < pd1.length := by omega
                obtain ⟨g3, o3, hao3, hgl3, hc3⟩ := HI5.out i hip
                obtain ⟨t, ht⟩ : ∃ s, pd1[i] = s := ⟨_, rfl⟩
                have e3 : g3 = g2 ∧ o3 = o2 := by
                  injection hao3 with h
                  injection h with h1 h2
                  exact ⟨h1.symm, h2.symm⟩
                obtain ⟨rfl, rfl⟩ := e3
                have d1 : wr.cell? ⟨g3, o3 + i, none⟩ = some (.int .i64 (t : Int)) := (hKi.cell (p := ⟨g3, o3 + i, none⟩) hgl3).trans (by rw [hc3, ht])
                have d2 : wr.cell? ⟨g3, o3 + j, none⟩ = some (.int .i64 (s : Int)) := by
                  obtain ⟨g4, o4, hao4, hgl4, hc4⟩ := HI5.out j hjp
                  injection hao4 with h
                  injection h with h1 h2
                  subst h1
                  subst h2
                  exact (hKi.cell (p := ⟨g3, o3 + j, none⟩) hgl4).trans (by rw [hc4, HSJ.out])
                have hne : t ≠ s := fun e => by
                  have := (List.getElem_inj (h₀ := hip) (h₁ := hjp) HO2.out.nd).1 (by rw [ht, HSJ.out]; exact e)
                  omega
                have hneb : ((t : Int) == (s : Int)) = false := by simp; omega
                clear hao3 hgl3 hc3 ht hKi hne
                go_upto_region 30 with fail
                go_big_quiet (fail)
                go_wp2
                go_roundg (j - (i + 1))
                case rel => exact ⟨i + 1, rfl, by omega, by go_num, HKi.out.drewN _⟩
                case measure => omega
              · clear hKi
                go_wp2
                go_roundg (pl - (j + 1))
                case rel => exact ⟨j + 1, rfl, by omega, by go_num, HKi.out⟩
                case measure => omega
          · clear hKj
            go_wp2
            go_roundg (n - (k + 1))
            case rel => exact ⟨k + 1, n2, E', E2, M', R', G', rk', kn2, pd1, rfl, by omega, by go_num, HG5.out.kept HKj.out, HB5.out.keptA HKj.out, HO2.out, hnbE, HEB2.out, HK5.out.trans (HKj.out.mono fun k h => Nat.lt_of_lt_of_le h HK5.out.size)⟩
            case measure => omega
    · have hkn : k = n := by omega
      have HKe : Hid (Kept (fun k => k < w.heap.size) w wr) := hKw
      have hr0 : Rr (TL (KB wB.heap.size EB) E wr) wr r M R G rk := ⟨hG.two.r, hG.inv, by have := hG.le; rw [hG.lim] at this; omega⟩
      have rs := hr0.slots_in (s := 0) hG.inv.core.pos
      clear hkn hG hBo hBK hEB hK hKw hr0 HBo HBK HEB HKr
      go_wp2_with fail
      refine rs.mono ?_
      rintro e Z ⟨ao, zc, rfl, -, hkZ⟩
      obtain ⟨zl, hzl⟩ : ∃ q, ((tr M.n R 0).filter fun k => isSl (M.nd k)).length = q := ⟨_, rfl⟩
      rw [hzl]
      have hz0 : decide ((zl : Int) ≥ 0) = true := decide_eq_true (by omega)
      have HKZ : Hid (Kept (fun k => k < w.heap.size) w Z) := HKe.out.trans (hkZ.mono fun k h => Nat.lt_of_lt_of_le h HKe.out.size)
      clear rs hkZ hzl
      go_wp2
      go_ret
      exact ⟨rfl, HKZ.out⟩

theorem sonce_no (a : Option Addr) (n c hv : Nat) (hnn : n ≤ 60) (hhv : 6000 < hv) (w : World) (rh : Calls Tryz.prog 29 #[.slice a n c] w fun e w' => e = .returned (.int .i64 (hv : Int)) ∧ Kept (fun k => k < w.heap.size) w w') :
    Calls Tryz.prog 7 #[.slice a n c] w fun e w' => e = .returned (.bool true) ∧ Kept (fun k => k < w.heap.size) w w' := by
  have hg60 : decide ((n : Int) > 60) = false := decide_eq_false (by omega)
  have hg6 : decide ((hv : Int) > 6000) = true := decide_eq_true (by omega)
  go_enter Tryz.func7, Tryz.ntmps7
  go_wp2_with fail
  refine rh.mono ?_
  rintro e w1 ⟨rfl, k1⟩
  have rk0 := gknown_any w1
  clear rh
  go_wp2_with (go_at_call 30; refine rk0.mono ?_; rintro e w2 ⟨rfl, k2⟩)
  go_ret
  exact ⟨rfl, k1.trans (k2.mono fun k h => Nat.lt_of_lt_of_le h k1.size)⟩
theorem sonce_long (a : Option Addr) (n c : Nat) (hnn : 60 < n) (w : World) :
    Calls Tryz.prog 7 #[.slice a n c] w fun e w' => e = .returned (.bool true) ∧ Kept (fun k => k < w.heap.size) w w' := by
  have hg60 : decide ((n : Int) > 60) = true := decide_eq_true (by omega)
  have rk0 := gknown_any w
  go_enter Tryz.func7, Tryz.ntmps7
  go_wp2_with (go_at_call 30; refine rk0.mono ?_; rintro e w2 ⟨rfl, k2⟩)
  go_ret
  exact ⟨rfl, k2⟩

end Go.Proofs.YtkngpgkldkohgaaGreat
