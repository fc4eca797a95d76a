/-
  What is within a node, one step further. A page of a document: what is in a node, however deep. What serial.Inner and serial.Outer answer. How long a text may be, and what leaves no trace: plain.
-/
import Derived.Test.YteccdijjpmeeaaaGreatW32
import Derived.Test.YteccdijjpmeeaaaGreatX3
import Derived.Test.YteccdijjpmeeaaaGreatB16
namespace Go.Proofs.YteccdijjpmeeaaaGreat
section
open Go.RowKit
set_option linter.unusedVariables false
/-- What is within a node, one step further: its root, its content, its kids. -/
def fwc (M : Dm) (R : Nat → List Nat) (i : Nat) : List Nat := (if (M.nd i).shadow = -1 then [] else [(M.nd i).shadow.toNat]) ++ ((if (M.nd i).content = -1 then [] else [(M.nd i).content.toNat]) ++ R i)
section
variable {M : Dm} {R G : Nat → List Nat} {rk : Nat → Nat}

theorem Inv.content {M : Dm} {R G : Nat → List Nat} {rk : Nat → Nat} (h : Inv M R G rk) {i : Nat} (hi : i < M.n) (hc : (M.nd i).content ≠ -1) : ∃ k : Nat, k < M.n ∧ (M.nd i).content = (k : Int) ∧ (M.nd k).kind = 4 ∧ (M.nd k).host = (i : Int) ∧ (M.pl k).up = -1 ∧ rk i < rk k ∧ (M.nd k).shadow = -1 ∧ (M.nd k).content = -1 := by
  rcases h.core.cont i hi with e | ⟨k, hk, e, -, h4, hh⟩
  · exact absurd e hc
  · have hup : (M.pl k).up = -1 := by
      rcases h.core.host k hk with ⟨h1, -⟩ | ⟨q, -, -, h2, -⟩
      · omega
      · exact h2
    refine ⟨k, hk, e, h4, hh, hup, ?_, ?_, ?_⟩
    · have hp : parI M k = (i : Int) := by unfold parI; rw [if_pos hup]; exact hh
      rcases h.good.acy k hk with e' | ⟨m, -, e', hr⟩
      · omega
      · have : m = i := by omega
        exact this ▸ hr
    · rcases h.core.shad k hk with e' | ⟨q, -, -, h1, -⟩
      · exact e'
      · omega
    · rcases h.core.cont k hk with e' | ⟨q, -, -, h1, -⟩
      · exact e'
      · omega
theorem fwc_mem {i k : Nat} (h : k ∈ fwc M R i) : ((M.nd i).shadow ≠ -1 ∧ k = (M.nd i).shadow.toNat) ∨ ((M.nd i).content ≠ -1 ∧ k = (M.nd i).content.toNat) ∨ k ∈ R i := by
  unfold fwc at h
  rcases List.mem_append.1 h with h | h
  · by_cases c : (M.nd i).shadow = -1
    · rw [if_pos c] at h; cases h
    · rw [if_neg c] at h; exact .inl ⟨c, List.mem_singleton.1 h⟩
  · rcases List.mem_append.1 h with h | h
    · by_cases c : (M.nd i).content = -1
      · rw [if_pos c] at h; cases h
      · rw [if_neg c] at h; exact .inr (.inl ⟨c, List.mem_singleton.1 h⟩)
    · exact .inr (.inr h)
theorem Inv.shadowQ (h : Inv M R G rk) {i : Nat} (hi : i < M.n) (hs : (M.nd i).shadow ≠ -1) : ∃ q : Nat, (M.nd i).shadow = (q : Int) ∧ q < M.n ∧ (M.nd q).kind = 5 ∧ (M.nd q).host = (i : Int) ∧ (M.pl q).up = -1 ∧ rk i < rk q := by
  rcases h.core.shad i hi with e | ⟨q, hq, e, -⟩
  · exact absurd e hs
  · have := h.shadow hi e
    exact ⟨q, e, hq, this.2.1, this.2.2.1, this.2.2.2.1, this.2.2.2.2.1⟩
theorem Inv.parC (h : Inv M R G rk) {i k : Nat} (hi : i < M.n) (hk : k ∈ fwc M R i) : k < M.n ∧ rk i < rk k ∧ parI M k = (i : Int) := by
  rcases fwc_mem hk with ⟨c, rfl⟩ | ⟨c, rfl⟩ | hk
  · obtain ⟨q, e, hq, -, hh, hu, hr⟩ := h.shadowQ hi c
    rw [e, Int.toNat_natCast]
    exact ⟨hq, hr, by unfold parI; rw [if_pos hu]; exact hh⟩
  · obtain ⟨q, hq, e, -, hh, hu, hr, -⟩ := h.content hi c
    rw [e, Int.toNat_natCast]
    exact ⟨hq, hr, by unfold parI; rw [if_pos hu]; exact hh⟩
  · obtain ⟨h1, h2, h3⟩ := h.good.kid hi hk
    exact ⟨h1, h3, by unfold parI; rw [if_neg (by omega)]; exact h2⟩
theorem Inv.onlyC (h : Inv M R G rk) : Only M.n (fwc M R) rk := by
  refine ⟨fun i hi k hk => ⟨(h.parC hi hk).1, (h.parC hi hk).2.1⟩, fun i j k hi hj h1 h2 => ?_, fun i hi => ?_⟩
  · have a := (h.parC hi h1).2.2
    have b := (h.parC hj h2).2.2
    omega
  · have kids : ∀ q, (M.pl q).up = -1 → q ∉ R i := fun q hq hm => by have := (h.good.kid hi hm).2.1; omega
    have hn := h.good.wf.nodup i hi
    have hc : ((if (M.nd i).content = -1 then [] else [(M.nd i).content.toNat]) ++ R i).Nodup := by
      by_cases c : (M.nd i).content = -1
      · rw [if_pos c]; exact hn
      · rw [if_neg c]
        obtain ⟨q, hq, e, -, hh, hu, hr, -⟩ := h.content hi c
        rw [e, Int.toNat_natCast]
        exact List.nodup_cons.2 ⟨kids q hu, hn⟩
    unfold fwc
    by_cases c : (M.nd i).shadow = -1
    · rw [if_pos c]; exact hc
    · rw [if_neg c]
      obtain ⟨q, e, hq, h5, hh, hu, hr⟩ := h.shadowQ hi c
      rw [e, Int.toNat_natCast, List.singleton_append]
      refine List.nodup_cons.2 ⟨fun hm => ?_, hc⟩
      rcases List.mem_append.1 hm with hm | hm
      · by_cases c2 : (M.nd i).content = -1
        · rw [if_pos c2] at hm; cases hm
        · rw [if_neg c2] at hm
          obtain ⟨q', hq', e', h4, -⟩ := h.content hi c2
          rw [e', Int.toNat_natCast] at hm
          have := List.mem_singleton.1 hm
          subst this
          omega
      · exact kids q hu hm
end
end
section
open Go.RowKit
set_option linter.unusedVariables false
set_option maxRecDepth 100000
set_option maxHeartbeats 4000000
theorem inner_all {w0 : World} {o : Ask} {c : Cf} {M : Dm} {R G : Nat → List Nat} {rk : Nat → Nat} (hI : Inv M R G rk) (hc : c.n = M.n) (hn : M.n ≤ 1000000) (sz : ∀ i, i < M.n → Szd (M.nd i))
    (nd : ∀ i, i < M.n → ∀ V, Kept (fun k => k < w0.heap.size) w0 V → Calls Tryz.prog 19 #[.pointer (some ⟨c.d, 0, none⟩), .int .i64 (i : Int)] V fun e w' => Told V (M.nd i) (M.pl i).up (R i) e w') :
    ∀ f i, i < M.n → dn M.n rk i < f → Inn w0 o c (M.nd i) (R i) (innF o M R f i) := by
  intro f
  induction f with
  | zero => intro i _ h; exact absurd h (Nat.not_lt_zero _)
  | succ f ih =>
    intro i hi hd
    by_cases hv : isV (M.nd i) = true
    · have e : innF o M R (f + 1) i = [] := if_pos hv
      rw [e]
      exact inner_void hv
    · have hv' : isV (M.nd i) = false := by simpa using hv
      have e : innF o M R (f + 1) i = shadW o M (innF o M R f) (M.nd i) ++ kidsW M (innF o M R f) (isR (M.nd (srcN (M.nd i) i))) (R (srcN (M.nd i) i)) := if_neg hv
      rw [e]
      have hsrc : srcN (M.nd i) i < M.n ∧ dn M.n rk (srcN (M.nd i) i) ≤ dn M.n rk i := by
        unfold srcN
        by_cases cc : (M.nd i).content = -1
        · rw [if_pos cc]; exact ⟨hi, Nat.le_refl _⟩
        · rw [if_neg cc]
          have hm : (M.nd i).content.toNat ∈ fwc M R i := by
            unfold fwc; rw [if_neg cc]; simp
          obtain ⟨h1, h2, -⟩ := hI.parC hi hm
          exact ⟨h1, Nat.le_of_lt (dn_lt h1 h2)⟩
      have hkid : ∀ k ∈ R (srcN (M.nd i) i), k < M.n ∧ dn M.n rk k < f := fun k hk => by
        have h1 := hI.good.falls _ hsrc.1 k hk
        have h2 := dn_lt (rk := rk) h1.1 h1.2
        exact ⟨h1.1, by omega⟩
      refine inner_abs (y := M.nd (srcN (M.nd i) i)) (fun k => outW (innF o M R f) (M.nd k) k (isR (M.nd (srcN (M.nd i) i)))) M.nd (fun k => (M.pl k).up) R hv' rfl ?_ (fun k hk => by have := (hkid k hk).1; omega) (fun hs => ?_) (fun hs => ?_) (fun hc0 => ?_) (fun hc0 => ?_) (fun k hk => ?_)
      · have h1 := hI.good.wf.nodup _ hsrc.1
        have h2 := nodup_le M.n (R (srcN (M.nd i) i)) h1 (fun k hk => (hkid k hk).1)
        omega
      · unfold shadW; rw [if_pos hs]
      · obtain ⟨q, e1, hq, -, -, -, hr⟩ := hI.shadowQ hi hs
        have es : shadW o M (innF o M R f) (M.nd i) = rootX (innF o M R f q) (M.nd q) (o.A q) o.ser := by
          unfold shadW
          rw [if_neg hs, e1, Int.toNat_natCast]
          rfl
        rw [es, e1]
        refine ⟨by omega, by omega, fun K w l h hl => ?_⟩
        exact root_any (ih q hq (by have := dn_lt (rk := rk) hq hr; omega)) q (by omega) (by omega) (M.pl q).up K w l h (nd q hq w h.kept) hl
      · unfold srcN; rw [if_pos hc0]; exact ⟨rfl, rfl⟩
      · obtain ⟨h1, h2⟩ := hsrc
        have ec : (M.nd i).content = ((srcN (M.nd i) i : Nat) : Int) := by
          rcases hI.core.cont i hi with e1 | ⟨k, hk, e1, -⟩
          · exact absurd e1 hc0
          · unfold srcN; rw [if_neg hc0, e1, Int.toNat_natCast]
        exact ⟨by omega, by omega, (M.pl (srcN (M.nd i) i)).up, fun V hV => by rw [ec]; exact nd _ h1 V hV⟩
      · obtain ⟨h1, h2⟩ := hkid k hk
        exact ⟨fun V hV => nd k h1 V hV, fun K w l ao ac ko kc h ha hi' hl => outer_any (sz k h1) (fun _ => ih k h1 h2) _ K w l ao ac _ ko kc h ha hi' hl⟩
end
section
open Go.RowKit
set_option linter.unusedVariables false
set_option maxRecDepth 100000
set_option maxHeartbeats 4000000
/-- The options in memory. -/
structure Opt (w : World) where
  sr : Bool
  ra : Option Addr
  rn : Nat
  rc : Nat
  l : List Int
  len : l.length = rn
  few : rn ≤ 100000
  at_ : IntsZ (fun k => k < w.heap.size) w ra l
def Opt.ask {w : World} (o : Opt w) : Ask := ⟨o.sr, askA o.l⟩
abbrev Opt.val {w : World} (o : Opt w) : Value := .agg #[.bool o.sr, .slice o.ra o.rn o.rc]
def Opt.go {w w' : World} (o : Opt w) (h : Kept (fun k => k < w.heap.size) w w') : Opt w' :=
  ⟨o.sr, o.ra, o.rn, o.rc, o.l, o.len, o.few, o.at_.kept h fun g hg => Nat.lt_of_lt_of_le hg h.size⟩
theorem sizeO (cs : Array Value) (h : cs.size = 2) : (Tryz.prog.info? 41).map (·.size) = some cs.size := by rw [h]; kernel_rfl
theorem enterR (args : Array Value) (X : World) : (callFunc 56 args).run Tryz.prog X = .ok (.enter 56 args) X := entersE Tryz.func56 (by kernel_rfl) (c := _) rfl args X
theorem enterO (args : Array Value) (X : World) : (callFunc 55 args).run Tryz.prog X = .ok (.enter 55 args) X := entersE Tryz.func55 (by kernel_rfl) (c := _) rfl args X
theorem yieldsN {o : Oper} {a : Act} {X : World} {x : Operand} {N : Nat} {cs : Array Value} (ho : o.op = .load 46 x) (hx : a.eval x = .pointer (some ⟨N, 0, none⟩)) (hb : X.heap[N]? = some (.cells cs 46 (0, 0))) (hc : cs.size = 14) :
    (execOp a.eval o).run Tryz.prog X = .ok (.value (.agg cs)) X := by
  unfold execOp
  simp only [ho, hx, Instr.loadAt, Instr.sureAddr, Sem.run_bind, Sem.run_pure, Result.andThen_ok, run_loadVar_row X N 46 46 cs (0, 0) _ hb Tryz.underlying46 rfl (sizeN cs hc)]
section
variable {K : Nat → Prop} {p : Nat} {M : Dm} {R G : Nat → List Nat} {rk : Nat → Nat}
theorem sInner_in (hI : Inv M R G rk) (hn : M.n ≤ 100000) (sz : ∀ i, i < M.n → Szd (M.nd i)) (f i : Nat) (hi : i < M.n) (hf : dn M.n rk i < f) (w : World) (hX : DX K w p M) (o : Opt w) (hl : (innF o.ask M R f i).length ≤ 1099511627776) :
    Calls Tryz.prog 20 #[.pointer (some ⟨p, 0, none⟩), .int .i64 (i : Int), o.val] w fun e w' => e = .returned (.string ⟨(innF o.ask M R f i).toArray⟩) ∧ Kept (fun k => k < w.heap.size) w w' := by
  have hnd : ∀ i, i < M.n → ∀ V, Kept (fun k => k < w.heap.size) w V → Calls Tryz.prog 19 #[.pointer (some ⟨p, 0, none⟩), .int .i64 (i : Int)] V fun e w' => Told V (M.nd i) (M.pl i).up (R i) e w' := fun i hi V hV => node_any K p i M R V (hX.kept hV) hI.good.wf hi (by omega) hI.good.few
  have hlen : ∀ X, Kept (fun k => k < w.heap.size) w X → Calls Tryz.prog 11 #[.pointer (some ⟨p, 0, none⟩)] X fun e w' => e = .returned (.int .i64 (M.n : Int)) ∧ Kept (fun k => k < X.heap.size) X w' := fun X h => by
    obtain ⟨ga, cap, hY⟩ := hX.kept h
    exact (len_any p M.n cap ga X hY.c1).mono fun e w' h => ⟨h.1, by rw [h.2]; exact Kept.refl _ _⟩
  have hpos := hI.core.pos
  obtain ⟨L, hL⟩ : ∃ L, innF o.ask M R f i = L := ⟨_, rfl⟩
  have INN : Hid (∀ c : Cf, c.d = p → c.n = M.n → Inn w o.ask c (M.nd i) (R i) L) := fun c h1 h2 => by
    rw [← hL]
    exact inner_all hI h2 (by omega) sz (by rw [h1]; exact hnd) f i hi hf
  rw [hL] at hl ⊢
  obtain ⟨ask, hask⟩ : ∃ a, o.ask = a := ⟨_, rfl⟩
  rw [hask] at INN
  obtain ⟨sr, ra, rn, rc, l, len, few, at_⟩ := o
  have ha : ask = ⟨sr, askA l⟩ := hask.symm
  have HASK : Hid (ask = ⟨sr, askA l⟩) := ha
  have HAT : Hid (IntsZ (fun k => k < w.heap.size) w ra l) := at_
  have HLEN : Hid _ := hlen
  have HND := hnd i hi
  have HL : Hid (L.length ≤ 1099511627776) := hl
  obtain ⟨W, N, hW, hN, hb, hkW, hzW⟩ := alloc_bx w #[.bool sr, .slice ra rn rc] 41
  have r9 := HND W hkW
  have HW : Hid (w.alloc (.cells #[.bool sr, .slice ra rn rc] 41) = W) := hW
  have HN : Hid (w.heap.size = N) := hN
  have HB : Hid (W.heap[N]? = some (.cells #[.bool sr, .slice ra rn rc] 41 (0, 0))) := hb
  have HKW : Hid (Kept (fun k => k < w.heap.size) w W) := hkW
  obtain ⟨x, hx⟩ : ∃ x, M.nd i = x := ⟨_, rfl⟩
  obtain ⟨q, hq⟩ : ∃ q, R i = q := ⟨_, rfl⟩
  obtain ⟨up, hup⟩ : ∃ u, (M.pl i).up = u := ⟨_, rfl⟩
  rw [hx, hq, hup] at r9
  rw [hx, hq] at INN
  obtain ⟨n, hnn⟩ : ∃ n, M.n = n := ⟨_, rfl⟩
  rw [hnn] at INN hn hpos HLEN hi
  have HLN : Hid (l.length = rn) := len
  show Calls Tryz.prog 20 #[.pointer (some ⟨p, 0, none⟩), .int .i64 (i : Int), .agg #[.bool sr, .slice ra rn rc]] w _
  clear HND hnd hlen hX sz hI hL hask ha hl at_ hW hN hb hkW hzW hx hq hup hf hnn len
  go_enter Tryz.func20, Tryz.ntmps20
  go_upto_region 1 with fail
  rw [HW.out, HN.out]
  clear HW HN
  go_wp2_with fail
  refine r9.mono ?_
  rintro e w1 ⟨ao, ac, ko, kc, rfl, hAt, hQt, hK⟩
  obtain ⟨V, N1, hV, hN1, hb1, hk1, hz1⟩ := alloc_bx w1 (nW x ao ac up ko q.length kc) 46
  have hkV : Kept (fun k => k < W.heap.size) W V := hK.trans (hk1.mono fun k h => Nat.lt_of_lt_of_le h hK.size)
  have hbo : V.heap[N]? = some (.cells #[.bool sr, .slice ra rn rc] 41 (0, 0)) := (hkV.block N (lt_block HB.out)).trans HB.out
  have hwV : Kept (fun k => k < w.heap.size) w V := HKW.out.trans (hkV.mono fun k h => Nat.lt_of_lt_of_le h HKW.out.size)
  have hiV : IntsAt (fun k => k < V.heap.size) V ko q := by
    have h1 : IntsAt (fun k => k < w1.heap.size) w1 ko q := hQt.intsAt fun g hg => (OwnZ.out hQt hg).2
    exact h1.go (fun k h => by omega) hk1
  have rp := newPage_any p n sr ra rn rc l HLN.out few hpos (by omega) V (IntsZ.kept HAT.out hwV fun g hg => Nat.lt_of_lt_of_le hg hwV.size) (fun X hX => HLEN.out X (hwV.trans (hX.mono fun k h => Nat.lt_of_lt_of_le h hwV.size)))
  have HV : Hid (w1.alloc (.cells (nW x ao ac up ko q.length kc) 46) = V) := hV
  have HN1 : Hid (w1.heap.size = N1) := hN1
  have HB1 : Hid (V.heap[N1]? = some (.cells (nW x ao ac up ko q.length kc) 46 (0, 0))) := hb1
  have HWV : Hid (Kept (fun k => k < w.heap.size) w V) := hwV
  have HIV : Hid (IntsAt (fun k => k < V.heap.size) V ko q) := hiV
  clear r9 hAt hQt hK hV hN1 hb1 hk1 hz1 hkV hwV hiV HAT HLEN
  go_upto_region 2 with fail
  rw [HV.out, HN1.out]
  clear HV HN1
  go_wp2_with (refine wpList_load_row rfl 41 _ rfl N rfl 41 #[.bool sr, .slice ra rn rc] (0, 0) _ hbo Tryz.underlying41 rfl (sizeO _ rfl) ?_)
  refine rp.mono ?_
  rintro e X ⟨b, g, rfl, hg, hgb, hA, hP, hKX⟩
  have hbX : X.heap[N1]? = some (.cells (nW x ao ac up ko q.length kc) 46 (0, 0)) := (hKX.block N1 (lt_block HB1.out)).trans HB1.out
  have hq : Pq w ask (fun k => k < V.heap.size ∨ k = g) X ⟨b, p, sr, g, n⟩ [] :=
    ⟨hP, by rw [HASK.out]; exact hA, .inr rfl, fun k h => .inl (Nat.lt_of_lt_of_le h HWV.out.size), HWV.out.trans (hKX.mono fun k h => Nat.lt_of_lt_of_le h HWV.out.size), by rw [HASK.out]⟩
  have ri := INN.out ⟨b, p, sr, g, n⟩ rfl rfl _ X [] ao ac up ko kc hq (HIV.out.go (fun k h => .inl h) hKX) (by have := HL.out; rw [List.length_nil]; omega)
  rw [List.nil_append] at ri
  have HKX : Hid (Kept (fun k => k < w.heap.size) w X) := HWV.out.trans (hKX.mono fun k h => Nat.lt_of_lt_of_le h HWV.out.size)
  clear rp hg hgb hA hP hKX hq hbo HB HB1 INN HIV
  go_wp2_with (refine wpList_load_row rfl 46 _ rfl N1 rfl 46 (nW x ao ac up ko q.length kc) (0, 0) _ hbX Tryz.underlying46 rfl (sizeN _ rfl) ?_)
  refine ri.mono ?_
  rintro e Y ⟨rfl, hqY, hKY⟩
  have rs := stringG _ ⟨b, p, sr, g, n⟩ L Y hqY.pg HL.out
  have HKY : Hid (Kept (fun k => k < w.heap.size) w Y) := HKX.out.trans (hKY.mono fun k h => .inl (Nat.lt_of_lt_of_le h HWV.out.size))
  have HOL : Hid (∀ k, k < w.heap.size → k < V.heap.size) := fun k h => Nat.lt_of_lt_of_le h HWV.out.size
  clear ri hqY hKY hbX HKX HWV
  go_wp2_with fail
  refine rs.mono ?_
  rintro e Z ⟨rfl, hKZ⟩
  have HKZ : Hid (Kept (fun k => k < w.heap.size) w Z) := HKY.out.trans (hKZ.mono fun k h => .inl (HOL.out k h))
  clear rs hKZ HKY
  go_wp2
  go_ret
  exact ⟨rfl, HKZ.out⟩
theorem sOuter_in (hI : Inv M R G rk) (hn : M.n ≤ 100000) (sz : ∀ i, i < M.n → Szd (M.nd i)) (f i : Nat) (hi : i < M.n) (hf : dn M.n rk i < f) (w : World) (hX : DX K w p M) (o : Opt w) (y : Nd) (rr : ∀ V, Kept (fun k => k < w.heap.size) w V → Calls Tryz.prog 19 #[.pointer (some ⟨p, 0, none⟩), .int .i64 (M.pl i).up] V fun e w' => ∃ ao ac up ko kn kc z, e = .returned (.tuple #[.agg (nW y ao ac up ko kn kc), .int .u16 z]) ∧ Kept (fun k => k < V.heap.size) V w') (hup1 : -1 ≤ (M.pl i).up ∧ (M.pl i).up ≤ 1000000) (hl : (outX (innF o.ask M R f i) (M.nd i) (isR y)).length ≤ 1099511627776) :
    Calls Tryz.prog 22 #[.pointer (some ⟨p, 0, none⟩), .int .i64 (i : Int), o.val] w fun e w' => e = .returned (.string ⟨(outX (innF o.ask M R f i) (M.nd i) (isR y)).toArray⟩) ∧ Kept (fun k => k < w.heap.size) w w' := by
  have hnd : ∀ i, i < M.n → ∀ V, Kept (fun k => k < w.heap.size) w V → Calls Tryz.prog 19 #[.pointer (some ⟨p, 0, none⟩), .int .i64 (i : Int)] V fun e w' => Told V (M.nd i) (M.pl i).up (R i) e w' := fun i hi V hV => node_any K p i M R V (hX.kept hV) hI.good.wf hi (by omega) hI.good.few
  have hlen : ∀ X, Kept (fun k => k < w.heap.size) w X → Calls Tryz.prog 11 #[.pointer (some ⟨p, 0, none⟩)] X fun e w' => e = .returned (.int .i64 (M.n : Int)) ∧ Kept (fun k => k < X.heap.size) X w' := fun X h => by
    obtain ⟨ga, cap, hY⟩ := hX.kept h
    exact (len_any p M.n cap ga X hY.c1).mono fun e w' h => ⟨h.1, by rw [h.2]; exact Kept.refl _ _⟩
  have hpos := hI.core.pos
  obtain ⟨L, hL⟩ : ∃ L, outX (innF o.ask M R f i) (M.nd i) (isR y) = L := ⟨_, rfl⟩
  have INN : Hid (∀ c : Cf, c.d = p → c.n = M.n → ∀ (K : Nat → Prop) (V : World) (l : List UInt8) (ao : Option Addr) (ac : Nat) (up : Int) (ko : Option Addr) (kc : Nat), Pq w o.ask K V c l → AtsAt K V ao (M.nd i).attrs → IntsAt K V ko (R i) → l.length + L.length ≤ 1099511627776 → Calls Tryz.prog 55 #[.pointer (some ⟨c.b, 0, none⟩), .agg (nW (M.nd i) ao ac up ko (R i).length kc), .bool (isR y)] V fun e w' => e = .returned (.tuple #[]) ∧ Pq w o.ask K w' c (l ++ L) ∧ Kept K V w') := fun c h1 h2 K V l ao ac up ko kc hq ha hi' hll => by
    rw [← hL] at hll ⊢
    exact outer_any (sz i hi) (fun _ => inner_all hI h2 (by omega) sz (by rw [h1]; exact hnd) f i hi hf) _ K V l ao ac up ko kc hq ha hi' hll
  rw [hL] at hl ⊢
  have RR : Hid _ := rr
  obtain ⟨ask, hask⟩ : ∃ a, o.ask = a := ⟨_, rfl⟩
  rw [hask] at INN
  obtain ⟨sr, ra, rn, rc, l, len, few, at_⟩ := o
  have ha : ask = ⟨sr, askA l⟩ := hask.symm
  have HASK : Hid (ask = ⟨sr, askA l⟩) := ha
  have HAT : Hid (IntsZ (fun k => k < w.heap.size) w ra l) := at_
  have HLEN : Hid _ := hlen
  have HND := hnd i hi
  have HL : Hid (L.length ≤ 1099511627776) := hl
  obtain ⟨W, N, hW, hN, hb, hkW, hzW⟩ := alloc_bx w #[.bool sr, .slice ra rn rc] 41
  have r9 := HND W hkW
  have HW : Hid (w.alloc (.cells #[.bool sr, .slice ra rn rc] 41) = W) := hW
  have HN : Hid (w.heap.size = N) := hN
  have HB : Hid (W.heap[N]? = some (.cells #[.bool sr, .slice ra rn rc] 41 (0, 0))) := hb
  have HKW : Hid (Kept (fun k => k < w.heap.size) w W) := hkW
  obtain ⟨x, hx⟩ : ∃ x, M.nd i = x := ⟨_, rfl⟩
  obtain ⟨q, hq⟩ : ∃ q, R i = q := ⟨_, rfl⟩
  obtain ⟨up, hup⟩ : ∃ u, (M.pl i).up = u := ⟨_, rfl⟩
  rw [hx, hq, hup] at r9
  rw [hup] at RR hup1
  rw [hx, hq] at INN
  obtain ⟨n, hnn⟩ : ∃ n, M.n = n := ⟨_, rfl⟩
  rw [hnn] at INN hn hpos HLEN hi
  have HLN : Hid (l.length = rn) := len
  show Calls Tryz.prog 22 #[.pointer (some ⟨p, 0, none⟩), .int .i64 (i : Int), .agg #[.bool sr, .slice ra rn rc]] w _
  clear rr HND hnd hlen hX sz hI hL hask ha hl at_ hW hN hb hkW hzW hx hq hup hf hnn len
  go_enter Tryz.func22, Tryz.ntmps22
  go_upto_region 1 with fail
  rw [HW.out, HN.out]
  clear HW HN
  go_wp2_with fail
  refine r9.mono ?_
  rintro e w1 ⟨ao, ac, ko, kc, rfl, hAt, hQt, hK⟩
  obtain ⟨V, N1, hV, hN1, hb1, hk1, hz1⟩ := alloc_bx w1 (nW x ao ac up ko q.length kc) 46
  have hkV : Kept (fun k => k < W.heap.size) W V := hK.trans (hk1.mono fun k h => Nat.lt_of_lt_of_le h hK.size)
  have hbo : V.heap[N]? = some (.cells #[.bool sr, .slice ra rn rc] 41 (0, 0)) := (hkV.block N (lt_block HB.out)).trans HB.out
  have hwV : Kept (fun k => k < w.heap.size) w V := HKW.out.trans (hkV.mono fun k h => Nat.lt_of_lt_of_le h HKW.out.size)
  have hiV : IntsAt (fun k => k < V.heap.size) V ko q := by
    have h1 : IntsAt (fun k => k < w1.heap.size) w1 ko q := hQt.intsAt fun g hg => (OwnZ.out hQt hg).2
    exact h1.go (fun k h => by omega) hk1
  have haV : AtsAt (fun k => k < V.heap.size) V ao x.attrs := by
    have h1 : AtsAt (fun k => k < w1.heap.size) w1 ao x.attrs := hAt.atsAt (K' := fun k => k < w1.heap.size) fun g hg => (OwnZ.out hAt hg).2
    exact h1.go (fun k h => by omega) hk1
  have HAV : Hid (AtsAt (fun k => k < V.heap.size) V ao x.attrs) := haV
  have d4 : V.cell? ⟨N1, 4, none⟩ = some (.int .i64 up) := by rw [cell_block hb1]; rfl
  have r8 := RR.out V hwV
  have HBO : Hid (V.heap[N]? = some (.cells #[.bool sr, .slice ra rn rc] 41 (0, 0))) := hbo
  have HV : Hid (w1.alloc (.cells (nW x ao ac up ko q.length kc) 46) = V) := hV
  have HN1 : Hid (w1.heap.size = N1) := hN1
  have HB1 : Hid (V.heap[N1]? = some (.cells (nW x ao ac up ko q.length kc) 46 (0, 0))) := hb1
  have HWV : Hid (Kept (fun k => k < w.heap.size) w V) := hwV
  have HIV : Hid (IntsAt (fun k => k < V.heap.size) V ko q) := hiV
  clear r9 hAt hQt hK hV hN1 hb1 hk1 hz1 hkV hwV hiV haV hbo RR
  go_upto_region 2 with fail
  rw [HV.out, HN1.out]
  clear HV HN1
  go_wp2_with fail
  refine r8.mono ?_
  rintro e w2 ⟨ao2, ac2, up2, ko2, kn2, kc2, z2, rfl, hK2⟩
  obtain ⟨U, N2, hU, hN2, hb2, hk2, hz2⟩ := alloc_bx w2 (nW y ao2 ac2 up2 ko2 kn2 kc2) 46
  have hVU : Kept (fun k => k < V.heap.size) V U := hK2.trans (hk2.mono fun k h => Nat.lt_of_lt_of_le h hK2.size)
  have hwU : Kept (fun k => k < w.heap.size) w U := HWV.out.trans (hVU.mono fun k h => Nat.lt_of_lt_of_le h HWV.out.size)
  have hbo : U.heap[N]? = some (.cells #[.bool sr, .slice ra rn rc] 41 (0, 0)) := (hVU.block N (lt_block HBO.out)).trans HBO.out
  have rp := newPage_any p n sr ra rn rc l HLN.out few hpos (by omega) U (IntsZ.kept HAT.out hwU fun g hg => Nat.lt_of_lt_of_le hg hwU.size) (fun X hX => HLEN.out X (hwU.trans (hX.mono fun k h => Nat.lt_of_lt_of_le h hwU.size)))
  have HU : Hid (w2.alloc (.cells (nW y ao2 ac2 up2 ko2 kn2 kc2) 46) = U) := hU
  have HN2 : Hid (w2.heap.size = N2) := hN2
  have HB2 : Hid (U.heap[N2]? = some (.cells (nW y ao2 ac2 up2 ko2 kn2 kc2) 46 (0, 0))) := hb2
  have HBU : Hid (U.heap[N1]? = some (.cells (nW x ao ac up ko q.length kc) 46 (0, 0))) := (hVU.block N1 (lt_block HB1.out)).trans HB1.out
  have HWU : Hid (Kept (fun k => k < w.heap.size) w U) := hwU
  have HIU : Hid (IntsAt (fun k => k < U.heap.size) U ko q) := HIV.out.go (fun k h => Nat.lt_of_lt_of_le h hVU.size) hVU
  have HAU : Hid (AtsAt (fun k => k < U.heap.size) U ao x.attrs) := HAV.out.go (fun k h => Nat.lt_of_lt_of_le h hVU.size) hVU
  clear r8 hK2 hU hN2 hb2 hk2 hz2 hVU hwU HAT HLEN HWV HIV HAV HB1 HBO d4
  go_upto_region 5 with fail
  rw [HU.out, HN2.out]
  clear HU HN2
  go_wp2_with (refine wpList_load_row rfl 41 _ rfl N rfl 41 #[.bool sr, .slice ra rn rc] (0, 0) _ hbo Tryz.underlying41 rfl (sizeO _ rfl) ?_)
  refine rp.mono ?_
  rintro e X ⟨b, g, rfl, hg, hgb, hA, hP, hKX⟩
  have hbX : X.heap[N1]? = some (.cells (nW x ao ac up ko q.length kc) 46 (0, 0)) := (hKX.block N1 (lt_block HBU.out)).trans HBU.out
  have hb2X : X.heap[N2]? = some (.cells (nW y ao2 ac2 up2 ko2 kn2 kc2) 46 (0, 0)) := (hKX.block N2 (lt_block HB2.out)).trans HB2.out
  have hq : Pq w ask (fun k => k < U.heap.size ∨ k = g) X ⟨b, p, sr, g, n⟩ [] :=
    ⟨hP, by rw [HASK.out]; exact hA, .inr rfl, fun k h => .inl (Nat.lt_of_lt_of_le h HWU.out.size), HWU.out.trans (hKX.mono fun k h => Nat.lt_of_lt_of_le h HWU.out.size), by rw [HASK.out]⟩
  have HQX : Hid (Pq w ask (fun k => k < U.heap.size ∨ k = g) X ⟨b, p, sr, g, n⟩ []) := hq
  have HKX : Hid (Kept (fun k => k < U.heap.size) U X) := hKX
  have HL1 : Hid (∀ Y, Kept (fun k => k < U.heap.size ∨ k = g) X Y → Y.heap[N1]? = some (.cells (nW x ao ac up ko q.length kc) 46 (0, 0))) := fun Y hY => (hY.block N1 (.inl (lt_block HBU.out))).trans hbX
  have HL2 : Hid (∀ Y, Kept (fun k => k < U.heap.size ∨ k = g) X Y → Y.heap[N2]? = some (.cells (nW y ao2 ac2 up2 ko2 kn2 kc2) 46 (0, 0))) := fun Y hY => (hY.block N2 (.inl (lt_block HB2.out))).trans hb2X
  clear rp hg hgb hA hP hKX hq hbo HB2 HBU hbX hb2X
  go_upto_region 6 with fail
  refine wp_region_held_drew (S := fun Y => Kept (fun k => k < U.heap.size ∨ k = g) X Y) (by kernel_rfl) ((Kept.refl _ X).drew) (fun hHeld => ?_)
  refine tkH 0 30 (.pointer (some ⟨b, 0, none⟩)) rfl rfl (by kernel_rfl) (by rfl) (by intro Y hY; go_simp; try with_reducible rfl) (fun _ _ _ h => h) hHeld ?_
  try simp only [Act.put, List.setIfInBounds_toArray, List.set_cons_zero, List.set_cons_succ]
  refine tkH 1 31 (.agg (nW x ao ac up ko q.length kc)) rfl rfl (by kernel_rfl) (by rfl) (by intro Y hY; exact yieldsN rfl rfl (HL1.out Y hY) rfl) (fun _ _ _ h => h) hHeld ?_
  try simp only [Act.put, List.setIfInBounds_toArray, List.set_cons_zero, List.set_cons_succ]
  refine tkH 2 32 (.agg (nW y ao2 ac2 up2 ko2 kn2 kc2)) rfl rfl (by kernel_rfl) (by rfl) (by intro Y hY; exact yieldsN rfl rfl (HL2.out Y hY) rfl) (fun _ _ _ h => h) hHeld ?_
  try simp only [Act.put, List.setIfInBounds_toArray, List.set_cons_zero, List.set_cons_succ]
  have rw' := isRaw_any y ao2 ac2 up2 ko2 kn2 kc2 X.drew
  refine clH 3 33 56 #[.agg (nW y ao2 ac2 up2 ko2 kn2 kc2)] rfl rfl (by kernel_rfl) (by rfl) rfl (by first | rfl | (simp [Act.eval]; done) | (simp [Act.eval, Act.put]; done)) (enterR _ _) rw' ?_
  rintro e Y ⟨rfl, hkY⟩
  have hXY : Kept (fun k => k < X.heap.size) X Y := ((Kept.refl _ X).drew).trans hkY
  refine ⟨_, rfl, hXY.mono HQX.out.lt, fun hHeld2 => ?_⟩
  replace hHeld := hHeld2
  clear hHeld2
  try simp only [Act.put, List.setIfInBounds_toArray, List.set_cons_zero, List.set_cons_succ]
  have hUY : Kept (fun k => k < U.heap.size) U Y := HKX.out.trans (hXY.mono fun k h => HQX.out.lt k (.inl h))
  have ro := INN.out ⟨b, p, sr, g, n⟩ rfl rfl _ Y [] ao ac up ko kc (HQX.out.stay hXY) (HAU.out.go (fun k h => .inl h) hUY) (HIU.out.go (fun k h => .inl h) hUY) (by have := HL.out; rw [List.length_nil]; omega)
  rw [List.nil_append] at ro
  refine clH 4 34 55 #[.pointer (some ⟨b, 0, none⟩), .agg (nW x ao ac up ko q.length kc), .bool (isR y)] rfl rfl (by kernel_rfl) (by rfl) rfl (by first | rfl | (simp [Act.eval]; done) | (simp [Act.eval, Act.put]; done)) (enterO _ _) ro ?_
  rintro e Z ⟨rfl, hqZ, hkZ⟩
  refine ⟨_, rfl, hHeld.trans hkZ, fun hHeld2 => ?_⟩
  try simp only [Act.put, List.setIfInBounds_toArray, List.set_cons_zero, List.set_cons_succ]
  refine wpAnyH_done (by kernel_rfl) ?_ _
  have rs := stringG _ ⟨b, p, sr, g, n⟩ L Z hqZ.pg HL.out
  have HKZ : Hid (Kept (fun k => k < w.heap.size) w Z) := (HWU.out.trans (HKX.out.mono fun k h => Nat.lt_of_lt_of_le h HWU.out.size)).trans (hHeld2.mono fun k h => .inl (Nat.lt_of_lt_of_le h HWU.out.size))
  have HOL : Hid (∀ k, k < w.heap.size → k < U.heap.size) := fun k h => Nat.lt_of_lt_of_le h HWU.out.size
  clear hHeld hHeld2 rw' hkY hXY hUY ro hqZ hkZ INN HQX HKX HL1 HL2 HAU HIU HWU
  go_wp2_with fail
  refine rs.mono ?_
  rintro e Z2 ⟨rfl, hKZ⟩
  have HKZ2 : Hid (Kept (fun k => k < w.heap.size) w Z2) := HKZ.out.trans (hKZ.mono fun k h => .inl (HOL.out k h))
  clear rs hKZ HKZ
  go_wp2
  go_ret
  exact ⟨rfl, HKZ2.out⟩
end
end
section
open Go.RowKit
set_option linter.unusedVariables false
section
variable {M : Dm} {R G : Nat → List Nat} {rk : Nat → Nat} {o : Ask}
theorem app2 {a b c d : List UInt8} (h : a = b) (k : c = d) : a ++ c = b ++ d := by rw [h, k]
def BB : Nat := 7000000
theorem atsL_len : ∀ (l : List Atr), (∀ a ∈ l, a.name.length ≤ 60 ∧ a.value.length ≤ 2000) → (atsL l).length ≤ 13000 * l.length
  | [], _ => by simp [atsL]
  | a :: l, h => by
    have ih := atsL_len l fun b hb => h b (List.mem_cons_of_mem _ hb)
    have ha := h a List.mem_cons_self
    have he := esc_short true a.value
    have e : atsL (a :: l) = atrL a ++ atsL l := by unfold atsL; rw [List.flatMap_cons]
    rw [e, List.length_append, List.length_cons]
    unfold atrL
    simp only [List.length_append, List.length_cons, List.length_nil]
    omega
theorem own_len (h : Inv M R G rk) {k : Nat} (hk : k < M.n) (L : List UInt8) (raw : Bool) : (outX L (M.nd k) raw).length ≤ BB + L.length := by
  have ho := h.ex.okd k hk
  have ha := h.core.atr hk
  unfold BB
  unfold outX
  by_cases k1 : (M.nd k).kind = 1
  · rw [if_pos k1]
    obtain ⟨hv, hs⟩ := h.core.el k hk k1
    have hn : (M.nd k).name.length ≤ 60 := by
      unfold validP at hv
      simp only [Bool.and_eq_true, decide_eq_true_eq] at hv
      exact hv.1.2
    have h50 : (M.nd k).attrs.length ≤ 50 := by
      unfold soundA at hs
      simp only [Bool.and_eq_true, decide_eq_true_eq] at hs
      exact hs.1
    have hat := atsL_len (M.nd k).attrs ha
    have h1 : (staL (M.nd k).name (M.nd k).attrs).length ≤ 2000000 := by
      unfold staL; simp only [List.length_append, List.length_cons, List.length_nil]; omega
    have h2 : (endL (M.nd k).name).length ≤ 100 := by
      unfold endL; simp only [List.length_append, List.length_cons, List.length_nil]; omega
    rw [List.length_append]
    split
    · rw [List.length_nil]; omega
    · rw [List.length_append]; omega
  · rw [if_neg k1]
    have he := esc_short false (M.nd k).data
    have hd := ho.1
    split
    · split <;> omega
    · split
      · simp only [List.length_append, List.length_cons, List.length_nil]; omega
      · split
        · rename_i k6
          have := h.ex.nsz k hk k6
          unfold doctN
          simp only [List.length_append, List.length_cons, List.length_nil]; omega
        · split
          · omega
          · rw [List.length_nil]; omega
theorem flA_sta (f : Fg) : (staL tmplN (flA f)).length ≤ 100000 := by
  obtain ⟨a, b, c, d, e⟩ := f
  cases a <;> cases b <;> cases c <;> cases d <;> cases e <;> decide +kernel
theorem kids_len (B : Nat) (inn : Nat → List UInt8) (T : Nat → List Nat) (raw : Bool) : ∀ (l : List Nat), (∀ k ∈ l, (outW inn (M.nd k) k raw).length ≤ B * (T k).length) → (kidsW M inn raw l).length ≤ B * (l.flatMap T).length
  | [], _ => Nat.zero_le _
  | k :: l, h => by
    rw [kidsW_cons, List.length_append, List.flatMap_cons, List.length_append, Nat.mul_add]
    exact Nat.add_le_add (h k List.mem_cons_self) (kids_len B inn T raw l fun j hj => h j (List.mem_cons_of_mem _ hj))
theorem inn_tr (h : Inv M R G rk) : ∀ (f i : Nat), i < M.n → (innF o M R f i).length + BB ≤ BB * (tr M.n (fwc M R) i).length
  | 0, i, hi => by
    rw [tr_eq h.onlyC.falls hi, List.length_cons, Nat.mul_add]
    show 0 + BB ≤ _
    omega
  | f + 1, i, hi => by
    have ih := inn_tr h f
    have hO := h.onlyC
    have hout : ∀ k, k < M.n → ∀ raw, (outW (innF o M R f) (M.nd k) k raw).length ≤ BB * (tr M.n (fwc M R) k).length := fun k hk raw => by
      have h1 := own_len h hk (innF o M R f k) raw
      have h2 := ih k hk
      rw [outW_eq]
      omega
    have hkids : ∀ u, u < M.n → ∀ raw, (kidsW M (innF o M R f) raw (R u)).length ≤ BB * ((R u).flatMap (tr M.n (fwc M R))).length := fun u hu raw => kids_len BB _ _ raw (R u) fun k hk => hout k (h.good.kid hu hk).1 raw
    rw [tr_eq hO.falls hi, List.length_cons]
    rw [show fwc M R i = (if (M.nd i).shadow = -1 then [] else [(M.nd i).shadow.toNat]) ++ ((if (M.nd i).content = -1 then [] else [(M.nd i).content.toNat]) ++ R i) from rfl, List.flatMap_append, List.flatMap_append, List.length_append, List.length_append]
    have goal : (innF o M R (f + 1) i).length ≤ BB * (((if (M.nd i).shadow = -1 then [] else [(M.nd i).shadow.toNat]).flatMap (tr M.n (fwc M R))).length + (((if (M.nd i).content = -1 then [] else [(M.nd i).content.toNat]).flatMap (tr M.n (fwc M R))).length + ((R i).flatMap (tr M.n (fwc M R))).length)) := by
      show (innW o M R (innF o M R f) i).length ≤ _
      unfold innW
      split
      · exact Nat.zero_le _
      · rw [List.length_append, Nat.mul_add]
        refine Nat.add_le_add ?_ ?_
        · unfold shadW
          by_cases c : (M.nd i).shadow = -1
          · rw [if_pos c]; exact Nat.zero_le _
          · rw [if_neg c, if_neg c]
            obtain ⟨q, e, hq, -⟩ := h.shadowQ hi c
            rw [e, Int.toNat_natCast, List.flatMap_cons, List.flatMap_nil, List.append_nil]
            have h2 := ih q hq
            unfold rootW
            split
            · have h3 := flA_sta (M.nd q).fl
              have h4 : (endL tmplN).length ≤ 100 := by decide
              have h5 : BB = 7000000 := rfl
              rw [List.length_append, List.length_append]
              omega
            · exact Nat.zero_le _
        · by_cases c : (M.nd i).content = -1
          · rw [show srcN (M.nd i) i = i from if_pos c, if_pos c]
            have := hkids i hi (isR (M.nd i))
            rw [List.flatMap_nil, List.length_nil, Nat.zero_add]
            exact this
          · rw [show srcN (M.nd i) i = (M.nd i).content.toNat from if_neg c, if_neg c]
            have hm : (M.nd i).content.toNat ∈ fwc M R i := by unfold fwc; rw [if_neg c]; simp
            obtain ⟨hc, -, -⟩ := h.parC hi hm
            have h1 := hkids _ hc (isR (M.nd (M.nd i).content.toNat))
            rw [List.flatMap_cons, List.flatMap_nil, List.append_nil]
            have h2 : ((R (M.nd i).content.toNat).flatMap (tr M.n (fwc M R))).length ≤ (tr M.n (fwc M R) (M.nd i).content.toNat).length := by
              rw [tr_eq hO.falls hc, List.length_cons]
              unfold fwc
              rw [List.flatMap_append, List.flatMap_append, List.length_append, List.length_append]
              omega
            refine Nat.le_trans h1 ?_
            refine Nat.mul_le_mul_left _ ?_
            omega
    rw [Nat.mul_add]
    omega
theorem inn_len (h : Inv M R G rk) (hn : M.n ≤ 100000) (f : Nat) {i : Nat} (hi : i < M.n) (raw : Bool) : (innF o M R f i).length ≤ 1000000000000 ∧ (outX (innF o M R f i) (M.nd i) raw).length ≤ 1000000000000 := by
  have h1 := inn_tr (o := o) h f i hi
  have h2 := tr_len h.onlyC hi
  have h3 : BB * (tr M.n (fwc M R) i).length ≤ BB * 100000 := Nat.mul_le_mul_left _ (by omega)
  have h4 := own_len h hi (innF o M R f i) raw
  have h5 : BB = 7000000 := rfl
  omega
theorem Inv.szd (h : Inv M R G rk) (k : Nat) (hk : k < M.n) : Szd (M.nd k) := by
  have ho := h.ex.okd k hk
  have ha := h.core.atr hk
  refine ⟨by have := h.good.few k hk; omega, fun a h' => by have := (ha a h').2; omega, fun _ => ho.1, ?_⟩
  by_cases h5 : (M.nd k).kind = 5
  · omega
  · have := h.ex.snd k hk h5
    unfold soundN Nd.mk' Mk.it soundL at this
    refine Nat.le_of_not_lt fun hgt => ?_
    have n1 : (M.nd k).kind ≠ 1 := by omega
    have n2 : (M.nd k).kind ≠ 2 := by omega
    have n3 : (M.nd k).kind ≠ 3 := by omega
    have n4 : (M.nd k).kind ≠ 4 := by omega
    have n6 : (M.nd k).kind ≠ 6 := by omega
    simp [soundP, kindP, n1, n2, n3, n4, n6] at this
/-- What is put into a root that is not chosen leaves no trace. -/
theorem inn_hides (h : Inv M R G rk) {M' : Dm} {R' : Nat → List Nat} {i : Nat} (hi : i < M.n) (h5 : (M.nd i).kind = 5) (hc : chosB o M i = false) (hnd : ∀ j, j < M.n → M'.nd j = M.nd j) (hr : ∀ u, u < M.n → u ≠ i → R' u = R u) :
    ∀ f j, j < M.n → j ≠ i → innF o M' R' f j = innF o M R f j := by
  intro f
  induction f with
  | zero => intro j _ _; rfl
  | succ f ih =>
    intro j hj hji
    show innW o M' R' (innF o M' R' f) j = innW o M R (innF o M R f) j
    unfold innW
    rw [hnd j hj]
    by_cases hv : isV (M.nd j) = true
    · rw [if_pos hv, if_pos hv]
    · rw [if_neg hv, if_neg hv]
      have hsrc : srcN (M.nd j) j < M.n ∧ srcN (M.nd j) j ≠ i := by
        unfold srcN
        by_cases cc : (M.nd j).content = -1
        · rw [if_pos cc]; exact ⟨hj, hji⟩
        · rw [if_neg cc]
          rcases h.core.cont j hj with e | ⟨k, hk, e, -, h4, -⟩
          · exact absurd e cc
          · rw [e, Int.toNat_natCast]
            exact ⟨hk, fun e' => by rw [e', h5] at h4; cases h4⟩
      rw [hr _ hsrc.1 hsrc.2, hnd _ hsrc.1]
      refine app2 ?_ ?_
      · unfold shadW
        by_cases cs : (M.nd j).shadow = -1
        · rw [if_pos cs, if_pos cs]
        · rw [if_neg cs, if_neg cs]
          obtain ⟨q, e, hq, -⟩ := h.shadowQ hj cs
          rw [e, Int.toNat_natCast]
          unfold rootW chosB
          rw [hnd q hq]
          by_cases cq : q = i
          · subst cq
            have hc' := hc
            unfold chosB at hc'
            rw [hc']; rfl
          · rw [ih q hq cq]
      · unfold kidsW
        refine flatMap_congr' fun k hk => ?_
        have hk1 := h.good.kid hsrc.1 hk
        have hk2 := (h.ex.kid _ hsrc.1 k hk).2.2
        have hki : k ≠ i := fun e => hk2 (by rw [e]; exact h5)
        rw [hnd k hk1.1, outW_eq, outW_eq, ih k hk1.1 hki]
theorem inn_stable (h : Inv M R G rk) : ∀ (f g i : Nat), i < M.n → dn M.n rk i < f → dn M.n rk i < g → innF o M R f i = innF o M R g i
  | 0, _, _, _, h1, _ => absurd h1 (Nat.not_lt_zero _)
  | _ + 1, 0, _, _, _, h2 => absurd h2 (Nat.not_lt_zero _)
  | f + 1, g + 1, i, hi, h1, h2 => by
    have ih := inn_stable h f g
    show innW o M R (innF o M R f) i = innW o M R (innF o M R g) i
    unfold innW
    by_cases hv : isV (M.nd i) = true
    · rw [if_pos hv, if_pos hv]
    · rw [if_neg hv, if_neg hv]
      have hsrc : srcN (M.nd i) i < M.n ∧ dn M.n rk (srcN (M.nd i) i) ≤ dn M.n rk i := by
        unfold srcN
        by_cases cc : (M.nd i).content = -1
        · rw [if_pos cc]; exact ⟨hi, Nat.le_refl _⟩
        · rw [if_neg cc]
          have hm : (M.nd i).content.toNat ∈ fwc M R i := by unfold fwc; rw [if_neg cc]; simp
          obtain ⟨a, b, -⟩ := h.parC hi hm
          exact ⟨a, Nat.le_of_lt (dn_lt a b)⟩
      refine app2 ?_ ?_
      · unfold shadW
        by_cases cs : (M.nd i).shadow = -1
        · rw [if_pos cs, if_pos cs]
        · rw [if_neg cs, if_neg cs]
          obtain ⟨q, e, hq, -, -, -, hr⟩ := h.shadowQ hi cs
          have := dn_lt (rk := rk) hq hr
          rw [e, Int.toNat_natCast]
          unfold rootW
          rw [ih q hq (by omega) (by omega)]
      · unfold kidsW
        refine flatMap_congr' fun k hk => ?_
        have hk1 := h.good.falls _ hsrc.1 k hk
        have := dn_lt (rk := rk) hk1.1 hk1.2
        rw [outW_eq, outW_eq, ih k hk1.1 (by omega) (by omega)]
theorem up_same (wf : WF M.n M.pl R) {M' : Dm} {R' : Nat → List Nat} (wf' : WF M'.n M'.pl R') (hn : M.n ≤ M'.n) {k : Nat} (h1 : ∀ u, u < M'.n → ∀ x ∈ R' u, x ≠ k → u < M.n ∧ x ∈ R u) (h2 : ∀ u, u < M.n → ∀ x ∈ R u, x ∈ R' u) {j : Nat} (hj : j < M.n) (hjk : j ≠ k) : (M'.pl j).up = (M.pl j).up := by
  rcases wf.inn j hj with e | ⟨u, hu, e, hm⟩
  · rcases wf'.inn j (by omega) with e' | ⟨u', hu', e', hm'⟩
    · rw [e, e']
    · obtain ⟨a, b⟩ := h1 u' hu' j hm' hjk
      have := wf.up a b
      omega
  · rw [e]
    exact wf'.up (by omega) (h2 u hu j hm)
/-- Is the text of a node written as it is? -/
def rawU (M : Dm) (j : Nat) : Bool := if (M.pl j).up = -1 then false else isR (M.nd (M.pl j).up.toNat)
def yN : Nd := ⟨0, [], [], [], ⟨false, false, false, false, false⟩, 0, 0, 0⟩
theorem sInner_gen {K : Nat → Prop} {p : Nat} (hI : Inv M R G rk) (hn : M.n ≤ 100000) {j : Nat} (hj : j < M.n) (F : Nat) (hF : dn M.n rk j < F) (w : World) (hX : DX K w p M) (o : Opt w) :
    Calls Tryz.prog 20 #[.pointer (some ⟨p, 0, none⟩), .int .i64 (j : Int), o.val] w fun e w' => e = .returned (.string ⟨(innF o.ask M R F j).toArray⟩) ∧ Kept (fun k => k < w.heap.size) w w' :=
  sInner_in hI hn hI.szd F j hj hF w hX o (by have := (inn_len (o := o.ask) hI hn F hj false).1; omega)
theorem sOuter_gen {K : Nat → Prop} {p : Nat} (hI : Inv M R G rk) (hn : M.n ≤ 100000) {j : Nat} (hj : j < M.n) (F : Nat) (hF : dn M.n rk j < F) (w : World) (hX : DX K w p M) (o : Opt w) :
    Calls Tryz.prog 22 #[.pointer (some ⟨p, 0, none⟩), .int .i64 (j : Int), o.val] w fun e w' => e = .returned (.string ⟨(outX (innF o.ask M R F j) (M.nd j) (rawU M j)).toArray⟩) ∧ Kept (fun k => k < w.heap.size) w w' := by
  rcases hI.good.wf.inn j hj with e | ⟨u, hu, e, hm⟩
  · have er : rawU M j = isR yN := by unfold rawU; rw [if_pos e]; rfl
    rw [er]
    exact sOuter_in hI hn hI.szd F j hj hF w hX o yN (fun V hV => by
      rw [e]
      refine (node_none K p M (-1) V (hX.kept hV) (.inl (by omega)) (by omega)).mono ?_
      rintro e w' ⟨rfl, hk⟩
      exact ⟨none, 0, 0, none, 0, 0, 80, rfl, hk⟩) (by rw [e]; exact ⟨by omega, by omega⟩) (by have := (inn_len (o := o.ask) hI hn F hj (isR yN)).2; omega)
  · have er : rawU M j = isR (M.nd u) := by unfold rawU; rw [if_neg (by rw [e]; omega), e, Int.toNat_natCast]
    rw [er]
    exact sOuter_in hI hn hI.szd F j hj hF w hX o (M.nd u) (fun V hV => by
      rw [e]
      refine (node_any K p u M R V (hX.kept hV) hI.good.wf hu (by omega) hI.good.few).mono ?_
      rintro e w' ⟨ao, ac, ko, kc, rfl, -, -, hk⟩
      exact ⟨ao, ac, _, ko, _, kc, 0, rfl, hk⟩) (by rw [e]; exact ⟨by omega, by omega⟩) (by have := (inn_len (o := o.ask) hI hn F hj (isR (M.nd u))).2; omega)
end
end
end Go.Proofs.YteccdijjpmeeaaaGreat
