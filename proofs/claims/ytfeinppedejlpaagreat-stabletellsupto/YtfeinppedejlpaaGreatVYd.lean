/-
  What stable.Stable answers.
-/
import Derived.Test.YtfeinppedejlpaaGreatVYbm
import Derived.Test.YtfeinppedejlpaaGreatVO1
namespace Go.Proofs.YtfeinppedejlpaaGreat
open Go.RowKit Go.Sort
set_option linter.unusedVariables false
set_option maxRecDepth 100000
set_option maxHeartbeats 8000000
def abv (M : Dm) (k : Nat) : Int := if (M.nd k).kind = 5 then (M.nd k).host else (M.pl k).up
def stG (M : Dm) : List Nat -> (Nat -> Nat) -> (Nat -> Nat) -> Bool
 | [], _, _ => true
 | k :: l, dn, la => zbc (M.nd k) && (zcy (dn (abv M k).toNat) (M.nd k).kind (la (abv M k).toNat) && stG M l (upF dn k (dn (abv M k).toNat + 1)) (upF la (abv M k).toNat (M.nd k).kind))
def zdp (M : Dm) (R : Nat -> List Nat) (i : Nat) : Bool := zdd (M.nd i) && stG M ((tr M.n (fwd M R) i).drop 1) (fun _ => 0) (fun _ => 0)
section
variable {M : Dm} {R G : Nat -> List Nat} {rk : Nat -> Nat}
theorem zgc (h : Inv M R G rk) {u k : Nat} (hu : u < M.n) (hk : k ∈ fwd M R u) : k < M.n /\ abv M k = (u : Int) := by
 unfold abv
 rcases zd8.1 hk with c | ⟨c, e⟩
 ·have h1 := h.good.falls _ hu k c
  have h5 := (h.ex.kid u hu k c).2.2
  rw [if_neg h5]
  exact ⟨h1.1, h.good.wf.up hu c⟩
 ·rcases h.core.shad u hu with e' | ⟨s, hs, e1, -, h5, hh⟩
  ·exact absurd e' c
  ·have : k = s := by rw [e, e1, Int.toNat_natCast]
   subst this
   rw [if_pos h5]
   exact ⟨hs, hh⟩
theorem zmq (h : Inv M R G rk) : ∀ (f i : Nat), i < M.n -> ∀ k ∈ trF (fwd M R) f i, k = i \/ ∃ u, u < M.n /\ k ∈ fwd M R u
 | 0, i, hi, k, hk => .inl (List.mem_singleton.1 hk)
 | f + 1, i, hi, k, hk => by
  have hk : k ∈ i :: (fwd M R i).flatMap (trF (fwd M R) f) := hk
  rcases List.mem_cons.1 hk with e | hk
  ·exact .inl e
  ·obtain ⟨c, hc, hkc⟩ := List.mem_flatMap.1 hk
   rcases zmq h f c (h.only.falls i hi c hc).1 k hkc with e | e
   ·exact .inr ⟨i, hi, by rw [e]; exact hc⟩
   ·exact .inr e
theorem zo4 (h : Inv M R G rk) {i : Nat} (hi : i < M.n) : ∀ k ∈ (tr M.n (fwd M R) i).drop 1, k < M.n /\ ∃ u : Nat, u < M.n /\ abv M k = (u : Int) := by
 intro k hk
 rw [zcr h.only.falls hi, List.drop_one, List.tail_cons] at hk
 obtain ⟨c, hc, hkc⟩ := List.mem_flatMap.1 hk
 rcases zmq h M.n c (h.only.falls i hi c hc).1 k hkc with e | ⟨u, hu, e⟩
 ·subst e
  obtain ⟨a, b⟩ := zgc h hi hc
  exact ⟨a, i, hi, b⟩
 ·obtain ⟨a, b⟩ := zgc h hu e
  exact ⟨a, u, hu, b⟩
end
theorem zsx : (Tryz.prog.info? 225).map (fun i => (i.zero, i.size, i.bytes)) = some (some (.agg #[.int .i64 0, .int .u8 0]), 2, 16) := by kernel_rfl
theorem zrx (w : World) (n : Nat) (hn : n <= 100000) : ∃ V g, (Instr.makeSlice 165 (.int .i64 (n : Int)) (.int .i64 (n : Int))).run Tryz.prog w = .ok (.slice (some ⟨g, 0, none⟩) n n) V /\ g = w.heap.size /\ PlR V g n (fun _ => 0) (fun _ => 0) /\ Kept (fun k => k < w.heap.size) w V := by
 obtain ⟨inf, hi, hip⟩ := Option.map_eq_some_iff.1 zsx
 have hz0 : inf.zero = some (.agg #[.int .i64 0, .int .u8 0]) := congrArg (·.1) hip
 have hsz : inf.size = 2 := congrArg (·.2.1) hip
 have hby : inf.bytes = 16 := congrArg (·.2.2) hip
 have hmake := run_make (P := Tryz.prog) w 165 225 inf _ Tryz.underlying165 hi hz0 .i64 .i64 (n : Int) (n : Int) (by omega) (Int.le_refl _) (by rw [hby]; omega) (by omega)
 rw [Int.toNat_natCast] at hmake
 obtain ⟨mc, hmc⟩ : ∃ mc, madeCells (Value.agg #[.int .i64 0, .int .u8 0]).cells (n * inf.size) = mc := ⟨_, rfl⟩
 rw [hmc] at hmake
 obtain ⟨V, g, hV, hg, hb, hk, hs⟩ := zal w mc 225
 rw [hV, hg] at hmake
 refine ⟨V, g, hmake, hg.symm, ⟨mc, hb, by rw [<- hmc, hsz]; simp [madeCells], fun j hj => ⟨?_, ?_⟩⟩, hk⟩
 ·rw [<- hmc, hsz]
  have h1 : j * 2 < n * 2 := by omega
  simp [madeCells, Value.cells, h1]
 ·rw [<- hmc, hsz]
  have h1 : j * 2 + 1 < n * 2 := by omega
  have h2 : (j * 2 + 1) % 2 = 1 := by omega
  simp [madeCells, Value.cells, h1, h2]
section
variable {K : Nat -> Prop} {p : Nat} {M : Dm} {R G : Nat -> List Nat} {rk : Nat -> Nat}
theorem zjs {z : Int} (hz : z < 0 \/ (M.n : Int) <= z) (hn : M.n <= 100000) (w : World) (hX : DX K w p M) :
  Calls Tryz.prog 65 #[.pointer (some ⟨p, 0, none⟩), .int .i64 z] w fun e w' => e = .returned (.bool false) /\ Kept (fun k => k < w.heap.size) w w' := by
 have r9 := zfb K p M z w hX hz (by omega)
 clear hX hz
 go_enter Tryz.func65, Tryz.ntmps65
 go_wp2_with fail
 refine r9.mono ?_
 rintro e w1 ⟨rfl, hK⟩
 have HK : Hid (Kept (fun k => k < w.heap.size) w w1) := hK
 clear r9 hK
 go_wp2
 go_ret
 exact ⟨rfl, HK.out.alloc (fun _ h => ltl h HK.out.size) _⟩
theorem zh9 (hI : Inv M R G rk) (hn : M.n <= 100000) (hsz : ∀ k, k < M.n -> (M.nd k).data.length <= 4000000000) (i : Nat) (hi : i < M.n) (w : World) (hX : DX K w p M) :
  Calls Tryz.prog 65 #[.pointer (some ⟨p, 0, none⟩), .int .i64 (i : Int)] w fun e w' => e = .returned (.bool (zdp M R i)) /\ Kept (fun k => k < w.heap.size) w w' := by
 have HND : Hid (∀ i, i < M.n -> ∀ V, Kept (fun k => k < w.heap.size) w V -> Calls Tryz.prog 41 #[.pointer (some ⟨p, 0, none⟩), .int .i64 (i : Int)] V fun e w' => Told V (M.nd i) (M.pl i).up (R i) e w') := fun i hi V hV => zez K p i M R V (hX.kept hV) hI.good.wf hi (by omega) hI.good.few
 have HLEN : Hid (∀ X, Kept (fun k => k < w.heap.size) w X -> Calls Tryz.prog 15 #[.pointer (some ⟨p, 0, none⟩)] X fun e w' => e = .returned (.int .i64 (M.n : Int)) /\ w' = X) := fun X h => by
  obtain ⟨ga, cap, hY⟩ := hX.kept h
  exact zom p M.n cap ga X hY.c1
 have HALL : Hid (∀ X, Kept (fun k => k < w.heap.size) w X -> Calls Tryz.prog 139 #[.pointer (some ⟨p, 0, none⟩), .int .i64 (i : Int)] X (Lst X (trI M.n (fwd M R) (i : Int)))) := fun X h => zsh K p M R G rk X (hX.kept h) hI hn (i : Int)
 have HTP : Hid (∀ k ∈ (tr M.n (fwd M R) i).drop 1, k < M.n /\ ∃ u : Nat, u < M.n /\ abv M k = (u : Int)) := zo4 hI hi
 have HTL : Hid ((tr M.n (fwd M R) i).length <= M.n) := zhn hI.only hi
 have HTE : Hid (1 <= (tr M.n (fwd M R) i).length) := by show 1 <= (tr M.n (fwd M R) i).length; rw [zcr hI.only.falls hi, List.length_cons]; omega
 have HTI : Hid (trI M.n (fwd M R) (i : Int) = tr M.n (fwd M R) i) := zov hi
 have HFEW : Hid (∀ k, k < M.n -> (M.nd k).attrs.length <= 100000) := fun k hk => by have := hI.good.few k hk; omega
 have HSZ : Hid (∀ k, k < M.n -> (M.nd k).data.length <= 4000000000) := hsz
 have HN0 : Hid (M.n <= 100000) := hn
 have r9 := HND.out i hi w (Kept.refl _ _)
 have HS : Hid (zdp M R i = (zdd (M.nd i) && stG M ((tr M.n (fwd M R) i).drop 1) (fun _ => 0) (fun _ => 0))) := rfl
 obtain ⟨x, hx⟩ : ∃ x, M.nd i = x := ⟨_, rfl⟩
 obtain ⟨q, hq⟩ : ∃ q, (R i).length = q := ⟨_, rfl⟩
 obtain ⟨up, hup⟩ : ∃ u, (M.pl i).up = u := ⟨_, rfl⟩
 unfold Told at r9
 rw [hx, hup, hq] at r9
 rw [hx] at HS
 obtain ⟨b, hb⟩ : ∃ b, zdd x = b := ⟨_, rfl⟩
 rw [hb] at HS
 have HB : Hid (zdd x = b) := hb
 obtain ⟨res, hres⟩ : ∃ b, zdp M R i = b := ⟨_, rfl⟩
 rw [hres] at HS ⊢
 clear hX hI hn hsz hi hx hq hup hb hres
 go_enter Tryz.func65, Tryz.ntmps65
 go_wp2_with fail
 refine r9.mono ?_
 rintro e w1 ⟨ao, ac, ko, kc, rfl, hA, hQ, hK⟩
 obtain ⟨V, N1, hV, hN1, hb1, hk1, hz1⟩ := zal w1 (nW x ao ac up ko q kc) 58
 have rb := zi5 x ao ac up ko q kc V
 rw [HB.out] at rb
 have HV : Hid (w1.alloc (.cells (nW x ao ac up ko q kc) 58) = V) := hV
 have HN1 : Hid (w1.heap.size = N1) := hN1
 have HKV : Hid (Kept (fun k => k < w.heap.size) w V) := kt hK hk1
 clear r9 hA hQ hK hV hN1 hk1 hz1
 go_upto_region 2 with fail
 rw [HV.out, HN1.out]
 clear HV HN1
 have g0 : V.cell? ⟨N1, 0, none⟩ = some (.int .u8 (x.kind : Int)) := by rw [zaa hb1]; rfl
 have g1 : V.cell? ⟨N1, 1, none⟩ = some (.string ⟨x.name.toArray⟩) := by rw [zaa hb1]; rfl
 have g2 : V.cell? ⟨N1, 2, none⟩ = some (.string ⟨x.data.toArray⟩) := by rw [zaa hb1]; rfl
 have g3 : V.cell? ⟨N1, 3, none⟩ = some (.slice ao x.attrs.length ac) := by rw [zaa hb1]; rfl
 have g4 : V.cell? ⟨N1, 4, none⟩ = some (.int .i64 up) := by rw [zaa hb1]; rfl
 have g5 : V.cell? ⟨N1, 5, none⟩ = some (.slice ko q kc) := by rw [zaa hb1]; rfl
 have g6 : V.cell? ⟨N1, 6, none⟩ = some (.int .i64 x.shadow) := by rw [zaa hb1]; rfl
 have g7 : V.cell? ⟨N1, 7, none⟩ = some (.int .i64 x.host) := by rw [zaa hb1]; rfl
 have g8 : V.cell? ⟨N1, 8, none⟩ = some (.int .i64 x.content) := by rw [zaa hb1]; rfl
 have g9 : V.cell? ⟨N1, 9, none⟩ = some (.bool x.fl.a) := by rw [zaa hb1]; rfl
 have g10 : V.cell? ⟨N1, 10, none⟩ = some (.bool x.fl.b) := by rw [zaa hb1]; rfl
 have g11 : V.cell? ⟨N1, 11, none⟩ = some (.bool x.fl.c) := by rw [zaa hb1]; rfl
 have g12 : V.cell? ⟨N1, 12, none⟩ = some (.bool x.fl.d) := by rw [zaa hb1]; rfl
 have g13 : V.cell? ⟨N1, 13, none⟩ = some (.bool x.fl.e) := by rw [zaa hb1]; rfl
 go_wp2_with fail
 refine rb.mono ?_
 rintro e w2 ⟨rfl, hK2⟩
 have HK2 : Hid (Kept (fun k => k < w.heap.size) w w2) := kt HKV.out hK2
 clear rb hb1 hK2 HKV g0 g1 g2 g3 g4 g5 g6 g7 g8 g9 g10 g11 g12 g13
 cases b with
 | false =>
  have HR : Hid (res = false) := HS.out.symm ▸ rfl
  go_wp2
  go_ret
  exact ⟨congrArg (fun b => Ending.returned (Value.bool b)) HR.out.symm, HK2.out⟩
 | true =>
 have rl := HLEN.out w2 HK2.out
 obtain ⟨n, hnn⟩ : ∃ n, M.n = n := ⟨_, rfl⟩
 rw [hnn] at rl
 have HNN : Hid (M.n = n) := hnn
 have hn1 : n <= 100000 := by rw [<- hnn]; exact HN0.out
 obtain ⟨X, g, hmk, hgw, hP0, hkX⟩ := zrx w2 n hn1
 have HP0 : Hid (PlR X g n (fun _ => 0) (fun _ => 0)) := hP0
 have HKX : Hid (Kept (fun k => k < w.heap.size) w X) := kt HK2.out hkX
 have HG : Hid (w.heap.size <= g) := by rw [hgw]; exact HK2.out.size
 have ra := HALL.out X HKX.out
 clear hnn hgw hP0 hkX
 go_wp2_with (go_at_call 15; refine rl.mono ?_; rintro e1 w3 ⟨rfl, hw3⟩; replace hw3 := hw3.symm; subst hw3)
 rw [HTI.out] at ra
 clear hmk rl
 refine ra.mono ?_
 rintro e w4 ⟨ao2, c2, rfl, hO, hK4⟩
 obtain ⟨T, hT⟩ : ∃ T, tr M.n (fwd M R) i = T := ⟨_, rfl⟩
 rw [hT] at hO HTP HTL HTE HS ⊢
 obtain ⟨L, hL⟩ : ∃ L, T.length = L := ⟨_, rfl⟩
 have hL1 : 1 <= L := by rw [<- hL]; exact HTE.out
 have hLn : L <= 100000 := by rw [<- hL]; exact Nat.le_trans HTL.out HN0.out
 rw [hL] at hO ⊢
 obtain ⟨gq, rfl, hgq, hgq2, hcell, hLc⟩ : ∃ gq, ao2 = some ⟨gq, 0, none⟩ /\ X.heap.size <= gq /\ gq < w4.heap.size /\ (∀ j (h : j < T.length), w4.cell? ⟨gq, j, none⟩ = some (iv T[j])) /\ L <= c2 := by
  have hat := hO.intsAt (F := fun _ => True) fun _ _ => trivial
  have hout := fun g hg => Zac.out hO (g := g) hg
  obtain ⟨-, hLc, -, h4⟩ := hO
  rcases h4 with ⟨-, h5⟩ | ⟨g', cur, r1, r2, r3, -⟩
  ·omega
  ·refine ⟨g', r1, Nat.le_of_not_lt r2, zad r3, fun j hj => ?_, hLc⟩
   obtain ⟨q, o, e1, -, e2⟩ := hat j hj
   rw [r1] at e1
   injection e1 with e1
   injection e1 with e1 e3
   subst e1; subst e3
   rw [Nat.zero_add] at e2
   exact e2
 have hP4 := HP0.out.kept hK4 (by obtain ⟨cs, h1, -, -⟩ := HP0.out; exact zad h1)
 have hgX : g < X.heap.size := by obtain ⟨cs, h1, -, -⟩ := HP0.out; exact zad h1
 have HGQ : Hid (w.heap.size <= gq /\ gq ≠ g /\ gq < w4.heap.size) := ⟨Nat.le_trans HKX.out.size hgq, by omega, hgq2⟩
 have HK4 : Hid (Kept (fun k => k < w.heap.size) w w4) := kt HKX.out hK4
 have HC : Hid (∀ j (h : j < T.length), w4.cell? ⟨gq, j, none⟩ = some (iv T[j])) := hcell
 have HP4 : Hid (PlR w4 g n (fun _ => 0) (fun _ => 0)) := hP4
 have HLL : Hid (T.length = L) := hL
 have HGX : Hid (g < w4.heap.size) := ltl hgX hK4.size
 clear ra hO hT hL hgq hgq2 hcell hP4 hgX hK4 HP0 HKX HALL HLEN HTE HTL HTI HK2
 obtain ⟨m, rfl⟩ : ∃ m, L = m + 1 := ⟨L - 1, by omega⟩
 have hm5 : m <= 100000 := by omega
 by_cases hc1 : c2 = 1
 ·obtain rfl : m = 0 := by omega
  subst hc1
  have HR : Hid (res = true) := by
   show res = true
   rw [HS.out]
   have : T.drop 1 = [] := List.drop_eq_nil_of_le (by rw [HLL.out]; exact Nat.le_refl _)
   rw [this]; rfl
  clear hLc
  go_upto_region 5 with fail
  go_loopg [33] 1 (fun g v33 wr => v33 = .int .i64 0 /\ wr = w4)
  case atStart => exact ⟨rfl, rfl⟩
  case round =>
   obtain ⟨rfl, hwr⟩ := hrel
   have HWR : Hid (wr = w4) := hwr
   clear hwr
   go_wp2
   go_ret
   exact ⟨congrArg (fun b => Ending.returned (Value.bool b)) HR.out.symm, by rw [HWR.out]; exact HK4.out⟩
 ·have hc2 : 1 < c2 := by omega
  clear hL1 hc1
  obtain ⟨D, hD⟩ : ∃ D, T.drop 1 = D := ⟨_, rfl⟩
  rw [hD] at HTP HS
  have hDl : D.length = m := by rw [<- hD, List.length_drop, HLL.out]; rfl
  have HDL : Hid (D.length = m) := hDl
  have HCD : Hid (∀ j (h : j < D.length), w4.cell? ⟨gq, 1 + j, none⟩ = some (iv D[j])) := fun j h => by
   have h' : 1 + j < T.length := by rw [HLL.out]; omega
   have e : D[j] = T[1 + j] := by subst hD; rw [List.getElem_drop]
   rw [e]
   exact HC.out (1 + j) h'
  have HS2 : Hid (res = stG M D (fun _ => 0) (fun _ => 0)) := HS.out
  clear hD hDl HC HS
  go_upto_region 5 with fail
  go_loopg [33] m (fun gm v33 wr => ∃ (j : Nat) (dn la : Nat -> Nat), gm = m - j /\ j <= m /\ v33 = .int .i64 (j : Int) /\ (∀ q, dn q <= j) /\ res = stG M (D.drop j) dn la /\ PlR wr g n dn la /\ Kept (fun q => q < w4.heap.size /\ q ≠ g) w4 wr)
  case atStart => exact ⟨0, _, _, rfl, Nat.zero_le _, rfl, fun _ => Nat.zero_le _, HS2.out, HP4.out, Kept.refl _ _⟩
  case round =>
   obtain ⟨j, dn, la, hg, hj, rfl, hdn, hst, hP, hK⟩ := hrel
   have HK : Hid (Kept (fun q => q < w4.heap.size /\ q ≠ g) w4 wr) := hK
   have hKw : Kept (fun k => k < w.heap.size) w wr := HK4.out.trans (hK.mono fun k h => ⟨ltl h HK4.out.size, by have := HG.out; omega⟩)
   by_cases hlt : j < m
   ·have hjl : j < D.length := by rw [HDL.out]; exact hlt
    have hc := HCD.out j hjl
    obtain ⟨k, hk⟩ : ∃ k, D[j] = k := ⟨_, rfl⟩
    rw [hk] at hc
    have hcell : wr.cell? ⟨gq, 1 + j, none⟩ = some (.int .i64 (k : Int)) := by
     rw [hK.cell (p := ⟨gq, 1 + j, none⟩) ⟨HGQ.out.2.2, HGQ.out.2.1⟩]; exact hc
    obtain ⟨hkn, u, hun, hab⟩ := HTP.out k (by rw [<- hk]; exact List.getElem_mem hjl)
    have hdr : D.drop j = k :: D.drop (j + 1) := by rw [List.drop_eq_getElem_cons hjl, hk]
    rw [hdr] at hst
    have hst' : res = (zbc (M.nd k) && (zcy (dn u) (M.nd k).kind (la u) && stG M (D.drop (j + 1)) (upF dn k (dn u + 1)) (upF la u (M.nd k).kind))) := by
     rw [hst]
     show (zbc (M.nd k) && (zcy (dn (abv M k).toNat) (M.nd k).kind (la (abv M k).toNat) && stG M (D.drop (j + 1)) (upF dn k (dn (abv M k).toNat + 1)) (upF la (abv M k).toNat (M.nd k).kind))) = _
     rw [hab, Int.toNat_natCast]
    have rn := HND.out k hkn wr hKw
    unfold Told at rn
    have hxs := HSZ.out k hkn
    have hxa := HFEW.out k hkn
    obtain ⟨y, hy⟩ : ∃ x, M.nd k = x := ⟨_, rfl⟩
    obtain ⟨q2, hq2⟩ : ∃ q, (R k).length = q := ⟨_, rfl⟩
    obtain ⟨up2, hup2⟩ : ∃ u, (M.pl k).up = u := ⟨_, rfl⟩
    unfold abv at hab
    rw [hy, hup2] at hab
    rw [hy] at hst' hxs hxa
    rw [hy, hup2, hq2] at rn
    rw [HNN.out] at hkn hun
    have HST : Hid _ := hst'
    have HAB : Hid _ := hab
    have HP : Hid (PlR wr g n dn la) := hP
    have HKW : Hid (Kept (fun k => k < w.heap.size) w wr) := hKw
    have HXS : Hid _ := hxs
    have HXA : Hid _ := hxa
    have HDN : Hid (∀ q, dn q <= j) := hdn
    clear hc hk hdr hst hst' hab hP hKw hxs hxa hy hq2 hup2 hjl hdn hK
    go_wp2_with fail
    refine rn.mono ?_
    rintro e w5 ⟨ao5, ac5, ko5, kc5, rfl, hA5, hQ5, hK5⟩
    obtain ⟨V5, N5, hV5, hN5, hb5, hk5, hz5⟩ := zal w5 (nW y ao5 ac5 up2 ko5 q2 kc5) 58
    have hat : Zag (fun k => k < V5.heap.size) V5 ao5 y.attrs := (hA5.atsAt (K' := fun k => k < w5.heap.size) fun g hg => (Zac.out hA5 hg).2).kept hk5 fun k h => ltl h hk5.size
    have rr := zic y ao5 ac5 up2 ko5 q2 kc5 V5 hat HXA.out HXS.out
    have HV5 : Hid (w5.alloc (.cells (nW y ao5 ac5 up2 ko5 q2 kc5) 58) = V5) := hV5
    have HN5 : Hid (w5.heap.size = N5) := hN5
    have HB5 : Hid (V5.heap[N5]? = some (.cells (nW y ao5 ac5 up2 ko5 q2 kc5) 58 (0, 0))) := hb5
    have HK5 : Hid (Kept (fun k => k < wr.heap.size) wr V5) := kt hK5 hk5
    obtain ⟨br, hbr⟩ : ∃ b, zbc y = b := ⟨_, rfl⟩
    rw [hbr] at rr
    have HBR : Hid (zbc y = br) := hbr
    clear rn hA5 hQ5 hK5 hV5 hN5 hk5 hz5 hat hbr
    go_upto_region 9 with (refine wpList_load_row rfl 58 _ rfl N5 rfl 58 (nW y ao5 ac5 up2 ko5 q2 kc5) (0, 0) _ hb5 Tryz.underlying58 rfl (znq _ rfl) ?_)
    rw [HV5.out, HN5.out]
    clear HV5 HN5
    go_wp2_with (refine wpList_load_row rfl 58 _ rfl N5 rfl 58 (nW y ao5 ac5 up2 ko5 q2 kc5) (0, 0) _ hb5 Tryz.underlying58 rfl (znq _ rfl) ?_)
    refine rr.mono ?_
    rintro e w6 ⟨rfl, hK6⟩
    have hb6 : w6.heap[N5]? = some (.cells (nW y ao5 ac5 up2 ko5 q2 kc5) 58 (0, 0)) := (hK6.block N5 (zad HB5.out)).trans HB5.out
    have hKr6 : Kept (fun k => k < wr.heap.size) wr w6 := kt HK5.out hK6
    have HK6 : Hid (Kept (fun k => k < wr.heap.size) wr w6) := hKr6
    clear rr hb5 hK6 HB5 HK5
    cases br with
    | false =>
     have HR : Hid (res = false) := by show res = false; rw [HST.out, HBR.out]; rfl
     clear hb6 hKr6
     go_wp2
     go_ret
     exact ⟨congrArg (fun b => Ending.returned (Value.bool b)) HR.out.symm, kt HKW.out HK6.out⟩
    | true =>
     have g0 : w6.cell? ⟨N5, 0, none⟩ = some (.int .u8 (y.kind : Int)) := by rw [zaa hb6]; rfl
     have g1 : w6.cell? ⟨N5, 1, none⟩ = some (.string ⟨y.name.toArray⟩) := by rw [zaa hb6]; rfl
     have g2 : w6.cell? ⟨N5, 2, none⟩ = some (.string ⟨y.data.toArray⟩) := by rw [zaa hb6]; rfl
     have g3 : w6.cell? ⟨N5, 3, none⟩ = some (.slice ao5 y.attrs.length ac5) := by rw [zaa hb6]; rfl
     have g4 : w6.cell? ⟨N5, 4, none⟩ = some (.int .i64 up2) := by rw [zaa hb6]; rfl
     have g5 : w6.cell? ⟨N5, 5, none⟩ = some (.slice ko5 q2 kc5) := by rw [zaa hb6]; rfl
     have g6 : w6.cell? ⟨N5, 6, none⟩ = some (.int .i64 y.shadow) := by rw [zaa hb6]; rfl
     have g7 : w6.cell? ⟨N5, 7, none⟩ = some (.int .i64 y.host) := by rw [zaa hb6]; rfl
     have g8 : w6.cell? ⟨N5, 8, none⟩ = some (.int .i64 y.content) := by rw [zaa hb6]; rfl
     have g9 : w6.cell? ⟨N5, 9, none⟩ = some (.bool y.fl.a) := by rw [zaa hb6]; rfl
     have g10 : w6.cell? ⟨N5, 10, none⟩ = some (.bool y.fl.b) := by rw [zaa hb6]; rfl
     have g11 : w6.cell? ⟨N5, 11, none⟩ = some (.bool y.fl.c) := by rw [zaa hb6]; rfl
     have g12 : w6.cell? ⟨N5, 12, none⟩ = some (.bool y.fl.d) := by rw [zaa hb6]; rfl
     have g13 : w6.cell? ⟨N5, 13, none⟩ = some (.bool y.fl.e) := by rw [zaa hb6]; rfl
     have hgr : g < wr.heap.size := by obtain ⟨cs, h1, -, -⟩ := HP.out; exact zad h1
     have rp := zp9 y ao5 ac5 up2 ko5 q2 kc5 g n k u hkn hun HAB.out dn la w6 (HP.out.kept hKr6 hgr) hn1 (by have := HDN.out u; omega)
     obtain ⟨bp, hbp⟩ : ∃ b, zcy (dn u) y.kind (la u) = b := ⟨_, rfl⟩
     rw [hbp] at rp
     have HBP : Hid (zcy (dn u) y.kind (la u) = bp) := hbp
     have HGR : Hid (g < wr.heap.size) := hgr
     clear hb6 hKr6 hgr hbp
     go_wp2_with fail
     refine rp.mono ?_
     rintro e w7 ⟨rfl, hP7, hK7⟩
     have HK7 : Hid (Kept (fun q => q < w4.heap.size /\ q ≠ g) w4 w7) := (HK.out.trans (HK6.out.mono fun q h => ltl h.1 HK.out.size)).trans (hK7.mono fun q h => ⟨ltl h.1 (Nat.le_trans HK.out.size HK6.out.size), h.2⟩)
     have HP7 : Hid (PlR w7 g n (upF dn k (dn u + 1)) (upF la u y.kind)) := hP7
     clear rp hP7 hK7 g0 g1 g2 g3 g4 g5 g6 g7 g8 g9 g10 g11 g12 g13
     cases bp with
     | false =>
      have HR : Hid (res = false) := by show res = false; rw [HST.out, HBR.out, HBP.out]; rfl
      go_wp2
      go_ret
      exact ⟨congrArg (fun b => Ending.returned (Value.bool b)) HR.out.symm, HK4.out.trans (HK7.out.mono fun k h => ⟨ltl h HK4.out.size, by have := HG.out; omega⟩)⟩
     | true =>
      have HST2 : Hid (res = stG M (D.drop (j + 1)) (upF dn k (dn u + 1)) (upF la u y.kind)) := by
       have := HST.out
       rw [HBR.out, HBP.out] at this
       exact this
      go_wp2
      go_roundg (m - (j + 1))
      case rel =>
       refine ⟨j + 1, _, _, rfl, by omega, by go_num, fun q => ?_, HST2.out, HP7.out, HK7.out⟩
       unfold upF
       have h1 := HDN.out q
       have h2 := HDN.out u
       split <;> omega
      case measure => omega
   ·have hje : j = m := by omega
    have HR : Hid (res = true) := by
     show res = true
     rw [hst, List.drop_eq_nil_of_le (by rw [HDL.out, hje]; exact Nat.le_refl _)]
     rfl
    have HKW : Hid (Kept (fun k => k < w.heap.size) w wr) := hKw
    have hnl : ¬ ((j : Int) < (m : Int)) := by omega
    clear hst hP hK hKw hdn hje
    go_wp2
    go_ret
    exact ⟨congrArg (fun b => Ending.returned (Value.bool b)) HR.out.symm, HKW.out⟩
end
end Go.Proofs.YtfeinppedejlpaaGreat
