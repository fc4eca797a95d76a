/-
  Nodes as a text, as plain functions on lists of bytes. Parts that are put on a page, one behind the other. Small steps on a page: the end of an element, texts, the beginning of an element; what is void, what is raw. Is a node void, is it raw; the beginning of an element. The beginning of an element, with its attributes. A root's flags as the attributes of its template.
-/
import Derived.Test.YtikaheenjhdpmaaGreatVX1
import Derived.Test.YtikaheenjhdpmaaGreatVB12
import Derived.Test.YtikaheenjhdpmaaGreatVB06
import Derived.Deep.LoopGhost
import Derived.Deep.RegionHeld3
import Derived.Test.YtikaheenjhdpmaaGreatVB16
import Derived.Deep.DeepCutAuto
namespace Go.Proofs.YtikaheenjhdpmaaGreat
section
set_option linter.unusedVariables false
def zpo (a : Atr) : List UInt8 := [32] ++ (a.name ++ ([61, 34] ++ (esc true a.value ++ [34])))
def zcv (l : List Atr) : List UInt8 := l.flatMap zpo
def zdi (nm : List UInt8) (l : List Atr) : List UInt8 := ([60] ++ nm) ++ (zcv l ++ [62])
def zdm (nm : List UInt8) : List UInt8 := [60, 47] ++ (nm ++ [62])
def ztp : List UInt8 := [115, 104, 97, 100, 111, 119, 114, 111, 111, 116, 109, 111, 100, 101]
def zn1 : List UInt8 := [115, 104, 97, 100, 111, 119, 114, 111, 111, 116, 100, 101, 108, 101, 103, 97, 116, 101, 115, 102, 111, 99, 117, 115]
def zm5 : List UInt8 := [115, 104, 97, 100, 111, 119, 114, 111, 111, 116, 115, 101, 114, 105, 97, 108, 105, 122, 97, 98, 108, 101]
def znb : List UInt8 := [115, 104, 97, 100, 111, 119, 114, 111, 111, 116, 115, 108, 111, 116, 97, 115, 115, 105, 103, 110, 109, 101, 110, 116]
def zn2 : List UInt8 := [115, 104, 97, 100, 111, 119, 114, 111, 111, 116, 99, 108, 111, 110, 97, 98, 108, 101]
def zom : List UInt8 := [111, 112, 101, 110]
def zng : List UInt8 := [99, 108, 111, 115, 101, 100]
def zoc : List UInt8 := [109, 97, 110, 117, 97, 108]
def zbp : List UInt8 := [116, 101, 109, 112, 108, 97, 116, 101]
def flA (f : Fg) : List Atr :=
 [⟨ztp, if f.a = true then zng else zom⟩] ++ ((if f.c = true then [⟨zn1, []⟩] else []) ++ ((if f.d = true then [⟨zm5, []⟩] else []) ++ ((if f.b = true then [⟨znb, zoc⟩] else []) ++ (if f.e = true then [⟨zn2, []⟩] else []))))
structure Ask where
 ser : Bool
 A : Nat -> Bool
def isV (x : Nd) : Bool := decide (x.kind = 1) && za7 x.name
def isR (x : Nd) : Bool := decide (x.kind = 1) && zh0 x.name
def zld : List UInt8 := [60, 33, 68, 79, 67, 84, 89, 80, 69, 32]
def zq0 (inn : Nat -> List UInt8) (x : Nd) (i : Nat) (raw : Bool) : List UInt8 :=
 if x.kind = 1 then zdi x.name x.attrs ++ (if za7 x.name = true then [] else inn i ++ zdm x.name)
 else if x.kind = 2 then (if raw = true then x.data else esc false x.data)
 else if x.kind = 3 then [60, 33, 45, 45] ++ (x.data ++ [45, 45, 62])
 else if x.kind = 6 then zld ++ (x.name ++ [62])
 else if x.kind = 4 \/ x.kind = 5 then inn i else []
def zmy (o : Ask) (M : Dm) (q : Nat) : Bool := o.A q || (o.ser && (M.nd q).fl.d)
def zln (o : Ask) (M : Dm) (inn : Nat -> List UInt8) (q : Nat) : List UInt8 :=
 if zmy o M q = true then zdi zbp (flA (M.nd q).fl) ++ (inn q ++ zdm zbp) else []
def zff (o : Ask) (M : Dm) (inn : Nat -> List UInt8) (x : Nd) : List UInt8 := if x.shadow = -1 then [] else zln o M inn x.shadow.toNat
def zfd (x : Nd) (i : Nat) : Nat := if x.content = -1 then i else x.content.toNat
def zgh (M : Dm) (inn : Nat -> List UInt8) (raw : Bool) (l : List Nat) : List UInt8 := l.flatMap fun k => zq0 inn (M.nd k) k raw
def zq2 (o : Ask) (M : Dm) (R : Nat -> List Nat) (inn : Nat -> List UInt8) (i : Nat) : List UInt8 :=
 if isV (M.nd i) = true then [] else zff o M inn (M.nd i) ++ zgh M inn (isR (M.nd (zfd (M.nd i) i))) (R (zfd (M.nd i) i))
def zb0 (o : Ask) (M : Dm) (R : Nat -> List Nat) : Nat -> Nat -> List UInt8
 | 0, _ => []
 | f + 1, i => zq2 o M R (zb0 o M R f) i
theorem zlq (M : Dm) (inn : Nat -> List UInt8) (raw : Bool) (k : Nat) (l : List Nat) : zgh M inn raw (k :: l) = zq0 inn (M.nd k) k raw ++ zgh M inn raw l := by
 unfold zgh; rw [List.flatMap_cons]
theorem zix (l : List Atr) (j : Nat) (h : j < l.length) : zcv (l.take (j + 1)) = zcv (l.take j) ++ zpo l[j] := by
 unfold zcv; rw [List.take_succ_eq_append_getElem h, List.flatMap_append, List.flatMap_singleton]
theorem zrw (l : List Atr) (j : Nat) : (zcv (l.take j)).length <= (zcv l).length := by
 have : zcv l = zcv (l.take j) ++ zcv (l.drop j) := by
  unfold zcv; rw [<- List.flatMap_append, List.take_append_drop]
 rw [this, List.length_append]; omega
end
section
open Go.RowKit
set_option linter.unusedVariables false
set_option maxRecDepth 20000
set_option maxHeartbeats 2000000
def cat (l : List ByteArray) : List UInt8 := l.flatMap fun s => s.data.toList
def Strs (K : Nat -> Prop) (w : World) (g : Nat) (l : List ByteArray) : Prop := K g /\ ∀ j (h : j < l.length), w.cell? ⟨g, j, none⟩ = some (.string l[j])
theorem zqp (l : List ByteArray) (j : Nat) (h : j < l.length) : cat (l.take (j + 1)) = cat (l.take j) ++ l[j].data.toList := by
 unfold cat; rw [List.take_succ_eq_append_getElem h, List.flatMap_append, List.flatMap_singleton]
theorem ztr (l : List ByteArray) (j : Nat) : (cat (l.take j)).length <= (cat l).length := by
 have : cat l = cat (l.take j) ++ cat (l.drop j) := by unfold cat; rw [<- List.flatMap_append, List.take_append_drop]
 rw [this, List.length_append]; omega
theorem zrr (K : Nat -> Prop) (c : Cf) (g n cap : Nat) (ps : List ByteArray) (hn : ps.length = n) (hnn : n <= 1000) (l : List UInt8) (w : World) (h : Pg K w c l) (hs : Strs K w g ps) (hl : l.length + (cat ps).length <= 1099511627776) :
  Calls Tryz.prog 120 #[.pointer (some ⟨c.b, 0, none⟩), .slice (some ⟨g, 0, none⟩) n cap] w fun e w' => e = .returned (.tuple #[]) /\ Pg K w' c (l ++ cat ps) /\ Kept K w w' := by
 obtain ⟨A, hA⟩ : ∃ A, l ++ cat ps = A := ⟨_, rfl⟩
 rw [hA]
 have HA : Hid (l ++ cat ps = A) := hA
 have HP : Hid (Pg K w c l) := h
 have HS : Hid (Strs K w g ps) := hs
 have HL : Hid (l.length + (cat ps).length <= 1099511627776) := hl
 clear hA h hs hl
 go_enter Tryz.func120, Tryz.ntmps120
 go_wp2_with fail
 go_loopg [8] n (fun gm i wr => ∃ j : Nat, gm = n - j /\ j <= n /\ i = .int .i64 j /\ Pg K wr c (l ++ cat (ps.take j)) /\ Kept K w wr)
 case atStart => exact ⟨0, rfl, Nat.zero_le _, rfl, by rw [List.take_zero]; show Pg K w c (l ++ []); rw [List.append_nil]; exact HP.out, Kept.refl _ _⟩
 case round =>
  obtain ⟨j, hg, hj, rfl, hP, hK⟩ := hrel
  clear HP
  by_cases hlt : j < n
  ·have hc : wr.cell? ⟨g, j, none⟩ = some (.string (ps[j]'(by omega))) := (hK.cell (p := ⟨g, j, none⟩) HS.out.1).trans (HS.out.2 j (by omega))
   have e1 := zqp ps j (by omega)
   have hle := ztr ps (j + 1)
   have hz : (ps[j]'(by omega)).data.toList.length = (ps[j]'(by omega)).size := rfl
   have r := ztl K c (l ++ cat (ps.take j)) (ps[j]'(by omega)) wr hP (by
    have := HL.out
    have e2 := congrArg List.length e1
    rw [List.length_append] at e2 ⊢
    omega)
   rw [List.append_assoc, <- e1] at r
   obtain ⟨s, hs⟩ : ∃ s, ps[j]'(by omega) = s := ⟨_, rfl⟩
   rw [hs] at hc r
   have HK : Hid (Kept K w wr) := hK
   clear hP hK e1 hle hz hs
   go_wp2_with fail
   refine r.mono ?_
   rintro e w1 ⟨rfl, hP1, hK1⟩
   have HP1 : Hid (Pg K w1 c (l ++ cat (ps.take (j + 1)))) := hP1
   have HK1 : Hid (Kept K w w1) := HK.out.trans hK1
   clear r hP1 hK1 hc HK
   go_wp2
   go_roundg (n - (j + 1))
   case rel => exact ⟨j + 1, rfl, by omega, by go_num, HP1.out, HK1.out⟩
   case measure => omega
  ·have hjn : j = n := by omega
   have et : ps.take j = ps := by rw [hjn, <- hn, List.take_length]
   rw [et, HA.out] at hP
   have HP1 : Hid (Pg K wr c A) := hP
   have HK : Hid (Kept K w wr) := hK
   clear hP hK et hjn
   go_wp2
   go_end0
   exact ⟨rfl, HP1.out, HK.out⟩
end
section
open Go.RowKit
set_option linter.unusedVariables false
set_option maxRecDepth 100000
set_option maxHeartbeats 4000000
theorem zae (X : World) (cs : Array Value) (t : TypeId) : ∃ V N, X.alloc (.cells cs t) = V /\ X.heap.size = N /\ V.heap[N]? = some (.cells cs t (0, 0)) /\ Kept (fun k => k < X.heap.size) X V /\ V.heap.size = X.heap.size + 1 :=
 ⟨_, _, rfl, rfl, heap_alloc_new X _, (Kept.refl _ X).alloc (fun _ h => h) _, by simp⟩
theorem zc3 (K : Nat -> Prop) (c : Cf) (ps : List ByteArray) (cs : Array Value) (hcs : cs.toList = ps.map Value.string) (n : Nat) (hn : ps.length = n) (hnn : n <= 1000) (l : List UInt8) (w : World) (h : Pg K w c l) (hl : l.length + (cat ps).length <= 1099511627776) :
  Calls Tryz.prog 120 #[.pointer (some ⟨c.b, 0, none⟩), .slice (some ⟨w.heap.size, 0, none⟩) n n] (w.alloc (.cells cs 9)) fun e w' => e = .returned (.tuple #[]) /\ Pg K w' c (l ++ cat ps) /\ Kept K w w' := by
 obtain ⟨V, N, hV, hN, hb, hk, hz⟩ := zae w cs 9
 rw [hV, hN]
 have hP := h.up hk
 refine (zrr _ c N n n ps hn hnn l V hP ⟨.inr ⟨by omega, by omega⟩, fun j hj => ?_⟩ hl).mono ?_
 ·rw [zaa hb, <- Array.getElem?_toList, hcs, List.getElem?_map, List.getElem?_eq_getElem hj]; rfl
 ·rintro e w' ⟨rfl, hP', hk'⟩
  exact ⟨rfl, hP'.less fun k h => .inl h, (hk.mono h.lt).trans (hk'.mono fun k h => .inl h)⟩
theorem zjy (K : Nat -> Prop) (c : Cf) (nm : List UInt8) (l : List UInt8) (w : World) (h : Pg K w c l) (hl : l.length + (zdm nm).length <= 1099511627776) :
  Calls Tryz.prog 173 #[.pointer (some ⟨c.b, 0, none⟩), .string ⟨nm.toArray⟩] w fun e w' => e = .returned (.tuple #[]) /\ Pg K w' c (l ++ zdm nm) /\ Kept K w w' := by
 have r := zc3 K c [⟨#[60, 47]⟩, ⟨nm.toArray⟩, ⟨#[62]⟩] #[.string ⟨#[60, 47]⟩, .string ⟨nm.toArray⟩, .string ⟨#[62]⟩] rfl 3 rfl (by decide) l w h hl
 have e : cat [⟨#[60, 47]⟩, ⟨nm.toArray⟩, ⟨#[62]⟩] = zdm nm := by simp [cat, zdm]
 rw [e] at r
 clear h hl e
 go_enter Tryz.func173, Tryz.ntmps173
 go_wp2_with fail
 refine r.mono ?_
 rintro e w1 ⟨rfl, hP, hK⟩
 go_wp2
 go_end0
 exact ⟨rfl, hP, hK⟩
theorem bits (l : List UInt8) : (⟨l.toArray⟩ : ByteArray).data.toList = l := rfl
theorem zpq (K : Nat -> Prop) (c : Cf) (d : List UInt8) (raw : Bool) (l : List UInt8) (w : World) (h : Pg K w c l) (hd : d.length < 1000000) (hl : l.length + (if raw = true then d else esc false d).length <= 1099511627776) :
  Calls Tryz.prog 119 #[.pointer (some ⟨c.b, 0, none⟩), .string ⟨d.toArray⟩, .bool raw] w fun e w' => e = .returned (.tuple #[]) /\ Pg K w' c (l ++ (if raw = true then d else esc false d)) /\ Kept K w w' := by
 cases raw with
 | true =>
  have r := zc3 K c [⟨d.toArray⟩] #[.string ⟨d.toArray⟩] rfl 1 rfl (by decide) l w h (by simpa [cat] using hl)
  have e : cat [⟨d.toArray⟩] = d := by simp [cat]
  rw [e] at r
  rw [if_pos rfl]
  clear h hl e
  go_enter Tryz.func119, Tryz.ntmps119
  go_wp2_with fail
  refine r.mono ?_
  rintro e w1 ⟨rfl, hP, hK⟩
  go_wp2
  go_end0
  exact ⟨rfl, hP, hK⟩
 | false =>
  rw [if_neg (by decide)] at hl ⊢
  have r1 := zpj ⟨d.toArray⟩ (fun k => k < w.heap.size) w (fun k h => h) hd
  rw [bits] at r1
  have R2 : Hid (∀ V, Kept (fun k => k < w.heap.size) w V -> Calls Tryz.prog 120 #[.pointer (some ⟨c.b, 0, none⟩), .slice (some ⟨V.heap.size, 0, none⟩) 1 1] (V.alloc (.cells #[.string ⟨(esc false d).toArray⟩] 9)) fun e w' => e = .returned (.tuple #[]) /\ Pg K w' c (l ++ esc false d) /\ Kept K w w') := fun V hV => by
   have hP := (h.up hV).less (K := K) fun k h => .inl h
   have r := zc3 K c [⟨(esc false d).toArray⟩] #[.string ⟨(esc false d).toArray⟩] rfl 1 rfl (by decide) l V hP (by simpa [cat] using hl)
   have e : cat [⟨(esc false d).toArray⟩] = esc false d := by simp [cat]
   rw [e] at r
   exact r.mono fun e w' h' => ⟨h'.1, h'.2.1, (hV.mono h.lt).trans h'.2.2⟩
  clear h hl
  go_enter Tryz.func119, Tryz.ntmps119
  go_wp2_with fail
  refine r1.mono ?_
  rintro e V ⟨rfl, hV⟩
  have r2 := R2.out V hV
  clear r1 hV R2
  go_wp2_with fail
  refine r2.mono ?_
  rintro e w1 ⟨rfl, hP, hK⟩
  clear r2
  go_wp2
  go_end0
  exact ⟨rfl, hP, hK⟩
theorem zr1 (s : ByteArray) (K : Nat -> Prop) (w : World) :
  Calls Tryz.prog 121 #[.string s] w fun e w' => e = .returned (.bool (zh0 s.toList)) /\ Kept K w w' := by
 go_enter Tryz.func121, Tryz.ntmps121
 go_wp2
 all_goals first | (simp_all; done) | (go_ret; exact ⟨by simp [zh0, zuh, *], Kept.refl _ _⟩)
end
section
open Go.RowKit
set_option linter.unusedVariables false
set_option maxRecDepth 100000
set_option maxHeartbeats 4000000
abbrev nW (x : Nd) (ao : Option Addr) (ac : Nat) (up : Int) (ko : Option Addr) (kn kc : Nat) : Array Value := zks x.kind ⟨x.name.toArray⟩ ⟨x.data.toArray⟩ ao x.attrs.length ac up ko kn kc x.shadow x.host x.content x.fl
theorem lis (l : List UInt8) : (⟨l.toArray⟩ : ByteArray).toList = l := by rw [ByteArray.toList_eq]
theorem zc7 (x : Nd) (ao : Option Addr) (ac : Nat) (up : Int) (ko : Option Addr) (kn kc : Nat) (w : World) :
  Calls Tryz.prog 116 #[.agg (nW x ao ac up ko kn kc)] w fun e w' => e = .returned (.bool (isV x)) /\ Kept (fun k => k < w.heap.size) w w' := by
 obtain ⟨V, N, hV, hN, hb, hk, hsz⟩ := zae w (nW x ao ac up ko kn kc) 46
 have c0 : V.cell? ⟨N, 0, none⟩ = some (.int .u8 (x.kind : Int)) := by rw [zaa hb]; rfl
 have c1 : V.cell? ⟨N, 1, none⟩ = some (.string ⟨x.name.toArray⟩) := by rw [zaa hb]; rfl
 have rv := zho ⟨x.name.toArray⟩ (fun k => k < V.heap.size) V
 rw [lis] at rv
 have HK : Hid (Kept (fun k => k < w.heap.size) w V) := hk
 have HV : Hid (w.alloc (.cells (nW x ao ac up ko kn kc) 46) = V) := hV
 have HN : Hid (w.heap.size = N) := hN
 obtain ⟨r, hr⟩ : ∃ r, isV x = r := ⟨_, rfl⟩
 have HR : Hid (isV x = r) := hr
 obtain ⟨v, hv⟩ : ∃ v, za7 x.name = v := ⟨_, rfl⟩
 rw [hv] at rv
 have HVV : Hid (za7 x.name = v) := hv
 rw [hr]
 clear hk hV hN hb hsz hr hv
 by_cases ck : x.kind = 1
 ·have e1 : ((x.kind : Int) == 1) = true := by rw [ck]; rfl
  have HE : Hid (r = v) := by show r = v; rw [<- HR.out, <- HVV.out]; simp [isV, ck]
  clear HR HVV ck
  go_enter Tryz.func116, Tryz.ntmps116
  go_upto_region 1 with fail
  rw [HV.out, HN.out]
  clear HV HN
  go_wp2_with fail
  refine rv.mono ?_
  rintro e w1 ⟨rfl, hk1⟩
  have HK1 : Hid (Kept (fun k => k < w.heap.size) w w1) := HK.out.trans (hk1.mono fun k h => ltl h HK.out.size)
  clear rv hk1 c0 c1
  go_wp2
  go_ret
  exact ⟨by rw [HE.out]; rfl, HK1.out⟩
 ·have e1 : ((x.kind : Int) == 1) = false := by simp; omega
  have HE : Hid (r = false) := by show r = false; rw [<- HR.out]; simp [isV, ck]
  clear HR HVV ck rv
  go_enter Tryz.func116, Tryz.ntmps116
  go_upto_region 1 with fail
  rw [HV.out, HN.out]
  clear HV HN
  go_wp2
  go_ret
  exact ⟨by rw [HE.out]; rfl, HK.out⟩
theorem zhu (x : Nd) (ao : Option Addr) (ac : Nat) (up : Int) (ko : Option Addr) (kn kc : Nat) (w : World) :
  Calls Tryz.prog 66 #[.agg (nW x ao ac up ko kn kc)] w fun e w' => e = .returned (.bool (isR x)) /\ Kept (fun k => k < w.heap.size) w w' := by
 obtain ⟨V, N, hV, hN, hb, hk, hsz⟩ := zae w (nW x ao ac up ko kn kc) 46
 have c0 : V.cell? ⟨N, 0, none⟩ = some (.int .u8 (x.kind : Int)) := by rw [zaa hb]; rfl
 have c1 : V.cell? ⟨N, 1, none⟩ = some (.string ⟨x.name.toArray⟩) := by rw [zaa hb]; rfl
 have rv := zr1 ⟨x.name.toArray⟩ (fun k => k < V.heap.size) V
 rw [lis] at rv
 have HK : Hid (Kept (fun k => k < w.heap.size) w V) := hk
 have HV : Hid (w.alloc (.cells (nW x ao ac up ko kn kc) 46) = V) := hV
 have HN : Hid (w.heap.size = N) := hN
 obtain ⟨r, hr⟩ : ∃ r, isR x = r := ⟨_, rfl⟩
 have HR : Hid (isR x = r) := hr
 obtain ⟨v, hv⟩ : ∃ v, zh0 x.name = v := ⟨_, rfl⟩
 rw [hv] at rv
 have HVV : Hid (zh0 x.name = v) := hv
 rw [hr]
 clear hk hV hN hb hsz hr hv
 by_cases ck : x.kind = 1
 ·have e1 : ((x.kind : Int) == 1) = true := by rw [ck]; rfl
  have HE : Hid (r = v) := by show r = v; rw [<- HR.out, <- HVV.out]; simp [isR, ck]
  clear HR HVV ck
  go_enter Tryz.func66, Tryz.ntmps66
  go_upto_region 1 with fail
  rw [HV.out, HN.out]
  clear HV HN
  go_wp2_with fail
  refine rv.mono ?_
  rintro e w1 ⟨rfl, hk1⟩
  have HK1 : Hid (Kept (fun k => k < w.heap.size) w w1) := HK.out.trans (hk1.mono fun k h => ltl h HK.out.size)
  clear rv hk1 c0 c1
  go_wp2
  go_ret
  exact ⟨by rw [HE.out]; rfl, HK1.out⟩
 ·have e1 : ((x.kind : Int) == 1) = false := by simp; omega
  have HE : Hid (r = false) := by show r = false; rw [<- HR.out]; simp [isR, ck]
  clear HR HVV ck rv
  go_enter Tryz.func66, Tryz.ntmps66
  go_upto_region 1 with fail
  rw [HV.out, HN.out]
  clear HV HN
  go_wp2
  go_ret
  exact ⟨by rw [HE.out]; rfl, HK.out⟩
end
section
open Go.RowKit
set_option linter.unusedVariables false
set_option maxRecDepth 100000
set_option maxHeartbeats 4000000
section
variable {P : Program} {ops : Array Oper} {Q : Exit -> Act -> World -> Prop} {md : Region.Mode} {S : World -> Prop} {fuel : Nat} {listed : Array Bool} {a : Act} {w : World}
theorem opY (i : Nat) {o : Oper} (hi : ops[i]? = some o) (hr : Region.ready md ops listed = [i]) (hw : Region.wanted o (yielded ops a.tmps) = true)
  (h : ∀ K' : Act -> World -> Prop, Hid (∀ a w, S w -> (S w -> wpAnyH P md ops Q S fuel (listed.setIfInBounds i true) a w) -> K' a w) -> Oper.wp P o a w K' Q) : wpAnyH P md ops Q S (fuel + 1) listed a w := by
 refine wpAnyH_ready hr (by simp) (AllReadyH.cons hi (fun Kx hK => ?_) AllReadyH.nil)
 rw [if_pos hw]
 exact h Kx hK.out
end
theorem zt4 (args : Array Value) (X : World) : (callFunc 196 args).run Tryz.prog X = .ok (.enter 196 args) X := zay Tryz.func196 (by kernel_rfl) (c := _) rfl args X
theorem zti (args : Array Value) (X : World) : (callFunc 120 args).run Tryz.prog X = .ok (.enter 120 args) X := zay Tryz.func120 (by kernel_rfl) (c := _) rfl args X
theorem zf2 (K : Nat -> Prop) (c : Cf) (nm : List UInt8) (at' : List Atr) (ao : Option Addr) (n ac : Nat) (hn : at'.length = n) (hnn : n <= 1000) (hv : ∀ a ∈ at', a.value.length < 1000000) (l : List UInt8) (w : World) (h : Pg K w c l) (ha : Zah K w ao at') (hl : l.length + (zdi nm at').length <= 1099511627776) :
  Calls Tryz.prog 171 #[.pointer (some ⟨c.b, 0, none⟩), .string ⟨nm.toArray⟩, .slice ao n ac] w fun e w' => e = .returned (.tuple #[]) /\ Pg K w' c (l ++ zdi nm at') /\ Kept K w w' := by
 have hlt := h.lt
 have e0 : cat [⟨#[60]⟩, ⟨nm.toArray⟩] = [60] ++ nm := by simp [cat]
 have hls : (zdi nm at').length = ([60] ++ nm).length + (zcv at').length + 1 := by unfold zdi; simp; omega
 have r := zc3 K c [⟨#[60]⟩, ⟨nm.toArray⟩] #[.string ⟨#[60]⟩, .string ⟨nm.toArray⟩] rfl 2 rfl (by decide) l w h (by rw [e0]; omega)
 rw [e0] at r
 obtain ⟨A, hA⟩ : ∃ A, l ++ zdi nm at' = A := ⟨_, rfl⟩
 rw [hA]
 obtain ⟨B, hB⟩ : ∃ B, l ++ ([60] ++ nm) = B := ⟨_, rfl⟩
 have hBA : (B ++ zcv at') ++ [62] = A := by rw [<- hB, <- hA]; unfold zdi; simp
 have hBl : B.length + (zcv at').length + 1 <= 1099511627776 := by have := congrArg List.length hB; rw [List.length_append] at this; omega
 rw [hB] at r
 have HBA : Hid ((B ++ zcv at') ++ [62] = A) := hBA
 have HBL : Hid (B.length + (zcv at').length + 1 <= 1099511627776) := hBl
 have HA : Hid (Zah K w ao at') := ha
 have HV : Hid (∀ a ∈ at', a.value.length < 1000000) := hv
 have HN : Hid (at'.length = n) := hn
 have HLT : Hid (∀ k, K k -> k < w.heap.size) := hlt
 clear h ha hl hls e0 hA hB hBA hBl hv hn hlt
 go_enter Tryz.func171, Tryz.ntmps171
 go_wp2_with fail
 refine r.mono ?_
 rintro e w1 ⟨rfl, hP1, hK1⟩
 have HP1 : Hid (Pg K w1 c B) := hP1
 have HK1 : Hid (Kept K w w1) := hK1
 clear r hP1 hK1
 go_wp2_with fail
 go_loopg [14] n (fun gm i wr => ∃ j : Nat, gm = n - j /\ j <= n /\ i = .int .i64 j /\ Pg K wr c (B ++ zcv (at'.take j)) /\ Kept K w wr)
 case atStart => exact ⟨0, rfl, Nat.zero_le _, rfl, by rw [List.take_zero]; show Pg K w1 c (B ++ []); rw [List.append_nil]; exact HP1.out, HK1.out⟩
 case round =>
  obtain ⟨j, hg, hj, rfl, hP, hK⟩ := hrel
  clear HP1 HK1
  by_cases hlt : j < n
  ·have hl : j < at'.length := by rw [HN.out]; exact hlt
   obtain ⟨g, o, hg', hKg, c0, c1⟩ := HA.out j hl
   have d0 : wr.cell? ⟨g, o + j * 2, none⟩ = some (sv at'[j].name) := by rw [hK.cell (p := ⟨g, o + j * 2, none⟩) hKg]; exact c0
   have d1 : wr.cell? ⟨g, o + j * 2 + 1, none⟩ = some (sv at'[j].value) := by rw [hK.cell (p := ⟨g, o + j * 2 + 1, none⟩) hKg]; exact c1
   subst hg'
   have hval := HV.out at'[j] (List.getElem_mem hl)
   have hstep := zix at' j hl
   have hle := zrw at' (j + 1)
   obtain ⟨x, hx⟩ : ∃ x, at'[j] = x := ⟨_, rfl⟩
   rw [hx] at d0 d1 hval hstep
   obtain ⟨V, N, hV, hN, hb, hk, hz⟩ := zae wr #[sv x.name, sv x.value] 93
   have hPV := hP.up hk
   obtain ⟨K2, hK2⟩ : ∃ K2 : Nat -> Prop, (fun k => K k \/ (wr.heap.size <= k /\ k < V.heap.size)) = K2 := ⟨_, rfl⟩
   rw [hK2] at hPV
   have hNK : K2 N := by rw [<- hK2]; exact .inr ⟨by omega, by omega⟩
   have hKK : ∀ k, K k -> K2 k := fun k h => by rw [<- hK2]; exact .inl h
   have b0 : V.cell? ⟨N, 0, none⟩ = some (sv x.name) := by rw [zaa hb]; rfl
   have b1 : V.cell? ⟨N, 1, none⟩ = some (sv x.value) := by rw [zaa hb]; rfl
   have HB0 : Hid (∀ Y, Kept K2 V Y -> Y.cell? ⟨N, 0, none⟩ = some (sv x.name)) := fun Y hY => (hY.cell (p := ⟨N, 0, none⟩) hNK).trans b0
   have HB1 : Hid (∀ Y, Kept K2 V Y -> Y.cell? ⟨N, 1, none⟩ = some (sv x.value)) := fun Y hY => (hY.cell (p := ⟨N, 1, none⟩) hNK).trans b1
   have HVV : Hid (wr.alloc (.cells #[sv x.name, sv x.value] 93) = V) := hV
   have HNN : Hid (wr.heap.size = N) := hN
   have HPV : Hid (Pg K2 V c (B ++ zcv (at'.take j))) := hPV
   have HKV : Hid (Kept K w V) := hK.trans (hk.mono fun k h => ltl (HLT.out k h) hK.size)
   have HS : Hid (zcv (at'.take (j + 1)) = zcv (at'.take j) ++ zpo x) := hstep
   have HLE : Hid ((zcv (at'.take (j + 1))).length <= (zcv at').length) := hle
   have HKK : Hid (∀ k, K k -> K2 k) := hKK
   clear hP hK hx hV hN hb hk hz hPV hK2 hNK hKK b0 b1 c0 c1 hKg hstep hle
   go_upto_region 4 with fail
   rw [HVV.out, HNN.out]
   clear HVV HNN d0 d1
   refine wp_region_held_drew (S := fun Y => Kept K2 V Y) (by kernel_rfl) ((Kept.refl _ V).drew) (fun hHeld => ?_)
   refine tkH 0 18 (.pointer (some ⟨c.b, 0, none⟩)) rfl rfl (by kernel_rfl) (by rfl) (by intro Y hY; go_simp; try with_reducible rfl) (fun _ _ _ h => h) hHeld ?_
   try simp only [Act.put, List.setIfInBounds_toArray, List.set_cons_zero, List.set_cons_succ]
   refine tkH 1 19 (.pointer (some ⟨N, 0, none⟩)) rfl rfl (by kernel_rfl) (by rfl) (by intro Y hY; go_simp; try with_reducible rfl) (fun _ _ _ h => h) hHeld ?_
   try simp only [Act.put, List.setIfInBounds_toArray, List.set_cons_zero, List.set_cons_succ]
   refine tkH 2 20 (sv x.name) rfl rfl (by kernel_rfl) (by rfl) (by intro Y hY; have hc := HB0.out Y hY; go_simp; try with_reducible rfl) (fun _ _ _ h => h) hHeld ?_
   try simp only [Act.put, List.setIfInBounds_toArray, List.set_cons_zero, List.set_cons_succ]
   refine tkH 3 21 (.pointer (some ⟨N, 1, none⟩)) rfl rfl (by kernel_rfl) (by rfl) (by intro Y hY; go_simp; try with_reducible rfl) (fun _ _ _ h => h) hHeld ?_
   try simp only [Act.put, List.setIfInBounds_toArray, List.set_cons_zero, List.set_cons_succ]
   refine tkH 4 22 (sv x.value) rfl rfl (by kernel_rfl) (by rfl) (by intro Y hY; have hc := HB1.out Y hY; go_simp; try with_reducible rfl) (fun _ _ _ h => h) hHeld ?_
   try simp only [Act.put, List.setIfInBounds_toArray, List.set_cons_zero, List.set_cons_succ]
   have rv := zof ⟨x.value.toArray⟩ (fun k => k < V.heap.size) V.drew (fun k h => h) hval
   refine clH 5 23 196 #[sv x.value] rfl rfl (by kernel_rfl) (by rfl) rfl (by first | rfl | (simp [Act.eval]; done) | (simp [Act.eval, Act.put]; done)) (zt4 _ _) rv ?_
   rintro e Y ⟨rfl, hk9⟩
   have hkY : Kept (fun k => k < V.heap.size) V Y := ((Kept.refl _ V).drew).trans hk9
   have hPY := (HPV.out.up hkY).less (K := K2) fun k h => .inl h
   refine ⟨_, rfl, hkY.mono HPV.out.lt, fun hHeld2 => ?_⟩
   replace hHeld := hHeld2
   clear hHeld2
   try simp only [Act.put, List.setIfInBounds_toArray, List.set_cons_zero, List.set_cons_succ]
   refine opY 6 rfl (by kernel_rfl) (by rfl) (fun K' hK' => ?_)
   unfold Oper.wp
   go_simp
   refine hK'.out _ _ (hHeld.alloc hPY.lt _) (fun hHeld2 => ?_)
   clear hK'
   try simp only [Act.put, List.setIfInBounds_toArray, List.set_cons_zero, List.set_cons_succ]
   have ec : cat [⟨#[32]⟩, ⟨x.name.toArray⟩, ⟨#[61, 34]⟩, ⟨(esc true x.value).toArray⟩, ⟨#[34]⟩] = zpo x := by simp [cat, zpo]
   have el : (B ++ zcv (at'.take j)).length + (zpo x).length <= 1099511627776 := by
    have h1 := congrArg List.length HS.out
    have h2 := HLE.out
    have h3 := HBL.out
    rw [List.length_append] at h1 ⊢
    omega
   have rp := zc3 K2 c [⟨#[32]⟩, ⟨x.name.toArray⟩, ⟨#[61, 34]⟩, ⟨(esc true x.value).toArray⟩, ⟨#[34]⟩] #[.string ⟨#[32]⟩, sv x.name, .string ⟨#[61, 34]⟩, .string ⟨(esc true x.value).toArray⟩, .string ⟨#[34]⟩] rfl 5 rfl (by decide) (B ++ zcv (at'.take j)) Y hPY (by rw [ec]; exact el)
   rw [ec, List.append_assoc, <- HS.out] at rp
   refine clH 7 25 120 #[.pointer (some ⟨c.b, 0, none⟩), .slice (some ⟨Y.heap.size, 0, none⟩) 5 5] rfl rfl (by kernel_rfl) (by rfl) rfl (by first | rfl | (simp [Act.eval]; done) | (simp [Act.eval, Act.put]; done)) (zti _ _) rp ?_
   rintro e Z ⟨rfl, hPZ, hkZ⟩
   refine ⟨_, rfl, hHeld.trans hkZ, fun hHeld3 => ?_⟩
   try simp only [Act.put, List.setIfInBounds_toArray, List.set_cons_zero, List.set_cons_succ]
   refine wpAnyH_done (by kernel_rfl) ?_ _
   have HPZ : Hid (Pg K Z c (B ++ zcv (at'.take (j + 1)))) := hPZ.less HKK.out
   have HKZ : Hid (Kept K w Z) := HKV.out.trans (hHeld3.mono HKK.out)
   clear hHeld hHeld2 hHeld3 hPZ hkZ rp el ec rv hk9 hkY hPY HPV HB0 HB1 HKV HKK HS HLE
   go_wp2
   go_roundg (n - (j + 1))
   case rel => exact ⟨j + 1, rfl, by omega, by go_num, HPZ.out, HKZ.out⟩
   case measure => omega
  ·have hjn : j = n := by omega
   have et : at'.take j = at' := by rw [hjn, <- HN.out, List.take_length]
   rw [et] at hP
   have r := zc3 K c [⟨#[62]⟩] #[.string ⟨#[62]⟩] rfl 1 rfl (by decide) (B ++ zcv at') wr hP (by have := HBL.out; rw [List.length_append]; simp [cat]; omega)
   have ec : cat [⟨#[62]⟩] = [62] := by simp [cat]
   rw [ec, HBA.out] at r
   have HK : Hid (Kept K w wr) := hK
   clear hP hK et hjn ec
   go_wp2_with fail
   refine r.mono ?_
   rintro e w2 ⟨rfl, hP2, hK2⟩
   have HP2 : Hid (Pg K w2 c A) := hP2
   have HK2 : Hid (Kept K w w2) := HK.out.trans hK2
   clear r hP2 hK2 HK
   go_wp2
   go_end0
   exact ⟨rfl, HP2.out, HK2.out⟩
end
section
open Go.RowKit
set_option linter.unusedVariables false
set_option maxRecDepth 100000
set_option maxHeartbeats 4000000
def wr0 (fa : Bool) : List Atr := [⟨ztp, if fa = true then zng else zom⟩]
def wrN (l : List Atr) (q : Bool) (n v : List UInt8) : List Atr := l ++ (if q = true then [⟨n, v⟩] else [])
theorem zs8 (f : Fg) : wrN (wrN (wrN (wrN (wr0 f.a) f.c zn1 []) f.d zm5 []) f.b znb zoc) f.e zn2 [] = flA f := by
 unfold wrN wr0 flA; simp only [List.append_assoc]
def Zfn (K : Nat -> Prop) (W : World) (l : List Atr) (v : Value) (wx : World) : Prop := ∃ ao cap, v = .slice ao l.length cap /\ Zad K wx 93 2 ao l.length cap (zab l) /\ Kept K W wx
theorem Zfn.app {K : Nat -> Prop} {W : World} {l : List Atr} {ao : Option Addr} {cap : Nat} {wx : World} (hK : ∀ k, K k -> k < W.heap.size) (ho : Zad K wx 93 2 ao l.length cap (zab l)) (hk : Kept K W wx) (hn : l.length <= 1000) (S T : ByteArray) :
  ∃ ao' cap' w', (Builtin.append_ #[42, 42] 42 #[.slice ao l.length cap, .slice (some ⟨wx.heap.size, 0, none⟩) 1 1]).run Tryz.prog (wx.alloc (.cells #[.string S, .string T] 93)) = .ok (.slice ao' (l.length + 1) cap') w' /\ Zfn K W (l ++ [⟨S.data.toList, T.data.toList⟩]) (.slice ao' (l.length + 1) cap') w' := by
 obtain ⟨ao', cap', w', hr, ho', hk'⟩ := zun ho (fun k h => ltl (hK k h) hk.size) (by omega) S T
 rw [ByteArray.toList_eq, ByteArray.toList_eq] at ho'
 exact ⟨ao', cap', w', hr, ao', cap', by rw [List.length_append]; rfl, by rw [List.length_append]; exact ho', hk.trans hk'⟩
theorem zfr (f : Fg) (w : World) :
  Calls Tryz.prog 172 #[fgV f] w fun e w' => ∃ ao cap, e = .returned (.slice ao (flA f).length cap) /\ Zad (fun k => k < w.heap.size) w' 93 2 ao (flA f).length cap (zab (flA f)) /\ Kept (fun k => k < w.heap.size) w w' := by
 obtain ⟨fa, fb, fc, fd, fe⟩ := f
 rw [<- zs8]
 obtain ⟨W, N, hW, hN, hb, hkW, hz⟩ := zae w #[.bool fa, .bool fb, .bool fc, .bool fd, .bool fe] 44
 have C : ∀ X, Kept (fun k => k < W.heap.size) W X -> X.cell? ⟨N, 0, none⟩ = some (.bool fa) /\ X.cell? ⟨N, 1, none⟩ = some (.bool fb) /\ X.cell? ⟨N, 2, none⟩ = some (.bool fc) /\ X.cell? ⟨N, 3, none⟩ = some (.bool fd) /\ X.cell? ⟨N, 4, none⟩ = some (.bool fe) := fun X hX => by
  have h : X.heap[N]? = some (.cells #[.bool fa, .bool fb, .bool fc, .bool fd, .bool fe] 44 (0, 0)) := (hX.block N (zac hb)).trans hb
  refine ⟨?_, ?_, ?_, ?_, ?_⟩ <;> (rw [zaa h]; rfl)
 have HC : Hid _ := C
 obtain ⟨c0, -, -, -, -⟩ := C W (Kept.refl _ _)
 have HW : Hid (w.alloc (.cells #[.bool fa, .bool fb, .bool fc, .bool fd, .bool fe] 44) = W) := hW
 have HN : Hid (w.heap.size = N) := hN
 have HKW : Hid (Kept (fun k => k < w.heap.size) w W) := hkW
 clear C hW hN hb hkW hz
 obtain ⟨l0, hl0⟩ : ∃ l, wr0 fa = l := ⟨_, rfl⟩
 rw [hl0]
 have HL0 : Hid (wr0 fa = l0) := hl0
 have HN0 : Hid (l0.length = 1) := by show l0.length = 1; rw [<- hl0]; rfl
 have n0 : l0.length <= 1 := by rw [HN0.out]; exact Nat.le_refl _
 clear hl0
 obtain ⟨l1, hl1⟩ : ∃ l, wrN l0 fc zn1 [] = l := ⟨_, rfl⟩
 rw [hl1]
 have Hl1 : Hid (wrN l0 fc zn1 [] = l1) := hl1
 have n1 : l1.length <= l0.length + 1 := by rw [<- hl1]; unfold wrN; rw [List.length_append]; split <;> simp
 clear hl1
 obtain ⟨l2, hl2⟩ : ∃ l, wrN l1 fd zm5 [] = l := ⟨_, rfl⟩
 rw [hl2]
 have Hl2 : Hid (wrN l1 fd zm5 [] = l2) := hl2
 have n2 : l2.length <= l1.length + 1 := by rw [<- hl2]; unfold wrN; rw [List.length_append]; split <;> simp
 clear hl2
 obtain ⟨l3, hl3⟩ : ∃ l, wrN l2 fb znb zoc = l := ⟨_, rfl⟩
 rw [hl3]
 have Hl3 : Hid (wrN l2 fb znb zoc = l3) := hl3
 have n3 : l3.length <= l2.length + 1 := by rw [<- hl3]; unfold wrN; rw [List.length_append]; split <;> simp
 clear hl3
 obtain ⟨l4, hl4⟩ : ∃ l, wrN l3 fe zn2 [] = l := ⟨_, rfl⟩
 rw [hl4]
 have Hl4 : Hid (wrN l3 fe zn2 [] = l4) := hl4
 have n4 : l4.length <= l3.length + 1 := by rw [<- hl4]; unfold wrN; rw [List.length_append]; split <;> simp
 clear hl4
 go_enter Tryz.func172, Tryz.ntmps172
 go_upto_region 2 with fail
 rw [HW.out, HN.out]
 clear HW HN
 go_upto_if 6 with fail
 go_cut [3] (fun v wx => v = .string ⟨(if fa = true then zng else zom).toArray⟩ /\ wx = W)
 case first =>
  cases fa with
  | true =>
   go_wp2_with fail
   go_meet
   case rel => exact ⟨rfl, rfl⟩
  | false =>
   go_wp2_with fail
   go_meet
   case rel => exact ⟨rfl, rfl⟩
 case rest =>
 obtain ⟨rfl, rfl⟩ := hcut
 clear c0
 obtain ⟨md, hmd⟩ : ∃ m, (if fa = true then zng else zom) = m := ⟨_, rfl⟩
 rw [hmd]
 obtain ⟨V, N1, hV, hN1, hb1, hk1, hz1⟩ := zae wc #[.string ⟨#[115, 104, 97, 100, 111, 119, 114, 111, 111, 116, 109, 111, 100, 101]⟩, .string ⟨md.toArray⟩] 93
 have w0 : Zfn (fun k => k < wc.heap.size) wc l0 (.slice (some ⟨N1, 0, none⟩) 1 1) V := by
  refine ⟨some ⟨N1, 0, none⟩, 1, by rw [HN0.out], ⟨?_, ?_, ?_, .inr ⟨N1, _, rfl, ?_, hb1, ?_, ?_⟩⟩, hk1⟩
  ·rw [<- HL0.out]; rfl
  ·rw [HN0.out]; exact Nat.le_refl _
  ·unfold maxLen; omega
  ·show ¬ N1 < wc.heap.size; omega
  ·rfl
  ·rw [<- HL0.out]; unfold wr0; rw [hmd]; rfl
 have HW0 : Hid _ := w0
 have HV : Hid (wc.alloc (.cells #[.string ⟨#[115, 104, 97, 100, 111, 119, 114, 111, 111, 116, 109, 111, 100, 101]⟩, .string ⟨md.toArray⟩] 93) = V) := hV
 have HN1 : Hid (wc.heap.size = N1) := hN1
 obtain ⟨-, -, c2, -, -⟩ := HC.out V hk1
 clear w0 hmd hV hN1 hb1 hk1 hz1 HL0
 go_upto_region 5 with fail
 rw [HV.out, HN1.out]
 clear HV HN1
 have W0 : Hid (∃ v wx, v = Value.slice (some ⟨N1, 0, none⟩) 1 1 /\ wx = V /\ Zfn (fun k => k < wc.heap.size) wc l0 v wx) := ⟨_, _, rfl, rfl, HW0.out⟩
 clear W0
 obtain ⟨ao0, cap0, e0, ho0, hk0⟩ := HW0.out
 clear HW0
 have HO0 : Hid (Zad (fun k => k < wc.heap.size) V 93 2 ao0 l0.length cap0 (zab l0)) := ho0
 have HK0 : Hid (Kept (fun k => k < wc.heap.size) wc V) := hk0
 rw [e0]
 clear e0 ho0 hk0
 go_upto_if 11 with fail
 go_cut [4] (fun v wx => Zfn (fun k => k < wc.heap.size) wc l1 v wx)
 case first =>
  cases fc with
  | true =>
   obtain ⟨ao', cap', w', hr, hw⟩ := Zfn.app (fun k h => h) HO0.out HK0.out (by omega) ⟨#[115, 104, 97, 100, 111, 119, 114, 111, 111, 116, 100, 101, 108, 101, 103, 97, 116, 101, 115, 102, 111, 99, 117, 115]⟩ ⟨#[]⟩
   have HWN : Hid (Zfn (fun k => k < wc.heap.size) wc l1 (.slice ao' (l0.length + 1) cap') w') := by rw [<- Hl1.out]; exact hw
   clear hw
   go_wp2_with (at_builtin; refine zal (w' := w') rfl (.tmp 12) (.tmp 14) 42 42 rfl _ _ (.slice ao' (l0.length + 1) cap') rfl rfl hr ?_)
   go_meet
   case rel => exact HWN.out
  | false =>
   have HWN : Hid (Zfn (fun k => k < wc.heap.size) wc l1 (.slice ao0 l0.length cap0) V) := by rw [<- Hl1.out]; show Zfn _ _ (l0 ++ []) _ _; rw [List.append_nil]; exact ⟨_, _, rfl, HO0.out, HK0.out⟩
   go_wp2_with fail
   go_meet
   case rel => exact HWN.out
 case rest =>
 rename World => v1
 obtain ⟨ao1, cap1, rfl, ho1, hk1⟩ := hcut
 have HO1 : Hid (Zad (fun k => k < wc.heap.size) v1 93 2 ao1 l1.length cap1 (zab l1)) := ho1
 have HK1 : Hid (Kept (fun k => k < wc.heap.size) wc v1) := hk1
 obtain ⟨-, -, -, c3, -⟩ := HC.out v1 hk1
 clear ho1 hk1 HO0 HK0 Hl1 c2
 go_upto_if 17 with fail
 go_cut [4] (fun v wx => Zfn (fun k => k < wc.heap.size) wc l2 v wx)
 case first =>
  cases fd with
  | true =>
   obtain ⟨ao', cap', w', hr, hw⟩ := Zfn.app (fun k h => h) HO1.out HK1.out (by omega) ⟨#[115, 104, 97, 100, 111, 119, 114, 111, 111, 116, 115, 101, 114, 105, 97, 108, 105, 122, 97, 98, 108, 101]⟩ ⟨#[]⟩
   have HWN : Hid (Zfn (fun k => k < wc.heap.size) wc l2 (.slice ao' (l1.length + 1) cap') w') := by rw [<- Hl2.out]; exact hw
   clear hw
   go_wp2_with (at_builtin; refine zal (w' := w') rfl (.tmp 18) (.tmp 20) 42 42 rfl _ _ (.slice ao' (l1.length + 1) cap') rfl rfl hr ?_)
   go_meet
   case rel => exact HWN.out
  | false =>
   have HWN : Hid (Zfn (fun k => k < wc.heap.size) wc l2 (.slice ao1 l1.length cap1) v1) := by rw [<- Hl2.out]; show Zfn _ _ (l1 ++ []) _ _; rw [List.append_nil]; exact ⟨_, _, rfl, HO1.out, HK1.out⟩
   go_wp2_with fail
   go_meet
   case rel => exact HWN.out
 case rest =>
 rename World => v2
 obtain ⟨ao2, cap2, rfl, ho2, hk2⟩ := hcut
 have HO2 : Hid (Zad (fun k => k < wc.heap.size) v2 93 2 ao2 l2.length cap2 (zab l2)) := ho2
 have HK2 : Hid (Kept (fun k => k < wc.heap.size) wc v2) := hk2
 obtain ⟨-, c1, -, -, -⟩ := HC.out v2 hk2
 clear ho2 hk2 HO1 HK1 Hl2 c3
 go_upto_if 23 with fail
 go_cut [4] (fun v wx => Zfn (fun k => k < wc.heap.size) wc l3 v wx)
 case first =>
  cases fb with
  | true =>
   obtain ⟨ao', cap', w', hr, hw⟩ := Zfn.app (fun k h => h) HO2.out HK2.out (by omega) ⟨#[115, 104, 97, 100, 111, 119, 114, 111, 111, 116, 115, 108, 111, 116, 97, 115, 115, 105, 103, 110, 109, 101, 110, 116]⟩ ⟨#[109, 97, 110, 117, 97, 108]⟩
   have HWN : Hid (Zfn (fun k => k < wc.heap.size) wc l3 (.slice ao' (l2.length + 1) cap') w') := by rw [<- Hl3.out]; exact hw
   clear hw
   go_wp2_with (at_builtin; refine zal (w' := w') rfl (.tmp 24) (.tmp 26) 42 42 rfl _ _ (.slice ao' (l2.length + 1) cap') rfl rfl hr ?_)
   go_meet
   case rel => exact HWN.out
  | false =>
   have HWN : Hid (Zfn (fun k => k < wc.heap.size) wc l3 (.slice ao2 l2.length cap2) v2) := by rw [<- Hl3.out]; show Zfn _ _ (l2 ++ []) _ _; rw [List.append_nil]; exact ⟨_, _, rfl, HO2.out, HK2.out⟩
   go_wp2_with fail
   go_meet
   case rel => exact HWN.out
 case rest =>
 rename World => v3
 obtain ⟨ao3, cap3, rfl, ho3, hk3⟩ := hcut
 have HO3 : Hid (Zad (fun k => k < wc.heap.size) v3 93 2 ao3 l3.length cap3 (zab l3)) := ho3
 have HK3 : Hid (Kept (fun k => k < wc.heap.size) wc v3) := hk3
 obtain ⟨-, -, -, -, c4⟩ := HC.out v3 hk3
 clear ho3 hk3 HO2 HK2 Hl3 c1
 go_upto_if 29 with fail
 go_cut [4] (fun v wx => Zfn (fun k => k < wc.heap.size) wc l4 v wx)
 case first =>
  cases fe with
  | true =>
   obtain ⟨ao', cap', w', hr, hw⟩ := Zfn.app (fun k h => h) HO3.out HK3.out (by omega) ⟨#[115, 104, 97, 100, 111, 119, 114, 111, 111, 116, 99, 108, 111, 110, 97, 98, 108, 101]⟩ ⟨#[]⟩
   have HWN : Hid (Zfn (fun k => k < wc.heap.size) wc l4 (.slice ao' (l3.length + 1) cap') w') := by rw [<- Hl4.out]; exact hw
   clear hw
   go_wp2_with (at_builtin; refine zal (w' := w') rfl (.tmp 30) (.tmp 32) 42 42 rfl _ _ (.slice ao' (l3.length + 1) cap') rfl rfl hr ?_)
   go_meet
   case rel => exact HWN.out
  | false =>
   have HWN : Hid (Zfn (fun k => k < wc.heap.size) wc l4 (.slice ao3 l3.length cap3) v3) := by rw [<- Hl4.out]; show Zfn _ _ (l3 ++ []) _ _; rw [List.append_nil]; exact ⟨_, _, rfl, HO3.out, HK3.out⟩
   go_wp2_with fail
   go_meet
   case rel => exact HWN.out
 case rest =>
 rename World => v4
 obtain ⟨ao4, cap4, rfl, ho4, hk4⟩ := hcut
 have HO4 : Hid (Zad (fun k => k < wc.heap.size) v4 93 2 ao4 l4.length cap4 (zab l4)) := ho4
 have HK4 : Hid (Kept (fun k => k < wc.heap.size) wc v4) := hk4
 clear ho4 hk4 HO3 HK3 Hl4 c4
 go_wp2
 go_ret
 exact ⟨_, _, rfl, Zad.to HO4.out (fun g hg h => (Zad.out HO4.out hg).1 (ltl h HKW.out.size)) (fun g hg => rfl), HKW.out.trans (HK4.out.mono fun k h => ltl h HKW.out.size)⟩
end
end Go.Proofs.YtikaheenjhdpmaaGreat
