/-
  TreeHeads: headings one behind the other: pure, and the walk.
-/
import Derived.Test.YtffllhohlfblnabEn
import Derived.Test.YtffllhohlfblnabTl
import Derived.Test.YtffllhohlfblnabED
namespace Go.Proofs.Ytffllhohlfblnab
open Go.RowKit Go.Sort

def RowH (w : World) (a : Option Addr) (n : Nat) (z : Nat → Int) : Prop :=
  n = 0 ∨ ∃ g o, a = some ⟨g, o, none⟩ ∧ g < w.heap.size ∧ ∀ i, i < n → w.cell? ⟨g, o + i, none⟩ = some (.int .u8 (z i)) ∧ 0 ≤ z i ∧ z i ≤ 255
theorem TOwn.allocH {w0 w : World} {la : Option Addr} {n cap : Nat} {l : List Tk} (h : TOwn w0 w la n cap l) (o : Obj) : TOwn w0 (w.alloc o) la n cap l := by
  have kW : Kept (fun k => k < w.heap.size) w (w.alloc o) := (Kept.refl _ w).alloc (fun _ h => h) _
  exact ⟨h.own.to (fun g hg => (h.own.out hg).1) (fun g hg => kW.block g (h.own.out hg).2), h.len, h.plain, h.kept.trans (kW.mono fun k hk => Nat.lt_of_lt_of_le hk h.kept.size)⟩
def hdN : Nat → List UInt8
  | 0 => [104, 49]
  | 1 => [104, 50]
  | 2 => [104, 51]
  | 3 => [104, 52]
  | 4 => [104, 53]
  | _ => [104, 54]
theorem hd_first (b : Nat) (hb : b < 6) (l : List It) (f : List Fl) (i : Nat) : (⟨l, f, []⟩ : BS).take ⟨1, hdN b, [], false, [], i⟩ = ⟨l ++ [⟨0, 1, hdN b, [], []⟩], f ++ [], [hdN b]⟩ := by
  match b, hb with
  | 0, _ => rfl
  | 1, _ => rfl
  | 2, _ => rfl
  | 3, _ => rfl
  | 4, _ => rfl
  | 5, _ => rfl
  | n + 6, h => exact absurd h (by omega)
theorem hd_next (a b : Nat) (ha : a < 6) (hb : b < 6) (l : List It) (f : List Fl) (i : Nat) : (⟨l, f, [hdN a]⟩ : BS).take ⟨1, hdN b, [], false, [], i⟩ = ⟨l ++ [⟨0, 1, hdN b, [], []⟩], f ++ [⟨9, i⟩] ++ [], [hdN b]⟩ := by
  match a, ha, b, hb with
  | 0, _, 0, _ => rfl
  | 0, _, 1, _ => rfl
  | 0, _, 2, _ => rfl
  | 0, _, 3, _ => rfl
  | 0, _, 4, _ => rfl
  | 0, _, 5, _ => rfl
  | 1, _, 0, _ => rfl
  | 1, _, 1, _ => rfl
  | 1, _, 2, _ => rfl
  | 1, _, 3, _ => rfl
  | 1, _, 4, _ => rfl
  | 1, _, 5, _ => rfl
  | 2, _, 0, _ => rfl
  | 2, _, 1, _ => rfl
  | 2, _, 2, _ => rfl
  | 2, _, 3, _ => rfl
  | 2, _, 4, _ => rfl
  | 2, _, 5, _ => rfl
  | 3, _, 0, _ => rfl
  | 3, _, 1, _ => rfl
  | 3, _, 2, _ => rfl
  | 3, _, 3, _ => rfl
  | 3, _, 4, _ => rfl
  | 3, _, 5, _ => rfl
  | 4, _, 0, _ => rfl
  | 4, _, 1, _ => rfl
  | 4, _, 2, _ => rfl
  | 4, _, 3, _ => rfl
  | 4, _, 4, _ => rfl
  | 4, _, 5, _ => rfl
  | 5, _, 0, _ => rfl
  | 5, _, 1, _ => rfl
  | 5, _, 2, _ => rfl
  | 5, _, 3, _ => rfl
  | 5, _, 4, _ => rfl
  | 5, _, 5, _ => rfl
  | n + 6, h, _, _ => exact absurd h (by omega)
  | _, _, n + 6, h => exact absurd h (by omega)
theorem hd_end (a : Nat) (ha : a < 6) (l : List It) (f : List Fl) (i : Nat) : (⟨l, f, [hdN a]⟩ : BS).take ⟨2, [104, 49], [], false, [], i⟩ = ⟨l, if a = 0 then f else f ++ [⟨9, i⟩], []⟩ := by
  match a, ha with
  | 0, _ => rfl
  | 1, _ => rfl
  | 2, _ => rfl
  | 3, _ => rfl
  | 4, _ => rfl
  | 5, _ => rfl
  | n + 6, h => exact absurd h (by omega)
def hdR (z : Nat → Int) (i : Nat) : Nat := (z i % 6).toNat
theorem hdR_lt (z : Nat → Int) (i : Nat) : hdR z i < 6 := by unfold hdR; omega
def hdI (z : Nat → Int) (k : Nat) : List It := (List.range k).map fun i => ⟨0, 1, hdN (hdR z i), [], []⟩
def hdT (z : Nat → Int) (k : Nat) : List Tk := (List.range k).map fun i => ⟨1, hdN (hdR z i), [], false, [], i⟩
def hdF (k : Nat) : List Fl := (List.range (k - 1)).map fun i => ⟨9, i + 1⟩
theorem hdI_succ (z : Nat → Int) (k : Nat) : hdI z (k + 1) = hdI z k ++ [⟨0, 1, hdN (hdR z k), [], []⟩] := by
  unfold hdI
  rw [List.range_succ, List.map_append]
  rfl
theorem hdT_succ (z : Nat → Int) (k : Nat) : hdT z (k + 1) = hdT z k ++ [⟨1, hdN (hdR z k), [], false, [], k⟩] := by
  unfold hdT
  rw [List.range_succ, List.map_append]
  rfl
theorem hdF_succ (k : Nat) : hdF (k + 2) = hdF (k + 1) ++ [⟨9, k + 1⟩] := by
  unfold hdF
  show (List.range (k + 1)).map _ = (List.range k).map _ ++ _
  rw [List.range_succ, List.map_append]
  rfl
theorem hdI_len (z : Nat → Int) (k : Nat) : (hdI z k).length = k := by simp [hdI]
theorem hdF_len (k : Nat) : (hdF k).length = k - 1 := by simp [hdF]
def hdS (z : Nat → Int) : Nat → BS
  | 0 => ⟨[], [], []⟩
  | k + 1 => ⟨hdI z (k + 1), hdF (k + 1), [hdN (hdR z k)]⟩
theorem hdS_take (z : Nat → Int) (k : Nat) : (hdS z k).take ⟨1, hdN (hdR z k), [], false, [], k⟩ = hdS z (k + 1) := by
  cases k with
  | zero =>
    show (⟨[], [], []⟩ : BS).take _ = _
    rw [hd_first _ (hdR_lt z 0)]
    rfl
  | succ k =>
    show (⟨hdI z (k + 1), hdF (k + 1), [hdN (hdR z k)]⟩ : BS).take _ = ⟨hdI z (k + 2), hdF (k + 2), [hdN (hdR z (k + 1))]⟩
    rw [hd_next _ _ (hdR_lt z k) (hdR_lt z (k + 1)), hdI_succ z (k + 1), hdF_succ, List.append_nil]
theorem lastA_hd (z : Nat → Int) (k : Nat) : lastA (hdI z k) = 0 := by
  cases k with
  | zero => rfl
  | succ k => rw [hdI_succ, lastA_one]; rfl
theorem hdS_items (z : Nat → Int) (k : Nat) : (hdS z k).items = hdI z k := by cases k <;> rfl
theorem hdS_full (z : Nat → Int) (k : Nat) (hk : k ≤ 4000) : (hdS z k).full = false := full_small _ (by rw [hdS_items, hdI_len]; exact hk) (by rw [hdS_items, lastA_hd]; exact Nat.zero_le _)
/-- Behind the headings and the end, and the text. -/
def hdB (z : Nat → Int) : Nat → BS
  | 0 => ⟨[⟨0, 2, [], [], [120]⟩], [⟨8, 0⟩], []⟩
  | k + 1 => ⟨hdI z (k + 1) ++ [⟨0, 2, [], [], [120]⟩], if hdR z k = 0 then hdF (k + 1) else hdF (k + 1) ++ [⟨9, k + 1⟩], []⟩
theorem hd_tail (z : Nat → Int) (n : Nat) (hn : n ≤ 3000) : buildF (hdS z n) [⟨2, [104, 49], [], false, [], n⟩, ⟨3, [], [], false, [120], 0⟩] = some (hdB z n) := by
  cases n with
  | zero => rfl
  | succ k =>
    have e1 := hd_end (hdR z k) (hdR_lt z k) (hdI z (k + 1)) (hdF (k + 1)) (k + 1)
    show buildF ⟨hdI z (k + 1), hdF (k + 1), [hdN (hdR z k)]⟩ _ = _
    have f1 : (⟨hdI z (k + 1), if hdR z k = 0 then hdF (k + 1) else hdF (k + 1) ++ [⟨9, k + 1⟩], []⟩ : BS).full = false := full_small _ (by show (hdI z (k + 1)).length ≤ _; rw [hdI_len]; omega) (by show lastA (hdI z (k + 1)) ≤ _; rw [lastA_hd]; exact Nat.zero_le _)
    have e2 : (⟨hdI z (k + 1), if hdR z k = 0 then hdF (k + 1) else hdF (k + 1) ++ [⟨9, k + 1⟩], []⟩ : BS).take ⟨3, [], [], false, [120], 0⟩ = hdB z (k + 1) := rfl
    have f2 : (hdB z (k + 1)).full = false := full_small _ (by show (hdI z (k + 1) ++ [_]).length ≤ _; simp [hdI_len]; omega) (by show lastA (hdI z (k + 1) ++ [_]) ≤ _; rw [lastA_one]; exact Nat.zero_le _)
    unfold buildF
    rw [e1, if_neg (by rw [f1]; exact Bool.false_ne_true)]
    unfold buildF
    rw [e2, if_neg (by rw [f2]; exact Bool.false_ne_true)]
    rfl
theorem hd_run (z : Nat → Int) : ∀ (n : Nat) (rest : List Tk), n ≤ 3000 → buildF (hdS z 0) (hdT z n ++ rest) = buildF (hdS z n) rest
  | 0, _, _ => rfl
  | n + 1, rest, hn => by
    rw [hdT_succ, List.append_assoc, hd_run z n _ (by omega)]
    rw [show buildF (hdS z n) ([⟨1, hdN (hdR z n), [], false, [], n⟩] ++ rest) = if ((hdS z n).take ⟨1, hdN (hdR z n), [], false, [], n⟩).full = true then none else buildF ((hdS z n).take ⟨1, hdN (hdR z n), [], false, [], n⟩) rest from rfl]
    rw [hdS_take, if_neg (by rw [hdS_full z (n + 1) (by omega)]; exact Bool.false_ne_true)]
theorem hd_build (z : Nat → Int) (n : Nat) (hn : n ≤ 3000) : buildL (hdT z n ++ [⟨2, [104, 49], [], false, [], n⟩, ⟨3, [], [], false, [120], 0⟩]) = some (hdB z n) := by
  have := hd_run z n [⟨2, [104, 49], [], false, [], n⟩, ⟨3, [], [], false, [120], 0⟩] hn
  rw [hd_tail z n hn] at this
  exact this
theorem hdB_len (z : Nat → Int) (n : Nat) : (hdB z n).items.length = n + 1 := by
  cases n with
  | zero => rfl
  | succ k =>
    show (hdI z (k + 1) ++ [_]).length = _
    simp [hdI_len]
theorem hdB_deep (z : Nat → Int) (n i : Nat) (h : i < (hdB z n).items.length) : (hdB z n).items[i].deep = 0 := by
  have all : ∀ x ∈ (hdB z n).items, x.deep = 0 := by
    cases n with
    | zero =>
      intro x hx
      have hx : x ∈ ([⟨0, 2, [], [], [120]⟩] : List It) := hx
      rw [List.mem_singleton.1 hx]
    | succ k =>
      intro x hx
      have hx : x ∈ hdI z (k + 1) ++ [⟨0, 2, [], [], [120]⟩] := hx
      rcases List.mem_append.1 hx with hx | hx
      · obtain ⟨i, _, rfl⟩ := List.mem_map.1 hx
        rfl
      · rw [List.mem_singleton.1 hx]
  exact all _ (List.getElem_mem h)
theorem hdB_flts (z : Nat → Int) (k : Nat) : (hdB z (k + 1)).flts.length = k + if hdR z k = 0 then 0 else 1 := by
  show (if hdR z k = 0 then hdF (k + 1) else hdF (k + 1) ++ [⟨9, k + 1⟩]).length = _
  split
  · rw [hdF_len]; rfl
  · rw [List.length_append, hdF_len]; rfl

theorem flt0h {w : World} {fa : Option Addr} {f : Fl} {r : List Fl} (h : FltsIn (fun k => k < w.heap.size) w fa (f :: r)) : ∃ g, fa = some ⟨g, 0, none⟩ ∧ w.cell? ⟨g, 0, none⟩ = some (.int .u8 (f.kind : Int)) := by
  obtain ⟨g, h1, _, h3, _⟩ := h 0 (by simp)
  exact ⟨g, h1, by simpa using h3⟩
set_option maxRecDepth 20000 in
set_option maxHeartbeats 4000000 in
theorem heads_any (a0 : Option Addr) (n cap0 : Nat) (z : Nat → Int) (w : World) (h0 : RowH w a0 n z) :
    Calls Try.prog 7 #[.slice a0 n cap0] w fun e w' => e = .returned (.bool true) ∧ Kept (fun k => k < w.heap.size) w w' := by
  have rk := known_any w
  by_cases q1 : n ≤ 60
  · have q1' : decide ((n : Int) > 60) = false := decide_eq_false (by omega)
    have HB : Hid (buildL (hdT z n ++ [⟨2, [104, 49], [], false, [], n⟩, ⟨3, [], [], false, [120], 0⟩]) = some (hdB z n)) := hd_build z n (by omega)
    have HLEN : Hid ((hdB z n).items.length = n + 1) := hdB_len z n
    have H0 : Hid (RowH w a0 n z) := h0
    clear h0
    go_enter Try.func7, Try.ntmps7
    go_wp2_with fail
    refine rk.mono ?_
    rintro e w1 ⟨rfl, k1⟩
    have HK1 : Hid (Kept (fun k => k < w.heap.size) w w1) := k1
    clear rk k1
    go_upto_region 5 with fail
    go_loopg [4, 3] n (fun g v x wr => ∃ (k : Nat) (la : Option Addr) (cap : Nat), g = n - k ∧ k ≤ n ∧ v = .int .i64 k ∧ x = .slice la k cap ∧ TOwn w1 wr la k cap (hdT z k))
    case atStart => exact ⟨0, none, 0, rfl, Nat.zero_le _, rfl, rfl, TOwn.nil w1⟩
    case round =>
      obtain ⟨k, la, cap, hgk, hk, rfl, rfl, hT⟩ := hrel
      by_cases hlt : k < n
      · obtain ⟨g, o, hg, hgl, hz⟩ : ∃ g o, a0 = some ⟨g, o, none⟩ ∧ g < w.heap.size ∧ ∀ i, i < n → w.cell? ⟨g, o + i, none⟩ = some (.int .u8 (z i)) ∧ 0 ≤ z i ∧ z i ≤ 255 := by
          rcases H0.out with h | h
          · omega
          · exact h
        subst hg
        obtain ⟨cz, hz0, hz1⟩ := hz k hlt
        have hkw : Kept (fun k => k < w.heap.size) w wr := HK1.out.trans (hT.kept.mono fun x hx => Nat.lt_of_lt_of_le hx HK1.out.size)
        have cz' : wr.cell? ⟨g, o + k, none⟩ = some (.int .u8 (z k)) := (hkw.cell (p := ⟨g, o + k, none⟩) hgl).trans cz
        have htm : (z k).tmod 6 = z k % 6 := Int.tmod_eq_emod_of_nonneg hz0
        have ht : decide ((k : Int) < (n : Int)) = true := decide_eq_true (by omega)
        have hr : z k % 6 = 0 ∨ z k % 6 = 1 ∨ z k % 6 = 2 ∨ z k % 6 = 3 ∨ z k % 6 = 4 ∨ z k % 6 = 5 := by omega
        clear cz hz hkw
        rcases hr with hr | hr | hr | hr | hr | hr
        · have hTX : TOwn w1 (wr.alloc (.cells #[.int .u8 49] 5)) la k cap (hdT z k) := hT.allocH _
          have hcv : (convert 38 9 (.slice (some ⟨wr.heap.size, 0, none⟩) 1 1)).run Try.prog (wr.alloc (.cells #[.int .u8 49] 5)) = .ok (.string ⟨#[49]⟩) (wr.alloc (.cells #[.int .u8 49] 5)) := by
            refine run_convert_bytes_back _ 38 9 5 ⟨wr.heap.size, 0, none⟩ 1 [49] Try.underlying38 Try.underlying5 Try.underlying9 fun j hj => ?_
            have hj0 : j = 0 := by simp at hj; omega
            subst hj0
            rw [Addr.add_lit, Nat.zero_add, cell_block (heap_alloc_new wr _)]
            rfl
          obtain ⟨la', cap', w', hrun, hT'⟩ := hTX.app (by omega) 1 (by decide) (by decide) [⟨1, hdN 0, [], false, [], k⟩] rfl (by simp) #[.int .u8 1, .string ⟨#[104, 49]⟩, .slice none 0 0, .bool false, .string ⟨#[]⟩, .int .i64 (k : Int)] rfl
          have htr : (z k).tmod 6 = 0 := htm.trans hr
          have hT2 : TOwn w1 w' la' (k + 1) cap' (hdT z (k + 1)) := by
            rw [hdT_succ, show hdR z k = 0 by unfold hdR; rw [hr]; rfl]
            exact hT'
          have HT2 : Hid (TOwn w1 w' la' (k + 1) cap' (hdT z (k + 1))) := hT2
          have hsz : (wr.alloc (.cells #[.int .u8 49] 5)).heap.size = wr.heap.size + 1 := by show (wr.heap.push _).size = _; exact Array.size_push _
          rw [hsz, show (⟨#[104, 49]⟩ : ByteArray) = ⟨#[104]⟩ ++ ⟨#[49]⟩ from rfl] at hrun
          clear hTX hT' hT2 htm hr hT hsz
          go_wp2_with (at_builtin; refine wpList_appR (w' := w') rfl (.tmp 24) (.tmp 36) 29 29 rfl _ _ (.slice la' (k + 1) cap') rfl rfl hrun ?_)
          go_wp2
          go_roundg (n - (k + 1))
          case rel => exact ⟨k + 1, la', cap', rfl, by omega, by go_num, rfl, HT2.out⟩
          case measure => omega
        · have hTX : TOwn w1 (wr.alloc (.cells #[.int .u8 50] 5)) la k cap (hdT z k) := hT.allocH _
          have hcv : (convert 38 9 (.slice (some ⟨wr.heap.size, 0, none⟩) 1 1)).run Try.prog (wr.alloc (.cells #[.int .u8 50] 5)) = .ok (.string ⟨#[50]⟩) (wr.alloc (.cells #[.int .u8 50] 5)) := by
            refine run_convert_bytes_back _ 38 9 5 ⟨wr.heap.size, 0, none⟩ 1 [50] Try.underlying38 Try.underlying5 Try.underlying9 fun j hj => ?_
            have hj0 : j = 0 := by simp at hj; omega
            subst hj0
            rw [Addr.add_lit, Nat.zero_add, cell_block (heap_alloc_new wr _)]
            rfl
          obtain ⟨la', cap', w', hrun, hT'⟩ := hTX.app (by omega) 1 (by decide) (by decide) [⟨1, hdN 1, [], false, [], k⟩] rfl (by simp) #[.int .u8 1, .string ⟨#[104, 50]⟩, .slice none 0 0, .bool false, .string ⟨#[]⟩, .int .i64 (k : Int)] rfl
          have htr : (z k).tmod 6 = 1 := htm.trans hr
          have hT2 : TOwn w1 w' la' (k + 1) cap' (hdT z (k + 1)) := by
            rw [hdT_succ, show hdR z k = 1 by unfold hdR; rw [hr]; rfl]
            exact hT'
          have HT2 : Hid (TOwn w1 w' la' (k + 1) cap' (hdT z (k + 1))) := hT2
          have hsz : (wr.alloc (.cells #[.int .u8 50] 5)).heap.size = wr.heap.size + 1 := by show (wr.heap.push _).size = _; exact Array.size_push _
          rw [hsz, show (⟨#[104, 50]⟩ : ByteArray) = ⟨#[104]⟩ ++ ⟨#[50]⟩ from rfl] at hrun
          clear hTX hT' hT2 htm hr hT hsz
          go_wp2_with (at_builtin; refine wpList_appR (w' := w') rfl (.tmp 24) (.tmp 36) 29 29 rfl _ _ (.slice la' (k + 1) cap') rfl rfl hrun ?_)
          go_wp2
          go_roundg (n - (k + 1))
          case rel => exact ⟨k + 1, la', cap', rfl, by omega, by go_num, rfl, HT2.out⟩
          case measure => omega
        · have hTX : TOwn w1 (wr.alloc (.cells #[.int .u8 51] 5)) la k cap (hdT z k) := hT.allocH _
          have hcv : (convert 38 9 (.slice (some ⟨wr.heap.size, 0, none⟩) 1 1)).run Try.prog (wr.alloc (.cells #[.int .u8 51] 5)) = .ok (.string ⟨#[51]⟩) (wr.alloc (.cells #[.int .u8 51] 5)) := by
            refine run_convert_bytes_back _ 38 9 5 ⟨wr.heap.size, 0, none⟩ 1 [51] Try.underlying38 Try.underlying5 Try.underlying9 fun j hj => ?_
            have hj0 : j = 0 := by simp at hj; omega
            subst hj0
            rw [Addr.add_lit, Nat.zero_add, cell_block (heap_alloc_new wr _)]
            rfl
          obtain ⟨la', cap', w', hrun, hT'⟩ := hTX.app (by omega) 1 (by decide) (by decide) [⟨1, hdN 2, [], false, [], k⟩] rfl (by simp) #[.int .u8 1, .string ⟨#[104, 51]⟩, .slice none 0 0, .bool false, .string ⟨#[]⟩, .int .i64 (k : Int)] rfl
          have htr : (z k).tmod 6 = 2 := htm.trans hr
          have hT2 : TOwn w1 w' la' (k + 1) cap' (hdT z (k + 1)) := by
            rw [hdT_succ, show hdR z k = 2 by unfold hdR; rw [hr]; rfl]
            exact hT'
          have HT2 : Hid (TOwn w1 w' la' (k + 1) cap' (hdT z (k + 1))) := hT2
          have hsz : (wr.alloc (.cells #[.int .u8 51] 5)).heap.size = wr.heap.size + 1 := by show (wr.heap.push _).size = _; exact Array.size_push _
          rw [hsz, show (⟨#[104, 51]⟩ : ByteArray) = ⟨#[104]⟩ ++ ⟨#[51]⟩ from rfl] at hrun
          clear hTX hT' hT2 htm hr hT hsz
          go_wp2_with (at_builtin; refine wpList_appR (w' := w') rfl (.tmp 24) (.tmp 36) 29 29 rfl _ _ (.slice la' (k + 1) cap') rfl rfl hrun ?_)
          go_wp2
          go_roundg (n - (k + 1))
          case rel => exact ⟨k + 1, la', cap', rfl, by omega, by go_num, rfl, HT2.out⟩
          case measure => omega
        · have hTX : TOwn w1 (wr.alloc (.cells #[.int .u8 52] 5)) la k cap (hdT z k) := hT.allocH _
          have hcv : (convert 38 9 (.slice (some ⟨wr.heap.size, 0, none⟩) 1 1)).run Try.prog (wr.alloc (.cells #[.int .u8 52] 5)) = .ok (.string ⟨#[52]⟩) (wr.alloc (.cells #[.int .u8 52] 5)) := by
            refine run_convert_bytes_back _ 38 9 5 ⟨wr.heap.size, 0, none⟩ 1 [52] Try.underlying38 Try.underlying5 Try.underlying9 fun j hj => ?_
            have hj0 : j = 0 := by simp at hj; omega
            subst hj0
            rw [Addr.add_lit, Nat.zero_add, cell_block (heap_alloc_new wr _)]
            rfl
          obtain ⟨la', cap', w', hrun, hT'⟩ := hTX.app (by omega) 1 (by decide) (by decide) [⟨1, hdN 3, [], false, [], k⟩] rfl (by simp) #[.int .u8 1, .string ⟨#[104, 52]⟩, .slice none 0 0, .bool false, .string ⟨#[]⟩, .int .i64 (k : Int)] rfl
          have htr : (z k).tmod 6 = 3 := htm.trans hr
          have hT2 : TOwn w1 w' la' (k + 1) cap' (hdT z (k + 1)) := by
            rw [hdT_succ, show hdR z k = 3 by unfold hdR; rw [hr]; rfl]
            exact hT'
          have HT2 : Hid (TOwn w1 w' la' (k + 1) cap' (hdT z (k + 1))) := hT2
          have hsz : (wr.alloc (.cells #[.int .u8 52] 5)).heap.size = wr.heap.size + 1 := by show (wr.heap.push _).size = _; exact Array.size_push _
          rw [hsz, show (⟨#[104, 52]⟩ : ByteArray) = ⟨#[104]⟩ ++ ⟨#[52]⟩ from rfl] at hrun
          clear hTX hT' hT2 htm hr hT hsz
          go_wp2_with (at_builtin; refine wpList_appR (w' := w') rfl (.tmp 24) (.tmp 36) 29 29 rfl _ _ (.slice la' (k + 1) cap') rfl rfl hrun ?_)
          go_wp2
          go_roundg (n - (k + 1))
          case rel => exact ⟨k + 1, la', cap', rfl, by omega, by go_num, rfl, HT2.out⟩
          case measure => omega
        · have hTX : TOwn w1 (wr.alloc (.cells #[.int .u8 53] 5)) la k cap (hdT z k) := hT.allocH _
          have hcv : (convert 38 9 (.slice (some ⟨wr.heap.size, 0, none⟩) 1 1)).run Try.prog (wr.alloc (.cells #[.int .u8 53] 5)) = .ok (.string ⟨#[53]⟩) (wr.alloc (.cells #[.int .u8 53] 5)) := by
            refine run_convert_bytes_back _ 38 9 5 ⟨wr.heap.size, 0, none⟩ 1 [53] Try.underlying38 Try.underlying5 Try.underlying9 fun j hj => ?_
            have hj0 : j = 0 := by simp at hj; omega
            subst hj0
            rw [Addr.add_lit, Nat.zero_add, cell_block (heap_alloc_new wr _)]
            rfl
          obtain ⟨la', cap', w', hrun, hT'⟩ := hTX.app (by omega) 1 (by decide) (by decide) [⟨1, hdN 4, [], false, [], k⟩] rfl (by simp) #[.int .u8 1, .string ⟨#[104, 53]⟩, .slice none 0 0, .bool false, .string ⟨#[]⟩, .int .i64 (k : Int)] rfl
          have htr : (z k).tmod 6 = 4 := htm.trans hr
          have hT2 : TOwn w1 w' la' (k + 1) cap' (hdT z (k + 1)) := by
            rw [hdT_succ, show hdR z k = 4 by unfold hdR; rw [hr]; rfl]
            exact hT'
          have HT2 : Hid (TOwn w1 w' la' (k + 1) cap' (hdT z (k + 1))) := hT2
          have hsz : (wr.alloc (.cells #[.int .u8 53] 5)).heap.size = wr.heap.size + 1 := by show (wr.heap.push _).size = _; exact Array.size_push _
          rw [hsz, show (⟨#[104, 53]⟩ : ByteArray) = ⟨#[104]⟩ ++ ⟨#[53]⟩ from rfl] at hrun
          clear hTX hT' hT2 htm hr hT hsz
          go_wp2_with (at_builtin; refine wpList_appR (w' := w') rfl (.tmp 24) (.tmp 36) 29 29 rfl _ _ (.slice la' (k + 1) cap') rfl rfl hrun ?_)
          go_wp2
          go_roundg (n - (k + 1))
          case rel => exact ⟨k + 1, la', cap', rfl, by omega, by go_num, rfl, HT2.out⟩
          case measure => omega
        · have hTX : TOwn w1 (wr.alloc (.cells #[.int .u8 54] 5)) la k cap (hdT z k) := hT.allocH _
          have hcv : (convert 38 9 (.slice (some ⟨wr.heap.size, 0, none⟩) 1 1)).run Try.prog (wr.alloc (.cells #[.int .u8 54] 5)) = .ok (.string ⟨#[54]⟩) (wr.alloc (.cells #[.int .u8 54] 5)) := by
            refine run_convert_bytes_back _ 38 9 5 ⟨wr.heap.size, 0, none⟩ 1 [54] Try.underlying38 Try.underlying5 Try.underlying9 fun j hj => ?_
            have hj0 : j = 0 := by simp at hj; omega
            subst hj0
            rw [Addr.add_lit, Nat.zero_add, cell_block (heap_alloc_new wr _)]
            rfl
          obtain ⟨la', cap', w', hrun, hT'⟩ := hTX.app (by omega) 1 (by decide) (by decide) [⟨1, hdN 5, [], false, [], k⟩] rfl (by simp) #[.int .u8 1, .string ⟨#[104, 54]⟩, .slice none 0 0, .bool false, .string ⟨#[]⟩, .int .i64 (k : Int)] rfl
          have htr : (z k).tmod 6 = 5 := htm.trans hr
          have hT2 : TOwn w1 w' la' (k + 1) cap' (hdT z (k + 1)) := by
            rw [hdT_succ, show hdR z k = 5 by unfold hdR; rw [hr]; rfl]
            exact hT'
          have HT2 : Hid (TOwn w1 w' la' (k + 1) cap' (hdT z (k + 1))) := hT2
          have hsz : (wr.alloc (.cells #[.int .u8 54] 5)).heap.size = wr.heap.size + 1 := by show (wr.heap.push _).size = _; exact Array.size_push _
          rw [hsz, show (⟨#[104, 54]⟩ : ByteArray) = ⟨#[104]⟩ ++ ⟨#[54]⟩ from rfl] at hrun
          clear hTX hT' hT2 htm hr hT hsz
          go_wp2_with (at_builtin; refine wpList_appR (w' := w') rfl (.tmp 24) (.tmp 36) 29 29 rfl _ _ (.slice la' (k + 1) cap') rfl rfl hrun ?_)
          go_wp2
          go_roundg (n - (k + 1))
          case rel => exact ⟨k + 1, la', cap', rfl, by omega, by go_num, rfl, HT2.out⟩
          case measure => omega
      · have hkk : k = n := by omega
        subst hkk
        obtain ⟨NF, hNF⟩ : ∃ N, (hdB z k).flts.length = N := ⟨_, rfl⟩
        obtain ⟨la2, cap2, w3, hrun, hT'⟩ := hT.app (by omega) 2 (by decide) (by decide) [⟨2, [104, 49], [], false, [], k⟩, ⟨3, [], [], false, [120], 0⟩] rfl (by simp) #[.int .u8 2, .string ⟨#[104, 49]⟩, .slice none 0 0, .bool false, .string ⟨#[]⟩, .int .i64 (k : Int), .int .u8 3, .string ⟨#[]⟩, .slice none 0 0, .bool false, .string ⟨#[120]⟩, .int .i64 0] rfl
        have r2 := hT'.build (by omega) HB.out (k + 1) NF HLEN.out hNF
        have ht : decide ((k : Int) < (k : Int)) = false := decide_eq_false (by omega)
        have HNF : Hid ((hdB z k).flts.length = NF) := hNF
        clear hT hT' hNF
        go_upto_region 8 with fail
        go_wp2_with (at_builtin; refine wpList_appR (w' := w3) rfl (.tmp 38) (.tmp 43) 29 29 rfl _ _ (.slice la2 (k + 2) cap2) rfl rfl hrun ?_)
        clear hrun
        go_wp2_with fail
        refine r2.mono ?_
        rintro e w2 ⟨⟨ia, ic, fa, fc, rfl, hI, hF⟩, k2⟩
        have HI : Hid (ItsIn w2 ia (hdB z k).items) := hI
        have HF : Hid (FltsIn (fun k => k < w2.heap.size) w2 fa (hdB z k).flts) := hF
        have HK2 : Hid (Kept (fun k => k < w.heap.size) w w2) := HK1.out.trans (k2.mono fun x hx => Nat.lt_of_lt_of_le hx HK1.out.size)
        clear r2 hI k2 hF
        go_upto_region 12 with fail
        cases k with
        | zero =>
          obtain ⟨gf, hgf, cf⟩ := flt0h (show FltsIn (fun k => k < w2.heap.size) w2 fa (⟨8, 0⟩ :: []) from HF.out)
          have hNF : NF = 1 := HNF.out.symm
          subst hgf hNF
          have cf' : w2.cell? ⟨gf, 0, none⟩ = some (.int .u8 8) := cf
          clear cf HF HNF HI HLEN HB
          go_wp2
          go_ret
          exact ⟨rfl, HK2.out⟩
        | succ m =>
          obtain ⟨g, o, hg, hgl, hz⟩ : ∃ g o, a0 = some ⟨g, o, none⟩ ∧ g < w.heap.size ∧ ∀ i, i < m + 1 → w.cell? ⟨g, o + i, none⟩ = some (.int .u8 (z i)) ∧ 0 ≤ z i ∧ z i ≤ 255 := by
            rcases H0.out with h | h
            · omega
            · exact h
          subst hg
          obtain ⟨cz, hz0, hz1⟩ := hz m (by omega)
          have cz' : w2.cell? ⟨g, o + m, none⟩ = some (.int .u8 (z m)) := (HK2.out.cell (p := ⟨g, o + m, none⟩) hgl).trans cz
          have htm : (z m).tmod 6 = z m % 6 := Int.tmod_eq_emod_of_nonneg hz0
          clear cz hz
          have hr : z m % 6 = 0 ∨ z m % 6 = 1 ∨ z m % 6 = 2 ∨ z m % 6 = 3 ∨ z m % 6 = 4 ∨ z m % 6 = 5 := by omega
          rcases hr with hr | hr | hr | hr | hr | hr
          · have hNF : m = NF := by rw [← HNF.out, hdB_flts, show hdR z m = (z m % 6).toNat from rfl, hr]; rfl
            subst hNF
            have htr : (z m).tmod 6 = 0 := htm.trans hr
            clear htm hr HF HNF HB
            go_upto_region 18 with fail
            go_loopg [9] (m + 2) (fun g v wx => ∃ j : Nat, g = m + 2 - j ∧ j ≤ m + 2 ∧ v = .int .i64 j ∧ wx = w2)
            case atStart => exact ⟨0, rfl, Nat.zero_le _, rfl, rfl⟩
            case round =>
              obtain ⟨j, hgj, hj, rfl, hwx⟩ := hrel
              subst hwx
              by_cases hjl : j < m + 2
              · have hjI : j < (hdB z (m + 1)).items.length := by rw [HLEN.out]; exact hjl
                obtain ⟨g1, aa, ac, hg1, -, -, -, hc⟩ := HI.out j hjI
                subst hg1
                have c0 := hc 0 _ rfl
                rw [hdB_deep z (m + 1) j hjI, Nat.add_zero] at c0
                have c0' : _ = some (Value.int .i64 0) := c0
                have ht2 : decide ((j : Int) < ((m + 1 + 1 : Nat) : Int)) = true := decide_eq_true (by omega)
                clear hc hjI c0
                go_wp2
                go_roundg (m + 2 - (j + 1))
                case rel => exact ⟨j + 1, rfl, by omega, by go_num, rfl⟩
                case measure => omega
              · have ht2 : decide ((j : Int) < ((m + 1 + 1 : Nat) : Int)) = false := decide_eq_false (by omega)
                clear HI
                go_wp2
                go_ret
                exact ⟨rfl, HK2.out⟩
          · have hNF : (m + 1) = NF := by rw [← HNF.out, hdB_flts, show hdR z m = (z m % 6).toNat from rfl, hr]; rfl
            subst hNF
            have htr : (z m).tmod 6 = 1 := htm.trans hr
            clear htm hr HF HNF HB
            go_upto_region 18 with fail
            go_loopg [9] (m + 2) (fun g v wx => ∃ j : Nat, g = m + 2 - j ∧ j ≤ m + 2 ∧ v = .int .i64 j ∧ wx = w2)
            case atStart => exact ⟨0, rfl, Nat.zero_le _, rfl, rfl⟩
            case round =>
              obtain ⟨j, hgj, hj, rfl, hwx⟩ := hrel
              subst hwx
              by_cases hjl : j < m + 2
              · have hjI : j < (hdB z (m + 1)).items.length := by rw [HLEN.out]; exact hjl
                obtain ⟨g1, aa, ac, hg1, -, -, -, hc⟩ := HI.out j hjI
                subst hg1
                have c0 := hc 0 _ rfl
                rw [hdB_deep z (m + 1) j hjI, Nat.add_zero] at c0
                have c0' : _ = some (Value.int .i64 0) := c0
                have ht2 : decide ((j : Int) < ((m + 1 + 1 : Nat) : Int)) = true := decide_eq_true (by omega)
                clear hc hjI c0
                go_wp2
                go_roundg (m + 2 - (j + 1))
                case rel => exact ⟨j + 1, rfl, by omega, by go_num, rfl⟩
                case measure => omega
              · have ht2 : decide ((j : Int) < ((m + 1 + 1 : Nat) : Int)) = false := decide_eq_false (by omega)
                clear HI
                go_wp2
                go_ret
                exact ⟨rfl, HK2.out⟩
          · have hNF : (m + 1) = NF := by rw [← HNF.out, hdB_flts, show hdR z m = (z m % 6).toNat from rfl, hr]; rfl
            subst hNF
            have htr : (z m).tmod 6 = 2 := htm.trans hr
            clear htm hr HF HNF HB
            go_upto_region 18 with fail
            go_loopg [9] (m + 2) (fun g v wx => ∃ j : Nat, g = m + 2 - j ∧ j ≤ m + 2 ∧ v = .int .i64 j ∧ wx = w2)
            case atStart => exact ⟨0, rfl, Nat.zero_le _, rfl, rfl⟩
            case round =>
              obtain ⟨j, hgj, hj, rfl, hwx⟩ := hrel
              subst hwx
              by_cases hjl : j < m + 2
              · have hjI : j < (hdB z (m + 1)).items.length := by rw [HLEN.out]; exact hjl
                obtain ⟨g1, aa, ac, hg1, -, -, -, hc⟩ := HI.out j hjI
                subst hg1
                have c0 := hc 0 _ rfl
                rw [hdB_deep z (m + 1) j hjI, Nat.add_zero] at c0
                have c0' : _ = some (Value.int .i64 0) := c0
                have ht2 : decide ((j : Int) < ((m + 1 + 1 : Nat) : Int)) = true := decide_eq_true (by omega)
                clear hc hjI c0
                go_wp2
                go_roundg (m + 2 - (j + 1))
                case rel => exact ⟨j + 1, rfl, by omega, by go_num, rfl⟩
                case measure => omega
              · have ht2 : decide ((j : Int) < ((m + 1 + 1 : Nat) : Int)) = false := decide_eq_false (by omega)
                clear HI
                go_wp2
                go_ret
                exact ⟨rfl, HK2.out⟩
          · have hNF : (m + 1) = NF := by rw [← HNF.out, hdB_flts, show hdR z m = (z m % 6).toNat from rfl, hr]; rfl
            subst hNF
            have htr : (z m).tmod 6 = 3 := htm.trans hr
            clear htm hr HF HNF HB
            go_upto_region 18 with fail
            go_loopg [9] (m + 2) (fun g v wx => ∃ j : Nat, g = m + 2 - j ∧ j ≤ m + 2 ∧ v = .int .i64 j ∧ wx = w2)
            case atStart => exact ⟨0, rfl, Nat.zero_le _, rfl, rfl⟩
            case round =>
              obtain ⟨j, hgj, hj, rfl, hwx⟩ := hrel
              subst hwx
              by_cases hjl : j < m + 2
              · have hjI : j < (hdB z (m + 1)).items.length := by rw [HLEN.out]; exact hjl
                obtain ⟨g1, aa, ac, hg1, -, -, -, hc⟩ := HI.out j hjI
                subst hg1
                have c0 := hc 0 _ rfl
                rw [hdB_deep z (m + 1) j hjI, Nat.add_zero] at c0
                have c0' : _ = some (Value.int .i64 0) := c0
                have ht2 : decide ((j : Int) < ((m + 1 + 1 : Nat) : Int)) = true := decide_eq_true (by omega)
                clear hc hjI c0
                go_wp2
                go_roundg (m + 2 - (j + 1))
                case rel => exact ⟨j + 1, rfl, by omega, by go_num, rfl⟩
                case measure => omega
              · have ht2 : decide ((j : Int) < ((m + 1 + 1 : Nat) : Int)) = false := decide_eq_false (by omega)
                clear HI
                go_wp2
                go_ret
                exact ⟨rfl, HK2.out⟩
          · have hNF : (m + 1) = NF := by rw [← HNF.out, hdB_flts, show hdR z m = (z m % 6).toNat from rfl, hr]; rfl
            subst hNF
            have htr : (z m).tmod 6 = 4 := htm.trans hr
            clear htm hr HF HNF HB
            go_upto_region 18 with fail
            go_loopg [9] (m + 2) (fun g v wx => ∃ j : Nat, g = m + 2 - j ∧ j ≤ m + 2 ∧ v = .int .i64 j ∧ wx = w2)
            case atStart => exact ⟨0, rfl, Nat.zero_le _, rfl, rfl⟩
            case round =>
              obtain ⟨j, hgj, hj, rfl, hwx⟩ := hrel
              subst hwx
              by_cases hjl : j < m + 2
              · have hjI : j < (hdB z (m + 1)).items.length := by rw [HLEN.out]; exact hjl
                obtain ⟨g1, aa, ac, hg1, -, -, -, hc⟩ := HI.out j hjI
                subst hg1
                have c0 := hc 0 _ rfl
                rw [hdB_deep z (m + 1) j hjI, Nat.add_zero] at c0
                have c0' : _ = some (Value.int .i64 0) := c0
                have ht2 : decide ((j : Int) < ((m + 1 + 1 : Nat) : Int)) = true := decide_eq_true (by omega)
                clear hc hjI c0
                go_wp2
                go_roundg (m + 2 - (j + 1))
                case rel => exact ⟨j + 1, rfl, by omega, by go_num, rfl⟩
                case measure => omega
              · have ht2 : decide ((j : Int) < ((m + 1 + 1 : Nat) : Int)) = false := decide_eq_false (by omega)
                clear HI
                go_wp2
                go_ret
                exact ⟨rfl, HK2.out⟩
          · have hNF : (m + 1) = NF := by rw [← HNF.out, hdB_flts, show hdR z m = (z m % 6).toNat from rfl, hr]; rfl
            subst hNF
            have htr : (z m).tmod 6 = 5 := htm.trans hr
            clear htm hr HF HNF HB
            go_upto_region 18 with fail
            go_loopg [9] (m + 2) (fun g v wx => ∃ j : Nat, g = m + 2 - j ∧ j ≤ m + 2 ∧ v = .int .i64 j ∧ wx = w2)
            case atStart => exact ⟨0, rfl, Nat.zero_le _, rfl, rfl⟩
            case round =>
              obtain ⟨j, hgj, hj, rfl, hwx⟩ := hrel
              subst hwx
              by_cases hjl : j < m + 2
              · have hjI : j < (hdB z (m + 1)).items.length := by rw [HLEN.out]; exact hjl
                obtain ⟨g1, aa, ac, hg1, -, -, -, hc⟩ := HI.out j hjI
                subst hg1
                have c0 := hc 0 _ rfl
                rw [hdB_deep z (m + 1) j hjI, Nat.add_zero] at c0
                have c0' : _ = some (Value.int .i64 0) := c0
                have ht2 : decide ((j : Int) < ((m + 1 + 1 : Nat) : Int)) = true := decide_eq_true (by omega)
                clear hc hjI c0
                go_wp2
                go_roundg (m + 2 - (j + 1))
                case rel => exact ⟨j + 1, rfl, by omega, by go_num, rfl⟩
                case measure => omega
              · have ht2 : decide ((j : Int) < ((m + 1 + 1 : Nat) : Int)) = false := decide_eq_false (by omega)
                clear HI
                go_wp2
                go_ret
                exact ⟨rfl, HK2.out⟩

  · have q1' : decide ((n : Int) > 60) = true := decide_eq_true (by omega)
    have hu := h0
    clear hu h0
    go_enter Try.func7, Try.ntmps7
    go_wp2_with fail
    refine rk.mono ?_
    rintro e w1 ⟨rfl, k1⟩
    clear rk
    go_wp2
    go_ret
    exact ⟨rfl, k1⟩
end Go.Proofs.Ytffllhohlfblnab
