/- Rows that a law makes; the document's Vec; the head of all statements of layer 2. -/
import Derived.Test.YtblipgmllpniaaaSchema12
namespace Go.Proofs.Ytblipgmllpniaaa
open Go.RowKit
set_option linter.unusedVariables false

theorem below_alloc (w : World) (o : Obj) : Below w.heap.size w (w.alloc o) := (Below.refl _ _).alloc (Nat.le_refl _) o
theorem below_new' {w a : World} (h : Below w.heap.size w a) (o : Obj) : Below w.heap.size w (a.alloc o) := h.alloc h.size o
theorem ints_new (w : World) {t : TypeId} (g : Nat) (hg : w.heap.size = g) (l : List Int) (n : Nat) (hn : l.length = n) (hs : n ≤ 9223372036854775807) (cs : Array Value) (hc : cs = ⟨l.map (Value.int .i64)⟩) : IntsAt (w.alloc (.cells cs t)) (some ⟨g, 0, none⟩) n l := by
  subst hg hc
  refine ⟨hn, hs, .inr ⟨w.heap.size, 0, rfl, by simp, fun i hi => ?_⟩⟩
  have h := World.alloc_heap_new w (.cells ⟨l.map (Value.int .i64)⟩ t)
  rw [Nat.zero_add, cur_cell h]
  simp [show i < l.length by omega]
theorem bytes_new (w : World) {t : TypeId} (g : Nat) (hg : w.heap.size = g) (l : List Nat) (hb : ∀ c ∈ l, c < 256) (n c : Nat) (hn : l.length = n) (hs : n ≤ 9223372036854775807) (cs : Array Value) (hc : cs = ⟨l.map fun (x : Nat) => Value.int .u8 (x : Int)⟩) : BytesAt (w.alloc (.cells cs t)) (some ⟨g, 0, none⟩) n c l := by
  subst hg hc
  refine ⟨hn, hs, hb, nofun, .inr ⟨w.heap.size, 0, rfl, by simp, fun i hi => ?_⟩⟩
  have h := World.alloc_heap_new w (.cells ⟨l.map fun (x : Nat) => Value.int .u8 (x : Int)⟩ t)
  rw [Nat.zero_add, cur_cell h]
  simp [show i < l.length by omega]
/-- Ranges as cells. -/
def fieldCells (fs : List (Int × Int)) : List Value := fs.flatMap fun f => [.int .i64 f.1, .int .i64 f.2]
theorem fieldCells_at (fs : List (Int × Int)) : ∀ i, i < fs.length → (fieldCells fs)[i * 2]? = some (.int .i64 (fs.getD i (0, 0)).1) ∧ (fieldCells fs)[i * 2 + 1]? = some (.int .i64 (fs.getD i (0, 0)).2) := by
  induction fs with
  | nil => intro i hi; simp at hi
  | cons f r ih =>
    intro i hi
    have e : fieldCells (f :: r) = .int .i64 f.1 :: .int .i64 f.2 :: fieldCells r := by simp [fieldCells]
    rw [e]
    cases i with
    | zero => simp
    | succ i =>
      have := ih i (by simpa using hi)
      rw [show (i + 1) * 2 = i * 2 + 1 + 1 from by omega]
      simpa using this
theorem fields_new (w : World) {t : TypeId} (g : Nat) (hg : w.heap.size = g) (fs : List (Int × Int)) (hw : ∀ f ∈ fs, (-9223372036854775808 ≤ f.1 ∧ f.1 ≤ 9223372036854775807) ∧ (-9223372036854775808 ≤ f.2 ∧ f.2 ≤ 9223372036854775807)) (n : Nat) (hn : fs.length = n) (hs : n ≤ 9223372036854775807) (cs : Array Value) (hc : cs = ⟨fieldCells fs⟩) : FieldsAt (w.alloc (.cells cs t)) (some ⟨g, 0, none⟩) n fs := by
  subst hg hc
  refine ⟨hn, hs, hw, .inr ⟨w.heap.size, 0, rfl, by simp, fun i hi => ?_⟩⟩
  have h := World.alloc_heap_new w (.cells ⟨fieldCells fs⟩ t)
  rw [Nat.zero_add, cur_cell h, cur_cell h]
  simpa using fieldCells_at fs i (by omega)
theorem take_snocZ (l : List Int) (k : Nat) (h : k < l.length) : l.take (k + 1) = l.take k ++ [l.getD k 0] := by
  rw [List.take_succ_eq_append_getElem h]; simp [h]
theorem snoc_eq_snoc (l m : List Int) (x y : Int) : (l ++ [x] = m ++ [y]) ↔ (l = m ∧ x = y) := by
  constructor
  · intro h; have := List.append_inj' h rfl; simpa using this
  · rintro ⟨rfl, rfl⟩; rfl
theorem vec_short (w : World) (a : Option Addr) (len cap : Nat) (b : Option Addr) (len' cap' : Nat) (hne : len ≠ len') (s1 : len ≤ 9223372036854775807) (s2 : len' ≤ 9223372036854775807) :
    Calls Try.prog 24 #[.slice a len cap, .slice b len' cap'] w fun e w' => e = .returned (.bool false) ∧ Below w.heap.size w w' := by
  have h1 : ((len : Int) == (len' : Int)) = false := by simp; omega
  have h2 : ((len : Int) != (len' : Int)) = true := by simp; omega
  go_enter Try.func24, Try.ntmps24
  go_wp2
  go_ret
  exact ⟨rfl, Below.refl _ _⟩
set_option maxHeartbeats 1000000 in
theorem vec_any (w : World) (a : Option Addr) (len cap : Nat) (b : Option Addr) (len' cap' : Nat) (l m : List Int) (hl : IntsAt w a len l) (hm : IntsAt w b len' m) :
    Calls Try.prog 24 #[.slice a len cap, .slice b len' cap'] w fun e w' => e = .returned (.bool (decide (l = m))) ∧ Below w.heap.size w w' := by
  obtain ⟨h1, h2, h4⟩ := hl
  obtain ⟨j1, j2, j4⟩ := hm
  by_cases hne : len = len'
  case neg =>
    have hd : decide (l = m) = false := by
      rw [decide_eq_false_iff_not]; intro h; rw [h] at h1; omega
    rw [hd]
    exact vec_short w a len cap b len' cap' hne h2 j2
  case pos =>
    obtain rfl := hne
    have H1 := Lib.hid h1
    have J1 := Lib.hid j1
    have hb2 : ((len : Int) != (len : Int)) = false := by simp
    clear h1 j1
    generalize hd : decide (l = m) = D
    have HD := Lib.hid hd
    clear hd
    go_enter Try.func24, Try.ntmps24
    go_wp2
    go_loopw [5] (fun i wr => ∃ k : Nat, k ≤ len ∧ i = .int .i64 k ∧ Hid (l.take k = m.take k) ∧ Below w.heap.size w wr) (fun i _ => len - (intOf i).toNat)
    case atStart => exact ⟨0, Nat.zero_le _, rfl, by simp [Hid], Below.refl _ _⟩
    case round =>
      obtain ⟨k, hk, rfl, ht, hbel⟩ := hrel
      by_cases hlt : k < len
      · have hlen0 : len ≠ 0 := by omega
        obtain ⟨b1, off1, rfl, hbs1, hcell1⟩ := h4.resolve_left hlen0
        obtain ⟨b2, off2, rfl, hbs2, hcell2⟩ := j4.resolve_left hlen0
        have hx : wr.cell? ⟨b1, off1 + k, none⟩ = some (.int .i64 (l.getD k 0)) := by rw [hbel.cell (p := ⟨b1, off1 + k, none⟩) hbs1]; exact hcell1 k hlt
        have hy : wr.cell? ⟨b2, off2 + k, none⟩ = some (.int .i64 (m.getD k 0)) := by rw [hbel.cell (p := ⟨b2, off2 + k, none⟩) hbs2]; exact hcell2 k hlt
        have t1 := Lib.hid (take_snocZ l k (by rw [H1.out]; exact hlt))
        have t2 := Lib.hid (take_snocZ m k (by rw [J1.out]; exact hlt))
        generalize l.getD k 0 = x at *
        generalize m.getD k 0 = y at *
        clear h4 j4 hcell1 hcell2
        go_wp2
        go_quiet (fail)
        go_wp2
        · have hne : (x != y) = true := by assumption
          go_ret
          refine ⟨?_, hbel.trans (below_drewN (Below.refl _ _) _)⟩
          have hD : D = false := by
            rw [← HD.out, decide_eq_false_iff_not]
            intro h
            have e := t1.out
            rw [h, t2.out, snoc_eq_snoc] at e
            rw [e.2] at hne; simp at hne
          rw [hD]; rfl
        · have heq : (x != y) = false := by assumption
          go_roundw
          case rel =>
            refine ⟨k + 1, by omega, by go_num, ?_, hbel.trans (below_drewN (Below.refl _ _) _)⟩
            have hxy : x = y := by simpa using heq
            show l.take (k + 1) = m.take (k + 1)
            rw [t1.out, t2.out, snoc_eq_snoc]
            exact ⟨ht.out, hxy⟩
          case measure => simp [intOf]; omega
      · obtain rfl : k = len := by omega
        go_wp2
        go_ret
        have h3 := ht.out
        have hh := HD.out
        rw [List.take_of_length_le (by rw [H1.out]; omega), List.take_of_length_le (by rw [J1.out]; omega)] at h3
        rw [← hh, decide_eq_true h3]
        exact ⟨rfl, hbel⟩
end Go.Proofs.Ytblipgmllpniaaa
