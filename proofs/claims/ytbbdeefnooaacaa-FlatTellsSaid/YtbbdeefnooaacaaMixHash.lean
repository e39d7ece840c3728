/- Contracts of mix.Hash and what it calls, of scrutinyref03.Hash, and of both Place functions: each returns the same pure function of bytes and a seed; memory that was there stays as it was. -/
import Derived.Test.YtbbdeefnooaacaaOwn
import Derived.WalkKit
import Derived.WalkSpells
import Derived.WalkLawsBesides
import Derived.Lib.Hide
namespace Go.Proofs.Ytbbdeefnooaacaa
open Go.RowKit
set_option linter.unusedVariables false
set_option linter.unusedSimpArgs false

/-- One step of the hash, and all of them. -/
def mulP (n : Nat) : Nat := n * 1099511628211 % 18446744073709551616
def mulS (n : Nat) : Nat := n * 13787848793156543929 % 18446744073709551616
def xs29 (n : Nat) : Nat := n ^^^ n / 536870912
def xs32 (n : Nat) : Nat := n ^^^ n / 4294967296
theorem mulP_lt (n : Nat) : mulP n < 18446744073709551616 := by unfold mulP; omega
theorem mulS_lt (n : Nat) : mulS n < 18446744073709551616 := by unfold mulS; omega
theorem mulP_wrap (n : Nat) : IntKind.u64.wrap ((n : Nat) * 1099511628211 : Int) = ((mulP n : Nat) : Int) := by
  rw [IntKind.wrap_u64]; unfold mulP; omega
theorem mulS_wrap (n : Nat) : IntKind.u64.wrap ((n : Nat) * 13787848793156543929 : Int) = ((mulS n : Nat) : Int) := by
  rw [IntKind.wrap_u64]; unfold mulS; omega
theorem xs29_bits (n : Nat) (h : n < 18446744073709551616) : bits .xor .u64 (n : Int) ((n : Int) / 536870912) = ((xs29 n : Nat) : Int) := by
  have := xorShift_u64 n 536870912 h
  unfold xs29; exact this
theorem xs32_bits (n : Nat) (h : n < 18446744073709551616) : bits .xor .u64 (n : Int) ((n : Int) / 4294967296) = ((xs32 n : Nat) : Int) := by
  have := xorShift_u64 n 4294967296 h
  unfold xs32; exact this
theorem xor_shift_lt (h s : Nat) (hh : h < 18446744073709551616) : h ^^^ h / s < 18446744073709551616 :=
  Nat.xor_lt_two_pow (n := 64) (by omega) (Nat.lt_of_le_of_lt (Nat.div_le_self _ _) (by omega))
theorem xs29_lt (n : Nat) (h : n < 18446744073709551616) : xs29 n < 18446744073709551616 := by unfold xs29; exact xor_shift_lt n _ h
theorem xs32_lt (n : Nat) (h : n < 18446744073709551616) : xs32 n < 18446744073709551616 := by unfold xs32; exact xor_shift_lt n _ h
attribute [irreducible] mulP mulS xs29 xs32
def stepH (h : Nat) (x : Nat) : Nat := mulP (h ^^^ x)
def foldH (h : Nat) (l : List Nat) : Nat := l.foldl stepH h
theorem stepH_lt (h x : Nat) : stepH h x < 18446744073709551616 := by unfold stepH; exact mulP_lt _
theorem foldH_nil (h : Nat) : foldH h [] = h := by unfold foldH; rw [List.foldl_nil]
theorem foldH_cons (h x : Nat) (l : List Nat) : foldH h (x :: l) = foldH (stepH h x) l := by unfold foldH; rw [List.foldl_cons]
/-- A number of 64 bits. -/
def U64 (n : Nat) : Prop := n < 18446744073709551616
theorem stepH_U (h x : Nat) : U64 (stepH h x) := stepH_lt h x
theorem foldH_U : ∀ (l : List Nat) (h : Nat), U64 h → U64 (foldH h l)
  | [], h, hh => by rw [foldH_nil]; exact hh
  | x :: r, h, _ => by rw [foldH_cons]; exact foldH_U r _ (stepH_U h x)
theorem foldH_lt (l : List Nat) (h : Nat) (hh : h < 18446744073709551616) : foldH h l < 18446744073709551616 := foldH_U l h hh
theorem foldH_snoc (h : Nat) (l : List Nat) (x : Nat) : foldH h (l ++ [x]) = stepH (foldH h l) x := by unfold foldH; rw [List.foldl_append, List.foldl_cons, List.foldl_nil]
theorem take_snocN (l : List Nat) (k : Nat) (h : k < l.length) : l.take (k + 1) = l.take k ++ [l.getD k 0] := by
  rw [List.take_succ_eq_append_getElem h]; simp [h]

theorem step_val (h0 : Nat) (l : List Nat) (k : Nat) (hh0 : h0 < 18446744073709551616) (hk : k < l.length) (h3 : ∀ n ∈ l, n < 256) :
    IntKind.u64.wrap (bits BinOp.xor IntKind.u64 ((foldH h0 (List.take k l) : Nat) : Int) (IntKind.u64.wrap ((l[k] : Nat) : Int)) * 1099511628211) = ((foldH h0 (List.take (k + 1) l) : Nat) : Int) := by
  have hb : l[k] < 256 := h3 _ (List.getElem_mem hk)
  have hf := foldH_lt (l.take k) h0 hh0
  rw [take_snocN l k hk, foldH_snoc]
  have e : l.getD k 0 = l[k] := by simp [hk]
  rw [e]
  generalize foldH h0 (l.take k) = X at *
  generalize l[k] = x at *
  have w1 : IntKind.u64.wrap ((x : Nat) : Int) = ((x : Nat) : Int) := by rw [IntKind.wrap_u64]; omega
  rw [w1, bits_xor_u64_nat X x hf (by omega), mulP_wrap]
  unfold stepH
  rfl

set_option maxHeartbeats 400000 in
theorem mixHash1 (w : World) (pb ph off0 offh : Nat) (a : Option Addr) (len cap : Nat) (l : List Nat) (h0 : Nat) (hh0 : h0 < 18446744073709551616)
    (hb : w.cell? ⟨pb, off0, none⟩ = some (.slice a len cap)) (hh : w.cell? ⟨ph, offh, none⟩ = some (.int .u64 (h0 : Nat))) (hf : w.frozen? ⟨ph, offh, none⟩ = false)
    (hl : BytesAt w a len cap l) (hne : len ≠ 0 → ∀ b o, a = some ⟨b, o, none⟩ → b ≠ ph) (hne2 : pb ≠ ph) :
    Calls Try.prog 43 #[.pointer (some ⟨pb, off0, none⟩), .pointer (some ⟨ph, offh, none⟩)] w fun e w' => e = .returned (.tuple #[]) ∧
      w'.cell? ⟨ph, offh, none⟩ = some (.int .u64 (foldH h0 l : Nat)) ∧ w'.frozen? ⟨ph, offh, none⟩ = false ∧ w'.heap.size = w.heap.size ∧ Below ph w w' := by
  obtain ⟨h1, h2, h3, hnone, h4⟩ := hl
  have hlen := h1
  go_enter Try.func43, Try.ntmps43
  go_wp2
  go_loopw [6] (fun i wr => ∃ k : Nat, k ≤ len ∧ i = .int .i64 k ∧ wr.cell? ⟨ph, offh, none⟩ = some (.int .u64 (foldH h0 (l.take k) : Nat)) ∧ wr.frozen? ⟨ph, offh, none⟩ = false ∧ wr.heap.size = w.heap.size ∧ Below ph w wr ∧ (∀ b, b ≠ ph → wr.heap[b]? = w.heap[b]?)) (fun i _ => len - (intOf i).toNat)
  case atStart => exact ⟨0, Nat.zero_le _, rfl, by rw [List.take_zero, foldH_nil]; exact hh, hf, rfl, Below.refl _ _, fun _ _ => rfl⟩
  case round =>
    obtain ⟨k, hk, rfl, hc, hfr, hsz, hbel, hoth⟩ := hrel
    by_cases hlt : k < len
    · have hlen0 : len ≠ 0 := by omega
      obtain ⟨b, off, rfl, hbs, hcell⟩ := h4.resolve_left hlen0
      have hbp := hne hlen0 b off rfl
      have hx : wr.cell? ⟨b, off + k, none⟩ = some (.int .u8 (l.getD k 0 : Nat)) := by
        rw [World.cell?_of_block (w := w) (hoth b hbp)]; exact hcell k hlt
      go_wp2
      go_roundw
      case rel =>
        refine ⟨k + 1, by omega, by go_num, ?_, ?_, by simp [World.setCell, hsz], hbel.setCell (Nat.le_refl _) _, ?_⟩
        · rw [World.cell?_setCell_same _ _ _ hc]
          exact congrArg some (congrArg (Value.int IntKind.u64) (step_val h0 l k hh0 (by omega) h3))
        · rw [World.frozen?_setCell]; exact hfr
        · intro b' hb'; rw [Below.heap_setCell _ _ _ _ hb']; exact hoth b' hb'
      case measure => simp [intOf]; omega
    · obtain rfl : k = len := by omega
      go_wp2
      go_end0
      rw [← h1, List.take_length] at hc
      exact ⟨rfl, hc, hfr, hsz, hbel⟩

/-- The three closures that follow: each reads and writes the one cell. -/
theorem mixHash2 (w : World) (ph offh : Nat) (h : Nat) (hl : h < 18446744073709551616)
    (hh : w.cell? ⟨ph, offh, none⟩ = some (.int .u64 (h : Nat))) (hf : w.frozen? ⟨ph, offh, none⟩ = false) :
    Calls Try.prog 44 #[.pointer (some ⟨ph, offh, none⟩)] w fun e w' => e = .returned (.tuple #[]) ∧
      w' = w.setCell ⟨ph, offh, none⟩ (.int .u64 (xs29 h : Nat)) := by
  have hb0 := xs29_bits h hl
  go_enter Try.func44, Try.ntmps44
  have hb := Lib.hid hb0
  clear hb0
  go_wp2
  go_end0
  exact ⟨rfl, congrArg (fun n => w.setCell ⟨ph, offh, none⟩ (.int .u64 n)) hb.out⟩
theorem mixHash3 (w : World) (ph offh : Nat) (h : Nat) (hl : h < 18446744073709551616)
    (hh : w.cell? ⟨ph, offh, none⟩ = some (.int .u64 (h : Nat))) (hf : w.frozen? ⟨ph, offh, none⟩ = false) :
    Calls Try.prog 45 #[.pointer (some ⟨ph, offh, none⟩)] w fun e w' => e = .returned (.tuple #[]) ∧
      w' = w.setCell ⟨ph, offh, none⟩ (.int .u64 (mulS h : Nat)) := by
  have hb0 := mulS_wrap h
  go_enter Try.func45, Try.ntmps45
  have hb := Lib.hid hb0
  clear hb0
  go_wp2
  go_end0
  exact ⟨rfl, congrArg (fun n => w.setCell ⟨ph, offh, none⟩ (.int .u64 n)) hb.out⟩
theorem mixHash4 (w : World) (ph offh : Nat) (h : Nat) (hl : h < 18446744073709551616)
    (hh : w.cell? ⟨ph, offh, none⟩ = some (.int .u64 (h : Nat))) (hf : w.frozen? ⟨ph, offh, none⟩ = false) :
    Calls Try.prog 46 #[.pointer (some ⟨ph, offh, none⟩)] w fun e w' => e = .returned (.tuple #[]) ∧
      w' = w.setCell ⟨ph, offh, none⟩ (.int .u64 (xs32 h : Nat)) := by
  have hb0 := xs32_bits h hl
  go_enter Try.func46, Try.ntmps46
  have hb := Lib.hid hb0
  clear hb0
  go_wp2
  go_end0
  exact ⟨rfl, congrArg (fun n => w.setCell ⟨ph, offh, none⟩ (.int .u64 n)) hb.out⟩
/-- What the hash is. -/
def mixS (h : Nat) : Nat := xs32 (mulS (xs29 h))
def hashS (l : List Nat) (seed : Nat) : Nat := mixS (foldH (seed ^^^ 11400714819323198485) l)
theorem start_lt (seed : Nat) (hs : seed < 18446744073709551616) : seed ^^^ 11400714819323198485 < 18446744073709551616 :=
  Nat.xor_lt_two_pow (n := 64) (by omega) (by omega)
set_option maxHeartbeats 1000000 in
theorem mixHash_core (w : World) (a : Option Addr) (len cap : Nat) (l : List Nat) (seed g0 g1 g2 g3 g4 : Nat)
    (b0 : g0 < 18446744073709551616) (b1 : g1 < 18446744073709551616) (b2 : g2 < 18446744073709551616) (b3 : g3 < 18446744073709551616)
    (hx : Hid (bits .xor .u64 (seed : Int) 11400714819323198485 = ((g0 : Nat) : Int))) (e1 : Hid (g1 = foldH g0 l)) (e2 : Hid (g2 = xs29 g1))
    (e3 : Hid (g3 = mulS g2)) (e4 : Hid (g4 = xs32 g3)) (hl : BytesAt w a len cap l) :
    Calls Try.prog 36 #[.slice a len cap, .int .u64 (seed : Nat)] w fun e w' => e = .returned (.int .u64 (g4 : Nat)) ∧ Below w.heap.size w w' := by
  have i0 : ∀ (x0 x1 x2 x3 : Value) (w : World), (Instr.index 91 (.agg #[x0, x1, x2, x3]) (.int .i64 0)).run Try.prog w = .ok x0 w := fun _ _ _ _ _ => by kernel_rfl
  have i1 : ∀ (x0 x1 x2 x3 : Value) (w : World), (Instr.index 91 (.agg #[x0, x1, x2, x3]) (.int .i64 1)).run Try.prog w = .ok x1 w := fun _ _ _ _ _ => by kernel_rfl
  have i2 : ∀ (x0 x1 x2 x3 : Value) (w : World), (Instr.index 91 (.agg #[x0, x1, x2, x3]) (.int .i64 2)).run Try.prog w = .ok x2 w := fun _ _ _ _ _ => by kernel_rfl
  have i3 : ∀ (x0 x1 x2 x3 : Value) (w : World), (Instr.index 91 (.agg #[x0, x1, x2, x3]) (.int .i64 3)).run Try.prog w = .ok x3 w := fun _ _ _ _ _ => by kernel_rfl
  go_enter Try.func36, Try.ntmps36
  go_wp2
  go_loopw [15] (fun i wr => ∃ k g : Nat, k ≤ 4 ∧ i = .int .i64 k ∧ Hid (g = [g0, g1, g2, g3, g4].getD k 0) ∧ wr.cell? ⟨w.heap.size + 1, 0, none⟩ = some (.int .u64 (g : Nat)) ∧ wr.frozen? ⟨w.heap.size + 1, 0, none⟩ = false ∧ wr.cell? ⟨w.heap.size, 0, none⟩ = some (.slice a len cap) ∧ wr.heap.size = w.heap.size + 2 ∧ Below w.heap.size w wr) (fun i _ => 4 - (intOf i).toNat)
  case atStart =>
    refine ⟨0, g0, by omega, rfl, rfl, ?_, by simp, by simp, by simp, ((Below.refl _ _).alloc (Nat.le_refl _) _).alloc (by simp) _⟩
    rw [← hx.out]; simp
  case round =>
    obtain ⟨k, g, hk, rfl, hg, hc, hfr, hcs, hsz, hbel⟩ := hrel
    have hlw := hl.mono hbel
    have hk5 : k = 0 ∨ k = 1 ∨ k = 2 ∨ k = 3 ∨ k = 4 := by omega
    rcases hk5 with rfl | rfl | rfl | rfl | rfl
    · obtain rfl : g = g0 := hg.out
      have hne : len ≠ 0 → ∀ b o, a = some (⟨b, o, none⟩ : Addr) → b ≠ w.heap.size + 1 := by
        intro h0 b o ha
        rcases hl.5 with h4 | ⟨b', off, ha', hlt, _⟩
        · exact absurd h4 h0
        · rw [ha'] at ha; simp at ha; omega
      go_wp2_with (go_at_call 43; refine (mixHash1 _ _ _ _ _ _ _ _ l g b0 hcs hc hfr hlw hne (by omega)).mono ?_; rintro e w1 ⟨rfl, hc1, hf1, hs1, hb1⟩)
      go_roundw
      case rel =>
        refine ⟨1, g1, by omega, rfl, rfl, ?_, hf1, ?_, by rw [hs1, hsz], hbel.trans (hb1.mono (by omega))⟩
        · rw [hc1, e1.out]
        · rw [hb1.cell (p := ⟨w.heap.size, 0, none⟩) (by show w.heap.size < _; omega)]; exact hcs
      case measure => simp [intOf]
    · obtain rfl : g = g1 := hg.out
      go_wp2_with (go_at_call 44; refine (mixHash2 _ _ _ g b1 hc hfr).mono ?_; rintro e w1 ⟨rfl, rfl⟩)
      go_roundw
      case rel =>
        refine ⟨2, g2, by omega, rfl, rfl, ?_, ?_, ?_, by simp [World.setCell, hsz], hbel.setCell (Nat.le_succ _) _⟩
        · rw [World.cell?_setCell_same _ _ _ hc, e2.out]
        · rw [World.frozen?_setCell]; exact hfr
        · rw [World.cell?_setCell_other _ _ _ _ (by simp)]; exact hcs
      case measure => simp [intOf]
    · obtain rfl : g = g2 := hg.out
      go_wp2_with (go_at_call 45; refine (mixHash3 _ _ _ g b2 hc hfr).mono ?_; rintro e w1 ⟨rfl, rfl⟩)
      go_roundw
      case rel =>
        refine ⟨3, g3, by omega, rfl, rfl, ?_, ?_, ?_, by simp [World.setCell, hsz], hbel.setCell (Nat.le_succ _) _⟩
        · rw [World.cell?_setCell_same _ _ _ hc, e3.out]
        · rw [World.frozen?_setCell]; exact hfr
        · rw [World.cell?_setCell_other _ _ _ _ (by simp)]; exact hcs
      case measure => simp [intOf]
    · obtain rfl : g = g3 := hg.out
      go_wp2_with (go_at_call 46; refine (mixHash4 _ _ _ g b3 hc hfr).mono ?_; rintro e w1 ⟨rfl, rfl⟩)
      go_roundw
      case rel =>
        refine ⟨4, g4, by omega, rfl, rfl, ?_, ?_, ?_, by simp [World.setCell, hsz], hbel.setCell (Nat.le_succ _) _⟩
        · rw [World.cell?_setCell_same _ _ _ hc, e4.out]
        · rw [World.frozen?_setCell]; exact hfr
        · rw [World.cell?_setCell_other _ _ _ _ (by simp)]; exact hcs
      case measure => simp [intOf]
    · obtain rfl : g = g4 := hg.out
      go_wp2
      go_ret
      exact ⟨rfl, hbel⟩
theorem mixHash_any (w : World) (a : Option Addr) (len cap : Nat) (l : List Nat) (seed : Nat) (hs : seed < 18446744073709551616) (hl : BytesAt w a len cap l) :
    Calls Try.prog 36 #[.slice a len cap, .int .u64 (seed : Nat)] w fun e w' => e = .returned (.int .u64 (hashS l seed : Nat)) ∧ Below w.heap.size w w' := by
  obtain ⟨g0, hg0⟩ : ∃ g, g = seed ^^^ 11400714819323198485 := ⟨_, rfl⟩
  obtain ⟨g1, hg1⟩ : ∃ g, g = foldH g0 l := ⟨_, rfl⟩
  obtain ⟨g2, hg2⟩ : ∃ g, g = xs29 g1 := ⟨_, rfl⟩
  obtain ⟨g3, hg3⟩ : ∃ g, g = mulS g2 := ⟨_, rfl⟩
  obtain ⟨g4, hg4⟩ : ∃ g, g = xs32 g3 := ⟨_, rfl⟩
  have b0 : g0 < 18446744073709551616 := by rw [hg0]; exact start_lt seed hs
  have b1 : g1 < 18446744073709551616 := by rw [hg1]; exact foldH_lt l _ b0
  have b2 : g2 < 18446744073709551616 := by rw [hg2]; exact xs29_lt _ b1
  have b3 : g3 < 18446744073709551616 := by rw [hg3]; exact mulS_lt _
  have hx := bits_xor_u64_nat seed 11400714819323198485 hs (by decide)
  rw [← hg0] at hx
  have key := mixHash_core w a len cap l seed g0 g1 g2 g3 g4 b0 b1 b2 b3 hx hg1 hg2 hg3 hg4 hl
  have e : g4 = hashS l seed := by unfold hashS mixS; rw [hg4, hg3, hg2, hg1, hg0]
  rw [← e]
  exact key
end Go.Proofs.Ytbbdeefnooaacaa
