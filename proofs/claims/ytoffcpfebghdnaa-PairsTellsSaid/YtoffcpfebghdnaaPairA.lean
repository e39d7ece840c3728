/- A pair's key, and a number of bytes. -/
import Derived.Test.YtoffcpfebghdnaaTabJ
namespace Go.Proofs.Ytoffcpfebghdnaa
open Go.RowKit
set_option linter.unusedVariables false
set_option linter.unusedSimpArgs false

/-- A pair's bytes. -/
def pk (a b : Nat) : List Nat := [a / 16777216, a / 65536 % 256, a / 256 % 256, a % 256, b / 16777216, b / 65536 % 256, b / 256 % 256, b % 256]
def kRow (a b : Nat) : Nat → Array Value
  | 0 => #[.int .u8 0, .int .u8 0, .int .u8 0, .int .u8 0, .int .u8 0, .int .u8 0, .int .u8 0, .int .u8 0]
  | 1 => #[.int .u8 ((a : Int) / 16777216), .int .u8 0, .int .u8 0, .int .u8 0, .int .u8 ((b : Int) / 16777216), .int .u8 0, .int .u8 0, .int .u8 0]
  | 2 => #[.int .u8 ((a : Int) / 16777216), .int .u8 ((a : Int) / 65536 % 256), .int .u8 0, .int .u8 0, .int .u8 ((b : Int) / 16777216), .int .u8 ((b : Int) / 65536 % 256), .int .u8 0, .int .u8 0]
  | 3 => #[.int .u8 ((a : Int) / 16777216), .int .u8 ((a : Int) / 65536 % 256), .int .u8 ((a : Int) / 256 % 256), .int .u8 0, .int .u8 ((b : Int) / 16777216), .int .u8 ((b : Int) / 65536 % 256), .int .u8 ((b : Int) / 256 % 256), .int .u8 0]
  | _ => #[.int .u8 ((a : Int) / 16777216), .int .u8 ((a : Int) / 65536 % 256), .int .u8 ((a : Int) / 256 % 256), .int .u8 ((a : Int) % 256), .int .u8 ((b : Int) / 16777216), .int .u8 ((b : Int) / 65536 % 256), .int .u8 ((b : Int) / 256 % 256), .int .u8 ((b : Int) % 256)]
theorem pair_row {w : World} {g i j : Nat} {cs : Array Value} {t : TypeId} (h : w.heap[g]? = some (.cells cs t (0, 0))) (x y : Value) : ((w.setCell ⟨g, i, none⟩ x).setCell ⟨g, j, none⟩ y).drew.heap[g]? = some (.cells ((cs.setIfInBounds i x).setIfInBounds j y) t (0, 0)) := by
  have h1 := Joins.block_setCell (i := i) h x
  have h2 := Joins.block_setCell (i := j) h1 y
  exact h2
set_option maxHeartbeats 1000000 in
theorem key_any (w : World) (a b : Nat) (ha : a < 4294967296) (hb : b < 4294967296) :
    Calls Try.prog 17 #[.int .u32 (a : Nat), .int .u32 (b : Nat)] w fun e w' => (∃ g, e = .returned (.slice (some ⟨g, 0, none⟩) 8 8) ∧ BytesAt w' (some ⟨g, 0, none⟩) 8 8 (pk a b) ∧ w.heap.size ≤ g) ∧ Below w.heap.size w w' := by
  obtain ⟨g, hg⟩ : ∃ g, w.heap.size = g := ⟨_, rfl⟩
  have g0 := heap_alloc_new w (.cells (kRow a b 0) 78)
  have b0 : Below w.heap.size w (w.alloc (.cells (kRow a b 0) 78)) := (Below.refl _ _).alloc (Nat.le_refl _) _
  have hgw : w.heap.size ≤ g := Nat.le_of_eq hg
  rw [hg] at g0 ⊢
  go_enter Try.func17, Try.ntmps17
  go_wp2_with fail
  have HG := Lib.hid hg
  clear hg
  go_loopw [8] (fun i w' => ∃ k : Nat, k ≤ 4 ∧ i = .int .i64 (k : Nat) ∧ w'.heap[g]? = some (.cells (kRow a b k) 78 (0, 0)) ∧ Below w.heap.size w w') (fun i _ => 4 - (intOf i).toNat)
  case atStart => exact ⟨0, by omega, rfl, g0, b0⟩
  case round =>
    clear g0 b0
    obtain ⟨k, hk, rfl, gr, bt⟩ := hrel
    have hk4 : k = 0 ∨ k = 1 ∨ k = 2 ∨ k = 3 ∨ k = 4 := by omega
    rcases hk4 with rfl | rfl | rfl | rfl | rfl
    case inr.inr.inr.inr =>
      have hby : BytesAt wr (some ⟨g, 0, none⟩) 8 8 (pk a b) := by
        refine ⟨rfl, by omega, ?_, nofun, .inr ⟨g, 0, rfl, (Array.getElem?_eq_some_iff.1 gr).1, fun i hi => ?_⟩⟩
        · intro n hn
          simp [pk] at hn
          omega
        · rw [cell_of_row _ _ _ _ _ _ gr, Nat.zero_add]
          match i, hi with
          | 0, _ => simp [kRow, pk]
          | 1, _ => simp [kRow, pk]
          | 2, _ => simp [kRow, pk]
          | 3, _ => simp [kRow, pk]
          | 4, _ => simp [kRow, pk]
          | 5, _ => simp [kRow, pk]
          | 6, _ => simp [kRow, pk]
          | 7, _ => simp [kRow, pk]
      go_wp2_with fail
      go_ret
      exact ⟨⟨g, rfl, hby, Nat.le_refl _⟩, HG.out ▸ bt⟩
    case inl =>
      have q0 := cell_of_row _ _ 0 _ _ _ gr
      have q4 := cell_of_row _ _ 4 _ _ _ gr
      simp only [kRow, List.getElem?_toArray, List.getElem?_cons_zero, List.getElem?_cons_succ] at q0 q4
      have z0 := frozen_of_row wr g 0 _ _ gr
      have z4 := frozen_of_row wr g 4 _ _ gr
      have gn := fun x y => pair_row (i := 0) (j := 4) gr x y
      go_wp2_with fail
      go_region
      go_wp2_with fail
      exact ⟨⟨1, by omega, rfl, gn _ _, ((bt.setCell hgw _).setCell hgw _).drew⟩, by simp [intOf]⟩
    case inr.inl =>
      have q0 := cell_of_row _ _ 1 _ _ _ gr
      have q4 := cell_of_row _ _ 5 _ _ _ gr
      simp only [kRow, List.getElem?_toArray, List.getElem?_cons_zero, List.getElem?_cons_succ] at q0 q4
      have z0 := frozen_of_row wr g 1 _ _ gr
      have z4 := frozen_of_row wr g 5 _ _ gr
      have gn := fun x y => pair_row (i := 1) (j := 5) gr x y
      go_wp2_with fail
      go_region
      go_wp2_with fail
      exact ⟨⟨2, by omega, rfl, gn _ _, ((bt.setCell hgw _).setCell hgw _).drew⟩, by simp [intOf]⟩
    case inr.inr.inl =>
      have q0 := cell_of_row _ _ 2 _ _ _ gr
      have q4 := cell_of_row _ _ 6 _ _ _ gr
      simp only [kRow, List.getElem?_toArray, List.getElem?_cons_zero, List.getElem?_cons_succ] at q0 q4
      have z0 := frozen_of_row wr g 2 _ _ gr
      have z4 := frozen_of_row wr g 6 _ _ gr
      have gn := fun x y => pair_row (i := 2) (j := 6) gr x y
      go_wp2_with fail
      go_region
      go_wp2_with fail
      exact ⟨⟨3, by omega, rfl, gn _ _, ((bt.setCell hgw _).setCell hgw _).drew⟩, by simp [intOf]⟩
    case inr.inr.inr.inl =>
      have q0 := cell_of_row _ _ 3 _ _ _ gr
      have q4 := cell_of_row _ _ 7 _ _ _ gr
      simp only [kRow, List.getElem?_toArray, List.getElem?_cons_zero, List.getElem?_cons_succ] at q0 q4
      have z0 := frozen_of_row wr g 3 _ _ gr
      have z4 := frozen_of_row wr g 7 _ _ gr
      have gn := fun x y => pair_row (i := 3) (j := 7) gr x y
      go_wp2_with fail
      go_region
      go_wp2_with fail
      exact ⟨⟨4, by omega, rfl, gn _ _, ((bt.setCell hgw _).setCell hgw _).drew⟩, by simp [intOf]⟩

/-- The number of four bytes. -/
def numB (l : List Nat) : Nat := l.foldl (fun n x => n * 256 % 4294967296 + x) 0
theorem numB_snoc (l : List Nat) (x : Nat) : numB (l ++ [x]) = numB l * 256 % 4294967296 + x := by simp [numB]
theorem or_u32 (a b : Nat) (ha : a < 4294967296) (hb : b < 4294967296) : bits .or .u32 (a : Int) (b : Int) = ((a ||| b : Nat) : Int) := by
  have hx : a ||| b < 2 ^ 32 := Nat.or_lt_two_pow (by omega) (by omega)
  have h1 : (BitVec.ofInt 32 (a : Int)).toNat = a := by
    rw [BitVec.ofInt_natCast, BitVec.toNat_ofNat]; exact Nat.mod_eq_of_lt (by omega)
  have h2 : (BitVec.ofInt 32 (b : Int)).toNat = b := by
    rw [BitVec.ofInt_natCast, BitVec.toNat_ofNat]; exact Nat.mod_eq_of_lt (by omega)
  show IntKind.u32.wrap ((BitVec.ofInt 32 (a : Int) ||| BitVec.ofInt 32 (b : Int)).toNat : Int) = _
  rw [BitVec.toNat_or, h1, h2, show ∀ n, IntKind.u32.wrap n = n % 4294967296 from fun n => by simp [IntKind.wrap, IntKind.bits, IntKind.signed]]
  omega
theorem or_step (n x : Nat) (hx : x < 256) : bits .or .u32 ((n : Int) * 256 % 4294967296) (x : Int) = ((n * 256 % 4294967296 + x : Nat) : Int) := by
  have e1 : ((n : Int) * 256 % 4294967296) = ((n * 256 % 4294967296 : Nat) : Int) := by omega
  rw [e1, or_u32 _ _ (by omega) (by omega)]
  have e3 : n * 256 % 4294967296 = (n % 16777216) <<< 8 := by rw [Nat.shiftLeft_eq]; omega
  rw [e3, ← Nat.shiftLeft_add_eq_or_of_lt (by omega)]
set_option maxHeartbeats 1000000 in
theorem number_any (w : World) (a : Option Addr) (l c : Nat) (k : List Nat) (h : BytesAt w a l c k) :
    Calls Try.prog 20 #[.slice a l c] w fun e w' => e = .returned (.int .u32 (numB k : Nat)) ∧ w = w' := by
  have hs := h.small
  have hl := h.len_eq
  have hbd : ∀ j, numB (k.take j) < 4294967296 := by
    intro j
    induction j with
    | zero => simp [numB]
    | succ j ih =>
      by_cases hj : j < k.length
      · rw [List.take_succ_eq_append_getElem hj, numB_snoc]
        have := h.byte _ (List.getElem_mem hj)
        omega
      · rw [List.take_of_length_le (by omega)]
        rw [List.take_of_length_le (by omega)] at ih
        exact ih
  go_enter Try.func20, Try.ntmps20
  go_wp2_with fail
  go_loop [3, 8] (fun n i => ∃ j : Nat, j ≤ l ∧ i = .int .i64 (j : Nat) ∧ n = .int .u32 (numB (k.take j) : Nat)) (fun _ i => l - (intOf i).toNat)
  case atStart => exact ⟨0, Nat.zero_le _, rfl, by simp [numB]⟩
  case round =>
    obtain ⟨j, hj, rfl, rfl⟩ := hrel
    have hb1 := hbd j
    by_cases hjl : j < l
    · have f1 : decide (j < l) = true := by simpa using hjl
      obtain ⟨b, off, rfl, hlt, hc⟩ := h.at_.resolve_left (by omega)
      have q := hc j hjl
      have hx := h.byte _ (List.getElem_mem (show j < k.length by omega))
      have hsn : numB (k.take (j + 1)) = numB (k.take j) * 256 % 4294967296 + k[j]'(by omega) := by
        rw [List.take_succ_eq_append_getElem (by omega), numB_snoc]
      rw [List.getD_eq_getElem?_getD, List.getElem?_eq_getElem (by omega), Option.getD_some] at q
      obtain ⟨x, hxe⟩ : ∃ x, k[j]'(by omega) = x := ⟨_, rfl⟩
      rw [hxe] at q hx hsn
      obtain ⟨n0, hn0⟩ : ∃ n, numB (k.take j) = n := ⟨_, rfl⟩
      rw [hn0] at hb1 hsn ⊢
      have HS := Lib.hid hsn
      have i1 : (j : Int) < (l : Int) := by omega
      have hor := or_step n0 x hx
      clear hsn hxe hn0 hl hc h hbd
      go_wp2_with fail
      exact ⟨⟨j + 1, by omega, by simp, by rw [HS.out]; simp⟩, by simp [intOf]; omega⟩
    · have f1 : decide (j < l) = false := by simpa using hjl
      obtain rfl : j = l := by omega
      have hk : k.take j = k := List.take_of_length_le (by omega)
      rw [hk] at hb1 ⊢
      clear hk hl
      go_wp2_with fail
      go_ret
      exact ⟨rfl, rfl⟩
theorem pk_len (a b : Nat) : (pk a b).length = 8 := rfl
theorem numB_fst (a b : Nat) (ha : a < 4294967296) : numB ((pk a b).take 4) = a := by
  simp [numB, pk]
  omega
theorem numB_snd (a b : Nat) (hb : b < 4294967296) : numB ((pk a b).drop 4) = b := by
  simp [numB, pk]
  omega
theorem pk_inj {a b c d : Nat} (ha : a < 4294967296) (hb : b < 4294967296) (hc : c < 4294967296) (hd : d < 4294967296) (h : pk a b = pk c d) : a = c ∧ b = d := by
  have h1 := numB_fst a b ha
  have h2 := numB_snd a b hb
  rw [h, numB_fst c d hc] at h1
  rw [h, numB_snd c d hd] at h2
  exact ⟨h1.symm, h2.symm⟩
end Go.Proofs.Ytoffcpfebghdnaa
