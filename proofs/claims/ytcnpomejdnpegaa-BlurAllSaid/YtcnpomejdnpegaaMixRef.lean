/- Contracts of scrutinyref03.Hash and of both Place functions: each returns what mix.Hash, and a hash's place, are; memory stays as it is. -/
import Derived.Test.YtcnpomejdnpegaaMixHash
import Derived.Deep.QuietTactic
import Derived.BigQuiet
namespace Go.Proofs.Ytcnpomejdnpegaa
open Go.RowKit
set_option linter.unusedVariables false

theorem mix_val (F : Nat) (hF : F < 18446744073709551616) :
    bits .xor .u64 (IntKind.u64.wrap (bits .xor .u64 (F : Int) ((F : Int) / 536870912) * 13787848793156543929)) (IntKind.u64.wrap (bits .xor .u64 (F : Int) ((F : Int) / 536870912) * 13787848793156543929) / 4294967296) = ((mixS F : Nat) : Int) := by
  rw [xs29_bits F hF, mulS_wrap]
  unfold mixS
  exact xs32_bits _ (mulS_lt _)

theorem tdiv_u64 (X : Int) (h0 : 0 ≤ X) (h1 : X < 18446744073709551616) : IntKind.u64.wrap (X.tdiv 4294967296) = X / 4294967296 := by
  rw [Int.tdiv_eq_ediv_of_nonneg h0, IntKind.wrap_u64]; omega
theorem mix_val' (F : Nat) (hF : F < 18446744073709551616) :
    bits .xor .u64 (IntKind.u64.wrap (bits .xor .u64 (F : Int) ((F : Int) / 536870912) * 13787848793156543929)) (IntKind.u64.wrap ((IntKind.u64.wrap (bits .xor .u64 (F : Int) ((F : Int) / 536870912) * 13787848793156543929)).tdiv 4294967296)) = ((mixS F : Nat) : Int) := by
  have h := mix_val F hF
  have hw : ∀ n : Int, 0 ≤ IntKind.u64.wrap n ∧ IntKind.u64.wrap n < 18446744073709551616 := fun n => by rw [IntKind.wrap_u64]; omega
  rw [tdiv_u64 _ (hw _).1 (hw _).2]
  exact h
set_option maxHeartbeats 1000000 in
theorem refHash_core (w : World) (a : Option Addr) (len cap : Nat) (l : List Nat) (seed g0 : Nat) (b0 : g0 < 18446744073709551616)
    (hx : Hid (bits .xor .u64 (seed : Int) 11400714819323198485 = ((g0 : Nat) : Int))) (hl : BytesAt w a len cap l) :
    Calls Try.prog 28 #[.slice a len cap, .int .u64 (seed : Nat)] w fun e w' => e = .returned (.int .u64 (mixS (foldH g0 l) : Nat)) ∧ w = w' := by
  obtain ⟨h1, h2, h3, hnone, h4⟩ := hl
  have H1 := Lib.hid h1
  clear h1
  go_enter Try.func28, Try.ntmps28
  go_wp2
  go_loop [5, 6] (fun h i => ∃ k : Nat, k ≤ len ∧ i = .int .i64 k ∧ h = .int .u64 (foldH g0 (l.take k) : Nat)) (fun _ i => len - (intOf i).toNat)
  case atStart => exact ⟨0, Nat.zero_le _, rfl, by rw [hx.out, List.take_zero, foldH_nil]⟩
  case round =>
    obtain ⟨k, hk, rfl, rfl⟩ := hrel
    by_cases hlt : k < len
    · have hlen0 : len ≠ 0 := by omega
      obtain ⟨b, off, rfl, hbs, hcell⟩ := h4.resolve_left hlen0
      have hx := hcell k hlt
      have hkl : k < l.length := by rw [H1.out]; exact hlt
      have hv := Lib.hid (step_val g0 l k b0 hkl h3)
      clear h4 hcell
      go_wp2
      go_round
      case rel =>
        refine ⟨k + 1, by omega, by go_num, ?_⟩
        rw [hv.out]
      case measure => simp [intOf]; omega
    · obtain rfl : k = len := by omega
      have hF := foldH_lt l g0 b0
      have hv := Lib.hid (mix_val' _ hF)
      have ht : List.take k l = l := by rw [← H1.out, List.take_length]
      rw [ht]
      clear ht
      go_wp2
      go_ret
      exact ⟨ret_int hv.out, rfl⟩
theorem refHash_any (w : World) (a : Option Addr) (len cap : Nat) (l : List Nat) (seed : Nat) (hs : seed < 18446744073709551616) (hl : BytesAt w a len cap l) :
    Calls Try.prog 28 #[.slice a len cap, .int .u64 (seed : Nat)] w fun e w' => e = .returned (.int .u64 (hashS l seed : Nat)) ∧ w = w' := by
  obtain ⟨g0, hg0⟩ : ∃ g, g = seed ^^^ 11400714819323198485 := ⟨_, rfl⟩
  have b0 : g0 < 18446744073709551616 := by rw [hg0]; exact start_lt seed hs
  have hx := bits_xor_u64_nat seed 11400714819323198485 hs (by decide)
  rw [← hg0] at hx
  have e : mixS (foldH g0 l) = hashS l seed := by unfold hashS; rw [hg0]
  rw [← e]
  exact refHash_core w a len cap l seed g0 b0 hx hl

/-- A hash's place among n. -/
def placeS (h : Nat) (n : Int) : Int := if n < 1 then 0 else (h : Int) % n
theorem mixPlace_any (w : World) (h : Nat) (n : Int) (hh : h < 18446744073709551616) (h1 : -9223372036854775808 ≤ n) (h2 : n ≤ 9223372036854775807) :
    Calls Try.prog 33 #[.int .u64 (h : Nat), .int .i64 n] w fun e w' => e = .returned (.int .i64 (placeS h n)) ∧ w = w' := by
  by_cases hn : n < 1
  · have hp : placeS h n = 0 := by unfold placeS; rw [if_pos hn]
    rw [hp]
    clear hp
    go_enter Try.func33, Try.ntmps33
    go_wp2
    go_ret
    exact ⟨rfl, rfl⟩
  · have hp : placeS h n = (h : Int) % n := by unfold placeS; rw [if_neg hn]
    rw [hp]
    have hp' := Lib.hid hp
    clear hp
    have hn' : 1 ≤ n := by omega
    have hw : IntKind.u64.wrap n = n := by rw [IntKind.wrap_u64]; omega
    have hne : (n == 0) = false := by simp; omega
    have hm1 : 0 ≤ (h : Int) % n := Int.emod_nonneg _ (by omega)
    have hm2 : (h : Int) % n < n := Int.emod_lt_of_pos _ (by omega)
    go_enter Try.func33, Try.ntmps33
    go_wp2
    go_ret
    exact ⟨rfl, rfl⟩
theorem take_snocZ (l : List Int) (k : Nat) (h : k < l.length) : l.take (k + 1) = l.take k ++ [l.getD k 0] := by
  rw [List.take_succ_eq_append_getElem h]; simp [h]
theorem snoc_eq_snoc (l m : List Int) (x y : Int) : (l ++ [x] = m ++ [y]) ↔ (l = m ∧ x = y) := by
  constructor
  · intro h; have := List.append_inj' h rfl; simpa using this
  · rintro ⟨rfl, rfl⟩; rfl

end Go.Proofs.Ytcnpomejdnpegaa
