/- Contracts of scrutinyref03.Hash and of both Place functions: each returns what mix.Hash, and a hash's place, are; memory stays as it is. -/
import Derived.Test.YtgmdiieoikldfaaMixHash
import Derived.Deep.QuietTactic
import Derived.BigQuiet
namespace Go.Proofs.Ytgmdiieoikldfaa
open Go.RowKit
set_option linter.unusedVariables false

theorem ret_int {k : IntKind} {a b : Int} (h : a = b) : Ending.returned (.int k a) = .returned (.int k b) := by rw [h]
theorem mix_val (F : Nat) (hF : F < 18446744073709551616) :
    bits .xor .u64 (IntKind.u64.wrap (bits .xor .u64 (F : Int) ((F : Int) / 536870912) * 13787848793156543929)) (IntKind.u64.wrap (bits .xor .u64 (F : Int) ((F : Int) / 536870912) * 13787848793156543929) / 4294967296) = ((mixS F : Nat) : Int) := by
  rw [xs29_bits F hF, mulS_wrap]
  unfold mixS
  exact xs32_bits _ (mulS_lt _)

theorem tdiv_u64 (X : Int) (h0 : 0 ≤ X) (h1 : X < 18446744073709551616) : IntKind.u64.wrap (X.tdiv 4294967296) = X / 4294967296 := by
  rw [Int.tdiv_eq_ediv_of_nonneg h0, IntKind.wrap_u64]; omega
theorem mix_val' (F : Nat) (hF : F < 18446744073709551616) :
    bits .xor .u64 (IntKind.u64.wrap (bits .xor .u64 (F : Int) ((F : Int) / 536870912) * 13787848793156543929)) (IntKind.u64.wrap ((IntKind.u64.wrap (bits .xor .u64 (F : Int) ((F : Int) / 536870912) * 13787848793156543929)).tdiv 4294967296)) = ((mixS F : Nat) : Int) := by
  have h := mix_val F hF
  have hw : ∀ n : Int, 0 ≤ IntKind.u64.wrap n ∧ IntKind.u64.wrap n < 18446744073709551616 := fun n => by rw [IntKind.wrap_u64]; omega
  rw [tdiv_u64 _ (hw _).1 (hw _).2]
  exact h
set_option maxHeartbeats 1000000 in
theorem refHash_core (w : World) (a : Option Addr) (len cap : Nat) (l : List Nat) (seed g0 : Nat) (b0 : g0 < 18446744073709551616)
    (hx : Hid (bits .xor .u64 (seed : Int) 11400714819323198485 = ((g0 : Nat) : Int))) (hl : BytesAt w a len cap l) :
    Calls Try.prog 9 #[.slice a len cap, .int .u64 (seed : Nat)] w fun e w' => e = .returned (.int .u64 (mixS (foldH g0 l) : Nat)) ∧ w = w' := by
  obtain ⟨h1, h2, h3, hnone, h4⟩ := hl
  have H1 := Lib.hid h1
  clear h1
  go_enter Try.func9, Try.ntmps9
  go_wp2
  go_loop [5, 6] (fun h i => ∃ k : Nat, k ≤ len ∧ i = .int .i64 k ∧ h = .int .u64 (foldH g0 (l.take k) : Nat)) (fun _ i => len - (intOf i).toNat)
  case atStart => exact ⟨0, Nat.zero_le _, rfl, by rw [hx.out, List.take_zero, foldH_nil]⟩
  case round =>
    obtain ⟨k, hk, rfl, rfl⟩ := hrel
    by_cases hlt : k < len
    · have hlen0 : len ≠ 0 := by omega
      obtain ⟨b, off, rfl, hbs, hcell⟩ := h4.resolve_left hlen0
      have hx := hcell k hlt
      have hkl : k < l.length := by rw [H1.out]; exact hlt
      have hv := Lib.hid (step_val g0 l k b0 hkl h3)
      clear h4 hcell
      go_wp2
      go_round
      case rel =>
        refine ⟨k + 1, by omega, by go_num, ?_⟩
        rw [hv.out]
      case measure => simp [intOf]; omega
    · obtain rfl : k = len := by omega
      have hF := foldH_lt l g0 b0
      have hv := Lib.hid (mix_val' _ hF)
      have ht : List.take k l = l := by rw [← H1.out, List.take_length]
      rw [ht]
      clear ht
      go_wp2
      go_ret
      exact ⟨ret_int hv.out, rfl⟩
theorem refHash_any (w : World) (a : Option Addr) (len cap : Nat) (l : List Nat) (seed : Nat) (hs : seed < 18446744073709551616) (hl : BytesAt w a len cap l) :
    Calls Try.prog 9 #[.slice a len cap, .int .u64 (seed : Nat)] w fun e w' => e = .returned (.int .u64 (hashS l seed : Nat)) ∧ w = w' := by
  obtain ⟨g0, hg0⟩ : ∃ g, g = seed ^^^ 11400714819323198485 := ⟨_, rfl⟩
  have b0 : g0 < 18446744073709551616 := by rw [hg0]; exact start_lt seed hs
  have hx := bits_xor_u64_nat seed 11400714819323198485 hs (by decide)
  rw [← hg0] at hx
  have e : mixS (foldH g0 l) = hashS l seed := by unfold hashS; rw [hg0]
  rw [← e]
  exact refHash_core w a len cap l seed g0 b0 hx hl

/-- A hash's place among n. -/
def placeS (h : Nat) (n : Int) : Int := if n < 1 then 0 else (h : Int) % n
theorem mixPlace_any (w : World) (h : Nat) (n : Int) (hh : h < 18446744073709551616) (h1 : -9223372036854775808 ≤ n) (h2 : n ≤ 9223372036854775807) :
    Calls Try.prog 10 #[.int .u64 (h : Nat), .int .i64 n] w fun e w' => e = .returned (.int .i64 (placeS h n)) ∧ w = w' := by
  by_cases hn : n < 1
  · have hp : placeS h n = 0 := by unfold placeS; rw [if_pos hn]
    rw [hp]
    clear hp
    go_enter Try.func10, Try.ntmps10
    go_wp2
    go_ret
    exact ⟨rfl, rfl⟩
  · have hp : placeS h n = (h : Int) % n := by unfold placeS; rw [if_neg hn]
    rw [hp]
    have hp' := Lib.hid hp
    clear hp
    have hn' : 1 ≤ n := by omega
    have hw : IntKind.u64.wrap n = n := by rw [IntKind.wrap_u64]; omega
    have hne : (n == 0) = false := by simp; omega
    have hm1 : 0 ≤ (h : Int) % n := Int.emod_nonneg _ (by omega)
    have hm2 : (h : Int) % n < n := Int.emod_lt_of_pos _ (by omega)
    go_enter Try.func10, Try.ntmps10
    go_wp2
    go_ret
    exact ⟨rfl, rfl⟩
/-- What a walk is told of a row of ints. -/
structure IntsAt (w : World) (a : Option Addr) (len : Nat) (l : List Int) : Prop where
  len_eq : l.length = len
  small : len ≤ 9223372036854775807
  at_ : len = 0 ∨ ∃ b off, a = some ⟨b, off, none⟩ ∧ b < w.heap.size ∧ ∀ i, i < len → w.cell? ⟨b, off + i, none⟩ = some (.int .i64 (l.getD i 0))
theorem IntsAt.mono {w w' : World} {a : Option Addr} {len : Nat} {l : List Int} (h : IntsAt w a len l) (hb : Below w.heap.size w w') : IntsAt w' a len l := by
  refine ⟨h.1, h.2, ?_⟩
  rcases h.3 with h4 | ⟨b, off, ha, hlt, hc⟩
  · exact .inl h4
  · exact .inr ⟨b, off, ha, Nat.lt_of_lt_of_le hlt hb.size, fun i hi => by rw [hb.cell (p := ⟨b, off + i, none⟩) hlt]; exact hc i hi⟩
theorem take_snocZ (l : List Int) (k : Nat) (h : k < l.length) : l.take (k + 1) = l.take k ++ [l.getD k 0] := by
  rw [List.take_succ_eq_append_getElem h]; simp [h]
theorem snoc_eq_snoc (l m : List Int) (x y : Int) : (l ++ [x] = m ++ [y]) ↔ (l = m ∧ x = y) := by
  constructor
  · intro h; have := List.append_inj' h rfl; simpa using this
  · rintro ⟨rfl, rfl⟩; rfl

theorem vec_short (w : World) (a : Option Addr) (len cap : Nat) (b : Option Addr) (len' cap' : Nat) (hne : len ≠ len') (s1 : len ≤ 9223372036854775807) (s2 : len' ≤ 9223372036854775807) :
    Calls Try.prog 12 #[.slice a len cap, .slice b len' cap'] w fun e w' => e = .returned (.bool false) ∧ Below w.heap.size w w' := by
  have h1 : ((len : Int) == (len' : Int)) = false := by simp; omega
  have h2 : ((len : Int) != (len' : Int)) = true := by simp; omega
  go_enter Try.func12, Try.ntmps12
  go_wp2
  go_ret
  exact ⟨rfl, Below.refl _ _⟩
set_option maxHeartbeats 1000000 in
theorem vec_any (w : World) (a : Option Addr) (len cap : Nat) (b : Option Addr) (len' cap' : Nat) (l m : List Int) (hl : IntsAt w a len l) (hm : IntsAt w b len' m) :
    Calls Try.prog 12 #[.slice a len cap, .slice b len' cap'] w fun e w' => e = .returned (.bool (decide (l = m))) ∧ Below w.heap.size w w' := by
  obtain ⟨h1, h2, h4⟩ := hl
  obtain ⟨j1, j2, j4⟩ := hm
  by_cases hne : len = len'
  case neg =>
    have hd : decide (l = m) = false := by
      rw [decide_eq_false_iff_not]; intro h; rw [h] at h1; omega
    rw [hd]
    exact vec_short w a len cap b len' cap' hne h2 j2
  case pos =>
    obtain rfl := hne
    have H1 := Lib.hid h1
    have J1 := Lib.hid j1
    have hb2 : ((len : Int) != (len : Int)) = false := by simp
    clear h1 j1
    generalize hd : decide (l = m) = D
    have HD := Lib.hid hd
    clear hd
    go_enter Try.func12, Try.ntmps12
    go_wp2
    go_loopw [5] (fun i wr => ∃ k : Nat, k ≤ len ∧ i = .int .i64 k ∧ Hid (l.take k = m.take k) ∧ Below w.heap.size w wr) (fun i _ => len - (intOf i).toNat)
    case atStart => exact ⟨0, Nat.zero_le _, rfl, by simp [Hid], Below.refl _ _⟩
    case round =>
      obtain ⟨k, hk, rfl, ht, hbel⟩ := hrel
      by_cases hlt : k < len
      · have hlen0 : len ≠ 0 := by omega
        obtain ⟨b1, off1, rfl, hbs1, hcell1⟩ := h4.resolve_left hlen0
        obtain ⟨b2, off2, rfl, hbs2, hcell2⟩ := j4.resolve_left hlen0
        have hx : wr.cell? ⟨b1, off1 + k, none⟩ = some (.int .i64 (l.getD k 0)) := by rw [hbel.cell (p := ⟨b1, off1 + k, none⟩) hbs1]; exact hcell1 k hlt
        have hy : wr.cell? ⟨b2, off2 + k, none⟩ = some (.int .i64 (m.getD k 0)) := by rw [hbel.cell (p := ⟨b2, off2 + k, none⟩) hbs2]; exact hcell2 k hlt
        have t1 := Lib.hid (take_snocZ l k (by rw [H1.out]; exact hlt))
        have t2 := Lib.hid (take_snocZ m k (by rw [J1.out]; exact hlt))
        generalize l.getD k 0 = x at *
        generalize m.getD k 0 = y at *
        clear h4 j4 hcell1 hcell2
        go_wp2
        go_quiet (fail)
        go_wp2
        · have hne : (x != y) = true := by assumption
          go_ret
          refine ⟨?_, hbel.trans (below_drewN (Below.refl _ _) _)⟩
          have hD : D = false := by
            rw [← HD.out, decide_eq_false_iff_not]
            intro h
            have e := t1.out
            rw [h, t2.out, snoc_eq_snoc] at e
            rw [e.2] at hne; simp at hne
          rw [hD]; rfl
        · have heq : (x != y) = false := by assumption
          go_roundw
          case rel =>
            refine ⟨k + 1, by omega, by go_num, ?_, hbel.trans (below_drewN (Below.refl _ _) _)⟩
            have hxy : x = y := by simpa using heq
            show l.take (k + 1) = m.take (k + 1)
            rw [t1.out, t2.out, snoc_eq_snoc]
            exact ⟨ht.out, hxy⟩
          case measure => simp [intOf]; omega
      · obtain rfl : k = len := by omega
        go_wp2
        go_ret
        have h3 := ht.out
        have hh := HD.out
        rw [List.take_of_length_le (by rw [H1.out]; omega), List.take_of_length_le (by rw [J1.out]; omega)] at h3
        rw [← hh, decide_eq_true h3]
        exact ⟨rfl, hbel⟩
end Go.Proofs.Ytgmdiieoikldfaa
