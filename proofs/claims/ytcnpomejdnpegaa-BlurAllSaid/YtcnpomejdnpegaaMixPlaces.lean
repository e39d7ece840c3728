/- Contracts of mix.Places: so many places, in a row of the call's own; and of scrutinyref03.Place and Places. -/
import Derived.Test.YtcnpomejdnpegaaMixRef
import Derived.Deep.OwnRows
namespace Go.Proofs.Ytcnpomejdnpegaa
open Go.RowKit
set_option linter.unusedVariables false

/-- The i-th place, and all of them. -/
def placeAt (l : List Nat) (seed : Nat) (n : Int) (i : Nat) : Int := placeS (hashS l ((seed + i) % 18446744073709551616)) n
def placesS (l : List Nat) (seed : Nat) (n : Int) (k : Nat) : List Int := (List.range k).map (placeAt l seed n)
theorem placesS_length (l : List Nat) (seed : Nat) (n : Int) (k : Nat) : (placesS l seed n k).length = k := by simp [placesS]
theorem placesS_getD (l : List Nat) (seed : Nat) (n : Int) (k i : Nat) (h : i < k) : (placesS l seed n k).getD i 0 = placeAt l seed n i := by simp [placesS, h]

theorem mixS_lt (h : Nat) : mixS h < 18446744073709551616 := by unfold mixS; exact xs32_lt _ (mulS_lt _)
theorem hashS_lt (l : List Nat) (s : Nat) : hashS l s < 18446744073709551616 := by unfold hashS; exact mixS_lt _
theorem seedSum (seed k : Nat) (hk : k ≤ 1000) : IntKind.u64.wrap ((seed : Int) + ((k : Nat) : Int)) = (((seed + k) % 18446744073709551616 : Nat) : Int) := by
  rw [IntKind.wrap_u64]; omega

def RowOut (k : Nat) (l : List Int) (B : Nat) (w : World) (e : Ending) (w' : World) : Prop := ∃ a cap, e = .returned (.slice a k cap) ∧ k ≤ cap ∧ cap ≤ 9223372036854775807 ∧ IntsAt w' a k l ∧ Below B w w'

theorem mixPlaces_none (w : World) (a : Option Addr) (len cap : Nat) (l : List Nat) (seed : Nat) (n : Int) :
    Calls Try.prog 30 #[.slice a len cap, .int .u64 (seed : Nat), .int .i64 ((0 : Nat) : Int), .int .i64 n] w (RowOut 0 (placesS l seed n 0) w.heap.size w) := by
  go_enter Try.func30, Try.ntmps30
  go_wp2
  go_ret
  exact ⟨none, 0, rfl, Nat.le_refl _, by omega, ⟨by simp [placesS], by omega, .inl rfl⟩, Below.refl _ _⟩
set_option maxHeartbeats 1000000 in
theorem mixPlaces_some (w : World) (a : Option Addr) (len cap : Nat) (l : List Nat) (seed : Nat) (hs : seed < 18446744073709551616) (k : Nat) (hk0 : 1 ≤ k) (hk : k ≤ 1000) (n : Int) (n1 : -9223372036854775808 ≤ n) (n2 : n ≤ 9223372036854775807) (hl : BytesAt w a len cap l) :
    Calls Try.prog 30 #[.slice a len cap, .int .u64 (seed : Nat), .int .i64 (k : Int), .int .i64 n] w (RowOut k (placesS l seed n k) w.heap.size w) := by
  have hmk := run_make_row' (P := Try.prog) 35 3 (.int .i64 0) 8 Try.underlying35 Try.info_int rfl .i64 .i64 k (by omega) (by omega)
  have hlt : ¬ ((k : Int) < 1) := by omega
  go_enter Try.func30, Try.ntmps30
  go_wp2
  go_loopw [17] (fun i wr => ∃ j : Nat, j ≤ k ∧ i = .int .i64 j ∧ Hid (wr.rowIs w.heap.size 3 k (fun i => if i < j then .int .i64 (placeAt l seed n i) else .int .i64 0)) ∧ Below w.heap.size w wr) (fun i _ => k - (intOf i).toNat)
  case atStart => exact ⟨0, by omega, rfl, by simpa [Hid] using World.rowIs_made w (.int .i64 0) k 3, (Below.refl _ _).alloc (Nat.le_refl _) _⟩
  case round =>
    obtain ⟨j, hj, rfl, hrow, hbel⟩ := hrel
    have hlw := hl.mono hbel
    by_cases hjk : j < k
    · have hseed := Lib.hid (seedSum seed j (by omega))
      have hpb := hashS_lt l ((seed + j) % 18446744073709551616)
      have hlm : (seed + j) % 18446744073709551616 < 18446744073709551616 := by omega
      go_wp2_with fail
      rw [hseed.out]
      refine (mixHash_any _ _ _ _ l _ hlm hlw).mono ?_
      rintro e w1 ⟨rfl, hb1⟩
      go_wp2_with fail
      refine (mixPlace_any _ _ _ hpb n1 n2).mono ?_
      rintro e w2 ⟨rfl, rfl⟩
      have hrow1 := Lib.hid (hrow.out.of_block (hb1.block _ hrow.out.lt))
      have hcell := hrow1.out.cell hjk
      have hfr := hrow1.out.frozen j
      have hpl : Hid (placeS (hashS l ((seed + j) % 18446744073709551616)) n = placeAt l seed n j) := rfl
      have hbel1 := hbel.trans (hb1.mono hbel.size)
      go_wp2
      go_roundw
      case rel =>
        refine ⟨j + 1, by omega, by go_num, ?_, hbel1.setCell (Nat.le_refl _) _⟩
        refine (hrow1.out.set j _).congr fun i hi => ?_
        by_cases hij : i = j
        · subst hij; rw [if_pos rfl, if_pos (by omega), hpl.out]
        · rw [if_neg hij]
          by_cases h2 : i < j
          · rw [if_pos h2, if_pos (by omega)]
          · rw [if_neg h2, if_neg (by omega)]
      case measure => simp [intOf]; omega
    · obtain rfl : j = k := by omega
      go_wp2
      go_ret
      refine ⟨_, _, rfl, Nat.le_refl _, by omega, ⟨placesS_length _ _ _ _, by omega, .inr ⟨_, 0, rfl, hrow.out.lt, fun i hi => ?_⟩⟩, hbel⟩
      rw [Nat.zero_add, hrow.out.cell hi, if_pos hi, placesS_getD _ _ _ _ _ hi]
theorem mixPlaces_any (w : World) (a : Option Addr) (len cap : Nat) (l : List Nat) (seed : Nat) (hs : seed < 18446744073709551616) (k : Nat) (hk : k ≤ 1000) (n : Int) (n1 : -9223372036854775808 ≤ n) (n2 : n ≤ 9223372036854775807) (hl : BytesAt w a len cap l) :
    Calls Try.prog 30 #[.slice a len cap, .int .u64 (seed : Nat), .int .i64 (k : Int), .int .i64 n] w (RowOut k (placesS l seed n k) w.heap.size w) := by
  by_cases h : k = 0
  · subst h; exact mixPlaces_none w a len cap l seed n
  · exact mixPlaces_some w a len cap l seed hs k (by omega) hk n n1 n2 hl

theorem refPlace_any (w : World) (h : Nat) (n : Int) (hh : h < 18446744073709551616) (h1 : -9223372036854775808 ≤ n) (h2 : n ≤ 9223372036854775807) :
    Calls Try.prog 27 #[.int .u64 (h : Nat), .int .i64 n] w fun e w' => e = .returned (.int .i64 (placeS h n)) ∧ w = w' := by
  by_cases hn : n < 1
  · have hp : placeS h n = 0 := by unfold placeS; rw [if_pos hn]
    rw [hp]
    clear hp
    go_enter Try.func27, Try.ntmps27
    go_wp2
    go_ret
    exact ⟨rfl, rfl⟩
  · have hp : placeS h n = (h : Int) % n := by unfold placeS; rw [if_neg hn]
    rw [hp]
    have hp' := Lib.hid hp
    clear hp
    have hn' : 1 ≤ n := by omega
    have hw : IntKind.u64.wrap n = n := by rw [IntKind.wrap_u64]; omega
    have hne : (n == 0) = false := by simp; omega
    have hm1 : 0 ≤ (h : Int) % n := Int.emod_nonneg _ (by omega)
    have hm2 : (h : Int) % n < n := Int.emod_lt_of_pos _ (by omega)
    go_enter Try.func27, Try.ntmps27
    go_wp2
    go_ret
    exact ⟨rfl, rfl⟩
end Go.Proofs.Ytcnpomejdnpegaa
