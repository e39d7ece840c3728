/- MixTells's walk. -/
import Derived.Test.YtcnpomejdnpegaaMixIn
namespace Go.Proofs.Ytcnpomejdnpegaa
open Go.RowKit
set_option linter.unusedVariables false

theorem placesS_snoc (l : List Nat) (seed : Nat) (n : Int) (j : Nat) : placesS l seed n (j + 1) = placesS l seed n j ++ [placeAt l seed n j] := by
  unfold placesS; rw [List.range_succ, List.map_append]; rfl
def IntsOut (l : List Int) (n : Nat) (B : Nat) (w : World) (e : Ending) (w' : World) : Prop := ∃ a cap, e = .returned (.slice a n cap) ∧ IntsAt w' a n l ∧ Below B w w'

set_option maxHeartbeats 1000000 in
theorem refPlaces_any (w : World) (a : Option Addr) (len cap : Nat) (l : List Nat) (seed : Nat) (hs : seed < 18446744073709551616) (k : Int) (kN : Nat) (hk : k.toNat = kN) (hk1 : -9223372036854775808 ≤ k) (hk2 : k ≤ 1000) (n : Int) (n1 : -9223372036854775808 ≤ n) (n2 : n ≤ 9223372036854775807) (hl : BytesAt w a len cap l) :
    Calls Try.prog 20 #[.slice a len cap, .int .u64 (seed : Nat), .int .i64 k, .int .i64 n] w (IntsOut (placesS l seed n kN) kN w.heap.size w) := by
  have HK := Lib.hid hk
  clear hk
  go_enter Try.func20, Try.ntmps20
  go_wp2
  go_loopw [9, 10] (fun v i wr => ∃ j : Nat, j ≤ kN ∧ i = .int .i64 j ∧ wr.ownsRow w.heap.size 3 1 v j ((placesS l seed n j).map (Value.int .i64)) ∧ Below w.heap.size w wr) (fun _ i _ => kN - (intOf i).toNat)
  case atStart => exact ⟨0, by omega, rfl, World.ownsRow_nil _ _ _ _, Below.refl _ _⟩
  case round =>
    obtain ⟨j, hj, rfl, hown, hbel⟩ := hrel
    have hkk := HK.out
    by_cases hjk : (j : Int) < k
    · have hlw := hl.mono hbel
      have hseed := Lib.hid (seedSum seed j (by omega))
      have hpb := hashS_lt l ((seed + j) % 18446744073709551616)
      have hlm : (seed + j) % 18446744073709551616 < 18446744073709551616 := by omega
      have hj2 : j < kN := by omega
      have hj3 : j ≤ 1000 := by omega
      have HJ := Lib.hid hkk
      clear hkk
      go_wp2_with fail
      rw [hseed.out]
      refine (refHash_any _ _ _ _ l _ hlm hlw).mono ?_
      rintro e w1 ⟨rfl, rfl⟩
      go_wp2_with fail
      refine (refPlace_any _ _ _ hpb n1 n2).mono ?_
      rintro e w2 ⟨rfl, rfl⟩
      have hsz := hbel.size
      go_wp2_with (first | (at_builtin; refine append_any rfl (.tmp 16) (.tmp 25) 35 rfl w.heap.size 3 (.int .i64 0) 8 Try.underlying35 Try.info_int rfl _ j ((placesS l seed n j).map (Value.int .i64)) rfl ?_ (some ⟨wr.heap.size, 0, none⟩) 1 1 [.int .i64 (placeS (hashS l ((seed + j) % 18446744073709551616)) n)] rfl ?_ ?_ ?_ ?_ ?_ ?_ ?_ ?_; exact hown.alloc _; exact nofun; exact rfl; exact (fun ad ha => by obtain rfl := Option.some.inj ha; exact cell_one_new _ _ _); exact oneCell_i64 _; (unfold maxLen; omega); omega; (simp; omega); intro v2 w2 own2 bel2))
      go_roundw
      case rel => 
        refine ⟨j + 1, by omega, by go_num, ?_, (hbel.alloc hsz _).trans bel2⟩
        rw [placesS_snoc, List.map_append]
        exact own2
      case measure => simp [intOf]; omega
    · obtain rfl : j = kN := by omega
      obtain ⟨a', cap', rfl, hi⟩ := ownInts hown (by omega)
      go_wp2
      go_ret
      exact ⟨a', cap', rfl, hi, hbel⟩

theorem mixPlaces_neg (w : World) (a : Option Addr) (len cap : Nat) (seed : Nat) (k n : Int) (hk : k < 1) :
    Calls Try.prog 30 #[.slice a len cap, .int .u64 (seed : Nat), .int .i64 k, .int .i64 n] w fun e w' => e = .returned (.slice none 0 0) ∧ w = w' := by
  go_enter Try.func30, Try.ntmps30
  go_wp2
  go_ret
  exact ⟨rfl, rfl⟩
theorem mixPlaces_int (w : World) (a : Option Addr) (len cap : Nat) (l : List Nat) (seed : Nat) (hs : seed < 18446744073709551616) (k : Int) (kN : Nat) (hk : k.toNat = kN) (hk2 : k ≤ 1000) (n : Int) (n1 : -9223372036854775808 ≤ n) (n2 : n ≤ 9223372036854775807) (hl : BytesAt w a len cap l) :
    Calls Try.prog 30 #[.slice a len cap, .int .u64 (seed : Nat), .int .i64 k, .int .i64 n] w (IntsOut (placesS l seed n kN) kN w.heap.size w) := by
  by_cases h : k < 1
  · refine (mixPlaces_neg w a len cap seed k n h).mono ?_
    rintro e w' ⟨rfl, rfl⟩
    obtain rfl : kN = 0 := by omega
    exact ⟨none, 0, rfl, ⟨by simp [placesS], by omega, .inl rfl⟩, Below.refl _ _⟩
  · obtain rfl : k = (kN : Int) := by omega
    refine (mixPlaces_any w a len cap l seed hs kN (by omega) n n1 n2 hl).mono ?_
    rintro e w' ⟨a', cap', rfl, _, _, hi, hb⟩
    exact ⟨a', cap', rfl, hi, hb⟩

end Go.Proofs.Ytcnpomejdnpegaa
