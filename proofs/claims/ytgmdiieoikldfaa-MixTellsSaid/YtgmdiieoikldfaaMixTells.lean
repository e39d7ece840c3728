/- MixTells's walk. -/
import Derived.Test.YtgmdiieoikldfaaMixSteps
import Derived.Test.YtgmdiieoikldfaaLater
namespace Go.Proofs.Ytgmdiieoikldfaa
open Go.RowKit
set_option linter.unusedVariables false

theorem ownInts {w : World} {base : Nat} {v : Value} {n : Nat} {l : List Int} (h : w.ownsRow base 3 1 v n (l.map (Value.int .i64))) (hn : n ≤ 9223372036854775807) : ∃ a cap, v = .slice a n cap ∧ IntsAt w a n l := by
  obtain ⟨h1, h2⟩ := h
  rw [List.length_map] at h1
  rcases h2 with ⟨rfl, rfl⟩ | ⟨g, cap, cur, rfl, hbg, hg, hnc, hcm, hsz, htake⟩
  · exact ⟨none, 0, rfl, by omega, by omega, .inl rfl⟩
  · refine ⟨_, _, rfl, by omega, hn, .inr ⟨g, 0, rfl, (Array.getElem?_eq_some_iff.1 hg).1, fun i hi => ?_⟩⟩
    have hlt : i < l.length := by omega
    have e := congrArg (fun x => x[i]?) htake
    simp only [List.getElem?_map, Nat.mul_one] at e
    rw [List.getElem?_take, if_pos hi, Array.getElem?_toList, List.getElem?_eq_getElem hlt] at e
    rw [Nat.zero_add]
    simp [World.cell?, hg, e, hlt]
theorem placesS_snoc (l : List Nat) (seed : Nat) (n : Int) (j : Nat) : placesS l seed n (j + 1) = placesS l seed n j ++ [placeAt l seed n j] := by
  unfold placesS; rw [List.range_succ, List.map_append]; rfl
theorem oneCell_i64 (n : Int) : ∀ u ∈ [Value.int .i64 n], u.oneCell' = true := by
  intro u hu
  obtain rfl := List.mem_singleton.1 hu
  rfl
def IntsOut (l : List Int) (n : Nat) (B : Nat) (w : World) (e : Ending) (w' : World) : Prop := ∃ a cap, e = .returned (.slice a n cap) ∧ IntsAt w' a n l ∧ Below B w w'

set_option maxHeartbeats 1000000 in
theorem refPlaces_any (w : World) (a : Option Addr) (len cap : Nat) (l : List Nat) (seed : Nat) (hs : seed < 18446744073709551616) (k : Int) (kN : Nat) (hk : k.toNat = kN) (hk1 : -9223372036854775808 ≤ k) (hk2 : k ≤ 1000) (n : Int) (n1 : -9223372036854775808 ≤ n) (n2 : n ≤ 9223372036854775807) (hl : BytesAt w a len cap l) :
    Calls Try.prog 14 #[.slice a len cap, .int .u64 (seed : Nat), .int .i64 k, .int .i64 n] w (IntsOut (placesS l seed n kN) kN w.heap.size w) := by
  have HK := Lib.hid hk
  clear hk
  go_enter Try.func14, Try.ntmps14
  go_wp2
  go_loopw [9, 10] (fun v i wr => ∃ j : Nat, j ≤ kN ∧ i = .int .i64 j ∧ wr.ownsRow w.heap.size 3 1 v j ((placesS l seed n j).map (Value.int .i64)) ∧ Below w.heap.size w wr) (fun _ i _ => kN - (intOf i).toNat)
  case atStart => exact ⟨0, by omega, rfl, World.ownsRow_nil _ _ _ _, Below.refl _ _⟩
  case round =>
    obtain ⟨j, hj, rfl, hown, hbel⟩ := hrel
    have hkk := HK.out
    by_cases hjk : (j : Int) < k
    · have hlw := hl.mono hbel
      have hseed := Lib.hid (seedSum seed j (by omega))
      have hpb := hashS_lt l ((seed + j) % 18446744073709551616)
      have hlm : (seed + j) % 18446744073709551616 < 18446744073709551616 := by omega
      have hj2 : j < kN := by omega
      have hj3 : j ≤ 1000 := by omega
      have HJ := Lib.hid hkk
      clear hkk
      go_wp2_with fail
      rw [hseed.out]
      refine (refHash_any _ _ _ _ l _ hlm hlw).mono ?_
      rintro e w1 ⟨rfl, rfl⟩
      go_wp2_with fail
      refine (refPlace_any _ _ _ hpb n1 n2).mono ?_
      rintro e w2 ⟨rfl, rfl⟩
      have hsz := hbel.size
      go_wp2_with (first | (at_builtin; refine append_any rfl (.tmp 16) (.tmp 25) 30 rfl w.heap.size 3 (.int .i64 0) 8 Try.underlying30 Try.info_int rfl _ j ((placesS l seed n j).map (Value.int .i64)) rfl ?_ (some ⟨wr.heap.size, 0, none⟩) 1 1 [.int .i64 (placeS (hashS l ((seed + j) % 18446744073709551616)) n)] rfl ?_ ?_ ?_ ?_ ?_ ?_ ?_ ?_; exact hown.alloc _; exact nofun; exact rfl; exact (fun ad ha => by obtain rfl := Option.some.inj ha; exact cell_one_new _ _ _); exact oneCell_i64 _; (unfold maxLen; omega); omega; (simp; omega); intro v2 w2 own2 bel2))
      go_roundw
      case rel => 
        refine ⟨j + 1, by omega, by go_num, ?_, (hbel.alloc hsz _).trans bel2⟩
        rw [placesS_snoc, List.map_append]
        exact own2
      case measure => simp [intOf]; omega
    · obtain rfl : j = kN := by omega
      obtain ⟨a', cap', rfl, hi⟩ := ownInts hown (by omega)
      go_wp2
      go_ret
      exact ⟨a', cap', rfl, hi, hbel⟩

theorem mixPlaces_neg (w : World) (a : Option Addr) (len cap : Nat) (seed : Nat) (k n : Int) (hk : k < 1) :
    Calls Try.prog 13 #[.slice a len cap, .int .u64 (seed : Nat), .int .i64 k, .int .i64 n] w fun e w' => e = .returned (.slice none 0 0) ∧ w = w' := by
  go_enter Try.func13, Try.ntmps13
  go_wp2
  go_ret
  exact ⟨rfl, rfl⟩
theorem mixPlaces_int (w : World) (a : Option Addr) (len cap : Nat) (l : List Nat) (seed : Nat) (hs : seed < 18446744073709551616) (k : Int) (kN : Nat) (hk : k.toNat = kN) (hk2 : k ≤ 1000) (n : Int) (n1 : -9223372036854775808 ≤ n) (n2 : n ≤ 9223372036854775807) (hl : BytesAt w a len cap l) :
    Calls Try.prog 13 #[.slice a len cap, .int .u64 (seed : Nat), .int .i64 k, .int .i64 n] w (IntsOut (placesS l seed n kN) kN w.heap.size w) := by
  by_cases h : k < 1
  · refine (mixPlaces_neg w a len cap seed k n h).mono ?_
    rintro e w' ⟨rfl, rfl⟩
    obtain rfl : kN = 0 := by omega
    exact ⟨none, 0, rfl, ⟨by simp [placesS], by omega, .inl rfl⟩, Below.refl _ _⟩
  · obtain rfl : k = (kN : Int) := by omega
    refine (mixPlaces_any w a len cap l seed hs kN (by omega) n n1 n2 hl).mono ?_
    rintro e w' ⟨a', cap', rfl, _, _, hi, hb⟩
    exact ⟨a', cap', rfl, hi, hb⟩

set_option maxHeartbeats 1000000 in
theorem tells_short (w : World) (a : Option Addr) (len cap : Nat) (l : List Nat) (seed : Nat) (k n : Int) (hs : seed < 18446744073709551616) (hk1 : -9223372036854775808 ≤ k) (hk2 : k ≤ 100) (n1 : -9223372036854775808 ≤ n) (n2 : n ≤ 9223372036854775807) (hl : BytesAt w a len cap l) (hlen : len ≤ 1000) :
    Calls Try.prog 3 #[.agg #[.slice a len cap, .int .u64 (seed : Int), .int .i64 k, .int .i64 n]] w fun e w' => e = .returned (.bool true) ∧ Below w.heap.size w w' := by
  have hpb := hashS_lt l seed
  go_enter Try.func3, Try.ntmps3
  go_wp2_with fail
  refine (shown_any _).mono ?_
  rintro e w1 ⟨rfl, b1⟩
  have z1 := b1.size
  simp at z1
  have bb1 : Below w.heap.size w w1 := ((Below.refl _ _).alloc (Nat.le_refl _) _).trans (b1.mono (by simp))
  have hl1 := hl.mono bb1
  go_wp2_with fail
  refine (mixHash_any _ _ _ _ l _ hs hl1).mono ?_
  rintro e w2 ⟨rfl, b2⟩
  have hl2 := hl1.mono b2
  go_wp2_with fail
  refine (refHash_any _ _ _ _ l _ hs hl2).mono ?_
  rintro e w3 ⟨rfl, rfl⟩
  go_wp2_with fail
  refine (mixPlace_any _ _ _ hpb n1 n2).mono ?_
  rintro e w3 ⟨rfl, rfl⟩
  go_wp2_with fail
  refine (refPlace_any _ _ _ hpb n1 n2).mono ?_
  rintro e w3 ⟨rfl, rfl⟩
  go_wp2_with fail
  refine (mixPlaces_int _ _ _ _ l seed hs k k.toNat rfl (by omega) n n1 n2 hl2).mono ?_
  rintro e w3 ⟨a3, c3, rfl, i3, b3⟩
  have hl3 := hl2.mono b3
  go_wp2_with fail
  refine (refPlaces_any _ _ _ _ l seed hs k k.toNat rfl hk1 (by omega) n n1 n2 hl3).mono ?_
  rintro e w4 ⟨a4, c4, rfl, i4, b4⟩
  go_wp2_with fail
  refine (vec_any _ _ _ _ _ _ _ _ _ (i3.mono b4) i4).mono ?_
  rw [decide_eq_true rfl]
  rintro e w5 ⟨rfl, b5⟩
  have s2 := b2.size
  have s3 := b3.size
  have s4 := b4.size
  go_wp2
  go_ret
  exact ⟨rfl, bb1.trans ((b2.mono (by omega)).trans ((b3.mono (by omega)).trans ((b4.mono (by omega)).trans (b5.mono (by omega)))))⟩
theorem tells_long (w : World) (a : Option Addr) (len cap : Nat) (seed k n : Int) (hm : len ≤ 9223372036854775807) (h : ¬ (len ≤ 1000 ∧ k ≤ 100)) :
    Calls Try.prog 3 #[.agg #[.slice a len cap, .int .u64 seed, .int .i64 k, .int .i64 n]] w fun e w' => e = .returned (.bool true) ∧ Below w.heap.size w w' := by
  by_cases h1 : 1000 < (len : Int)
  · clear h
    have d1 : decide (1000 < (len : Int)) = true := by simp; omega
    go_enter Try.func3, Try.ntmps3
    go_wp2_with fail
    refine (shown_any _).mono ?_
    rintro e w1 ⟨rfl, b1⟩
    go_wp2
    go_ret
    exact ⟨rfl, ((Below.refl _ _).alloc (Nat.le_refl _) _).trans (b1.mono (by simp))⟩
  · have h2 : 100 < k := by omega
    clear h
    have d1 : decide (1000 < (len : Int)) = false := by simp; omega
    have d2 : decide (100 < k) = true := by simp; omega
    go_enter Try.func3, Try.ntmps3
    go_wp2_with fail
    refine (shown_any _).mono ?_
    rintro e w1 ⟨rfl, b1⟩
    go_wp2
    go_ret
    exact ⟨rfl, ((Below.refl _ _).alloc (Nat.le_refl _) _).trans (b1.mono (by simp))⟩
theorem tells_any (w : World) (a : Option Addr) (len cap : Nat) (l : List Nat) (seed : Nat) (k n : Int) (hs : seed < 18446744073709551616) (hk1 : -9223372036854775808 ≤ k) (n1 : -9223372036854775808 ≤ n) (n2 : n ≤ 9223372036854775807) (hl : BytesAt w a len cap l) :
    Calls Try.prog 3 #[.agg #[.slice a len cap, .int .u64 (seed : Int), .int .i64 k, .int .i64 n]] w fun e w' => e = .returned (.bool true) ∧ Below w.heap.size w w' := by
  by_cases h : len ≤ 1000 ∧ k ≤ 100
  · exact tells_short w a len cap l seed k n hs hk1 h.2 n1 n2 hl h.1
  · exact tells_long w a len cap seed k n hl.2 h
end Go.Proofs.Ytgmdiieoikldfaa
