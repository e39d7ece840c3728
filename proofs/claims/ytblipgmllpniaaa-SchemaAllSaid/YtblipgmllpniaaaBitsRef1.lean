/- Contracts of scrutinylaw01.few, scrutinyref01.Wide, Bit, Same. -/
import Derived.Test.YtblipgmllpniaaaBits7
import Derived.Laws.MathBits
namespace Go.Proofs.Ytblipgmllpniaaa
open Go.RowKit
set_option linter.unusedVariables false

theorem bitLen_half (n : Nat) (h : 0 < n) (hn : n < 18446744073709551616) : Lib.bitLen n = Lib.bitLen (n / 2) + 1 := by
  by_cases h1 : n = 1
  · subst h1; decide +kernel
  · have := Lib.bitLen_shift 1 n (by simp; omega) (by simpa using hn)
    rw [show (2 : Nat) ^ 1 = 2 from rfl] at this
    omega
theorem refwide_any (w : World) (n : Nat) (hn : n < 18446744073709551616) :
    Calls Try.prog 40 #[.int .u64 (n : Int)] w fun e w' => e = .returned (.int .i64 (Lib.bitLen n : Nat)) ∧ w = w' := by
  obtain ⟨B, hB⟩ : ∃ B, B = Lib.bitLen n := ⟨_, rfl⟩
  have hB64 : B ≤ 64 := by rw [hB]; exact Lib.bitLen_le n 64 (by omega) (by omega)
  rw [← hB]
  have HB := Lib.hid hB
  clear hB
  go_enter Try.func40, Try.ntmps40
  go_wp2
  go_loop [0, 3] (fun x k => ∃ m j : Nat, m < 18446744073709551616 ∧ x = .int .u64 (m : Int) ∧ k = .int .i64 (j : Int) ∧ Hid (j + Lib.bitLen m = B)) (fun x _ => (intOf x).toNat)
  case atStart => exact ⟨n, 0, hn, rfl, rfl, by show 0 + Lib.bitLen n = B; rw [HB.out, Nat.zero_add]⟩
  case round =>
    obtain ⟨m, j, hm, rfl, rfl, hj⟩ := hrel
    by_cases h0 : 0 < m
    · have h1 := bitLen_half m h0 hm
      have h2 : j < 64 := by have := hj.out; omega
      have hw : IntKind.u64.wrap ((m : Int) / 2) = (m : Int) / 2 := by rw [IntKind.wrap_u64]; omega
      have H1 := Lib.hid h1
      clear h1
      go_wp2
      go_round
      case rel => exact ⟨m / 2, j + 1, by omega, by go_num, by go_num, by have := H1.out; have := hj.out; show j + 1 + Lib.bitLen (m / 2) = B; omega⟩
      case measure => simp [intOf]; omega
    · obtain rfl : m = 0 := by omega
      go_wp2
      go_ret
      have h3 := hj.out
      have h4 : Lib.bitLen 0 = 0 := by decide +kernel
      rw [h4] at h3
      exact ⟨ret_int (by omega), rfl⟩

set_option maxHeartbeats 1000000 in
theorem refbit_any (w : World) (a : Option Addr) (len cap : Nat) (l : List Nat) (N : Int) (k : Nat) (hk : k < 8 * len) (hsm : len ≤ 1099511627776) (hl : BytesAt w a len cap l) :
    Calls Try.prog 25 #[.agg #[.slice a len cap, .int .i64 N], .int .i64 (k : Int)] w fun e w' => e = .returned (.int .i64 ((bitAt l k : Nat) : Int)) ∧ Below w.heap.size w w' := by
  have bb : ∀ o : Obj, Below w.heap.size w (w.alloc o) := fun o => (Below.refl _ _).alloc (Nat.le_refl _) _
  obtain ⟨r, hr⟩ : ∃ r : Nat, (k : Int) % 8 = (r : Int) := ⟨k % 8, by omega⟩
  obtain ⟨q, hq⟩ : ∃ q : Nat, (k : Int) / 8 = (q : Int) := ⟨k / 8, by omega⟩
  have hlen := hl.len_eq
  obtain ⟨b, off, rfl, hbs, hcell⟩ := hl.at_.resolve_left (by omega)
  have hc := hcell q (by omega)
  have hql : (q : Int) < (len : Int) := by omega
  have hr7 : r ≤ 7 := by omega
  obtain ⟨x, hx⟩ : ∃ x, x = l.getD q 0 := ⟨_, rfl⟩
  rw [← hx] at hc
  have hxb : x < 256 := by
    have e : l.getD q 0 = l[q]'(by omega) := by rw [List.getD_eq_getElem?_getD, List.getElem?_eq_getElem (by omega)]; rfl
    rw [hx, e]; exact hl.byte _ (List.getElem_mem _)
  have hB : bitAt l k = x / 2 ^ (7 - r) % 2 := by
    unfold bitAt
    rw [show k / 8 = q from by omega, show k % 8 = r from by omega, hx]
  rw [hB]
  clear hB hx hcell hl hlen hk
  obtain ⟨Y, hY⟩ : ∃ Y, Y = x / 2 ^ (7 - r) := ⟨_, rfl⟩
  rw [← hY]
  have HY := Lib.hid hY
  clear hY
  go_enter Try.func25, Try.ntmps25
  go_wp2
  go_loop [5, 6] (fun c i => ∃ j y : Nat, (j : Int) ≤ 7 - r ∧ y < 256 ∧ i = .int .i64 (j : Int) ∧ c = .int .i64 (y : Int) ∧ Hid (y = x / 2 ^ j)) (fun _ i => 7 - (intOf i).toNat)
  case atStart => exact ⟨0, x, by omega, hxb, rfl, rfl, by simp [Hid]⟩
  case round =>
    obtain ⟨j, y, hj, hy, rfl, rfl, hxy⟩ := hrel
    by_cases hlt : (j : Int) < 7 - r
    · go_wp2
      go_round
      case rel =>
        refine ⟨j + 1, y / 2, by omega, by omega, by go_num, by go_num, ?_⟩
        show y / 2 = x / 2 ^ (j + 1)
        rw [hxy.out, Nat.div_div_eq_div_mul, Nat.pow_succ]
      case measure => simp [intOf]; omega
    · obtain rfl : j = 7 - r := by omega
      go_wp2
      go_ret
      refine ⟨ret_int ?_, bb _⟩
      have h9 := hxy.out
      rw [← HY.out] at h9
      subst h9
      rfl
end Go.Proofs.Ytblipgmllpniaaa
