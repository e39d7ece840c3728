/- bits.Put and bits.Take at whatever numbers; the head of all statements of layer 1. -/
import Derived.Test.YtblipgmllpniaaaBits7
namespace Go.Proofs.Ytblipgmllpniaaa
open Go.RowKit Go.Shelf
set_option linter.unusedVariables false

/-- What Put comes to. -/
def putS (bs : List Nat) (num : Nat) (wide : Int) : List Nat × Int :=
  if wide < 0 ∨ 64 < wide then (bs, 1) else if wide < (Lib.bitLen num : Int) then (bs, 5) else (bs ++ digs num wide.toNat, 0)
theorem putS_bits {bs : List Nat} (h : IsBits bs) (num : Nat) (wide : Int) : IsBits (putS bs num wide).1 := by
  unfold putS
  split
  · exact h
  · split
    · exact h
    · exact h.append (digs_bits _ _)
theorem putS_length (bs : List Nat) (num : Nat) (wide : Int) : (putS bs num wide).1.length ≤ bs.length + 64 := by
  unfold putS
  split
  · simp
  · split
    · simp
    · rw [List.length_append, digs_length]; omega
theorem put_any (w : World) (a : Option Addr) (len cap : Nat) (bs : List Nat) (hbs : IsBits bs) (hsm : bs.length ≤ 549755813888) (num : Nat) (hnum : num < 18446744073709551616) (wide : Int) (hl : BytesAt w a len cap (pack bs)) (bs' : List Nat) (c : Int) (hp : putS bs num wide = (bs', c)) (n : Int) (hn : n = (bs.length : Int)) :
    Calls Try.prog 29 #[.agg #[.slice a len cap, .int .i64 n], .int .u64 (num : Int), .int .i64 wide] w (BitsOut bs' c w) := by
  subst hn
  unfold putS at hp
  by_cases h1 : wide < 0 ∨ 64 < wide
  · rw [if_pos h1] at hp
    simp at hp
    obtain ⟨rfl, rfl⟩ := hp
    exact put_bad w a len cap bs num wide h1 hl
  · rw [if_neg h1] at hp
    by_cases h2 : wide < (Lib.bitLen num : Int)
    · rw [if_pos h2] at hp
      simp at hp
      obtain ⟨rfl, rfl⟩ := hp
      exact put_wide w a len cap bs num hnum wide (by omega) (by omega) h2 hl
    · rw [if_neg h2] at hp
      simp at hp
      obtain ⟨rfl, rfl⟩ := hp
      obtain ⟨k, rfl⟩ := Int.eq_ofNat_of_zero_le (show 0 ≤ wide by omega)
      rw [Int.toNat_natCast]
      exact put_ok w a len cap bs hbs hsm num k hnum (by omega) (by omega) hl
/-- What Take comes to. -/
def takeS (bs : List Nat) (at_ wide : Int) : Nat × Int :=
  if wide < 0 ∨ 64 < wide then (0, 1) else if at_ < 0 ∨ (bs.length : Int) < at_ ∨ (bs.length : Int) - at_ < wide then (0, 10) else (valOf (cutBits bs at_.toNat wide.toNat), 0)
theorem take_any (w : World) (a : Option Addr) (len cap : Nat) (bs : List Nat) (hbs : IsBits bs) (hsm : bs.length ≤ 549755813888) (at_ wide : Int) (hl : BytesAt w a len cap (pack bs)) (v : Nat) (c : Int) (hp : takeS bs at_ wide = (v, c)) (n : Int) (hn : n = (bs.length : Int)) :
    Calls Try.prog 31 #[.agg #[.slice a len cap, .int .i64 n], .int .i64 at_, .int .i64 wide] w (NumOut v c w) := by
  subst hn
  unfold takeS at hp
  by_cases h1 : wide < 0 ∨ 64 < wide
  · rw [if_pos h1] at hp
    simp at hp
    obtain ⟨rfl, rfl⟩ := hp
    exact take_bad w a len cap _ at_ wide h1
  · rw [if_neg h1] at hp
    by_cases h2 : at_ < 0 ∨ (bs.length : Int) < at_ ∨ (bs.length : Int) - at_ < wide
    · rw [if_pos h2] at hp
      simp at hp
      obtain ⟨rfl, rfl⟩ := hp
      exact take_none w a len cap bs.length at_ wide (by omega) (by omega) hsm h2
    · rw [if_neg h2] at hp
      simp at hp
      obtain ⟨rfl, rfl⟩ := hp
      obtain ⟨k, rfl⟩ := Int.eq_ofNat_of_zero_le (show 0 ≤ wide by omega)
      obtain ⟨j, rfl⟩ := Int.eq_ofNat_of_zero_le (show 0 ≤ at_ by omega)
      rw [Int.toNat_natCast, Int.toNat_natCast]
      exact take_ok w a len cap bs hbs hsm j k (by omega) (by omega) hl
theorem bytesNone (w : World) : BytesAt w none 0 0 [] := ⟨rfl, by omega, by simp, fun _ => ⟨rfl, rfl⟩, .inl rfl⟩

/-- Both of the head's bits, in their boxes. -/
structure Two (w : World) (g1 g2 : Nat) (a1 : Option Addr) (l1 c1 : Nat) (a2 : Option Addr) (l2 c2 : Nat) : Prop where
  x1 : BitsBox w g1 a1 l1 c1 3
  y1 : BytesAt w a1 l1 c1 (pack [1, 0, 1])
  x2 : BitsBox w g2 a2 l2 c2 5
  y2 : BytesAt w a2 l2 c2 (pack [1, 0, 1, 0, 1])
theorem Two.below {w w' : World} {g1 g2 : Nat} {a1 : Option Addr} {l1 c1 : Nat} {a2 : Option Addr} {l2 c2 : Nat} (h : Two w g1 g2 a1 l1 c1 a2 l2 c2) (hb : Below w.heap.size w w') : Two w' g1 g2 a1 l1 c1 a2 l2 c2 :=
  ⟨h.x1.below hb, h.y1.mono hb, h.x2.below hb, h.y2.mono hb⟩
theorem Two.drew {w : World} {g1 g2 : Nat} {a1 : Option Addr} {l1 c1 : Nat} {a2 : Option Addr} {l2 c2 : Nat} (h : Two w g1 g2 a1 l1 c1 a2 l2 c2) : Two w.drew g1 g2 a1 l1 c1 a2 l2 c2 := h.below (Below.refl _ _).drew
theorem two_conv {w : World} {g1 g2 : Nat} {a1 : Option Addr} {l1 c1 : Nat} {a2 : Option Addr} {l2 c2 : Nat} (h : Two w g1 g2 a1 l1 c1 a2 l2 c2) : (convert 24 9 (.slice a2 l2 c2)).run Try.prog w = .ok (.string ⟨#[168]⟩) w := by
  have hconv := h.y2.conv 24 5 9 Try.underlying24 Try.underlying5 Try.underlying9
  have hstr : strOfNums ((pack [1, 0, 1, 0, 1]).map fun (c : Nat) => (c : Int)) = ⟨#[168]⟩ := by decide +kernel
  rw [hstr] at hconv
  exact hconv
theorem wide_int (w : World) (n : Int) (h0 : 0 ≤ n) (hn : n < 18446744073709551616) : Calls Try.prog 35 #[.int .u64 n] w fun e w' => e = .returned (.int .i64 (Lib.bitLen n.toNat : Nat)) ∧ w = w' := by
  obtain ⟨k, rfl⟩ := Int.eq_ofNat_of_zero_le h0
  rw [Int.toNat_natCast]
  exact wide_any w k (by omega)
theorem Two.lt2 {w : World} {g1 g2 : Nat} {a1 : Option Addr} {l1 c1 : Nat} {a2 : Option Addr} {l2 c2 : Nat} (h : Two w g1 g2 a1 l1 c1 a2 l2 c2) : g2 < w.heap.size := (Array.getElem?_eq_some_iff.1 h.x2).1
theorem below_then {w a b : World} (h : Below w.heap.size w a) (h' : Below a.heap.size a b) : Below w.heap.size w b := h.trans (h'.mono h.size)
theorem field_bits (w : World) (a : Option Addr) (l c : Nat) (N : Int) : (Instr.field 53 (.agg #[.slice a l c, .int .i64 N]) 1).run Try.prog w = .ok (.int .i64 N) w := by
  simp [Instr.field, asAgg, go_sem]
end Go.Proofs.Ytblipgmllpniaaa
