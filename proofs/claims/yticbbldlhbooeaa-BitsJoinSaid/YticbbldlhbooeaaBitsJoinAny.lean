/- BitsJoin returns true. -/
import Derived.Test.YticbbldlhbooeaaBitsHead
import Derived.Test.YticbbldlhbooeaaBitsWide
import Derived.Test.YticbbldlhbooeaaBitsRef6
import Derived.Test.YticbbldlhbooeaaBitsBack
import Derived.Test.YticbbldlhbooeaaBitsJoin
import Derived.Test.YticbbldlhbooeaaBitsJoinNo
namespace Go.Proofs.Yticbbldlhbooeaa
open Go.RowKit
set_option linter.unusedVariables false

theorem bitsjoin_any (w : World) (aa : Option Addr) (la ca : Nat) (pa : List Nat) (Na : Int) (ab : Option Addr) (lb cb : Nat) (pb : List Nat) (Nb : Int) (ac : Option Addr) (lc cc : Nat) (pc : List Nat) (Nc : Int) (at_ : Int) (wd : Nat) (hwd : wd < 256) (hat1 : -9223372036854775808 ≤ at_) (hat2 : at_ ≤ 9223372036854775807) (hN1a : -9223372036854775808 ≤ Na) (hN2a : Na ≤ 9223372036854775807) (hya : BytesAt w aa la ca pa) (hN1b : -9223372036854775808 ≤ Nb) (hN2b : Nb ≤ 9223372036854775807) (hyb : BytesAt w ab lb cb pb) (hN1c : -9223372036854775808 ≤ Nc) (hN2c : Nc ≤ 9223372036854775807) (hyc : BytesAt w ac lc cc pc) :
    Calls Try.prog 5 #[.agg #[.slice aa la ca, .int .i64 Na, .slice ab lb cb, .int .i64 Nb, .slice ac lc cc, .int .i64 Nc, .int .i64 at_, .int .u8 (wd : Int)]] w fun e w' => e = .returned (.bool true) ∧ Below w.heap.size w w' := by
  by_cases hfa : la ≤ 100
  case neg => exact bitsjoin_no0 w aa la ca pa Na ab lb cb pb Nb ac lc cc pc Nc at_ wd hwd hat1 hat2 hN1a hN2a hya hN1b hN2b hyb hN1c hN2c hyc hfa
  by_cases hfb : lb ≤ 100
  case neg => exact bitsjoin_no1 w aa la ca pa Na ab lb cb pb Nb ac lc cc pc Nc at_ wd hwd hat1 hat2 hN1a hN2a hya hN1b hN2b hyb hN1c hN2c hyc hfa hfb
  by_cases hfc : lc ≤ 100
  case neg => exact bitsjoin_no2 w aa la ca pa Na ab lb cb pb Nb ac lc cc pc Nc at_ wd hwd hat1 hat2 hN1a hN2a hya hN1b hN2b hyb hN1c hN2c hyc hfa hfb hfc
  by_cases hra : RightI pa Na
  case neg => exact bitsjoin_no3 w aa la ca pa Na ab lb cb pb Nb ac lc cc pc Nc at_ wd hwd hat1 hat2 hN1a hN2a hya hN1b hN2b hyb hN1c hN2c hyc hfa hfb hfc hra
  by_cases hrb : RightI pb Nb
  case neg => exact bitsjoin_no4 w aa la ca pa Na ab lb cb pb Nb ac lc cc pc Nc at_ wd hwd hat1 hat2 hN1a hN2a hya hN1b hN2b hyb hN1c hN2c hyc hfa hfb hfc hra hrb
  by_cases hrc : RightI pc Nc
  case neg => exact bitsjoin_no5 w aa la ca pa Na ab lb cb pb Nb ac lc cc pc Nc at_ wd hwd hat1 hat2 hN1a hN2a hya hN1b hN2b hyb hN1c hN2c hyc hfa hfb hfc hra hrb hrc
  obtain ⟨dA, hba, hpa, hna⟩ := right_bits hya.byte hra
  have hla : dA.length ≤ 1000 := by have := hya.len_eq; rw [hpa, pack_length] at this; omega
  obtain ⟨dB, hbb, hpb, hnb⟩ := right_bits hyb.byte hrb
  have hlb : dB.length ≤ 1000 := by have := hyb.len_eq; rw [hpb, pack_length] at this; omega
  obtain ⟨dC, hbc, hpc, hnc⟩ := right_bits hyc.byte hrc
  have hlc : dC.length ≤ 1000 := by have := hyc.len_eq; rw [hpc, pack_length] at this; omega
  obtain ⟨K, hK⟩ : ∃ K : Nat, (wd : Int) % 65 = (K : Int) := ⟨wd % 65, by omega⟩
  by_cases h1 : at_ < 0
  · exact bitsjoin_f1 w aa la ca pa Na ab lb cb pb Nb ac lc cc pc Nc at_ wd hwd hat1 hat2 hN1a hN2a hya hN1b hN2b hyb hN1c hN2c hyc hfa hfb hfc hra hrb hrc dA hba hpa hla hna dB hbb hpb hlb hnb dC hbc hpc hlc hnc _ rfl K hK h1
  by_cases h2 : Nb < at_
  · exact bitsjoin_f2 w aa la ca pa Na ab lb cb pb Nb ac lc cc pc Nc at_ wd hwd hat1 hat2 hN1a hN2a hya hN1b hN2b hyb hN1c hN2c hyc hfa hfb hfc hra hrb hrc dA hba hpa hla hna dB hbb hpb hlb hnb dC hbc hpc hlc hnc _ rfl K hK h1 h2
  by_cases h3 : Nb - at_ < (K : Int)
  · exact bitsjoin_f3 w aa la ca pa Na ab lb cb pb Nb ac lc cc pc Nc at_ wd hwd hat1 hat2 hN1a hN2a hya hN1b hN2b hyb hN1c hN2c hyc hfa hfb hfc hra hrb hrc dA hba hpa hla hna dB hbb hpb hlb hnb dC hbc hpc hlc hnc _ rfl K hK h1 h2 h3
  obtain ⟨j, hj⟩ := Int.eq_ofNat_of_zero_le (show 0 ≤ at_ by omega)
  have t1 : takeS dB at_ (K : Int) = (valOf (cutBits dB j K), 0) := by rw [hj]; exact takeS_at dB j K (by omega) (by omega)
  have t2 : takeS (dA ++ dB) (Na + at_) (K : Int) = (valOf (cutBits dB j K), 0) := by
    have e : Na + at_ = ((dA.length + j : Nat) : Int) := by omega
    rw [e, takeS_at (dA ++ dB) (dA.length + j) K (by omega) (by rw [List.length_append]; omega)]
    congr 2
    unfold cutBits
    rw [List.drop_append, List.drop_eq_nil_of_le (by omega : dA.length ≤ dA.length + j)]
    simp
  exact bitsjoin_near w aa la ca pa Na ab lb cb pb Nb ac lc cc pc Nc at_ wd hwd hat1 hat2 hN1a hN2a hya hN1b hN2b hyb hN1c hN2c hyc hfa hfb hfc hra hrb hrc dA hba hpa hla hna dB hbb hpb hlb hnb dC hbc hpc hlc hnc _ rfl K hK (by omega) (by omega) (by omega) _ t1 t2
end Go.Proofs.Yticbbldlhbooeaa
