/- blur's contracts, as the laws' walks call them (by gen10d.py). -/
import Derived.Test.YtcnpomejdnpegaaBlur9
namespace Go.Proofs.Ytcnpomejdnpegaa
open Go.RowKit
set_option linter.unusedVariables false

theorem new_at (w : World) (mI kI sI : Int) (m k seed L : Nat) (hm : mI = (m : Nat)) (hk : kI = (k : Nat)) (hs : sI = (seed : Nat)) (hL : (m + 7) / 8 = L) (m1 : 1 ≤ m) (m2 : m ≤ 4194304) (k1 : 1 ≤ k) (k2 : k ≤ 16) (sd : seed < 18446744073709551616) :
    Calls Try.prog 9 #[.int .i64 mI, .int .i64 kI, .int .u64 sI] w fun e w' => ∃ b0 b1 b2 d0 d1 d2, e = .returned (.tuple #[.agg #[.int .i64 mI, .int .i64 kI, .int .u64 sI, .slice b0 L d0, .slice b1 L d1, .slice b2 L d2], .int .i64 0]) ∧ BlurAt w' m k seed (.agg #[.int .i64 mI, .int .i64 kI, .int .u64 sI, .slice b0 L d0, .slice b1 L d1, .slice b2 L d2]) (List.replicate L 0) (List.replicate L 0) (List.replicate L 0) ∧ Below w.heap.size w w' := by
  subst hm hk hs hL
  refine (new_ok w m k seed m1 m2 k1 k2 sd).mono ?_
  rintro e w' ⟨⟨v', he, hB⟩, bel⟩
  obtain ⟨b0, b1, b2, d0, d1, d2, hv, h⟩ := hB.val
  subst hv
  exact ⟨b0, b1, b2, d0, d1, d2, he, hB, bel⟩
theorem insert_at (w : World) (mI kI sI : Int) (m k seed L : Nat) (hm : mI = (m : Nat)) (hk : kI = (k : Nat)) (hs : sI = (seed : Nat)) (hL : (m + 7) / 8 = L) (v : Value) (l0 l1 l2 : List Nat) (ka : Option Addr) (kl kc : Nat) (key : List Nat) (hb : BlurAt w m k seed v l0 l1 l2) (hky : BytesAt w ka kl kc key) :
    Calls Try.prog 11 #[v, .slice ka kl kc] w fun e w' => ∃ b0 b1 b2 d0 d1 d2, e = .returned (.tuple #[.agg #[.int .i64 mI, .int .i64 kI, .int .u64 sI, .slice b0 L d0, .slice b1 L d1, .slice b2 L d2], .bool (!allV l0 (placesN key seed m k))]) ∧ BlurAt w' m k seed (.agg #[.int .i64 mI, .int .i64 kI, .int .u64 sI, .slice b0 L d0, .slice b1 L d1, .slice b2 L d2]) (if allV l0 (placesN key seed m k) then l0 else setV l0 (placesN key seed m k)) l1 l2 ∧ Below w.heap.size w w' := by
  subst hm hk hs hL
  refine (insert_any w m k seed v l0 l1 l2 ka kl kc key hb hky).mono ?_
  rintro e w' ⟨⟨v', he, hB⟩, bel⟩
  obtain ⟨b0, b1, b2, d0, d1, d2, hv, h⟩ := hB.val
  subst hv
  exact ⟨b0, b1, b2, d0, d1, d2, he, hB, bel⟩
theorem set_bad_at (w : World) (mI kI sI : Int) (m k seed L : Nat) (hm : mI = (m : Nat)) (hk : kI = (k : Nat)) (hs : sI = (seed : Nat)) (hL : (m + 7) / 8 = L) (v : Value) (l0 l1 l2 : List Nat) (ka : Option Addr) (kl kc : Nat) (key : List Nat) (hb : BlurAt w m k seed v l0 l1 l2) (hky : BytesAt w ka kl kc key) (fl : Int) (hf : fl < 0 ∨ 2 ≤ fl) :
    Calls Try.prog 13 #[v, .slice ka kl kc, .int .i64 fl] w fun e w' => ∃ b0 b1 b2 d0 d1 d2, e = .returned (.tuple #[.agg #[.int .i64 mI, .int .i64 kI, .int .u64 sI, .slice b0 L d0, .slice b1 L d1, .slice b2 L d2], .int .i64 1]) ∧ BlurAt w' m k seed (.agg #[.int .i64 mI, .int .i64 kI, .int .u64 sI, .slice b0 L d0, .slice b1 L d1, .slice b2 L d2]) l0 l1 l2 ∧ Below w.heap.size w w' := by
  subst hm hk hs hL
  refine (set_bad w m k seed v l0 l1 l2 ka kl kc key hb hky fl hf).mono ?_
  rintro e w' ⟨⟨v', he, hB⟩, bel⟩
  obtain ⟨b0, b1, b2, d0, d1, d2, hv, h⟩ := hB.val
  subst hv
  exact ⟨b0, b1, b2, d0, d1, d2, he, hB, bel⟩
theorem set_none_at (w : World) (mI kI sI : Int) (m k seed L : Nat) (hm : mI = (m : Nat)) (hk : kI = (k : Nat)) (hs : sI = (seed : Nat)) (hL : (m + 7) / 8 = L) (v : Value) (l0 l1 l2 : List Nat) (ka : Option Addr) (kl kc : Nat) (key : List Nat) (hb : BlurAt w m k seed v l0 l1 l2) (hky : BytesAt w ka kl kc key) (fl : Int) (f : Nat) (hfl : fl = (f : Nat)) (hf : f < 2) (hall : allV l0 (placesN key seed m k) = false) :
    Calls Try.prog 13 #[v, .slice ka kl kc, .int .i64 fl] w fun e w' => ∃ b0 b1 b2 d0 d1 d2, e = .returned (.tuple #[.agg #[.int .i64 mI, .int .i64 kI, .int .u64 sI, .slice b0 L d0, .slice b1 L d1, .slice b2 L d2], .int .i64 10]) ∧ BlurAt w' m k seed (.agg #[.int .i64 mI, .int .i64 kI, .int .u64 sI, .slice b0 L d0, .slice b1 L d1, .slice b2 L d2]) l0 l1 l2 ∧ Below w.heap.size w w' := by
  subst hm hk hs hL hfl
  refine (set_none w m k seed v l0 l1 l2 ka kl kc key hb hky f hf hall).mono ?_
  rintro e w' ⟨⟨v', he, hB⟩, bel⟩
  obtain ⟨b0, b1, b2, d0, d1, d2, hv, h⟩ := hB.val
  subst hv
  exact ⟨b0, b1, b2, d0, d1, d2, he, hB, bel⟩
theorem set0_at (w : World) (mI kI sI : Int) (m k seed L : Nat) (hm : mI = (m : Nat)) (hk : kI = (k : Nat)) (hs : sI = (seed : Nat)) (hL : (m + 7) / 8 = L) (v : Value) (l0 l1 l2 : List Nat) (ka : Option Addr) (kl kc : Nat) (key : List Nat) (hb : BlurAt w m k seed v l0 l1 l2) (hky : BytesAt w ka kl kc key) (hall : allV l0 (placesN key seed m k) = true) :
    Calls Try.prog 13 #[v, .slice ka kl kc, .int .i64 0] w fun e w' => ∃ b0 b1 b2 d0 d1 d2, e = .returned (.tuple #[.agg #[.int .i64 mI, .int .i64 kI, .int .u64 sI, .slice b0 L d0, .slice b1 L d1, .slice b2 L d2], .int .i64 0]) ∧ BlurAt w' m k seed (.agg #[.int .i64 mI, .int .i64 kI, .int .u64 sI, .slice b0 L d0, .slice b1 L d1, .slice b2 L d2]) l0 (if allV l1 (placesN key seed m k) then l1 else setV l1 (placesN key seed m k)) l2 ∧ Below w.heap.size w w' := by
  subst hm hk hs hL
  refine (set0_ok w m k seed v l0 l1 l2 ka kl kc key hb hky hall).mono ?_
  rintro e w' ⟨⟨v', he, hB⟩, bel⟩
  obtain ⟨b0, b1, b2, d0, d1, d2, hv, h⟩ := hB.val
  subst hv
  exact ⟨b0, b1, b2, d0, d1, d2, he, hB, bel⟩
theorem set1_at (w : World) (mI kI sI : Int) (m k seed L : Nat) (hm : mI = (m : Nat)) (hk : kI = (k : Nat)) (hs : sI = (seed : Nat)) (hL : (m + 7) / 8 = L) (v : Value) (l0 l1 l2 : List Nat) (ka : Option Addr) (kl kc : Nat) (key : List Nat) (hb : BlurAt w m k seed v l0 l1 l2) (hky : BytesAt w ka kl kc key) (hall : allV l0 (placesN key seed m k) = true) :
    Calls Try.prog 13 #[v, .slice ka kl kc, .int .i64 1] w fun e w' => ∃ b0 b1 b2 d0 d1 d2, e = .returned (.tuple #[.agg #[.int .i64 mI, .int .i64 kI, .int .u64 sI, .slice b0 L d0, .slice b1 L d1, .slice b2 L d2], .int .i64 0]) ∧ BlurAt w' m k seed (.agg #[.int .i64 mI, .int .i64 kI, .int .u64 sI, .slice b0 L d0, .slice b1 L d1, .slice b2 L d2]) l0 l1 (if allV l2 (placesN key seed m k) then l2 else setV l2 (placesN key seed m k)) ∧ Below w.heap.size w w' := by
  subst hm hk hs hL
  refine (set1_ok w m k seed v l0 l1 l2 ka kl kc key hb hky hall).mono ?_
  rintro e w' ⟨⟨v', he, hB⟩, bel⟩
  obtain ⟨b0, b1, b2, d0, d1, d2, hv, h⟩ := hB.val
  subst hv
  exact ⟨b0, b1, b2, d0, d1, d2, he, hB, bel⟩
end Go.Proofs.Ytcnpomejdnpegaa
