/- An automaton that is being made: its box, its rows (by gen19h.py). -/
import Derived.Test.YtpabnpgbclfcfaaPush
import Derived.Test.YtpabnpgbclfcfaaAutE
namespace Go.Proofs.Ytpabnpgbclfcfaa
open Go.RowKit
set_option linter.unusedVariables false
set_option linter.unusedSimpArgs false
theorem own_off1 {w : World} {base n : Nat} {e t : TypeId} {v : Value} {xs : List Value} {g : Nat} {vs : Array Value} (h : w.ownsRow base e 1 v n xs) (hg : w.heap[g]? = some (.cells vs t (0, 0))) (hne : e ≠ t) : ∀ b, v.ownBlock = some b → b ≠ g := by
  rintro b hb rfl
  rcases h.2 with ⟨rfl, _⟩ | ⟨g', cap, cur, rfl, _, h3, _⟩
  · cases hb
  · have : g' = b := by simpa [Value.ownBlock] using hb
    subst this
    rw [h3] at hg
    simp at hg
    exact hne hg.2
theorem own_two {w : World} {base base' n n' : Nat} {e t : TypeId} {v v' : Value} {xs xs' : List Value} (h : w.ownsRow base e 1 v n xs) (h' : w.ownsRow base' t 1 v' n' xs') (hne : e ≠ t) : ∀ b, v.ownBlock = some b → some b ≠ v'.ownBlock := by
  intro b hb he
  rcases h'.2 with ⟨rfl, _⟩ | ⟨g', cap, cur, rfl, _, h3, _⟩
  · cases he
  · have : b = g' := by simpa [Value.ownBlock] using he
    subst this
    exact own_off1 h h3 hne b hb rfl
theorem own_keep {w z : World} {base n : Nat} {e : TypeId} {v : Value} {xs : List Value} (h : w.ownsRow base e 1 v n xs) (hk : ∀ b, v.ownBlock = some b → z.heap[b]? = w.heap[b]?) : z.ownsRow base e 1 v n xs := by
  refine ⟨h.1, ?_⟩
  rcases h.2 with h0 | ⟨g, cap, cur, rfl, h2, h3, h4⟩
  · exact .inl h0
  · exact .inr ⟨g, cap, cur, rfl, h2, (hk g rfl).trans h3, h4⟩
structure OfI (base : Nat) (w : World) (S : Nat → Prop) (gR g h : Nat) (vL vN vI vA : Value) (mL mN mI mA : Nat) (xL xN xI xA : List Value) : Prop where
  r : w.heap[gR]? = some (.cells #[.slice none 0 0, .slice none 0 0, .slice none 0 0, .slice none 0 0] 26 (0, 0))
  b : w.heap[g]? = some (.cells #[vL, vN, vI, .slice (some ⟨h, 0, none⟩) 1 1] 26 (0, 0))
  o : w.heap[h]? = some (.cells #[vA] 24 (0, 0))
  L : w.ownsRow base 38 1 vL mL xL
  N : w.ownsRow (h + 1) 24 1 vN mN xN
  I : w.ownsRow base 3 1 vI mI xI
  A : w.ownsRow base 3 1 vA mA xA
  d : ∀ b, vI.ownBlock = some b → some b ≠ vA.ownBlock
  rg : gR < g
  rb : base ≤ gR
  hb : base ≤ h
  sR : ¬ S gR
  sG : ¬ S g
  sH : ¬ S h
  sL : ∀ b, vL.ownBlock = some b → ¬ S b
  sN : ∀ b, vN.ownBlock = some b → ¬ S b
  sI : ∀ b, vI.ownBlock = some b → ¬ S b
  sA : ∀ b, vA.ownBlock = some b → ¬ S b
  lt : ∀ b, S b → b < w.heap.size
  low : ∀ b, b < base → S b
section
variable {base : Nat} {w z : World} {S S1 : Nat → Prop} {gR g h : Nat} {vL vN vI vA v' x : Value} {mL mN mI mA : Nat} {xL xN xI xA : List Value}
theorem OfI.hg (q : OfI base w S gR g h vL vN vI vA mL mN mI mA xL xN xI xA) : h ≠ g := by
  rintro rfl
  have := q.o.symm.trans q.b
  simp at this
theorem OfI.hr (q : OfI base w S gR g h vL vN vI vA mL mN mI mA xL xN xI xA) : h ≠ gR := by
  rintro rfl
  have := q.o.symm.trans q.r
  simp at this
/-- Nothing that stands is touched. -/
theorem OfI.mem (q : OfI base w S gR g h vL vN vI vA mL mN mI mA xL xN xI xA) (bl : Below w.heap.size w z) : OfI base z S gR g h vL vN vI vA mL mN mI mA xL xN xI xA where
  r := (bl.block _ (Array.getElem?_eq_some_iff.1 q.r).1).trans q.r
  b := (bl.block _ (Array.getElem?_eq_some_iff.1 q.b).1).trans q.b
  o := (bl.block _ (Array.getElem?_eq_some_iff.1 q.o).1).trans q.o
  L := own_keep q.L fun b hb => bl.block b (q.L.lt b hb).2
  N := own_keep q.N fun b hb => bl.block b (q.N.lt b hb).2
  I := own_keep q.I fun b hb => bl.block b (q.I.lt b hb).2
  A := own_keep q.A fun b hb => bl.block b (q.A.lt b hb).2
  d := q.d
  rg := q.rg
  rb := q.rb
  hb := q.hb
  sR := q.sR
  sG := q.sG
  sH := q.sH
  sL := q.sL
  sN := q.sN
  sI := q.sI
  sA := q.sA
  lt := fun b hb => Nat.lt_of_lt_of_le (q.lt b hb) bl.size
  low := q.low
/-- More is sealed. -/
theorem OfI.seal (q : OfI base w S gR g h vL vN vI vA mL mN mI mA xL xN xI xA) (h1 : ∀ b, S1 b → b < w.heap.size ∧ b ≠ gR ∧ b ≠ g ∧ b ≠ h ∧ vL.ownBlock ≠ some b ∧ vN.ownBlock ≠ some b ∧ vI.ownBlock ≠ some b ∧ vA.ownBlock ≠ some b) : OfI base w (fun b => S b ∨ S1 b) gR g h vL vN vI vA mL mN mI mA xL xN xI xA where
  r := q.r
  b := q.b
  o := q.o
  L := q.L
  N := q.N
  I := q.I
  A := q.A
  d := q.d
  rg := q.rg
  rb := q.rb
  hb := q.hb
  sR := fun hs => hs.elim q.sR fun hs => (h1 _ hs).2.1 rfl
  sG := fun hs => hs.elim q.sG fun hs => (h1 _ hs).2.2.1 rfl
  sH := fun hs => hs.elim q.sH fun hs => (h1 _ hs).2.2.2.1 rfl
  sL := fun b hb hs => hs.elim (q.sL b hb) fun hs => (h1 _ hs).2.2.2.2.1 hb
  sN := fun b hb hs => hs.elim (q.sN b hb) fun hs => (h1 _ hs).2.2.2.2.2.1 hb
  sI := fun b hb hs => hs.elim (q.sI b hb) fun hs => (h1 _ hs).2.2.2.2.2.2.1 hb
  sA := fun b hb hs => hs.elim (q.sA b hb) fun hs => (h1 _ hs).2.2.2.2.2.2.2 hb
  lt := fun b hs => hs.elim (q.lt b) fun hs => (h1 _ hs).1
  low := fun b hb => .inl (q.low b hb)
theorem OfI.pushL (q : OfI base w S gR g h vL vN vI vA mL mN mI mA xL xN xI xA) (hz : w.heap.size ≤ z.heap.size) (keep : ∀ b, b < w.heap.size → some b ≠ vL.ownBlock → b ≠ g → z.heap[b]? = w.heap[b]?)
    (h1 : ∀ b, S1 b → w.heap.size ≤ b ∧ b < z.heap.size) (h2 : ∀ b, S1 b → v'.ownBlock ≠ some b) (own : z.ownsRow base 38 1 v' (mL + 1) (xL ++ [x])) (ob : v'.ownBlock = vL.ownBlock ∨ ∀ b, v'.ownBlock = some b → w.heap.size ≤ b) (st : z.heap[g]? = some (.cells #[v', vN, vI, .slice (some ⟨h, 0, none⟩) 1 1] 26 (0, 0))) :
    OfI base z (fun b => S b ∨ S1 b) gR g h v' vN vI vA (mL + 1) mN mI mA (xL ++ [x]) xN xI xA ∧ ∀ b, S b → z.heap[b]? = w.heap[b]? := by
  have lR := (Array.getElem?_eq_some_iff.1 q.r).1
  have lG := (Array.getElem?_eq_some_iff.1 q.b).1
  have lH := (Array.getElem?_eq_some_iff.1 q.o).1
  have hne := q.hg
  have hnr := q.hr
  have hrg := q.rg
  have nH : ∀ b, vN.ownBlock = some b → b ≠ h := fun b hb => by have := (q.N.lt b hb).1; omega
  have dIA : ∀ b, vA.ownBlock = some b → some b ≠ vI.ownBlock := fun b hb he => q.d b he.symm hb.symm
  refine ⟨⟨?_, ?_, ?_, ?_, ?_, ?_, ?_, ?_, q.rg, q.rb, q.hb, ?_, ?_, ?_, ?_, ?_, ?_, ?_, ?_, fun b hb => .inl (q.low b hb)⟩, fun b hs => keep b (q.lt b hs) (fun he => q.sL b he.symm hs) (fun he => q.sG (he ▸ hs))⟩
  · exact (keep gR lR (fun he => (own_off1 q.L q.r (by decide)) gR he.symm rfl) (by omega)).trans q.r
  · exact st
  · exact (keep h lH (fun he => (own_off1 q.L q.o (by decide)) h he.symm rfl) (by omega)).trans q.o
  · exact own
  · exact own_keep q.N fun b hb => keep b (q.N.lt b hb).2 ((own_two q.N q.L (by decide)) b hb) ((own_off1 q.N q.b (by decide)) b hb)
  · exact own_keep q.I fun b hb => keep b (q.I.lt b hb).2 ((own_two q.I q.L (by decide)) b hb) ((own_off1 q.I q.b (by decide)) b hb)
  · exact own_keep q.A fun b hb => keep b (q.A.lt b hb).2 ((own_two q.A q.L (by decide)) b hb) ((own_off1 q.A q.b (by decide)) b hb)
  · exact q.d
  · exact fun hs => hs.elim q.sR fun hs => by have := (h1 _ hs).1; omega
  · exact fun hs => hs.elim q.sG fun hs => by have := (h1 _ hs).1; omega
  · exact fun hs => hs.elim q.sH fun hs => by have := (h1 _ hs).1; omega
  · intro b hb hs
    rcases hs with hs | hs
    · rcases ob with h5 | h5
      · exact q.sL b (h5 ▸ hb) hs
      · have := h5 b hb
        have := q.lt b hs
        omega
    · exact h2 b hs hb
  · exact fun b hb hs => hs.elim (q.sN b hb) fun hs => by have := (h1 _ hs).1; have := (q.N.lt b hb).2; omega
  · exact fun b hb hs => hs.elim (q.sI b hb) fun hs => by have := (h1 _ hs).1; have := (q.I.lt b hb).2; omega
  · exact fun b hb hs => hs.elim (q.sA b hb) fun hs => by have := (h1 _ hs).1; have := (q.A.lt b hb).2; omega
  · exact fun b hs => hs.elim (fun hs => Nat.lt_of_lt_of_le (q.lt b hs) hz) fun hs => (h1 _ hs).2
theorem OfI.pushN (q : OfI base w S gR g h vL vN vI vA mL mN mI mA xL xN xI xA) (hz : w.heap.size ≤ z.heap.size) (keep : ∀ b, b < w.heap.size → some b ≠ vN.ownBlock → b ≠ g → z.heap[b]? = w.heap[b]?)
    (h1 : ∀ b, S1 b → w.heap.size ≤ b ∧ b < z.heap.size) (h2 : ∀ b, S1 b → v'.ownBlock ≠ some b) (own : z.ownsRow (h + 1) 24 1 v' (mN + 1) (xN ++ [x])) (ob : v'.ownBlock = vN.ownBlock ∨ ∀ b, v'.ownBlock = some b → w.heap.size ≤ b) (st : z.heap[g]? = some (.cells #[vL, v', vI, .slice (some ⟨h, 0, none⟩) 1 1] 26 (0, 0))) :
    OfI base z (fun b => S b ∨ S1 b) gR g h vL v' vI vA mL (mN + 1) mI mA xL (xN ++ [x]) xI xA ∧ ∀ b, S b → z.heap[b]? = w.heap[b]? := by
  have lR := (Array.getElem?_eq_some_iff.1 q.r).1
  have lG := (Array.getElem?_eq_some_iff.1 q.b).1
  have lH := (Array.getElem?_eq_some_iff.1 q.o).1
  have hne := q.hg
  have hnr := q.hr
  have hrg := q.rg
  have nH : ∀ b, vN.ownBlock = some b → b ≠ h := fun b hb => by have := (q.N.lt b hb).1; omega
  have dIA : ∀ b, vA.ownBlock = some b → some b ≠ vI.ownBlock := fun b hb he => q.d b he.symm hb.symm
  refine ⟨⟨?_, ?_, ?_, ?_, ?_, ?_, ?_, ?_, q.rg, q.rb, q.hb, ?_, ?_, ?_, ?_, ?_, ?_, ?_, ?_, fun b hb => .inl (q.low b hb)⟩, fun b hs => keep b (q.lt b hs) (fun he => q.sN b he.symm hs) (fun he => q.sG (he ▸ hs))⟩
  · exact (keep gR lR (fun he => (own_off1 q.N q.r (by decide)) gR he.symm rfl) (by omega)).trans q.r
  · exact st
  · exact (keep h lH (fun he => nH h he.symm rfl) (by omega)).trans q.o
  · exact own_keep q.L fun b hb => keep b (q.L.lt b hb).2 ((own_two q.L q.N (by decide)) b hb) ((own_off1 q.L q.b (by decide)) b hb)
  · exact own
  · exact own_keep q.I fun b hb => keep b (q.I.lt b hb).2 ((own_two q.I q.N (by decide)) b hb) ((own_off1 q.I q.b (by decide)) b hb)
  · exact own_keep q.A fun b hb => keep b (q.A.lt b hb).2 ((own_two q.A q.N (by decide)) b hb) ((own_off1 q.A q.b (by decide)) b hb)
  · exact q.d
  · exact fun hs => hs.elim q.sR fun hs => by have := (h1 _ hs).1; omega
  · exact fun hs => hs.elim q.sG fun hs => by have := (h1 _ hs).1; omega
  · exact fun hs => hs.elim q.sH fun hs => by have := (h1 _ hs).1; omega
  · exact fun b hb hs => hs.elim (q.sL b hb) fun hs => by have := (h1 _ hs).1; have := (q.L.lt b hb).2; omega
  · intro b hb hs
    rcases hs with hs | hs
    · rcases ob with h5 | h5
      · exact q.sN b (h5 ▸ hb) hs
      · have := h5 b hb
        have := q.lt b hs
        omega
    · exact h2 b hs hb
  · exact fun b hb hs => hs.elim (q.sI b hb) fun hs => by have := (h1 _ hs).1; have := (q.I.lt b hb).2; omega
  · exact fun b hb hs => hs.elim (q.sA b hb) fun hs => by have := (h1 _ hs).1; have := (q.A.lt b hb).2; omega
  · exact fun b hs => hs.elim (fun hs => Nat.lt_of_lt_of_le (q.lt b hs) hz) fun hs => (h1 _ hs).2
theorem OfI.pushI (q : OfI base w S gR g h vL vN vI vA mL mN mI mA xL xN xI xA) (hz : w.heap.size ≤ z.heap.size) (keep : ∀ b, b < w.heap.size → some b ≠ vI.ownBlock → b ≠ g → z.heap[b]? = w.heap[b]?)
    (h1 : ∀ b, S1 b → w.heap.size ≤ b ∧ b < z.heap.size) (h2 : ∀ b, S1 b → v'.ownBlock ≠ some b) (own : z.ownsRow base 3 1 v' (mI + 1) (xI ++ [x])) (ob : v'.ownBlock = vI.ownBlock ∨ ∀ b, v'.ownBlock = some b → w.heap.size ≤ b) (st : z.heap[g]? = some (.cells #[vL, vN, v', .slice (some ⟨h, 0, none⟩) 1 1] 26 (0, 0))) :
    OfI base z (fun b => S b ∨ S1 b) gR g h vL vN v' vA mL mN (mI + 1) mA xL xN (xI ++ [x]) xA ∧ ∀ b, S b → z.heap[b]? = w.heap[b]? := by
  have lR := (Array.getElem?_eq_some_iff.1 q.r).1
  have lG := (Array.getElem?_eq_some_iff.1 q.b).1
  have lH := (Array.getElem?_eq_some_iff.1 q.o).1
  have hne := q.hg
  have hnr := q.hr
  have hrg := q.rg
  have nH : ∀ b, vN.ownBlock = some b → b ≠ h := fun b hb => by have := (q.N.lt b hb).1; omega
  have dIA : ∀ b, vA.ownBlock = some b → some b ≠ vI.ownBlock := fun b hb he => q.d b he.symm hb.symm
  refine ⟨⟨?_, ?_, ?_, ?_, ?_, ?_, ?_, ?_, q.rg, q.rb, q.hb, ?_, ?_, ?_, ?_, ?_, ?_, ?_, ?_, fun b hb => .inl (q.low b hb)⟩, fun b hs => keep b (q.lt b hs) (fun he => q.sI b he.symm hs) (fun he => q.sG (he ▸ hs))⟩
  · exact (keep gR lR (fun he => (own_off1 q.I q.r (by decide)) gR he.symm rfl) (by omega)).trans q.r
  · exact st
  · exact (keep h lH (fun he => (own_off1 q.I q.o (by decide)) h he.symm rfl) (by omega)).trans q.o
  · exact own_keep q.L fun b hb => keep b (q.L.lt b hb).2 ((own_two q.L q.I (by decide)) b hb) ((own_off1 q.L q.b (by decide)) b hb)
  · exact own_keep q.N fun b hb => keep b (q.N.lt b hb).2 ((own_two q.N q.I (by decide)) b hb) ((own_off1 q.N q.b (by decide)) b hb)
  · exact own
  · exact own_keep q.A fun b hb => keep b (q.A.lt b hb).2 (dIA b hb) ((own_off1 q.A q.b (by decide)) b hb)
  · intro b hb he
    rcases ob with h5 | h5
    · exact q.d b (h5 ▸ hb) he
    · have := h5 b hb
      have := (q.A.lt b he.symm).2
      omega
  · exact fun hs => hs.elim q.sR fun hs => by have := (h1 _ hs).1; omega
  · exact fun hs => hs.elim q.sG fun hs => by have := (h1 _ hs).1; omega
  · exact fun hs => hs.elim q.sH fun hs => by have := (h1 _ hs).1; omega
  · exact fun b hb hs => hs.elim (q.sL b hb) fun hs => by have := (h1 _ hs).1; have := (q.L.lt b hb).2; omega
  · exact fun b hb hs => hs.elim (q.sN b hb) fun hs => by have := (h1 _ hs).1; have := (q.N.lt b hb).2; omega
  · intro b hb hs
    rcases hs with hs | hs
    · rcases ob with h5 | h5
      · exact q.sI b (h5 ▸ hb) hs
      · have := h5 b hb
        have := q.lt b hs
        omega
    · exact h2 b hs hb
  · exact fun b hb hs => hs.elim (q.sA b hb) fun hs => by have := (h1 _ hs).1; have := (q.A.lt b hb).2; omega
  · exact fun b hs => hs.elim (fun hs => Nat.lt_of_lt_of_le (q.lt b hs) hz) fun hs => (h1 _ hs).2
theorem OfI.pushA (q : OfI base w S gR g h vL vN vI vA mL mN mI mA xL xN xI xA) (hz : w.heap.size ≤ z.heap.size) (keep : ∀ b, b < w.heap.size → some b ≠ vA.ownBlock → b ≠ h → z.heap[b]? = w.heap[b]?)
    (h1 : ∀ b, S1 b → w.heap.size ≤ b ∧ b < z.heap.size) (h2 : ∀ b, S1 b → v'.ownBlock ≠ some b) (own : z.ownsRow base 3 1 v' (mA + 1) (xA ++ [x])) (ob : v'.ownBlock = vA.ownBlock ∨ ∀ b, v'.ownBlock = some b → w.heap.size ≤ b) (st : z.heap[h]? = some (.cells #[v'] 24 (0, 0))) :
    OfI base z (fun b => S b ∨ S1 b) gR g h vL vN vI v' mL mN mI (mA + 1) xL xN xI (xA ++ [x]) ∧ ∀ b, S b → z.heap[b]? = w.heap[b]? := by
  have lR := (Array.getElem?_eq_some_iff.1 q.r).1
  have lG := (Array.getElem?_eq_some_iff.1 q.b).1
  have lH := (Array.getElem?_eq_some_iff.1 q.o).1
  have hne := q.hg
  have hnr := q.hr
  have hrg := q.rg
  have nH : ∀ b, vN.ownBlock = some b → b ≠ h := fun b hb => by have := (q.N.lt b hb).1; omega
  have dIA : ∀ b, vA.ownBlock = some b → some b ≠ vI.ownBlock := fun b hb he => q.d b he.symm hb.symm
  refine ⟨⟨?_, ?_, ?_, ?_, ?_, ?_, ?_, ?_, q.rg, q.rb, q.hb, ?_, ?_, ?_, ?_, ?_, ?_, ?_, ?_, fun b hb => .inl (q.low b hb)⟩, fun b hs => keep b (q.lt b hs) (fun he => q.sA b he.symm hs) (fun he => q.sH (he ▸ hs))⟩
  · exact (keep gR lR (fun he => (own_off1 q.A q.r (by decide)) gR he.symm rfl) (by omega)).trans q.r
  · exact (keep g lG (fun he => (own_off1 q.A q.b (by decide)) g he.symm rfl) (by omega)).trans q.b
  · exact st
  · exact own_keep q.L fun b hb => keep b (q.L.lt b hb).2 ((own_two q.L q.A (by decide)) b hb) ((own_off1 q.L q.o (by decide)) b hb)
  · exact own_keep q.N fun b hb => keep b (q.N.lt b hb).2 ((own_two q.N q.A (by decide)) b hb) (nH b hb)
  · exact own_keep q.I fun b hb => keep b (q.I.lt b hb).2 (q.d b hb) ((own_off1 q.I q.o (by decide)) b hb)
  · exact own
  · intro b hb he
    rcases ob with h5 | h5
    · exact q.d b hb (h5 ▸ he)
    · have := h5 b he.symm
      have := (q.I.lt b hb).2
      omega
  · exact fun hs => hs.elim q.sR fun hs => by have := (h1 _ hs).1; omega
  · exact fun hs => hs.elim q.sG fun hs => by have := (h1 _ hs).1; omega
  · exact fun hs => hs.elim q.sH fun hs => by have := (h1 _ hs).1; omega
  · exact fun b hb hs => hs.elim (q.sL b hb) fun hs => by have := (h1 _ hs).1; have := (q.L.lt b hb).2; omega
  · exact fun b hb hs => hs.elim (q.sN b hb) fun hs => by have := (h1 _ hs).1; have := (q.N.lt b hb).2; omega
  · exact fun b hb hs => hs.elim (q.sI b hb) fun hs => by have := (h1 _ hs).1; have := (q.I.lt b hb).2; omega
  · intro b hb hs
    rcases hs with hs | hs
    · rcases ob with h5 | h5
      · exact q.sA b (h5 ▸ hb) hs
      · have := h5 b hb
        have := q.lt b hs
        omega
    · exact h2 b hs hb
  · exact fun b hs => hs.elim (fun hs => Nat.lt_of_lt_of_le (q.lt b hs) hz) fun hs => (h1 _ hs).2
end
end Go.Proofs.Ytpabnpgbclfcfaa
