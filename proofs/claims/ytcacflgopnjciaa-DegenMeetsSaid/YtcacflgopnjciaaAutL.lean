/- What the document's Of keeps (by gen19m.py). -/
import Derived.Test.YtcacflgopnjciaaAutK
namespace Go.Proofs.Ytcacflgopnjciaa
open Go.RowKit
set_option linter.unusedVariables false
set_option linter.unusedSimpArgs false

def IntsOn (S : Nat → Prop) (w : World) (a : Option Addr) (l : List Int) : Prop := l.length = 0 ∨ ∃ g, a = some ⟨g, 0, none⟩ ∧ S g ∧ ∀ i, i < l.length → w.cell? ⟨g, i, none⟩ = some (.int .i64 (l.getD i 0))
theorem IntsOn.to {S S' : Nat → Prop} {w w' : World} {a : Option Addr} {l : List Int} (h : IntsOn S w a l) (hS : ∀ b, S b → S' b) (hb : ∀ b, S b → w'.heap[b]? = w.heap[b]?) : IntsOn S' w' a l := by
  rcases h with h0 | ⟨g, e1, e2, e3⟩
  · exact .inl h0
  · exact .inr ⟨g, e1, hS g e2, fun i hi => (World.cell?_of_block (a := ⟨g, i, none⟩) (hb g e2)).trans (e3 i hi)⟩
def NextR (S : Nat → Prop) (w : World) (m : Nat) (F : Nat → List Int) (xs : List Value) : Prop := ∀ x, x < m → ∃ (a : Option Addr) (c : Nat), xs[x]? = some (.slice a (F x).length c) ∧ IntsOn S w a (F x)
theorem NextR.to {S S' : Nat → Prop} {w w' : World} {m : Nat} {F : Nat → List Int} {xs : List Value} (h : NextR S w m F xs) (hS : ∀ b, S b → S' b) (hb : ∀ b, S b → w'.heap[b]? = w.heap[b]?) : NextR S' w' m F xs := fun x hx => by
  obtain ⟨a, c, h1, h2⟩ := h x hx
  exact ⟨a, c, h1, h2.to hS hb⟩
theorem NextR.snoc {S : Nat → Prop} {w : World} {m : Nat} {F : Nat → List Int} {xs : List Value} (h : NextR S w m F xs) (hl : xs.length = m) {a : Option Addr} {c : Nat} (hy : IntsOn S w a (F m)) : NextR S w (m + 1) F (xs ++ [.slice a (F m).length c]) := fun x hx => by
  by_cases hxm : x = m
  · subst hxm
    exact ⟨a, c, by rw [List.getElem?_append_right (by omega), hl, Nat.sub_self]; rfl, hy⟩
  · obtain ⟨a, c, h1, h2⟩ := h x (by omega)
    exact ⟨a, c, by rw [List.getElem?_append_left (by omega)]; exact h1, h2⟩
def LitsR (w0 : World) (m : Nat) (ln : Nat → Nat) (lit : Nat → Nat → T) (xs : List Value) : Prop := ∀ x, x < m → ∃ (a : Option Addr) (c : Nat), xs[x]? = some (.slice a (ln x) c) ∧ PartsAt w0 a (ln x) (lit x)
theorem LitsR.snoc {w0 : World} {m : Nat} {ln : Nat → Nat} {lit : Nat → Nat → T} {xs : List Value} (h : LitsR w0 m ln lit xs) (hl : xs.length = m) {a : Option Addr} {c : Nat} (hy : PartsAt w0 a (ln m) (lit m)) : LitsR w0 (m + 1) ln lit (xs ++ [.slice a (ln m) c]) := fun x hx => by
  by_cases hxm : x = m
  · subst hxm
    exact ⟨a, c, by rw [List.getElem?_append_right (by omega), hl, Nat.sub_self]; rfl, hy⟩
  · obtain ⟨a, c, h1, h2⟩ := h x (by omega)
    exact ⟨a, c, by rw [List.getElem?_append_left (by omega)]; exact h1, h2⟩
theorem litsR_of {w0 z : World} {base m : Nat} {vL : Value} {xL : List Value} {ln : Nat → Nat} {lit : Nat → Nat → T} (hL : z.ownsRow base 32 1 vL m xL) (HL : LitsR w0 m ln lit xL) (hB : Below w0.heap.size w0 z) (hln : ∀ x, x < m → ln x ≤ 9223372036854775807) : ∃ a c, vL = .slice a m c ∧ LitsAt z a m ln lit := by
  rcases own_rowAt hL with ⟨rfl, rfl⟩ | ⟨g, c, rfl, _, hg, hc⟩
  · exact ⟨_, _, rfl, .inl rfl⟩
  · refine ⟨_, _, rfl, .inr ⟨g, 0, rfl, hg, fun i hi => ?_⟩⟩
    obtain ⟨a, c2, h1, h2⟩ := HL i hi
    exact ⟨a, c2, by rw [Nat.zero_add]; exact hc i _ h1, hln i hi, h2.mono hB⟩
theorem nextR_of {z : World} {base m : Nat} {vN : Value} {xN : List Value} {S : Nat → Prop} {F : Nat → List Int} (hN : z.ownsRow base 24 1 vN m xN) (HN : NextR S z m F xN) (hS : ∀ b, S b → b < z.heap.size) (hF : ∀ x, x < m → (F x).length ≤ 9223372036854775807) : ∃ a c, vN = .slice a m c ∧ WordAt z a m F := by
  rcases own_rowAt hN with ⟨rfl, rfl⟩ | ⟨g, c, rfl, _, hg, hc⟩
  · exact ⟨_, _, rfl, .inl rfl⟩
  · refine ⟨_, _, rfl, .inr ⟨g, 0, rfl, hg, fun i hi => ?_⟩⟩
    obtain ⟨a, c2, h1, h2⟩ := HN i hi
    refine ⟨a, _, c2, by rw [Nat.zero_add]; exact hc i _ h1, rfl, hF i hi, ?_⟩
    rcases h2 with h0 | ⟨g2, e1, e2, e3⟩
    · exact .inl h0
    · exact .inr ⟨g2, 0, e1, hS g2 e2, fun j hj => by rw [Nat.zero_add]; exact e3 j hj⟩
theorem ceil0 (q K : Nat) (hK : 0 < K) : (q * K + K - 1) / K = q := Nat.div_eq_of_lt_le (by omega) (by rw [Nat.succ_mul]; omega)
theorem ceil1 (q i K : Nat) (h0 : 0 < i) (hi : i ≤ K) : (q * K + i + K - 1) / K = q + 1 := Nat.div_eq_of_lt_le (by rw [Nat.succ_mul]; omega) (by rw [Nat.succ_mul, Nat.succ_mul]; omega)
def RefS (w0 w2 : World) (gR g h K : Nat) (f : Nat → Nat → Bool) (ln : Nat → Nat) (lit : Nat → Nat → T) (next : Nat → List Int) (lI : List Int) (x i : Nat) (w : World) : Prop :=
  ∃ (S : Nat → Prop) (vL vN vI vA : Value) (xL xN : List Value), OfI w0.heap.size w S gR g h vL vN vI vA x x i (accO K f ((x + K - 1) / K)).length xL xN ((lI.take i).map (Value.int .i64)) ((accO K f ((x + K - 1) / K)).map (Value.int .i64)) ∧ LitsR w0 x (fun x => ln (x / K)) (fun x => lit (x / K)) xL ∧ NextR S w x (nextO K f next) xN ∧
    (∀ b, b < w2.heap.size → b ≠ gR → S b) ∧ Below w2.heap.size w2 w
theorem RefS.mem {w0 w2 w w' : World} {gR g h K : Nat} {f : Nat → Nat → Bool} {ln : Nat → Nat} {lit : Nat → Nat → T} {next : Nat → List Int} {lI : List Int} {x i : Nat} (q : RefS w0 w2 gR g h K f ln lit next lI x i w) (b : Below w.heap.size w w') : RefS w0 w2 gR g h K f ln lit next lI x i w' := by
  obtain ⟨S, vL, vN, vI, vA, xL, xN, Q, HL, HN, hS, bt⟩ := q
  exact ⟨S, vL, vN, vI, vA, xL, xN, Q.mem b, HL, HN.to (fun _ h => h) (fun k hk => b.block k (Q.lt k hk)), hS, bt.trans (b.mono bt.size)⟩
theorem below_of2 {w2 w z : World} {S : Nat → Prop} {gR : Nat} (h : Below w2.heap.size w2 w) (hz : w.heap.size ≤ z.heap.size) (hs : z.os = w.os ∧ z.tape = w.tape ∧ z.output = w.output) (low : ∀ b, b < w2.heap.size → b ≠ gR → S b) (k : ∀ b, S b → z.heap[b]? = w.heap[b]?) (hr : z.heap[gR]? = w.heap[gR]?) : Below w2.heap.size w2 z :=
  ⟨hs.1.trans h.os, hs.2.1.trans h.tape, hs.2.2.trans h.output, Nat.le_trans h.size hz, fun b hb => by
    by_cases hbR : b = gR
    · subst hbR
      exact hr.trans (h.block b hb)
    · exact (k b (low b hb hbR)).trans (h.block b hb)⟩
end Go.Proofs.Ytcacflgopnjciaa
