/- A frame behind a region that draws its order: the slots that it keeps; what is good of an element. -/
import Derived.Test.YtpabnpgbclfcfaaAutH
import Derived.Test.YtpabnpgbclfcfaaAutG
namespace Go.Proofs.Ytpabnpgbclfcfaa
open Go.RowKit
set_option linter.unusedVariables false
set_option linter.unusedSimpArgs false
theorem frame_kept {a : Act} {n lim : Nat} {u : Nat → Value} (hn : a.tmps.size = n) (hl : lim ≤ n) (hk : ∀ s, Nat.blt s lim = true → u s = slotOf a s) : frameOf n [] u = ⟨(a.tmps.toList.take lim ++ (List.range' lim (n - lim)).map u).toArray, []⟩ := by
  unfold frameOf
  congr 2
  apply List.ext_getElem?
  intro i
  rw [List.getElem?_append, List.length_take, Array.length_toList, hn, Nat.min_eq_left hl, List.getElem?_map, List.getElem?_take, List.getElem?_map]
  by_cases hi : i < lim
  · rw [if_pos hi, if_pos hi, List.getElem?_range (by omega)]
    show some (u i) = _
    rw [hk i (by rw [Nat.blt_eq]; exact hi)]
    unfold slotOf
    rw [Array.getD_eq_getD_getElem?, Array.getElem?_toList, Array.getElem?_eq_getElem (by omega)]
    rfl
  · rw [if_neg hi]
    by_cases hin : i < n
    · rw [List.getElem?_range (by omega), List.getElem?_range' (by omega)]
      show some (u i) = some (u (lim + 1 * (i - lim)))
      rw [show lim + 1 * (i - lim) = i by omega]
    · rw [List.getElem?_eq_none (by simp; omega), List.getElem?_eq_none (by simp; omega)]
theorem frame_kept2 {a : Act} {n lim hi : Nat} {u : Nat → Value} (hn : a.tmps.size = n) (hl : lim ≤ hi) (hh : hi ≤ n) (hk : ∀ s, (Nat.blt s lim || (Nat.ble hi s && Nat.blt s n)) = true → u s = slotOf a s) : frameOf n [] u = ⟨(a.tmps.toList.take lim ++ ((List.range' lim (hi - lim)).map u ++ a.tmps.toList.drop hi)).toArray, []⟩ := by
  unfold frameOf
  congr 2
  apply List.ext_getElem?
  intro i
  have hs : ∀ i, i < n → (Nat.blt i lim || (Nat.ble hi i && Nat.blt i n)) = true → some (u i) = a.tmps.toList[i]? := fun i hi' hb => by
    rw [hk i hb]
    unfold slotOf
    rw [Array.getD_eq_getD_getElem?, Array.getElem?_toList, Array.getElem?_eq_getElem (by omega)]
    rfl
  by_cases hin : i < n
  · rw [List.getElem?_map, List.getElem?_range hin]
    show some (u i) = _
    rw [List.getElem?_append, List.length_take, Array.length_toList, hn, Nat.min_eq_left (by omega)]
    by_cases h1 : i < lim
    · rw [if_pos h1, List.getElem?_take, if_pos h1]
      exact hs i hin (by rw [Bool.or_eq_true, Nat.blt_eq]; exact .inl h1)
    · rw [if_neg h1, List.getElem?_append, List.length_map, List.length_range']
      by_cases h2 : i < hi
      · rw [if_pos (by omega), List.getElem?_map, List.getElem?_range' (by omega)]
        show some (u i) = some (u (lim + 1 * (i - lim)))
        rw [show lim + 1 * (i - lim) = i by omega]
      · rw [if_neg (by omega), List.getElem?_drop, show hi + (i - lim - (hi - lim)) = i by omega]
        exact hs i hin (by rw [Bool.or_eq_true, Bool.and_eq_true, Nat.ble_eq]; exact .inr ⟨by omega, by rw [Nat.blt_eq]; exact hin⟩)
  · rw [List.getElem?_eq_none (by simp; omega), List.getElem?_eq_none (by simp; omega)]
def GoodL (len : Nat) (sub : Nat → T) (S : Nat → Prop) (x : Value) (w : World) : Prop := ∃ (a : Option Addr) (c : Nat), x = .slice a len c ∧ PartsOn S w a len sub
def GoodN (l : List Int) (S : Nat → Prop) (x : Value) (w : World) : Prop := ∃ g, x = .slice (some ⟨g, 0, none⟩) l.length l.length ∧ S g ∧ w.rowIs g 3 l.length fun i => .int .i64 (l.getD i 0)
def GoodV (y : Value) (S : Nat → Prop) (x : Value) (w : World) : Prop := x = y
theorem GoodL.frame {len : Nat} {sub : Nat → T} : ∀ (S : Nat → Prop) x (w w' : World), (∀ b, S b → w'.heap[b]? = w.heap[b]?) → GoodL len sub S x w → GoodL len sub S x w' := fun S x w w' hb ⟨a, c, h1, h2⟩ => ⟨a, c, h1, h2.to (fun _ h => h) hb⟩
theorem GoodN.frame {l : List Int} : ∀ (S : Nat → Prop) x (w w' : World), (∀ b, S b → w'.heap[b]? = w.heap[b]?) → GoodN l S x w → GoodN l S x w' := fun S x w w' hb ⟨g, h1, h2, h3⟩ => ⟨g, h1, h2, h3.of_block (hb g h2)⟩
theorem GoodV.frame {y : Value} : ∀ (S : Nat → Prop) x (w w' : World), (∀ b, S b → w'.heap[b]? = w.heap[b]?) → GoodV y S x w → GoodV y S x w' := fun S x w w' hb h => h
theorem GoodL.one {len : Nat} {sub : Nat → T} : ∀ (S : Nat → Prop) x (w : World), GoodL len sub S x w → x.oneCell' = true := fun S x w ⟨a, c, h1, _⟩ => by rw [h1]; rfl
theorem GoodN.one {l : List Int} : ∀ (S : Nat → Prop) x (w : World), GoodN l S x w → x.oneCell' = true := fun S x w ⟨g, h1, _⟩ => by rw [h1]; rfl
/-- The literals so far. -/
def LitsOn (S : Nat → Prop) (w : World) (m : Nat) (ln : Nat → Nat) (lit : Nat → Nat → T) (xs : List Value) : Prop := ∀ x, x < m → ∃ (a : Option Addr) (c : Nat), xs[x]? = some (.slice a (ln x) c) ∧ PartsOn S w a (ln x) (lit x)
/-- The edges so far. -/
def NextOn (S : Nat → Prop) (w : World) (m : Nat) (F : Nat → List Int) (xs : List Value) : Prop := ∀ x, x < m → ∃ g, xs[x]? = some (.slice (some ⟨g, 0, none⟩) (F x).length (F x).length) ∧ S g ∧ w.rowIs g 3 (F x).length fun i => .int .i64 ((F x).getD i 0)
theorem LitsOn.to {S S' : Nat → Prop} {w w' : World} {m : Nat} {ln : Nat → Nat} {lit : Nat → Nat → T} {xs : List Value} (h : LitsOn S w m ln lit xs) (hS : ∀ b, S b → S' b) (hb : ∀ b, S b → w'.heap[b]? = w.heap[b]?) : LitsOn S' w' m ln lit xs := fun x hx => by
  obtain ⟨a, c, h1, h2⟩ := h x hx
  exact ⟨a, c, h1, h2.to hS hb⟩
theorem NextOn.to {S S' : Nat → Prop} {w w' : World} {m : Nat} {F : Nat → List Int} {xs : List Value} (h : NextOn S w m F xs) (hS : ∀ b, S b → S' b) (hb : ∀ b, S b → w'.heap[b]? = w.heap[b]?) : NextOn S' w' m F xs := fun x hx => by
  obtain ⟨g, h1, h2, h3⟩ := h x hx
  exact ⟨g, h1, hS g h2, h3.of_block (hb g h2)⟩
theorem LitsOn.snoc {S : Nat → Prop} {w : World} {m : Nat} {ln : Nat → Nat} {lit : Nat → Nat → T} {xs : List Value} (h : LitsOn S w m ln lit xs) (hl : xs.length = m) {y : Value} (hy : GoodL (ln m) (lit m) S y w) : LitsOn S w (m + 1) ln lit (xs ++ [y]) := fun x hx => by
  by_cases hxm : x = m
  · subst hxm
    obtain ⟨a, c, h1, h2⟩ := hy
    exact ⟨a, c, by rw [List.getElem?_append_right (by omega), hl, Nat.sub_self, h1]; rfl, h2⟩
  · obtain ⟨a, c, h1, h2⟩ := h x (by omega)
    exact ⟨a, c, by rw [List.getElem?_append_left (by omega)]; exact h1, h2⟩
theorem NextOn.snoc {S : Nat → Prop} {w : World} {m : Nat} {F : Nat → List Int} {xs : List Value} (h : NextOn S w m F xs) (hl : xs.length = m) {y : Value} (hy : GoodN (F m) S y w) : NextOn S w (m + 1) F (xs ++ [y]) := fun x hx => by
  by_cases hxm : x = m
  · subst hxm
    obtain ⟨g, h1, h2, h3⟩ := hy
    exact ⟨g, by rw [List.getElem?_append_right (by omega), hl, Nat.sub_self, h1]; rfl, h2, h3⟩
  · obtain ⟨g, h1, h2, h3⟩ := h x (by omega)
    exact ⟨g, by rw [List.getElem?_append_left (by omega)]; exact h1, h2, h3⟩
theorem GoodL.to {len : Nat} {sub : Nat → T} {S S' : Nat → Prop} {w : World} {x : Value} (h : GoodL len sub S x w) (hS : ∀ b, S b → S' b) : GoodL len sub S' x w := by
  obtain ⟨a, c, h1, h2⟩ := h
  exact ⟨a, c, h1, h2.to hS fun _ _ => rfl⟩
theorem GoodN.to {l : List Int} {S S' : Nat → Prop} {w : World} {x : Value} (h : GoodN l S x w) (hS : ∀ b, S b → S' b) : GoodN l S' x w := by
  obtain ⟨g, h1, h2, h3⟩ := h
  exact ⟨g, h1, hS g h2, h3⟩
/-- A row of numbers, as values. -/
theorem rowIs_own {w : World} {g n base : Nat} {t : TypeId} {f : Nat → Value} (h : w.rowIs g t n f) (hb : base ≤ g) (hn : n ≤ 9223372036854775807) : ∃ xs : List Value, xs.length = n ∧ w.ownsRow base t 1 (.slice (some ⟨g, 0, none⟩) n n) n xs ∧ ∀ i, i < n → xs[i]? = some (f i) := by
  obtain ⟨c, hc, hs, hi⟩ := h
  refine ⟨c.toList, by rw [Array.length_toList, hs], ⟨by rw [Array.length_toList, hs, Nat.mul_one], .inr ⟨g, n, c, rfl, hb, hc, Nat.le_refl _, hn, by rw [hs, Nat.mul_one], List.take_of_length_le (by rw [Array.length_toList, hs, Nat.mul_one]; exact Nat.le_refl _)⟩⟩, fun i hil => by rw [Array.getElem?_toList]; exact hi i hil⟩
theorem own_rowAt {w : World} {base n : Nat} {e : TypeId} {v : Value} {xs : List Value} (h : w.ownsRow base e 1 v n xs) : (v = .slice none 0 0 ∧ n = 0) ∨ ∃ g c, v = .slice (some ⟨g, 0, none⟩) n c ∧ base ≤ g ∧ g < w.heap.size ∧ ∀ j x, xs[j]? = some x → w.cell? ⟨g, j, none⟩ = some x := ownR_shape h
end Go.Proofs.Ytpabnpgbclfcfaa
