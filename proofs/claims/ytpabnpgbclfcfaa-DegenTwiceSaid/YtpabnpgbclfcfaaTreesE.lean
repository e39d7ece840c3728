/- The document's Lit and Formula on trees; what trees come to (by gen17c.py). -/
import Derived.Test.YtpabnpgbclfcfaaTreesD
namespace Go.Proofs.Ytpabnpgbclfcfaa
open Go.RowKit
set_option linter.unusedVariables false
set_option linter.unusedSimpArgs false
def FmP (t : T) : Prop := MayP t ∧ (tyT t = 2 ∨ tyT t = 3)
def FmR (t : T) (e : Ending) : Prop := ∃ b : Bool, e = .returned (.bool b) ∧ (b = true → FmP t)
set_option maxRecDepth 20000 in
theorem lit_any (w : World) (t : T) (v : Value) (h : TreeAt w t v) : Calls Try.prog 15 #[v] w fun e w' => e = .returned (.bool (decide (tyT t = 2))) ∧ Below w.heap.size w w' := by
  obtain ⟨op, n, pl, a, len, cap, rfl⟩ : ∃ (op n pl : Int) (a : Option Addr) (len cap : Nat), v = .agg #[.int .i64 op, .int .i64 n, .int .i64 pl, .slice a len cap] := by
    cases t with
    | nil => exact h.elim
    | node op n pl len sub =>
      obtain ⟨a, cap, rfl, _⟩ := h
      exact ⟨op, n, pl, a, len, cap, rfl⟩
  have A := (Below.refl w.heap.size w).alloc (Nat.le_refl _) (.cells #[.int .i64 op, .int .i64 n, .int .i64 pl, .slice a len cap] 40)
  have pt : (w.alloc (.cells #[.int .i64 op, .int .i64 n, .int .i64 pl, .slice a len cap] 40)).heap[w.heap.size]? = some (.cells #[.int .i64 op, .int .i64 n, .int .i64 pl, .slice a len cap] 40 (0, 0)) := heap_alloc_new _ _
  go_enter Try.func15, Try.ntmps15
  go_upto_region 1 with fail
  obtain ⟨v1, hv⟩ : ∃ v, w.alloc (.cells #[.int .i64 op, .int .i64 n, .int .i64 pl, .slice a len cap] 40) = v := ⟨_, rfl⟩
  obtain ⟨gt, hg⟩ : ∃ g, w.heap.size = g := ⟨_, rfl⟩
  rw [hv] at pt A ⊢
  rw [hg] at pt ⊢
  have bt := A
  have hgw : w.heap.size ≤ gt := Nat.le_of_eq hg
  clear hv hg A
  have c0 : v1.cell? ⟨gt, 0, none⟩ = some (.int .i64 op) := cell_of_row _ _ 0 _ _ _ pt
  have c1 : v1.cell? ⟨gt, 1, none⟩ = some (.int .i64 n) := cell_of_row _ _ 1 _ _ _ pt
  have c2 : v1.cell? ⟨gt, 2, none⟩ = some (.int .i64 pl) := cell_of_row _ _ 2 _ _ _ pt
  have c3 : v1.cell? ⟨gt, 3, none⟩ = some (.slice a len cap) := cell_of_row _ _ 3 _ _ _ pt
  have hle := tyT_le t
  go_wp2_with fail
  refine (type_any t _ _ (h.mono bt)).mono ?_
  rintro e w1 ⟨⟨c, p, rfl, hc⟩, b1⟩
  replace bt := below_then bt b1
  clear c0 c1 c2 c3
  obtain ⟨q, hq⟩ : ∃ q, tyT t = q := ⟨_, rfl⟩
  rw [hq] at hc hle ⊢
  have HQ := Lib.hid hq
  clear hq h
  rcases (by omega : q = 0 ∨ q = 1 ∨ q = 2 ∨ q = 3) with rfl | rfl | rfl | rfl
  all_goals
    simp at hc
    subst hc
    go_wp2_with fail
    go_ret
    exact ⟨by rw [HQ.out]; rfl, bt⟩
/-- What a tree's type says of its parts. -/
theorem ty_int {op n pl : Int} {len : Nat} {sub : Nat → T} (hm : MayP (.node op n pl len sub)) (h : tyT (.node op n pl len sub) = 1) : op ≤ 6 ∧ ∀ i, i < len → tyT (sub i) = 1 := by
  have h2 : tyOf op len (cnt (fun i => tyT (sub i)) 0 len) (cnt (fun i => tyT (sub i)) 1 len) (cnt (fun i => tyT (sub i)) 2 len) (cnt (fun i => tyT (sub i)) 3 len) = 1 := h
  unfold tyOf at h2
  repeat' split at h2
  all_goals first
    | omega
    | exact ⟨by assumption, cnt_all (by assumption)⟩
theorem ty_cmp {op n pl : Int} {len : Nat} {sub : Nat → T} (hm : MayP (.node op n pl len sub)) (h : tyT (.node op n pl len sub) ≠ 0) (ho : op ≤ 14) : ∀ i, i < len → tyT (sub i) = 1 := by
  have h2 : tyOf op len (cnt (fun i => tyT (sub i)) 0 len) (cnt (fun i => tyT (sub i)) 1 len) (cnt (fun i => tyT (sub i)) 2 len) (cnt (fun i => tyT (sub i)) 3 len) ≠ 0 := h
  obtain ⟨h3, h4, h5, h6⟩ := hm
  unfold tyOf at h2
  repeat' split at h2
  all_goals first
    | omega
    | exact cnt_all (by assumption)
    | skip
  · intro i hi
    unfold arity at h5
    rw [if_pos (by omega)] at h5
    omega
theorem ty_fm {op n pl : Int} {len : Nat} {sub : Nat → T} (hm : FmP (.node op n pl len sub)) (ho : 14 < op) : ∀ i, i < len → FmP (sub i) := by
  obtain ⟨⟨h3, h4, h5, h6⟩, h7⟩ := hm
  have h2 : tyOf op len (cnt (fun i => tyT (sub i)) 0 len) (cnt (fun i => tyT (sub i)) 1 len) (cnt (fun i => tyT (sub i)) 2 len) (cnt (fun i => tyT (sub i)) 3 len) ≠ 0 := by
    have : tyT (.node op n pl len sub) ≠ 0 := by omega
    exact this
  unfold tyOf at h2
  intro i hi
  refine ⟨h6 i hi, ?_⟩
  repeat' split at h2
  all_goals first
    | omega
    | exact .inl (cnt_all (by assumption) i hi)
    | exact cnt_both (by assumption) i hi
def T.opOf : T → Int
  | .nil => 0
  | .node op _ _ _ _ => op
def b01 (p : Prop) [Decidable p] : Int := if p then 1 else 0
/-- What a part comes to. -/
def evOp (v : List Int) (op n a b : Int) : Int :=
  if op = 1 then n else if op = 2 then (if n < 0 ∨ (v.length : Int) ≤ n then 0 else v.getD n.toNat 0) else if op = 3 then RowKit.wrap64 (a + b) else if op = 4 then RowKit.wrap64 (a - b) else if op = 5 then RowKit.wrap64 (a * b) else if op = 6 then RowKit.wrap64 (-a)
  else if op = 7 then b01 (a = b) else if op = 8 then b01 (a ≠ b) else if op = 9 then b01 (a < b) else if op = 10 then b01 (a ≤ b) else if op = 11 then b01 (b < a) else if op = 12 then b01 (b ≤ a) else if op = 13 then 1
  else if op = 15 then b01 (a = 0) else if op = 16 then b01 (a = 1 ∧ b = 1) else if op = 17 then b01 (a = 1 ∨ b = 1) else if op = 18 then b01 (a = 0 ∨ b = 1) else if op = 19 then b01 (a = b) else 0
/-- What a tree comes to. -/
def evT (v : List Int) : T → Int
  | .nil => 0
  | .node op n _ len sub => evOp v op n (if 0 < len then evT v (sub 0) else 0) (if 1 < len then evT v (sub 1) else 0)
end Go.Proofs.Ytpabnpgbclfcfaa
