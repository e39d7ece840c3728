/- Regions that draw their order: each operation is shown once, from what its grounds left, whatever order is drawn. -/
import Derived.Test.YtpabnpgbclfcfaaLater
import Derived.Orders
import Derived.Deep.RegionHeld3
namespace Go.Proofs.Ytpabnpgbclfcfaa
open Go.RowKit
set_option linter.unusedVariables false
set_option linter.unusedSimpArgs false
def updL (L : Nat → Bool) (i : Nat) : Nat → Bool := fun k => if k = i then true else L k
def remL (L : Nat → Bool) : Nat → Nat
  | 0 => 0
  | n + 1 => remL L n + if L n = true then 0 else 1
theorem remL_out (L : Nat → Bool) (i : Nat) : ∀ n, n ≤ i → remL (updL L i) n = remL L n
  | 0, _ => rfl
  | n + 1, h => by
    unfold remL
    rw [remL_out L i n (by omega), show updL L i n = L n from if_neg (by omega)]
theorem remL_upd (L : Nat → Bool) (i : Nat) (hi : L i = false) : ∀ n, i < n → remL (updL L i) n + 1 = remL L n
  | 0, h => absurd h (Nat.not_lt_zero _)
  | n + 1, h => by
    unfold remL
    by_cases hin : i = n
    · subst hin
      rw [remL_out L i i (Nat.le_refl _), show updL L i i = true from if_pos rfl, hi]
      simp
    · have := remL_upd L i hi n (by omega)
      rw [show updL L i n = L n from if_neg (fun e => hin e.symm)]
      omega
theorem remL_zero (L : Nat → Bool) : ∀ n, remL L n = 0 → ∀ i, i < n → L i = true
  | 0, _, i, hi => absurd hi (Nat.not_lt_zero _)
  | n + 1, h, i, hi => by
    unfold remL at h
    by_cases hn : L n = true
    · rcases (by omega : i < n ∨ i = n) with h1 | rfl
      · exact remL_zero L n (by omega) i h1
      · exact hn
    · rw [if_neg hn] at h
      omega
section
variable {P : Program} {Q : Exit → Act → World → Prop}
theorem ready_mem {ops : Array Oper} {listed : Array Bool} {i : Nat} (hs : listed.size = ops.size) (h : i ∈ Region.ready .any ops listed) : i < ops.size ∧ listed.getD i false = false ∧ ∀ o, ops[i]? = some o → ∀ e ∈ o.after, Region.binds .any e = true → listed.getD e.on false = true := by
  unfold Region.ready at h
  simp only [List.mem_filter, List.mem_range, Bool.and_eq_true] at h
  obtain ⟨h1, h2, h3⟩ := h
  refine ⟨h1, ?_, fun o ho e he hb => ?_⟩
  · have hlt : i < listed.size := by omega
    simp [Array.getD, hlt] at h2 ⊢
    exact h2
  · rw [ho] at h3
    simp only [Option.map_some, Option.getD_some, Array.all_eq_true_iff_forall_mem] at h3
    have := h3 e he
    rw [hb] at this
    simpa using this
theorem mem_ready {ops : Array Oper} {listed : Array Bool} {i : Nat} (hs : listed.size = ops.size) (h1 : i < ops.size) (h2 : listed.getD i false = false) (h3 : ∀ e ∈ (ops[i]'h1).after, Region.binds .any e = true → listed.getD e.on false = true) : i ∈ Region.ready .any ops listed := by
  unfold Region.ready
  simp only [List.mem_filter, List.mem_range, Bool.and_eq_true]
  refine ⟨h1, ?_, ?_⟩
  · have hlt : i < listed.size := by omega
    simp [Array.getD, hlt] at h2 ⊢
    exact h2
  · rw [Array.getElem?_eq_getElem h1]
    simp only [Option.map_some, Option.getD_some, Array.all_eq_true_iff_forall_mem]
    intro e he
    by_cases hb : Region.binds .any e = true
    · rw [h3 e he hb]; simp
    · simp [hb]
theorem some_ready {ops : Array Oper} {listed : Array Bool} (hs : listed.size = ops.size) (hord : ∀ i o, ops[i]? = some o → ∀ e ∈ o.after, Region.binds .any e = true → e.on < i) : ∀ n i, i ≤ n → i < ops.size → listed.getD i false = false → Region.ready .any ops listed ≠ [] := by
  intro n
  induction n with
  | zero =>
    intro i hi h1 h2
    obtain rfl : i = 0 := by omega
    refine List.ne_nil_of_mem (mem_ready hs h1 h2 fun e he hb => ?_)
    exact absurd (hord 0 _ (Array.getElem?_eq_getElem h1) e he hb) (Nat.not_lt_zero _)
  | succ n ih =>
    intro i hi h1 h2
    by_cases hall : ∀ e ∈ (ops[i]'h1).after, Region.binds .any e = true → listed.getD e.on false = true
    · exact List.ne_nil_of_mem (mem_ready hs h1 h2 hall)
    · obtain ⟨e, hx⟩ := Classical.not_forall.1 hall
      obtain ⟨he, hx⟩ := Classical.not_forall.1 hx
      obtain ⟨hb, hx⟩ := Classical.not_forall.1 hx
      have hlt := hord i _ (Array.getElem?_eq_getElem h1) e he hb
      exact ih e.on (by omega) (by omega) (by simpa using hx)
theorem wpAny_inv {ops : Array Oper} (J : (Nat → Bool) → Act → World → Prop)
    (hord : ∀ i o, ops[i]? = some o → ∀ e ∈ o.after, Region.binds .any e = true → e.on < i)
    (hstep : ∀ L a w, J L a w → ∀ i, i < ops.size → L i = false → (∀ o, ops[i]? = some o → ∀ e ∈ o.after, Region.binds .any e = true → L e.on = true) → wpOp P ops Q i (J (updL L i)) a w)
    (hend : ∀ L a w, J L a w → (∀ i, i < ops.size → L i = true) → Q .normal a w) :
    ∀ (fuel : Nat) (listed : Array Bool) (a : Act) (w : World), listed.size = ops.size → remL (fun k => listed.getD k false) ops.size ≤ fuel → J (fun k => listed.getD k false) a w → wpAny P .any ops Q fuel listed a w := by
  intro fuel
  induction fuel with
  | zero =>
    intro listed a w hs hf hJ
    have hall := remL_zero _ _ (Nat.le_zero.1 hf)
    refine ⟨?_, hend _ a w hJ hall⟩
    refine List.eq_nil_iff_forall_not_mem.2 fun i hi => ?_
    obtain ⟨h1, h2, _⟩ := ready_mem hs hi
    exact Bool.noConfusion (h2.symm.trans (hall i h1))
  | succ fuel ih =>
    intro listed a w hs hf hJ
    refine ⟨fun h0 => hend _ a w hJ fun i hi => ?_, fun i hi => ?_⟩
    · cases hl : listed.getD i false with
      | true => rfl
      | false => exact absurd h0 (some_ready hs hord i i (Nat.le_refl _) hi hl)
    · obtain ⟨h1, h2, h3⟩ := ready_mem hs hi
      refine wpOp_mono (fun a' w' hJ' => ?_) (hstep _ a w hJ i h1 h2 h3)
      have hfun : (fun k => (listed.setIfInBounds i true).getD k false) = updL (fun k => listed.getD k false) i := by
        funext k
        unfold updL
        have hlt : i < listed.size := by omega
        by_cases hk : k = i
        · subst hk
          simp [Array.getD, hlt]
        · rw [if_neg hk]
          by_cases hkl : k < listed.size
          · simp [Array.getD, hkl, Array.getElem_setIfInBounds, Ne.symm hk]
          · simp [Array.getD, hkl]
      refine ih _ a' w' (by simpa using hs) ?_ (by rw [hfun]; exact hJ')
      rw [hfun]
      have := remL_upd (fun k => listed.getD k false) i h2 ops.size h1
      omega
theorem wp_region_inv {id : Nat} {ops : Array Oper} {a : Act} {W : World} (hm : P.follows .mixedOrders = true) (J : (Nat → Bool) → Act → World → Prop)
    (hord : ∀ i o, ops[i]? = some o → ∀ e ∈ o.after, Region.binds .any e = true → e.on < i)
    (h0 : J (fun _ => false) a W.drew)
    (hstep : ∀ L a w, J L a w → ∀ i, i < ops.size → L i = false → (∀ o, ops[i]? = some o → ∀ e ∈ o.after, Region.binds .any e = true → L e.on = true) → wpOp P ops Q i (J (updL L i)) a w)
    (hend : ∀ L a w, J L a w → (∀ i, i < ops.size → L i = true) → Q .normal a w) : (Code.region id ops true).wp P Q a W := by
  refine wp_region_any hm (wpAny_inv J hord hstep hend ops.size _ a _ (by simp) ?_ ?_)
  · have : ∀ (L : Nat → Bool) n, remL L n ≤ n := by
      intro L n
      induction n with
      | zero => exact Nat.le_refl _
      | succ n ih => unfold remL; split <;> omega
    exact this _ _
  · have : (fun k => (Array.replicate ops.size false).getD k false) = fun _ => false := by
      funext k
      by_cases hk : k < ops.size <;> simp [Array.getD, hk]
    rw [this]
    exact h0
end
end Go.Proofs.Ytpabnpgbclfcfaa
