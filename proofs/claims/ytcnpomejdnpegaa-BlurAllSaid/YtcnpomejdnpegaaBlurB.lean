/- What layer 10's laws come to. -/
import Derived.Test.YtcnpomejdnpegaaBlurHead
namespace Go.Proofs.Ytcnpomejdnpegaa
open Go.RowKit
set_option linter.unusedVariables false

def insV (l ps : List Nat) : List Nat := if allV l ps then l else setV l ps
theorem insV_length (l ps : List Nat) : (insV l ps).length = l.length := by
  unfold insV
  split
  · rfl
  · exact setV_length _ _
theorem RowOf.ins {l on : List Nat} (h : RowOf l on) (ps : List Nat) (hp : ∀ p ∈ ps, p < 8 * l.length) : RowOf (insV l ps) (withV on ps) := by
  unfold insV
  split
  · rename_i ha
    rw [withV_same]
    · exact h
    · rw [h.all] at ha
      intro p hpm
      exact of_decide_eq_true (List.all_eq_true.1 ha p hpm)
  · exact h.steps ps l on hp
theorem withV_mem : ∀ (ps on : List Nat) (q : Nat), q ∈ withV on ps ↔ q ∈ on ∨ q ∈ ps := by
  intro ps
  induction ps with
  | nil => intro on q; simp [withV]
  | cons p r ih =>
    intro on q
    rw [withV, ih]
    by_cases h : p ∈ on
    · rw [if_pos h]
      constructor
      · rintro (h1 | h1)
        · exact .inl h1
        · exact .inr (by simp [h1])
      · rintro (h1 | h1)
        · exact .inl h1
        · rcases List.mem_cons.1 h1 with rfl | h1
          · exact .inl h
          · exact .inr h1
    · rw [if_neg h]
      simp [or_assoc]
theorem withV_nodup : ∀ (ps on : List Nat), on.Nodup → (withV on ps).Nodup := by
  intro ps
  induction ps with
  | nil => intro on h; exact h
  | cons p r ih =>
    intro on h
    refine ih _ ?_
    by_cases hm : p ∈ on
    · rw [if_pos hm]; exact h
    · rw [if_neg hm]
      rw [List.nodup_append]
      refine ⟨h, by simp, ?_⟩
      intro a ha b hb
      obtain rfl := List.mem_singleton.1 hb
      rintro rfl
      exact hm ha
theorem withV_le : ∀ (ps on : List Nat), (withV on ps).length ≤ on.length + ps.length ∧ on.length ≤ (withV on ps).length := by
  intro ps
  induction ps with
  | nil => intro on; simp [withV]
  | cons p r ih =>
    intro on
    have := ih (if p ∈ on then on else on ++ [p])
    show (withV _ r).length ≤ _ ∧ _ ≤ (withV _ r).length
    by_cases hm : p ∈ on
    · rw [if_pos hm] at this ⊢; rw [List.length_cons]; omega
    · rw [if_neg hm] at this ⊢; rw [List.length_append] at this; simp at this ⊢; omega
theorem withV_more : ∀ (ps on : List Nat), ¬ (∀ p ∈ ps, p ∈ on) → on.length < (withV on ps).length := by
  intro ps
  induction ps with
  | nil => intro on h; exact absurd (fun p hp => by simp at hp) h
  | cons p r ih =>
    intro on h
    show on.length < (withV _ r).length
    by_cases hm : p ∈ on
    · rw [if_pos hm]
      refine ih on fun hr => h fun q hq => ?_
      rcases List.mem_cons.1 hq with rfl | hq
      · exact hm
      · exact hr q hq
    · rw [if_neg hm]
      have := (withV_le r (on ++ [p])).2
      rw [List.length_append] at this
      simp at this
      omega
theorem same_length {a b : List Nat} (ha : a.Nodup) (hb : b.Nodup) (h : ∀ q, q ∈ a ↔ q ∈ b) : a.length = b.length :=
  Nat.le_antisymm (ha.length_le_of_subset fun q hq => (h q).1 hq) (hb.length_le_of_subset fun q hq => (h q).2 hq)
/-- BlurOld. -/
theorem old_facts (L : Nat) (pa pb pc : List Nat) (k : Nat) (ha : ∀ p ∈ pa, p < 8 * L) (hb : ∀ p ∈ pb, p < 8 * L) (hk : pa.length = k) (hk1 : 1 ≤ k) :
    onesV (List.replicate L 0) = 0 ∧ allV (List.replicate L 0) pa = false ∧ onesV (insV (insV (List.replicate L 0) pa) pb) = onesV (insV (insV (List.replicate L 0) pb) pa) ∧
    allV (insV (insV (List.replicate L 0) pa) pb) pc = allV (insV (insV (List.replicate L 0) pb) pa) pc ∧ (allV (insV (List.replicate L 0) pa) pc = true → allV (insV (insV (List.replicate L 0) pa) pb) pc = true) ∧ onesV (insV (List.replicate L 0) pa) ≤ k := by
  have h0 := RowOf.zero L
  have hl : (List.replicate L 0).length = L := List.length_replicate
  have hx := h0.ins pa (by rw [hl]; exact ha)
  have hp := h0.ins pb (by rw [hl]; exact hb)
  have hy := hx.ins pb (by rw [insV_length, hl]; exact hb)
  have hq := hp.ins pa (by rw [insV_length, hl]; exact ha)
  have hsame : ∀ q, q ∈ withV (withV [] pa) pb ↔ q ∈ withV (withV [] pb) pa := by
    intro q
    simp only [withV_mem]
    constructor
    · rintro ((h | h) | h)
      · exact .inl (.inl h)
      · exact .inr h
      · exact .inl (.inr h)
    · rintro ((h | h) | h)
      · exact .inl (.inl h)
      · exact .inr h
      · exact .inl (.inr h)
  refine ⟨h0.many, ?_, ?_, ?_, ?_, ?_⟩
  · rw [h0.all]
    cases pa with
    | nil => simp at hk; omega
    | cons p r => rfl
  · rw [hy.many, hq.many]
    exact same_length (withV_nodup _ _ (withV_nodup _ _ List.nodup_nil)) (withV_nodup _ _ (withV_nodup _ _ List.nodup_nil)) hsame
  · rw [hy.all, hq.all]
    congr 1
    funext q
    rw [decide_eq_decide]
    exact hsame q
  · rw [hx.all, hy.all]
    intro h
    rw [List.all_eq_true] at h ⊢
    intro q hqm
    have := of_decide_eq_true (h q hqm)
    exact decide_eq_true ((withV_mem _ _ _).2 (.inl this))
  · rw [hx.many]
    have := (withV_le pa []).1
    simpa [hk] using this
end Go.Proofs.Ytcnpomejdnpegaa
