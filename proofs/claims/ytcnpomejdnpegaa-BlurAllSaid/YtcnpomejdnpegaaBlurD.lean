/- What BlurTells keeps: rows of bits and rows of places. -/
import Derived.Test.YtcnpomejdnpegaaBlurRef5
namespace Go.Proofs.Ytcnpomejdnpegaa
open Go.RowKit
set_option linter.unusedVariables false

structure TellP (M L : Nat) (l0 l1 l2 on0 on1 on2 : List Nat) : Prop where
  r0 : RowOf l0 on0
  r1 : RowOf l1 on1
  r2 : RowOf l2 on2
  d0 : on0.Nodup
  d1 : on1.Nodup
  d2 : on2.Nodup
  t0 : ∀ p ∈ on0, p < M
  t1 : ∀ p ∈ on1, p < M
  t2 : ∀ p ∈ on2, p < M
  e0 : l0.length = L
  e1 : l1.length = L
  e2 : l2.length = L
theorem TellP.zero (M L : Nat) : TellP M L (List.replicate L 0) (List.replicate L 0) (List.replicate L 0) [] [] [] :=
  ⟨RowOf.zero L, RowOf.zero L, RowOf.zero L, List.nodup_nil, List.nodup_nil, List.nodup_nil, (fun p hp => by simp at hp), (fun p hp => by simp at hp), (fun p hp => by simp at hp), List.length_replicate, List.length_replicate, List.length_replicate⟩
theorem with_lt {M : Nat} {on ps : List Nat} (h : ∀ p ∈ on, p < M) (hp : ∀ p ∈ ps, p < M) : ∀ p ∈ withV on ps, p < M := fun p hm => by
  rcases (withV_mem _ _ _).1 hm with h' | h'
  · exact h p h'
  · exact hp p h'
theorem ins_len {l on : List Nat} {ps : List Nat} (h : RowOf l on) : (insV l ps).length = l.length := by
  unfold insV
  split
  · rfl
  · simp [setV_length]
theorem TellP.ins0 {M L : Nat} {l0 l1 l2 on0 on1 on2 : List Nat} (h : TellP M L l0 l1 l2 on0 on1 on2) (ps : List Nat) (hp : ∀ p ∈ ps, p < M) (hM : M ≤ 8 * L) : TellP M L (insV l0 ps) l1 l2 (withV on0 ps) on1 on2 :=
  ⟨h.r0.ins ps (fun p hq => by have := hp p hq; have := h.e0; omega), h.r1, h.r2, withV_nodup _ _ h.d0, h.d1, h.d2, with_lt h.t0 hp, h.t1, h.t2, (ins_len h.r0).trans h.e0, h.e1, h.e2⟩
theorem TellP.ins1 {M L : Nat} {l0 l1 l2 on0 on1 on2 : List Nat} (h : TellP M L l0 l1 l2 on0 on1 on2) (ps : List Nat) (hp : ∀ p ∈ ps, p < M) (hM : M ≤ 8 * L) : TellP M L l0 (insV l1 ps) l2 on0 (withV on1 ps) on2 :=
  ⟨h.r0, h.r1.ins ps (fun p hq => by have := hp p hq; have := h.e1; omega), h.r2, h.d0, withV_nodup _ _ h.d1, h.d2, h.t0, with_lt h.t1 hp, h.t2, h.e0, (ins_len h.r1).trans h.e1, h.e2⟩
theorem TellP.ins2 {M L : Nat} {l0 l1 l2 on0 on1 on2 : List Nat} (h : TellP M L l0 l1 l2 on0 on1 on2) (ps : List Nat) (hp : ∀ p ∈ ps, p < M) (hM : M ≤ 8 * L) : TellP M L l0 l1 (insV l2 ps) on0 on1 (withV on2 ps) :=
  ⟨h.r0, h.r1, h.r2.ins ps (fun p hq => by have := hp p hq; have := h.e2; omega), h.d0, h.d1, withV_nodup _ _ h.d2, h.t0, h.t1, with_lt h.t2 hp, h.e0, h.e1, (ins_len h.r2).trans h.e2⟩
end Go.Proofs.Ytcnpomejdnpegaa
