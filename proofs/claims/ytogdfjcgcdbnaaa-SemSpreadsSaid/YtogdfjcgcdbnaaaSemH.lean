/- The head of all statements of layer 17 (by gen17l.py). -/
import Derived.Test.YtogdfjcgcdbnaaaSemG
namespace Go.Proofs.Ytogdfjcgcdbnaaa
open Go.RowKit
set_option linter.unusedVariables false
set_option linter.unusedSimpArgs false
theorem cell_next {w w' : World} {p : Addr} {v : Value} (b : Below w.heap.size w w') (h : w.cell? p = some v) : w'.cell? p = some v := (b.cell (World.block_lt_of_cell? w _ h)).trans h
theorem rightT (w : World) (wa : Option Addr) (wk : Nat) : Calls Try.prog 26 #[.agg #[.slice wa 2 wk, .int .i64 1]] w fun e w' => e = .returned (.bool true) ∧ Below w.heap.size w w' := right_any w wa 2 wk 1 (by decide)
theorem rightF (w : World) (wa : Option Addr) (wk : Nat) : Calls Try.prog 26 #[.agg #[.slice wa 2 wk, .int .i64 2]] w fun e w' => e = .returned (.bool false) ∧ Below w.heap.size w w' := right_any w wa 2 wk 2 (by decide)
theorem rightZ (w : World) : Calls Try.prog 26 #[.agg #[.slice none 0 0, .int .i64 0]] w fun e w' => e = .returned (.bool false) ∧ Below w.heap.size w w' := right_any w none 0 0 0 (by decide)
theorem holdsFG (w : World) (v : Value) (wa : Option Addr) (wk : Nat) (ht : TreeAt w (T.un 21 (T.un 22 (isN 1))) v) (hr : WordAt w wa 2 rowX) : Calls Try.prog 16 #[v, .agg #[.slice wa 2 wk, .int .i64 1]] w fun e w' => e = .returned (.bool true) ∧ Below w.heap.size w w' := by
  have h := holds_any w _ v wa 2 wk 1 rowX ht hr (((FmP.isN 1).time (.inr (.inr rfl))).time (.inr (.inl rfl))) (by decide) (by decide)
  rw [shFG] at h
  exact h
theorem holdsGF (w : World) (v : Value) (wa : Option Addr) (wk : Nat) (ht : TreeAt w (T.un 22 (T.un 21 (isN 0))) v) (hr : WordAt w wa 2 rowX) : Calls Try.prog 16 #[v, .agg #[.slice wa 2 wk, .int .i64 1]] w fun e w' => e = .returned (.bool false) ∧ Below w.heap.size w w' := by
  have h := holds_any w _ v wa 2 wk 1 rowX ht hr (((FmP.isN 0).time (.inr (.inl rfl))).time (.inr (.inr rfl))) (by decide) (by decide)
  rw [shGF] at h
  exact h
theorem allX (w : World) (v : Value) (wa : Option Addr) (wk : Nat) (ht : TreeAt w (T.un 20 (isN 1)) v) (hr : WordAt w wa 2 rowX) : Calls Try.prog 11 #[v, .agg #[.slice wa 2 wk, .int .i64 1]] w fun e w' => (∃ g, e = .returned (.slice (some ⟨g, 0, none⟩) 2 2) ∧ w'.cell? ⟨g, 0, none⟩ = some (.bool true) ∧ w'.cell? ⟨g, 1, none⟩ = some (.bool true)) ∧ Below w.heap.size w w' := by
  refine (all_any _ w v wa 2 wk 1 rowX ht hr ((FmP.isN 1).time (.inl rfl)) (by decide) (by decide)).mono ?_
  rintro e w' ⟨⟨g, rfl, hg, hrow⟩, hb⟩
  have h0 := World.rowIs.cell hrow (show 0 < 2 by decide)
  have h1 := World.rowIs.cell hrow (show 1 < 2 by decide)
  rw [shX 0 (by decide)] at h0
  rw [shX 1 (by decide)] at h1
  exact ⟨⟨g, rfl, h0, h1⟩, hb⟩
set_option maxRecDepth 100000 in
set_option maxHeartbeats 4000000 in
theorem shown_any (w : World) : Calls Try.prog 7 #[] w fun e w' => e = .returned (.bool true) ∧ Below w.heap.size w w' := by
  have bt : Below w.heap.size w ((((w.alloc (.cells #[.int .i64 0] 3)).alloc (.cells #[.int .i64 1] 3)).alloc (.cells #[.slice (some ⟨w.heap.size, 0, none⟩) 1 1, .slice (some ⟨w.heap.size + 1, 0, none⟩) 1 1] 31)).alloc (.cells #[.slice (some ⟨w.heap.size + 1 + 1, 0, none⟩) 2 2, .int .i64 1] 27)) := ((((Below.refl _ _).alloc (Nat.le_refl _) _).alloc (by simp) _).alloc (by simp; omega) _).alloc (by simp; omega) _
  have p0 : ((((w.alloc (.cells #[.int .i64 0] 3)).alloc (.cells #[.int .i64 1] 3)).alloc (.cells #[.slice (some ⟨w.heap.size, 0, none⟩) 1 1, .slice (some ⟨w.heap.size + 1, 0, none⟩) 1 1] 31)).alloc (.cells #[.slice (some ⟨w.heap.size + 1 + 1, 0, none⟩) 2 2, .int .i64 1] 27)).heap[w.heap.size]? = some (.cells #[.int .i64 0] 3 (0, 0)) := (Below.heap_alloc _ _ _ (by simp <;> omega)).trans ((Below.heap_alloc _ _ _ (by simp <;> omega)).trans ((Below.heap_alloc _ _ _ (by simp)).trans (heap_alloc_new _ _)))
  have p1 : ((((w.alloc (.cells #[.int .i64 0] 3)).alloc (.cells #[.int .i64 1] 3)).alloc (.cells #[.slice (some ⟨w.heap.size, 0, none⟩) 1 1, .slice (some ⟨w.heap.size + 1, 0, none⟩) 1 1] 31)).alloc (.cells #[.slice (some ⟨w.heap.size + 1 + 1, 0, none⟩) 2 2, .int .i64 1] 27)).heap[w.heap.size + 1]? = some (.cells #[.int .i64 1] 3 (0, 0)) := by
    refine (Below.heap_alloc _ _ _ (by simp <;> omega)).trans ((Below.heap_alloc _ _ _ (by simp)).trans ?_)
    have h := heap_alloc_new (w.alloc (.cells #[.int .i64 0] 3)) (.cells #[.int .i64 1] 3)
    rwa [World.size_alloc] at h
  have p2 : ((((w.alloc (.cells #[.int .i64 0] 3)).alloc (.cells #[.int .i64 1] 3)).alloc (.cells #[.slice (some ⟨w.heap.size, 0, none⟩) 1 1, .slice (some ⟨w.heap.size + 1, 0, none⟩) 1 1] 31)).alloc (.cells #[.slice (some ⟨w.heap.size + 1 + 1, 0, none⟩) 2 2, .int .i64 1] 27)).heap[w.heap.size + 1 + 1]? = some (.cells #[.slice (some ⟨w.heap.size, 0, none⟩) 1 1, .slice (some ⟨w.heap.size + 1, 0, none⟩) 1 1] 31 (0, 0)) := by
    refine (Below.heap_alloc _ _ _ (by simp)).trans ?_
    have h := heap_alloc_new ((w.alloc (.cells #[.int .i64 0] 3)).alloc (.cells #[.int .i64 1] 3)) (.cells #[.slice (some ⟨w.heap.size, 0, none⟩) 1 1, .slice (some ⟨w.heap.size + 1, 0, none⟩) 1 1] 31)
    rwa [World.size_alloc, World.size_alloc] at h
  have p3 : ((((w.alloc (.cells #[.int .i64 0] 3)).alloc (.cells #[.int .i64 1] 3)).alloc (.cells #[.slice (some ⟨w.heap.size, 0, none⟩) 1 1, .slice (some ⟨w.heap.size + 1, 0, none⟩) 1 1] 31)).alloc (.cells #[.slice (some ⟨w.heap.size + 1 + 1, 0, none⟩) 2 2, .int .i64 1] 27)).heap[w.heap.size + 1 + 1 + 1]? = some (.cells #[.slice (some ⟨w.heap.size + 1 + 1, 0, none⟩) 2 2, .int .i64 1] 27 (0, 0)) := by
    have h := heap_alloc_new (((w.alloc (.cells #[.int .i64 0] 3)).alloc (.cells #[.int .i64 1] 3)).alloc (.cells #[.slice (some ⟨w.heap.size, 0, none⟩) 1 1, .slice (some ⟨w.heap.size + 1, 0, none⟩) 1 1] 31)) (.cells #[.slice (some ⟨w.heap.size + 1 + 1, 0, none⟩) 2 2, .int .i64 1] 27)
    rwa [World.size_alloc, World.size_alloc, World.size_alloc] at h
  go_enter Try.func7, Try.ntmps7
  go_upto_region 4 with fail
  obtain ⟨v, hv⟩ : ∃ v, ((((w.alloc (.cells #[.int .i64 0] 3)).alloc (.cells #[.int .i64 1] 3)).alloc (.cells #[.slice (some ⟨w.heap.size, 0, none⟩) 1 1, .slice (some ⟨w.heap.size + 1, 0, none⟩) 1 1] 31)).alloc (.cells #[.slice (some ⟨w.heap.size + 1 + 1, 0, none⟩) 2 2, .int .i64 1] 27)) = v := ⟨_, rfl⟩
  rw [hv] at bt p0 p1 p2 p3 ⊢
  obtain ⟨gw, hgw⟩ : ∃ g, w.heap.size + 1 + 1 + 1 = g := ⟨_, rfl⟩
  rw [hgw] at p3 ⊢
  obtain ⟨g2, hg2⟩ : ∃ g, w.heap.size + 1 + 1 = g := ⟨_, rfl⟩
  rw [hg2] at p2 p3 ⊢
  obtain ⟨g1, hg1⟩ : ∃ g, w.heap.size + 1 = g := ⟨_, rfl⟩
  rw [hg1] at p1 p2 ⊢
  obtain ⟨g0, hg0⟩ : ∃ g, w.heap.size = g := ⟨_, rfl⟩
  rw [hg0] at p0 p2 ⊢
  clear hgw hg2 hg1 hg0 hv
  have hW : WordAt v (some ⟨g2, 0, none⟩) 2 rowX := by
    refine .inr ⟨g2, 0, rfl, (Array.getElem?_eq_some_iff.1 p2).1, fun i hi => ?_⟩
    rcases (by omega : i = 0 ∨ i = 1) with rfl | rfl
    · refine ⟨some ⟨g0, 0, none⟩, 1, 1, cell_of_row _ _ 0 _ _ _ p2, rfl, by decide, .inr ⟨g0, 0, rfl, (Array.getElem?_eq_some_iff.1 p0).1, fun i hi => ?_⟩⟩
      obtain rfl : i = 0 := by omega
      exact cell_of_row _ _ 0 _ _ _ p0
    · refine ⟨some ⟨g1, 0, none⟩, 1, 1, cell_of_row _ _ 1 _ _ _ p2, rfl, by decide, .inr ⟨g1, 0, rfl, (Array.getElem?_eq_some_iff.1 p1).1, fun i hi => ?_⟩⟩
      obtain rfl : i = 0 := by omega
      exact cell_of_row _ _ 0 _ _ _ p1
  have r0 : v.drew.cell? ⟨gw, 0, none⟩ = some (.slice (some ⟨g2, 0, none⟩) 2 2) := cell_of_row _ _ 0 _ _ _ p3
  have r1 : v.drew.cell? ⟨gw, 1, none⟩ = some (.int .i64 1) := cell_of_row _ _ 1 _ _ _ p3
  have bD : Below v.heap.size v v.drew := (Below.refl _ _).drew
  have hWD := hW.mono bD
  have btD := below_then bt bD
  clear p0 p1 p2 p3 hW bt
  go_region_held3 (fun w' => w'.cell? ⟨gw, 0, none⟩ = some (.slice (some ⟨g2, 0, none⟩) 2 2) ∧ w'.cell? ⟨gw, 1, none⟩ = some (.int .i64 1))
    (refine ⟨?_, ?_⟩ <;> with_reducible assumption)
    (first | (go_at_call 24; ((with_reducible refine (sh1_any _ 1 (by decide)).mono ?_); rintro e ws ⟨⟨u, rfl, hu⟩, bz⟩; have hW' := hWD.mono bz; have bt' := below_then btD bz; clear hWD btD; have hWD := hW'; have btD := bt'; clear hW' bt'; have s0 := cell_next bz r0; have s1 := cell_next bz r1; clear r0 r1; have r0 := s0; have r1 := s1; clear s0 s1)) | (go_at_call 25; ((with_reducible refine (sh2_any _ _ _ _ (by decide) hu).mono ?_); rintro e ws ⟨⟨u, rfl, hu⟩, bz⟩; have hW' := hWD.mono bz; have bt' := below_then btD bz; clear hWD btD; have hWD := hW'; have btD := bt'; clear hW' bt'; have s0 := cell_next bz r0; have s1 := cell_next bz r1; clear r0 r1; have r0 := s0; have r1 := s1; clear s0 s1)) | (go_at_call 11; ((with_reducible refine (allX _ _ _ _ hu hWD).mono ?_); rintro e ws ⟨⟨ga, rfl, hb0, hb1⟩, bz⟩; have hW' := hWD.mono bz; have bt' := below_then btD bz; clear hWD btD; have hWD := hW'; have btD := bt'; clear hW' bt'; have s0 := cell_next bz r0; have s1 := cell_next bz r1; clear r0 r1; have r0 := s0; have r1 := s1; clear s0 s1)))
  go_upto_region 5 with fail
  have q0 : ws.drew.cell? ⟨gw, 0, none⟩ = some (.slice (some ⟨g2, 0, none⟩) 2 2) := r0
  have q1 : ws.drew.cell? ⟨gw, 1, none⟩ = some (.int .i64 1) := r1
  have bD2 : Below ws.heap.size ws ws.drew := (Below.refl _ _).drew
  have hW2 := hWD.mono bD2
  have bt2 := below_then btD bD2
  have e0 : ws.drew.cell? ⟨ga, 0, none⟩ = some (.bool true) := hb0
  have e1 : ws.drew.cell? ⟨ga, 1, none⟩ = some (.bool true) := hb1
  clear r0 r1 hWD btD hb0 hb1 hu bz
  go_region_held3 (fun w' => w'.cell? ⟨gw, 0, none⟩ = some (.slice (some ⟨g2, 0, none⟩) 2 2) ∧ w'.cell? ⟨gw, 1, none⟩ = some (.int .i64 1) ∧ w'.cell? ⟨ga, 0, none⟩ = some (.bool true) ∧ w'.cell? ⟨ga, 1, none⟩ = some (.bool true))
    (refine ⟨?_, ?_, ?_, ?_⟩ <;> with_reducible assumption)
    (first | (go_at_call 24; ((with_reducible refine (sh1_any _ 1 (by decide)).mono ?_); rintro e ws ⟨⟨u, rfl, hu⟩, bz⟩; have hW' := hW2.mono bz; have bt' := below_then bt2 bz; clear hW2 bt2; have hW2 := hW'; have bt2 := bt'; clear hW' bt'; have s0 := cell_next bz q0; have s1 := cell_next bz q1; have s2 := cell_next bz e0; have s3 := cell_next bz e1; clear q0 q1 e0 e1; have q0 := s0; have q1 := s1; have e0 := s2; have e1 := s3; clear s0 s1 s2 s3)) | (go_at_call 24; ((with_reducible refine (sh1_any _ 0 (by decide)).mono ?_); rintro e ws ⟨⟨u, rfl, hu⟩, bz⟩; have hW' := hW2.mono bz; have bt' := below_then bt2 bz; clear hW2 bt2; have hW2 := hW'; have bt2 := bt'; clear hW' bt'; have s0 := cell_next bz q0; have s1 := cell_next bz q1; have s2 := cell_next bz e0; have s3 := cell_next bz e1; clear q0 q1 e0 e1; have q0 := s0; have q1 := s1; have e0 := s2; have e1 := s3; clear s0 s1 s2 s3)) | (go_at_call 25; ((with_reducible refine (sh2_any _ _ _ _ (by decide) hu).mono ?_); rintro e ws ⟨⟨u, rfl, hu⟩, bz⟩; have hW' := hW2.mono bz; have bt' := below_then bt2 bz; clear hW2 bt2; have hW2 := hW'; have bt2 := bt'; clear hW' bt'; have s0 := cell_next bz q0; have s1 := cell_next bz q1; have s2 := cell_next bz e0; have s3 := cell_next bz e1; clear q0 q1 e0 e1; have q0 := s0; have q1 := s1; have e0 := s2; have e1 := s3; clear s0 s1 s2 s3)) | (go_at_call 16; ((with_reducible refine (holdsFG _ _ _ _ hu hW2).mono ?_); rintro e ws ⟨rfl, bz⟩; have hW' := hW2.mono bz; have bt' := below_then bt2 bz; clear hW2 bt2; have hW2 := hW'; have bt2 := bt'; clear hW' bt'; have s0 := cell_next bz q0; have s1 := cell_next bz q1; have s2 := cell_next bz e0; have s3 := cell_next bz e1; clear q0 q1 e0 e1; have q0 := s0; have q1 := s1; have e0 := s2; have e1 := s3; clear s0 s1 s2 s3)) | (go_at_call 16; ((with_reducible refine (holdsGF _ _ _ _ hu hW2).mono ?_); rintro e ws ⟨rfl, bz⟩; have hW' := hW2.mono bz; have bt' := below_then bt2 bz; clear hW2 bt2; have hW2 := hW'; have bt2 := bt'; clear hW' bt'; have s0 := cell_next bz q0; have s1 := cell_next bz q1; have s2 := cell_next bz e0; have s3 := cell_next bz e1; clear q0 q1 e0 e1; have q0 := s0; have q1 := s1; have e0 := s2; have e1 := s3; clear s0 s1 s2 s3)) | (go_at_call 26; ((with_reducible refine (rightT _ _ _).mono ?_); rintro e ws ⟨rfl, bz⟩; have hW' := hW2.mono bz; have bt' := below_then bt2 bz; clear hW2 bt2; have hW2 := hW'; have bt2 := bt'; clear hW' bt'; have s0 := cell_next bz q0; have s1 := cell_next bz q1; have s2 := cell_next bz e0; have s3 := cell_next bz e1; clear q0 q1 e0 e1; have q0 := s0; have q1 := s1; have e0 := s2; have e1 := s3; clear s0 s1 s2 s3)) | (go_at_call 26; ((with_reducible refine (rightF _ _ _).mono ?_); rintro e ws ⟨rfl, bz⟩; have hW' := hW2.mono bz; have bt' := below_then bt2 bz; clear hW2 bt2; have hW2 := hW'; have bt2 := bt'; clear hW' bt'; have s0 := cell_next bz q0; have s1 := cell_next bz q1; have s2 := cell_next bz e0; have s3 := cell_next bz e1; clear q0 q1 e0 e1; have q0 := s0; have q1 := s1; have e0 := s2; have e1 := s3; clear s0 s1 s2 s3)) | (go_at_call 26; ((with_reducible refine (rightZ _).mono ?_); rintro e ws ⟨rfl, bz⟩; have hW' := hW2.mono bz; have bt' := below_then bt2 bz; clear hW2 bt2; have hW2 := hW'; have bt2 := bt'; clear hW' bt'; have s0 := cell_next bz q0; have s1 := cell_next bz q1; have s2 := cell_next bz e0; have s3 := cell_next bz e1; clear q0 q1 e0 e1; have q0 := s0; have q1 := s1; have e0 := s2; have e1 := s3; clear s0 s1 s2 s3)))
  go_wp2_with fail
  go_ret
  exact ⟨rfl, bt2⟩
end Go.Proofs.Ytogdfjcgcdbnaaa
