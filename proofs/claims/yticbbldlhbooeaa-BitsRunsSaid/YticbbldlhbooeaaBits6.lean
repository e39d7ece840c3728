/- Contract of bits.Join. -/
import Derived.Test.YticbbldlhbooeaaBits5
namespace Go.Proofs.Yticbbldlhbooeaa
open Go.RowKit Go.Shelf
set_option linter.unusedVariables false
attribute [local go_sem] Oper.semAt_some

theorem stretch_any (w : World) (a : Option Addr) (len cap : Nat) (N at_ wide : Int) :
    Calls Try.prog 33 #[.agg #[.slice a len cap, .int .i64 N], .int .i64 at_, .int .i64 wide] w fun e w' => e = .returned (.func (.func 37) #[] #[.pointer (some ⟨w.heap.size + 1, 0, none⟩), .pointer (some ⟨w.heap.size + 2, 0, none⟩), .pointer (some ⟨w.heap.size, 0, none⟩)]) ∧
      ((w.alloc (.cells #[.slice a len cap, .int .i64 N] 24)).alloc (.cells #[.int .i64 at_] 3)).alloc (.cells #[.int .i64 wide] 3) = w' := by
  go_enter Try.func33, Try.ntmps33
  go_wp2
  go_ret
  exact ⟨rfl, rfl⟩
theorem stretch_boxes (w : World) (a : Option Addr) (len cap : Nat) (N at_ wide : Int) :
    BitsBox (((w.alloc (.cells #[.slice a len cap, .int .i64 N] 24)).alloc (.cells #[.int .i64 at_] 3)).alloc (.cells #[.int .i64 wide] 3)) w.heap.size a len cap N ∧
    BoxIs (((w.alloc (.cells #[.slice a len cap, .int .i64 N] 24)).alloc (.cells #[.int .i64 at_] 3)).alloc (.cells #[.int .i64 wide] 3)) (w.heap.size + 1) 3 (.int .i64 at_) ∧
    BoxIs (((w.alloc (.cells #[.slice a len cap, .int .i64 N] 24)).alloc (.cells #[.int .i64 at_] 3)).alloc (.cells #[.int .i64 wide] 3)) (w.heap.size + 2) 3 (.int .i64 wide) := by
  have e1 := World.alloc_heap_new w (.cells #[.slice a len cap, .int .i64 N] 24)
  have e2 := World.alloc_heap_new (w.alloc (.cells #[.slice a len cap, .int .i64 N] 24)) (.cells #[.int .i64 at_] 3)
  have e3 := World.alloc_heap_new ((w.alloc (.cells #[.slice a len cap, .int .i64 N] 24)).alloc (.cells #[.int .i64 at_] 3)) (.cells #[.int .i64 wide] 3)
  simp only [World.size_alloc] at e2 e3
  refine ⟨?_, ?_, e3⟩
  · exact (Below.heap_alloc _ _ _ (by simp; omega)).trans ((Below.heap_alloc _ _ _ (by simp)).trans e1)
  · exact (Below.heap_alloc _ _ _ (by simp)).trans e2
theorem cutBits_all (bs : List Nat) : cutBits bs 0 bs.length = bs := by simp [cutBits]

def BitsOut1 (bs : List Nat) (w : World) (e : Ending) (w' : World) : Prop :=
  ∃ a len cap, e = .returned (.agg #[.slice a len cap, .int .i64 (bs.length : Int)]) ∧ BytesAt w' a len cap (pack bs) ∧ Below w.heap.size w w'
set_option maxHeartbeats 4000000 in
theorem join_any (w : World) (a b : Option Addr) (len cap len' cap' : Nat) (bs cs : List Nat) (hbs : IsBits bs) (hcs : IsBits cs) (hsm : bs.length ≤ 274877906944) (hsm' : cs.length ≤ 274877906944) (hl : BytesAt w a len cap (pack bs)) (hl' : BytesAt w b len' cap' (pack cs)) :
    Calls Try.prog 22 #[.agg #[.slice a len cap, .int .i64 (bs.length : Int)], .agg #[.slice b len' cap', .int .i64 (cs.length : Int)]] w (BitsOut1 (bs ++ cs) w) := by
  have bb : ∀ o o' o'' : Obj, Below w.heap.size w (((w.alloc o).alloc o').alloc o'') := fun o o' o'' => (((Below.refl _ _).alloc (Nat.le_refl _) _).alloc (by simp) _).alloc (by simp; omega) _
  have hlow : len' ≠ 0 → ∀ bk o, b = some ⟨bk, o, none⟩ → bk < w.heap.size := by
    intro h0 bk o hb
    rcases hl'.5 with h4 | ⟨b', off, ha', hlt, _⟩
    · exact absurd h4 h0
    · rw [ha'] at hb; simp at hb; omega
  go_enter Try.func22, Try.ntmps22
  go_wp2_with fail
  refine (behind_any _ _ _ _ bs (hl.mono (bb _ _ _)) (by omega)).mono ?_
  rintro e w3 ⟨g, rfl, hp3, hb3, hg3⟩
  have hs3 := hb3.size
  simp at hs3
  obtain ⟨W0, hW0⟩ : ∃ W0, ((w.alloc (.cells #[.slice a len cap, .int .i64 (bs.length : Int)] 24)).alloc (.cells #[.slice b len' cap', .int .i64 (cs.length : Int)] 24)).alloc (.cells #[.slice none 0 0, .int .i64 0] 24) = W0 := ⟨_, rfl⟩
  have hW0s : W0.heap.size = w.heap.size + 3 := by rw [← hW0]; simp
  have k0 : W0.cell? ⟨w.heap.size + 1, 0, none⟩ = some (.slice b len' cap') := by rw [← hW0]; simp [go_sem]
  have k1 : W0.cell? ⟨w.heap.size + 1, 1, none⟩ = some (.int .i64 (cs.length : Int)) := by rw [← hW0]; simp [go_sem]
  have m0 : W0.cell? ⟨w.heap.size + 2, 0, none⟩ = some (.slice none 0 0) := by rw [← hW0]; simp [go_sem]
  have m1 : W0.cell? ⟨w.heap.size + 2, 1, none⟩ = some (.int .i64 0) := by rw [← hW0]; simp [go_sem]
  have n0 : W0.frozen? ⟨w.heap.size + 2, 0, none⟩ = false := by rw [← hW0]; simp [go_sem]
  have n1 : W0.frozen? ⟨w.heap.size + 2, 1, none⟩ = false := by rw [← hW0]; simp [go_sem]
  have bw0 : Below w.heap.size w W0 := by rw [← hW0]; exact bb _ _ _
  rw [hW0] at hp3 hb3
  have hs0 := hb3.size
  have hge : w.heap.size + 3 ≤ W0.heap.size := by omega
  clear hW0 hW0s
  have k0' : w3.cell? ⟨w.heap.size + 1, 0, none⟩ = some (.slice b len' cap') := (hb3.cell (p := ⟨w.heap.size + 1, 0, none⟩) (by show w.heap.size + 1 < _; omega)).trans k0
  have k1' : w3.cell? ⟨w.heap.size + 1, 1, none⟩ = some (.int .i64 (cs.length : Int)) := (hb3.cell (p := ⟨w.heap.size + 1, 1, none⟩) (by show w.heap.size + 1 < _; omega)).trans k1
  go_wp2_with fail
  refine (stretch_any _ _ _ _ _ _ _).mono ?_
  rintro e w4 ⟨rfl, rfl⟩
  obtain ⟨hbx, hba, hbw⟩ := stretch_boxes w3 b len' cap' (cs.length : Int) 0 (cs.length : Int)
  have hb4 : Below w3.heap.size w3 (((w3.alloc (.cells #[.slice b len' cap', .int .i64 (cs.length : Int)] 24)).alloc (.cells #[.int .i64 0] 3)).alloc (.cells #[.int .i64 (cs.length : Int)] 3)) := (((Below.refl _ _).alloc (Nat.le_refl _) _).alloc (by simp) _).alloc (by simp; omega) _
  have hp4 := hp3.below hb4
  have hl4 := ((hl'.mono bw0).mono hb3).mono hb4
  go_wp2_with fail
  refine (all_any _ g W0.heap.size bs _ _ (fun xs => xs = cs) cs.length hbs hp4 (by simp; omega) (by omega) (enters_of Try.func37 (by kernel_rfl) rfl)
    (fun w' hb => by
      have := stretch_stops Fence.wide 20 trivial rfl (by omega) g W0.heap.size _ _ _ b len' cap' cs 0 cs.length hcs (by omega) (by omega) w' (hba.below hb) (hbw.below hb) (hbx.below hb) (hl4.mono hb) (by omega) (by omega) (by omega) (fun h0 bk o hb' => by have := hlow h0 bk o hb'; omega)
      rw [cutBits_all] at this
      exact this)).mono ?_
  rintro e w5 ⟨rfl, xs, rfl, _, hL⟩
  go_wp2_with fail
  refine (told_any _ g W0.heap.size _ hL.page).mono ?_
  rintro e w6 ⟨a6, c6, rfl, o6, b6⟩
  have hL5 := hL.below (by simp; omega)
  have hres : Below W0.heap.size W0 w6 := by
    refine ((hb3.trans (hb4.mono hs0)).trans hL5).trans (b6.mono ?_)
    have := hL5.size
    simp at this
    omega
  have r0 : w6.cell? ⟨w.heap.size + 2, 0, none⟩ = some (.slice none 0 0) := (hres.cell (p := ⟨w.heap.size + 2, 0, none⟩) (by show w.heap.size + 2 < _; omega)).trans m0
  have r1 : w6.cell? ⟨w.heap.size + 2, 1, none⟩ = some (.int .i64 0) := (hres.cell (p := ⟨w.heap.size + 2, 1, none⟩) (by show w.heap.size + 2 < _; omega)).trans m1
  have f0 : w6.frozen? ⟨w.heap.size + 2, 0, none⟩ = false := (hres.frozen (p := ⟨w.heap.size + 2, 0, none⟩) (by show w.heap.size + 2 < _; omega)).trans n0
  have f1 : w6.frozen? ⟨w.heap.size + 2, 1, none⟩ = false := (hres.frozen (p := ⟨w.heap.size + 2, 1, none⟩) (by show w.heap.size + 2 < _; omega)).trans n1
  have hne : some (w.heap.size + 2) ≠ (Value.slice a6 (((bs ++ xs).length + 7) / 8) c6).ownBlock := by
    intro e
    have := (o6.lt _ e.symm).1
    omega
  have bb6 : Below w.heap.size w w6 := bw0.trans (hres.mono bw0.size)
  go_wp2
  have o7 := own_setOther (q := 1) (y := .int .i64 ((bs.length : Int) + (xs.length : Int))) (own_setOther (q := 0) (y := .slice a6 ((bs.length + xs.length + 7) / 8) c6) o6 hne) hne
  have hbs7 := own_bits (hbs.append hcs) rfl o7 (by rw [List.length_append]; omega)
  rw [List.length_append] at hbs7
  refine bodyPost_ret (v := .agg #[.slice a6 ((bs.length + xs.length + 7) / 8) c6, .int .i64 ((bs.length : Int) + (xs.length : Int))]) ?_ rfl ⟨a6, _, c6, ?_, hbs7, (bb6.setCell (by show w.heap.size ≤ w.heap.size + 2; omega) _).setCell (by show w.heap.size ≤ w.heap.size + 2; omega) _⟩
  · have q0 : (w6.setCell ⟨w.heap.size + 2, 0, none⟩ (.slice a6 ((bs.length + xs.length + 7) / 8) c6)).cell? ⟨w.heap.size + 2, 1, none⟩ = some (.int .i64 0) := by rw [World.cell?_setCell_other _ _ _ _ (by simp)]; exact r1
    have q00 := World.cell?_setCell_same w6 ⟨w.heap.size + 2, 0, none⟩ (.slice a6 ((bs.length + xs.length + 7) / 8) c6) r0
    have q11 := World.cell?_setCell_same _ ⟨w.heap.size + 2, 1, none⟩ (.int .i64 ((bs.length : Int) + (xs.length : Int))) q0
    simp [results, Try.results22, go_sem, q00, q11]
  · rw [List.length_append]; push_cast; rfl
end Go.Proofs.Yticbbldlhbooeaa
