/- Pairs: New, Many, Find, Pair, Insert. -/
import Derived.Test.YtoffcpfebghdnaaTabY
import Derived.Test.YtoffcpfebghdnaaPairA
namespace Go.Proofs.Ytoffcpfebghdnaa
open Go.RowKit
set_option linter.unusedVariables false
set_option linter.unusedSimpArgs false

theorem three_other (w : World) (g : Nat) (a b c : Value) (x : Nat) (h : x ≠ g) : (((w.setCell ⟨g, 0, none⟩ a).setCell ⟨g, 1, none⟩ b).setCell ⟨g, 2, none⟩ c).heap[x]? = w.heap[x]? := by
  rw [Below.heap_setCell _ _ _ _ h, Below.heap_setCell _ _ _ _ h, Below.heap_setCell _ _ _ _ h]
theorem three_size (w : World) (g : Nat) (a b c : Value) : (((w.setCell ⟨g, 0, none⟩ a).setCell ⟨g, 1, none⟩ b).setCell ⟨g, 2, none⟩ c).heap.size = w.heap.size := by simp [World.setCell]
theorem three_below {B : Nat} {w0 w : World} (h : Below B w0 w) {g : Nat} (hg : B ≤ g) (a b c : Value) : Below B w0 (((w.setCell ⟨g, 0, none⟩ a).setCell ⟨g, 1, none⟩ b).setCell ⟨g, 2, none⟩ c) := ((h.setCell hg _).setCell hg _).setCell hg _
set_option maxHeartbeats 1000000 in
theorem newP_of (w : World) (most M E : Int) (h : Calls Try.prog 14 #[.int .i64 most] (w.alloc (.cells #[.int .i64 0, .slice none 0 0, .slice none 0 0] 32)) fun e w' => e = .returned (.tuple #[.agg #[.int .i64 M, .slice none 0 0, .slice none 0 0], .int .i64 E]) ∧ Below (w.alloc (.cells #[.int .i64 0, .slice none 0 0, .slice none 0 0] 32)).heap.size (w.alloc (.cells #[.int .i64 0, .slice none 0 0, .slice none 0 0] 32)) w') :
    Calls Try.prog 5 #[.int .i64 most] w fun e w' => e = .returned (.tuple #[.agg #[.int .i64 M, .slice none 0 0, .slice none 0 0], .int .i64 E]) ∧ Below w.heap.size w w' := by
  have H := Lib.hid h
  clear h
  go_enter Try.func5, Try.ntmps5
  go_wp2_with fail
  refine H.out.mono ?_
  rintro e w1 ⟨rfl, b1⟩
  have gR := (b1.block w.heap.size (by simp)).trans (heap_alloc_new w (.cells #[.int .i64 0, .slice none 0 0, .slice none 0 0] 32))
  have k0 := cell_of_row _ _ 0 _ _ _ gR
  have k1 := cell_of_row _ _ 1 _ _ _ gR
  have k2 := cell_of_row _ _ 2 _ _ _ gR
  simp only [List.getElem?_toArray, List.getElem?_cons_zero, List.getElem?_cons_succ] at k0 k1 k2
  have f0 := frozen_of_row w1 _ 0 _ _ gR
  have f1 := frozen_of_row w1 _ 1 _ _ gR
  have f2 := frozen_of_row w1 _ 2 _ _ gR
  have hlt : w.heap.size < w1.heap.size := by have := b1.size; simp at this; omega
  go_wp2_with fail
  have gT := three_rowU w1 w.heap.size (.int .i64 M) (.slice none 0 0) (.slice none 0 0) _ _ _ _ gR
  have gF := (Below.heap_alloc _ (.cells #[.int .i64 M, .slice none 0 0, .slice none 0 0] 30) w.heap.size (by rw [three_size]; exact hlt)).trans gT
  have q0 := cell_of_row _ _ 0 _ _ _ gF
  have q1 := cell_of_row _ _ 1 _ _ _ gF
  have q2 := cell_of_row _ _ 2 _ _ _ gF
  simp only [List.getElem?_toArray, List.getElem?_cons_zero, List.getElem?_cons_succ] at q0 q1 q2
  exact bodyPost_ret (v := .tuple #[.agg #[.int .i64 M, .slice none 0 0, .slice none 0 0], .int .i64 E]) (by simp [results, Try.results5, go_sem, q0, q1, q2]) rfl ⟨rfl, (three_below (below_then ((Below.refl _ _).alloc (Nat.le_refl _) _) b1) (Nat.le_refl _) _ _ _).alloc (by rw [three_size]; omega) _⟩
theorem newP_ok (w : World) (most : Int) (h : 0 ≤ most ∧ most ≤ 1048576) : Calls Try.prog 5 #[.int .i64 most] w fun e w' => e = .returned (.tuple #[.agg #[.int .i64 most, .slice none 0 0, .slice none 0 0], .int .i64 0]) ∧ Below w.heap.size w w' := newP_of w most most 0 (new_ok _ most h)
theorem newP_bad (w : World) (most : Int) (h : ¬ (0 ≤ most ∧ most ≤ 1048576)) : Calls Try.prog 5 #[.int .i64 most] w fun e w' => e = .returned (.tuple #[.agg #[.int .i64 0, .slice none 0 0, .slice none 0 0], .int .i64 1]) ∧ Below w.heap.size w w' := newP_of w most 0 1 (new_bad _ most h)
theorem manyP_any (w : World) (cap : Int) (ka : Option Addr) (n kc : Nat) (sa : Option Addr) (sl sc : Nat) (hn : n ≤ 1048576) : Calls Try.prog 7 #[.agg #[.int .i64 cap, .slice ka n kc, .slice sa sl sc]] w fun e w' => e = .returned (.int .i64 (n : Nat)) ∧ Below w.heap.size w w' := by
  go_enter Try.func7, Try.ntmps7
  go_wp2_with fail
  refine (many_any _ cap ka n kc _ hn).mono ?_
  rintro e w1 ⟨rfl, b1⟩
  go_wp2_with fail
  go_ret
  exact ⟨rfl, below_then ((Below.refl _ _).alloc (Nat.le_refl _) _) b1⟩
/-- A pair's Find: the place, as the table tells. -/
theorem findP_any (w : World) (cap : Int) (ka : Option Addr) (n kc : Nat) (sa : Option Addr) (sl sc : Nat) (ks : List (List Nat)) (s : List Int) (rs : List (Nat × Nat)) (h : TabR w ka n sa sl ks s rs) (a b : Nat) (ha : a < 4294967296) (hb : b < 4294967296) :
    Calls Try.prog 10 #[.agg #[.int .i64 cap, .slice ka n kc, .slice sa sl sc], .int .u32 (a : Nat), .int .u32 (b : Nat)] w fun e w' => (∃ p : Nat, e = .returned (.tuple #[.int .i64 (p : Nat), .bool (decide (pk a b ∈ ks))]) ∧ (pk a b ∈ ks → p < ks.length ∧ ks.getD p [] = pk a b) ∧ (pk a b ∉ ks → p = 0)) ∧ Below w.heap.size w w' := by
  have b1 : Below w.heap.size w (w.alloc (.cells #[.int .i64 cap, .slice ka n kc, .slice sa sl sc] 32)) := (Below.refl _ _).alloc (Nat.le_refl _) _
  have gb := heap_alloc_new w (.cells #[.int .i64 cap, .slice ka n kc, .slice sa sl sc] 32)
  go_enter Try.func10, Try.ntmps10
  go_upto_region 1 with fail
  obtain ⟨W1, hv⟩ : ∃ v, w.alloc (.cells #[.int .i64 cap, .slice ka n kc, .slice sa sl sc] 32) = v := ⟨_, rfl⟩
  obtain ⟨g, hg⟩ : ∃ g, w.heap.size = g := ⟨_, rfl⟩
  rw [hv] at b1 gb ⊢
  have h1 := h.mono b1
  have b2 : Below w.heap.size w W1 := b1
  rw [hg] at gb ⊢
  clear hv b1
  have gl := (Array.getElem?_eq_some_iff.1 gb).1
  have bD : Below W1.heap.size W1 W1.drew := (Below.refl _ _).drew
  have q0 : W1.drew.cell? ⟨g, 0, none⟩ = some (.int .i64 cap) := cell_of_row _ _ 0 _ _ _ gb
  have q1 : W1.drew.cell? ⟨g, 1, none⟩ = some (.slice ka n kc) := cell_of_row _ _ 1 _ _ _ gb
  have q2 : W1.drew.cell? ⟨g, 2, none⟩ = some (.slice sa sl sc) := cell_of_row _ _ 2 _ _ _ gb
  have hK := fun w' => key_any w' a b ha hb
  have hF := fun w' (hb' : Below W1.heap.size W1 w') x (hk : BytesAt w' (some ⟨x, 0, none⟩) 8 8 (pk a b)) => find_le w' cap ka n kc sa sl sc ks s rs (h1.mono hb') _ 8 8 (pk a b) hk
  clear h h1
  go_region_held3 (fun w' => w'.cell? ⟨g, 0, none⟩ = some (.int .i64 cap) ∧ w'.cell? ⟨g, 1, none⟩ = some (.slice ka n kc) ∧ w'.cell? ⟨g, 2, none⟩ = some (.slice sa sl sc))
    (refine ⟨?_, ?_, ?_⟩ <;> with_reducible assumption)
    (first | (go_at_call 17; refine (hK _).mono ?_; rintro e wk ⟨⟨x, rfl, hk, _⟩, bk⟩; have bq := below_then bD bk; have r0 := (bk.cell (p := ⟨g, 0, none⟩) gl).trans q0; have r1 := (bk.cell (p := ⟨g, 1, none⟩) gl).trans q1; have r2 := (bk.cell (p := ⟨g, 2, none⟩) gl).trans q2) | (go_at_call 18; refine (hF _ bq x hk).mono ?_; rintro e wf ⟨⟨p, rfl, hp1, hp2⟩, bf⟩; have bz := below_then bq bf; have s0 := (bf.cell (p := ⟨g, 0, none⟩) (Nat.lt_of_lt_of_le gl bq.size)).trans r0; have s1 := (bf.cell (p := ⟨g, 1, none⟩) (Nat.lt_of_lt_of_le gl bq.size)).trans r1; have s2 := (bf.cell (p := ⟨g, 2, none⟩) (Nat.lt_of_lt_of_le gl bq.size)).trans r2; have HP1 := Lib.hid hp1; have HP2 := Lib.hid hp2; clear hp1 hp2))
  go_wp2_with fail
  go_ret2
  exact ⟨⟨p, rfl, HP1.out, HP2.out⟩, below_then b2 bz⟩
theorem BytesAt.fore {w : World} {b off l c : Nat} {k : List Nat} (h : BytesAt w (some ⟨b, off, none⟩) l c k) (i c' : Nat) (hi : i ≤ l) : BytesAt w (some ⟨b, off, none⟩) i c' (k.take i) := by
  refine ⟨by rw [List.length_take, h.len_eq]; omega, by have := h.small; omega, fun n hn => h.byte n (List.mem_of_mem_take hn), nofun, ?_⟩
  rcases h.at_ with h0 | ⟨b', off', he, hlt, hc⟩
  · exact .inl (by omega)
  · cases he
    refine .inr ⟨b, off, rfl, hlt, fun j hj => ?_⟩
    rw [hc j (by omega), List.getD_eq_getElem?_getD, List.getD_eq_getElem?_getD, List.getElem?_take, if_pos hj]
theorem BytesAt.aft {w : World} {b off l c : Nat} {k : List Nat} (h : BytesAt w (some ⟨b, off, none⟩) l c k) (i c' : Nat) (hi : i ≤ l) : BytesAt w (some ⟨b, off + i, none⟩) (l - i) c' (k.drop i) := by
  refine ⟨by rw [List.length_drop, h.len_eq], by have := h.small; omega, fun n hn => h.byte n (List.mem_of_mem_drop hn), nofun, ?_⟩
  rcases h.at_ with h0 | ⟨b', off', he, hlt, hc⟩
  · exact .inl (by omega)
  · cases he
    refine .inr ⟨b, off + i, rfl, hlt, fun j hj => ?_⟩
    rw [Nat.add_assoc, hc (i + j) (by omega), List.getD_eq_getElem?_getD, List.getD_eq_getElem?_getD, List.getElem?_drop]
set_option maxHeartbeats 1000000 in
theorem pairP_bad (w : World) (cap : Int) (ka : Option Addr) (n kc : Nat) (sa : Option Addr) (sl sc : Nat) (i : Int) (hi : i < 0 ∨ (n : Nat) ≤ i) (hn : n ≤ 1048576) :
    Calls Try.prog 12 #[.agg #[.int .i64 cap, .slice ka n kc, .slice sa sl sc], .int .i64 i] w fun e w' => e = .returned (.tuple #[.int .u32 0, .int .u32 0, .int .i64 10]) ∧ Below w.heap.size w w' := by
  have b1 : Below w.heap.size w (w.alloc (.cells #[.int .i64 cap, .slice ka n kc, .slice sa sl sc] 32)) := (Below.refl _ _).alloc (Nat.le_refl _) _
  go_enter Try.func12, Try.ntmps12
  go_wp2_with fail
  refine (key_bad _ cap ka n kc _ i hi hn).mono ?_
  rintro e w1 ⟨rfl, b2⟩
  go_wp2_with fail
  go_ret3
  exact ⟨rfl, below_then b1 b2⟩
set_option maxHeartbeats 1000000 in
theorem pairP_ok (w : World) (cap : Int) (ka : Option Addr) (n kc : Nat) (sa : Option Addr) (sl sc : Nat) (ks : List (List Nat)) (s : List Int) (rs : List (Nat × Nat)) (h : TabR w ka n sa sl ks s rs) (hlen : ∀ k ∈ ks, k.length ≤ 1000000) (i : Nat) (hi : i < n) (a b : Nat) (ha : a < 4294967296) (hb : b < 4294967296) (hab : ks.getD i [] = pk a b) :
    Calls Try.prog 12 #[.agg #[.int .i64 cap, .slice ka n kc, .slice sa sl sc], .int .i64 (i : Nat)] w fun e w' => e = .returned (.tuple #[.int .u32 (a : Nat), .int .u32 (b : Nat), .int .i64 0]) ∧ Below w.heap.size w w' := by
  have b1 : Below w.heap.size w (w.alloc (.cells #[.int .i64 cap, .slice ka n kc, .slice sa sl sc] 32)) := (Below.refl _ _).alloc (Nat.le_refl _) _
  have HA := Lib.hid hab
  clear hab
  go_enter Try.func12, Try.ntmps12
  go_wp2_with fail
  refine (key_full _ cap ka n kc sa sl sc ks s rs (h.mono b1) hlen i hi).mono ?_
  rintro e w1 ⟨⟨x, l, c, rfl, hx, hxc⟩, b2⟩
  rw [HA.out] at hx
  obtain rfl : l = 8 := hx.len_eq.symm
  obtain ⟨bb, off, hxe, hlt, _⟩ := hx.at_.resolve_left (by decide)
  cases hxe
  have n1 : ∀ x : Later w1.heap.size w1, Calls Try.prog 20 #[.slice (some ⟨bb, off, none⟩) 4 c] x.w fun e w' => e = .returned (.int .u32 (a : Nat)) ∧ Below x.w.heap.size x.w w' := fun x => by
    refine (number_any x.w _ 4 c _ ((hx.fore 4 c (by decide)).mono x.below)).mono ?_
    rintro e w' ⟨rfl, rfl⟩
    rw [numB_fst a b ha]
    exact ⟨rfl, Below.refl _ _⟩
  have n2 : ∀ x : Later w1.heap.size w1, Calls Try.prog 20 #[.slice (some ⟨bb, off + 4, none⟩) 4 (c - 4)] x.w fun e w' => e = .returned (.int .u32 (b : Nat)) ∧ Below x.w.heap.size x.w w' := fun x => by
    refine (number_any x.w _ 4 (c - 4) _ ((hx.aft 4 (c - 4) (by decide)).mono x.below)).mono ?_
    rintro e w' ⟨rfl, rfl⟩
    rw [numB_snd a b hb]
    exact ⟨rfl, Below.refl _ _⟩
  have hc4 : ¬ c = 4 := by omega
  have hc4' : 4 ≤ c := by omega
  clear hx
  go_wp2_with fail
  refine wp_region_later w1.heap.size w1 (by kernel_rfl) (by kernel_rfl) (Below.refl _ _) ?_
  repeat (go_big_quiet_step ((first | (go_at_call 20; with_reducible refine Calls.later0 (n1 _)) | (go_at_call 20; with_reducible refine Calls.later0 (n2 _)))))
  refine wpQuiet_nil ?_
  intro _ hlat
  obtain ⟨x, rfl⟩ := hlat
  go_wp2_with fail
  go_ret3
  exact ⟨rfl, below_then (below_then b1 b2) x.below⟩
end Go.Proofs.Ytoffcpfebghdnaa
