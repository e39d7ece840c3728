/- The document's pairs: its rows; New, Find, Pair (by gen05r.py). -/
import Derived.Test.YtoffcpfebghdnaaPairD
import Derived.Test.YtoffcpfebghdnaaFree3
namespace Go.Proofs.Ytoffcpfebghdnaa
open Go.RowKit
set_option linter.unusedVariables false
set_option linter.unusedSimpArgs false
def vA (ps : List (Nat × Nat)) : List Value := ps.map fun p => .int .u32 (p.1 : Nat)
def vB (ps : List (Nat × Nat)) : List Value := ps.map fun p => .int .u32 (p.2 : Nat)
def keysP (ps : List (Nat × Nat)) : List (List Nat) := ps.map fun p => pk p.1 p.2
structure DocP (w : World) (va vb : Value) (n : Nat) (ps : List (Nat × Nat)) : Prop where
  ra : w.ownsRow 0 23 1 va n (vA ps)
  rb : w.ownsRow 0 23 1 vb n (vB ps)
  lt : ∀ p ∈ ps, p.1 < 4294967296 ∧ p.2 < 4294967296
  len : ps.length = n
  small : n ≤ 1048576
theorem own_bel {w w' : World} {base n : Nat} {e : TypeId} {v : Value} {xs : List Value} (h : w.ownsRow base e 1 v n xs) (hb : Below w.heap.size w w') : w'.ownsRow base e 1 v n xs := by
  refine ⟨h.1, ?_⟩
  rcases h.2 with h0 | ⟨g, cap, cur, h1, h2, h3, h4⟩
  · exact .inl h0
  · exact .inr ⟨g, cap, cur, h1, h2, (hb.block g (Array.getElem?_eq_some_iff.1 h3).1).trans h3, h4⟩
theorem own_past {w w' : World} {base n : Nat} {e : TypeId} {v : Value} {xs : List Value} (h : w.ownsRow base e 1 v n xs) (hb : ∀ (g : Nat) (vs : Array Value), w.heap[g]? = some (.cells vs e (0, 0)) → w'.heap[g]? = some (.cells vs e (0, 0))) : w'.ownsRow base e 1 v n xs := by
  refine ⟨h.1, ?_⟩
  rcases h.2 with h0 | ⟨g, cap, cur, h1, h2, h3, h4⟩
  · exact .inl h0
  · exact .inr ⟨g, cap, cur, h1, h2, hb g cur h3, h4⟩
theorem DocP.mono {w w' : World} {va vb : Value} {n : Nat} {ps : List (Nat × Nat)} (h : DocP w va vb n ps) (hb : Below w.heap.size w w') : DocP w' va vb n ps := ⟨own_bel h.ra hb, own_bel h.rb hb, h.lt, h.len, h.small⟩
theorem DocP.past {w w' : World} {va vb : Value} {n : Nat} {ps : List (Nat × Nat)} (h : DocP w va vb n ps) (hb : ∀ (g : Nat) (vs : Array Value), w.heap[g]? = some (.cells vs 23 (0, 0)) → w'.heap[g]? = some (.cells vs 23 (0, 0))) : DocP w' va vb n ps := ⟨own_past h.ra hb, own_past h.rb hb, h.lt, h.len, h.small⟩
theorem own_cell {w : World} {base n i : Nat} {e : TypeId} {a : Option Addr} {l c : Nat} {xs : List Value} {x : Value} (h : w.ownsRow base e 1 (.slice a l c) n xs) (hi : i < n) (hx : xs[i]? = some x) : ∃ g, a = some ⟨g, 0, none⟩ ∧ l = n ∧ w.cell? ⟨g, i, none⟩ = some x := by
  rcases h.2 with ⟨_, h0⟩ | ⟨g, cap, cur, he, h1, h3, h4, h5, h6, h7⟩
  · omega
  · cases he
    refine ⟨g, rfl, rfl, ?_⟩
    rw [← h7, List.getElem?_take] at hx
    split at hx
    · exact cell_of_row _ _ i _ _ _ h3 |>.trans (by simpa using hx)
    · cases hx
theorem own_len {w : World} {base n : Nat} {e : TypeId} {a : Option Addr} {l c : Nat} {xs : List Value} (h : w.ownsRow base e 1 (.slice a l c) n xs) : l = n := by
  rcases h.2 with ⟨he, h0⟩ | ⟨g, cap, cur, he, _⟩
  · cases he; exact h0.symm
  · cases he; rfl
theorem cell_later {w : World} {p : Addr} {v : Value} (h : w.cell? p = some v) : ∀ z : Later w.heap.size w, z.w.cell? p = some v := fun z => (z.below.cell (World.block_lt_of_cell? w _ h)).trans h
theorem keysP_get {ps : List (Nat × Nat)} {i : Nat} {x y : Nat} (h : ps[i]? = some (x, y)) : (keysP ps).getD i [] = pk x y := by
  unfold keysP
  rw [List.getD_eq_getElem?_getD, List.getElem?_map, h]
  rfl
theorem keysP_len (ps : List (Nat × Nat)) : (keysP ps).length = ps.length := by unfold keysP; exact List.length_map _
theorem refnewP_any (w : World) (most : Int) :
    Calls Try.prog 6 #[.int .i64 most] w fun e w' => e = .returned (if 0 ≤ most ∧ most ≤ 1048576 then .tuple #[.agg #[.int .i64 most, .slice none 0 0, .slice none 0 0], .int .i64 0] else .tuple #[.agg #[.int .i64 0, .slice none 0 0, .slice none 0 0], .int .i64 1]) ∧ Below w.heap.size w w' := by
  have bA : ∀ o : Obj, Below w.heap.size w (w.alloc o) := fun o => (Below.refl _ _).alloc (Nat.le_refl _) _
  by_cases h0 : most < 0
  · have d1 : decide (most < 0) = true := by simpa using h0
    rw [if_neg (by omega)]
    go_enter Try.func6, Try.ntmps6
    go_wp2_with fail
    exact bodyPost_ret (v := .tuple #[.agg #[.int .i64 0, .slice none 0 0, .slice none 0 0], .int .i64 1]) (by simp [results, Try.results6, go_sem]) rfl ⟨rfl, bA _⟩
  · have d1 : decide (most < 0) = false := by simpa using h0
    by_cases h1 : 1048576 < most
    · have d2 : decide (1048576 < most) = true := by simpa using h1
      rw [if_neg (by omega)]
      go_enter Try.func6, Try.ntmps6
      go_wp2_with fail
      exact bodyPost_ret (v := .tuple #[.agg #[.int .i64 0, .slice none 0 0, .slice none 0 0], .int .i64 1]) (by simp [results, Try.results6, go_sem]) rfl ⟨rfl, bA _⟩
    · have d2 : decide (1048576 < most) = false := by simpa using h1
      rw [if_pos (by omega)]
      go_enter Try.func6, Try.ntmps6
      go_wp2_with fail
      exact bodyPost_ret (v := .tuple #[.agg #[.int .i64 most, .slice none 0 0, .slice none 0 0], .int .i64 0]) (by simp [results, Try.results6, go_sem]) rfl ⟨rfl, bA _⟩
set_option maxHeartbeats 1000000 in
theorem reffindP_any (w : World) (cap : Int) (da db : Option Addr) (n ca cb : Nat) (ps : List (Nat × Nat)) (h : DocP w (.slice da n ca) (.slice db n cb) n ps) (a b : Nat) (ha : a < 4294967296) (hb : b < 4294967296) :
    Calls Try.prog 11 #[.agg #[.int .i64 cap, .slice da n ca, .slice db n cb], .int .u32 (a : Nat), .int .u32 (b : Nat)] w fun e w' => (∃ p : Nat, e = .returned (.tuple #[.int .i64 (p : Nat), .bool (decide (pk a b ∈ keysP ps))]) ∧ (pk a b ∈ keysP ps → p < (keysP ps).length ∧ (keysP ps).getD p [] = pk a b) ∧ (pk a b ∉ keysP ps → p = 0)) ∧ Below w.heap.size w w' := by
  have b1 : Below w.heap.size w (w.alloc (.cells #[.int .i64 cap, .slice da n ca, .slice db n cb] 38)) := (Below.refl _ _).alloc (Nat.le_refl _) _
  have gb := heap_alloc_new w (.cells #[.int .i64 cap, .slice da n ca, .slice db n cb] 38)
  go_enter Try.func11, Try.ntmps11
  go_upto_region 1 with fail
  obtain ⟨W1, hv⟩ : ∃ v, w.alloc (.cells #[.int .i64 cap, .slice da n ca, .slice db n cb] 38) = v := ⟨_, rfl⟩
  obtain ⟨g, hg⟩ : ∃ g, w.heap.size = g := ⟨_, rfl⟩
  rw [hv] at b1 gb ⊢
  have h1 := h.mono b1
  have b2 : Below w.heap.size w W1 := b1
  rw [hg] at gb ⊢
  clear hv b1
  have c0 : W1.cell? ⟨g, 0, none⟩ = some (.int .i64 cap) := cell_of_row _ _ 0 _ _ _ gb
  have c1 : W1.cell? ⟨g, 1, none⟩ = some (.slice da n ca) := cell_of_row _ _ 1 _ _ _ gb
  have c2 : W1.cell? ⟨g, 2, none⟩ = some (.slice db n cb) := cell_of_row _ _ 2 _ _ _ gb
  have hsm := h1.small
  have hln := h1.len
  have N0 := Lib.hid (show ∀ k, k < 0 → ∀ x y, ps[k]? = some (x, y) → pk x y ≠ pk a b from fun k hk => absurd hk (Nat.not_lt_zero _))
  have HB2 := Lib.hid b2
  clear h gb hg b2
  go_wp2_with fail
  go_loopw [8] (fun i w' => ∃ j : Nat, j ≤ n ∧ i = .int .i64 (j : Nat) ∧ w' = W1 ∧ Hid (∀ k, k < j → ∀ x y, ps[k]? = some (x, y) → pk x y ≠ pk a b)) (fun i _ => n - (intOf i).toNat)
  case atStart => exact ⟨0, Nat.zero_le _, rfl, rfl, N0⟩
  case round =>
    clear N0
    obtain ⟨j, hj, rfl, rfl, HN⟩ := hrel
    by_cases hjn : j < n
    · have f1 : decide (j < n) = true := by simpa using hjn
      obtain ⟨⟨x, y⟩, hxy⟩ : ∃ p, ps[j]? = some p := ⟨ps[j]'(by omega), List.getElem?_eq_getElem _⟩
      have hlt := h1.lt _ (List.mem_of_getElem? hxy)
      obtain ⟨ga, rfl, _, k1⟩ := own_cell h1.ra (i := j) hjn (x := .int .u32 (x : Nat)) (by unfold vA; rw [List.getElem?_map, hxy]; rfl)
      obtain ⟨gb', rfl, _, k2⟩ := own_cell h1.rb (i := j) hjn (x := .int .u32 (y : Nat)) (by unfold vB; rw [List.getElem?_map, hxy]; rfl)
      have HX := Lib.hid hxy
      have hm : pk x y ∈ keysP ps := List.mem_map.2 ⟨(x, y), List.mem_of_getElem? hxy, rfl⟩
      have HM := Lib.hid hm
      obtain ⟨hl1, hl2⟩ := hlt
      clear hxy hm h1
      by_cases hxa : x = a
      · subst hxa
        by_cases hyb : y = b
        · subst hyb
          have hd : decide (pk x y ∈ keysP ps) = true := decide_eq_true HM.out
          go_wp2_with fail
          go_ret2
          exact ⟨⟨j, by first | rfl | (rw [hd]; rfl), fun _ => ⟨by rw [keysP_len]; omega, keysP_get HX.out⟩, fun h => absurd HM.out h⟩, HB2.out⟩
        · have e1 : decide ((y : Int) = (b : Int)) = false := by simp; omega
          have e2 : ((y : Int) == (b : Int)) = false := by simp; omega
          have HN2 := Lib.hid (show ∀ k, k < j + 1 → ∀ p q, ps[k]? = some (p, q) → pk p q ≠ pk x b from fun k hk p q hpq => by
            rcases (by omega : k < j ∨ k = j) with h1 | rfl
            · exact HN.out k h1 p q hpq
            · rw [HX.out] at hpq
              cases hpq
              intro he
              exact hyb (pk_inj hl1 hl2 ha hb he).2)
          clear hyb HN
          go_wp2_with fail
          exact ⟨⟨j + 1, by omega, by simp, by first | rfl | trivial, HN2⟩, by simp [intOf]; omega⟩
      · have e1 : decide ((x : Int) = (a : Int)) = false := by simp; omega
        have e2 : ((x : Int) == (a : Int)) = false := by simp; omega
        have HN2 := Lib.hid (show ∀ k, k < j + 1 → ∀ p q, ps[k]? = some (p, q) → pk p q ≠ pk a b from fun k hk p q hpq => by
            rcases (by omega : k < j ∨ k = j) with h1 | rfl
            · exact HN.out k h1 p q hpq
            · rw [HX.out] at hpq
              cases hpq
              intro he
              exact hxa (pk_inj hl1 hl2 ha hb he).1)
        clear hxa HN
        go_wp2_with fail
        exact ⟨⟨j + 1, by omega, by simp, by first | rfl | trivial, HN2⟩, by simp [intOf]; omega⟩
    · have f1 : decide (j < n) = false := by simpa using hjn
      have hno : pk a b ∉ keysP ps := fun hm => by
        obtain ⟨⟨p, q⟩, hpq, he⟩ := List.mem_map.1 hm
        obtain ⟨k, hk⟩ := List.getElem?_of_mem hpq
        have hkl := (List.getElem?_eq_some_iff.1 hk).1
        exact HN.out k (by omega) p q hk he
      have hd : decide (pk a b ∈ keysP ps) = false := decide_eq_false hno
      have HD := Lib.hid hd
      have HNO := Lib.hid hno
      clear hno hd HN
      go_wp2_with fail
      go_ret2
      exact ⟨⟨0, by first | rfl | (rw [HD.out]; rfl), fun h => absurd h HNO.out, fun _ => rfl⟩, HB2.out⟩
theorem refpairP_bad (w : World) (cap : Int) (da db : Option Addr) (n ca cb : Nat) (i : Int) (hi : i < 0 ∨ (n : Nat) ≤ i) :
    Calls Try.prog 13 #[.agg #[.int .i64 cap, .slice da n ca, .slice db n cb], .int .i64 i] w fun e w' => e = .returned (.tuple #[.int .u32 0, .int .u32 0, .int .i64 10]) ∧ Below w.heap.size w w' := by
  have bA : ∀ o : Obj, Below w.heap.size w (w.alloc o) := fun o => (Below.refl _ _).alloc (Nat.le_refl _) _
  by_cases h0 : i < 0
  · have d1 : decide (i < 0) = true := by simpa using h0
    go_enter Try.func13, Try.ntmps13
    go_wp2_with fail
    go_ret3
    exact ⟨rfl, bA _⟩
  · have d1 : decide (i < 0) = false := by simpa using h0
    have d2 : decide (((n : Nat) : Int) ≤ i) = true := by simp; omega
    go_enter Try.func13, Try.ntmps13
    go_wp2_with fail
    go_ret3
    exact ⟨rfl, bA _⟩
theorem refpairP_ok (w : World) (cap : Int) (da db : Option Addr) (n ca cb : Nat) (ps : List (Nat × Nat)) (h : DocP w (.slice da n ca) (.slice db n cb) n ps) (i : Nat) (hi : i < n) (x y : Nat) (hxy : ps[i]? = some (x, y)) :
    Calls Try.prog 13 #[.agg #[.int .i64 cap, .slice da n ca, .slice db n cb], .int .i64 (i : Nat)] w fun e w' => e = .returned (.tuple #[.int .u32 (x : Nat), .int .u32 (y : Nat), .int .i64 0]) ∧ Below w.heap.size w w' := by
  have b1 : Below w.heap.size w (w.alloc (.cells #[.int .i64 cap, .slice da n ca, .slice db n cb] 38)) := (Below.refl _ _).alloc (Nat.le_refl _) _
  have gb := heap_alloc_new w (.cells #[.int .i64 cap, .slice da n ca, .slice db n cb] 38)
  have hsm := h.small
  have d1 : decide (((i : Nat) : Int) < 0) = false := by simp
  have d2 : decide (n ≤ i) = false := by simp; omega
  have i1 : (i : Int) < (n : Int) := by omega
  go_enter Try.func13, Try.ntmps13
  go_upto_region 1 with fail
  obtain ⟨W1, hv⟩ : ∃ v, w.alloc (.cells #[.int .i64 cap, .slice da n ca, .slice db n cb] 38) = v := ⟨_, rfl⟩
  obtain ⟨g, hg⟩ : ∃ g, w.heap.size = g := ⟨_, rfl⟩
  rw [hv] at b1 gb ⊢
  have h1 := h.mono b1
  have b2 : Below w.heap.size w W1 := b1
  rw [hg] at gb ⊢
  obtain ⟨ga, rfl, _, k1⟩ := own_cell h1.ra (i := i) hi (x := .int .u32 (x : Nat)) (by unfold vA; rw [List.getElem?_map, hxy]; rfl)
  obtain ⟨gb', rfl, _, k2⟩ := own_cell h1.rb (i := i) hi (x := .int .u32 (y : Nat)) (by unfold vB; rw [List.getElem?_map, hxy]; rfl)
  have c1 : W1.cell? ⟨g, 1, none⟩ = some (.slice (some ⟨ga, 0, none⟩) n ca) := cell_of_row _ _ 1 _ _ _ gb
  have c2 : W1.cell? ⟨g, 2, none⟩ = some (.slice (some ⟨gb', 0, none⟩) n cb) := cell_of_row _ _ 2 _ _ _ gb
  have q1 := cell_later c1
  have q2 := cell_later c2
  have q3 := cell_later k1
  have q4 := cell_later k2
  clear hv b1 h h1 gb hxy hg
  go_wp2_with fail
  refine wp_region_later W1.heap.size W1 (by kernel_rfl) (by kernel_rfl) (Below.refl _ _) ?_
  repeat (go_big_quiet_step (fail))
  refine wpQuiet_nil ?_
  intro _ hlat
  obtain ⟨z, rfl⟩ := hlat
  go_wp2_with fail
  go_ret3
  exact ⟨rfl, below_then b2 z.below⟩
end Go.Proofs.Ytoffcpfebghdnaa
