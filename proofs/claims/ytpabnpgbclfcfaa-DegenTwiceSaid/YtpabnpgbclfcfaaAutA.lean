/- Rows of numbers, the same trees, numbers of states (by gen19a.py). -/
import Derived.Test.YtpabnpgbclfcfaaTreesE
namespace Go.Proofs.Ytpabnpgbclfcfaa
open Go.RowKit
set_option linter.unusedVariables false
set_option linter.unusedSimpArgs false
theorem take_snocZ (l : List Int) (k : Nat) (h : k < l.length) : l.take (k + 1) = l.take k ++ [l.getD k 0] := by
  rw [List.take_succ_eq_append_getElem h]; simp [h]
theorem snoc_eq_snoc (l m : List Int) (x y : Int) : (l ++ [x] = m ++ [y]) ↔ (l = m ∧ x = y) := by
  constructor
  · intro h; have := List.append_inj' h rfl; simpa using this
  · rintro ⟨rfl, rfl⟩; rfl

theorem vec_short (w : World) (a : Option Addr) (len cap : Nat) (b : Option Addr) (len' cap' : Nat) (hne : len ≠ len') (s1 : len ≤ 9223372036854775807) (s2 : len' ≤ 9223372036854775807) :
    Calls Try.prog 12 #[.slice a len cap, .slice b len' cap'] w fun e w' => e = .returned (.bool false) ∧ Below w.heap.size w w' := by
  have h1 : ((len : Int) == (len' : Int)) = false := by simp; omega
  have h2 : ((len : Int) != (len' : Int)) = true := by simp; omega
  go_enter Try.func12, Try.ntmps12
  go_wp2
  go_ret
  exact ⟨rfl, Below.refl _ _⟩
set_option maxHeartbeats 1000000 in
theorem vec_any (w : World) (a : Option Addr) (len cap : Nat) (b : Option Addr) (len' cap' : Nat) (l m : List Int) (hl : IntsAt w a len l) (hm : IntsAt w b len' m) :
    Calls Try.prog 12 #[.slice a len cap, .slice b len' cap'] w fun e w' => e = .returned (.bool (decide (l = m))) ∧ Below w.heap.size w w' := by
  obtain ⟨h1, h2, h4⟩ := hl
  obtain ⟨j1, j2, j4⟩ := hm
  by_cases hne : len = len'
  case neg =>
    have hd : decide (l = m) = false := by
      rw [decide_eq_false_iff_not]; intro h; rw [h] at h1; omega
    rw [hd]
    exact vec_short w a len cap b len' cap' hne h2 j2
  case pos =>
    obtain rfl := hne
    have H1 := Lib.hid h1
    have J1 := Lib.hid j1
    have hb2 : ((len : Int) != (len : Int)) = false := by simp
    clear h1 j1
    generalize hd : decide (l = m) = D
    have HD := Lib.hid hd
    clear hd
    go_enter Try.func12, Try.ntmps12
    go_wp2
    go_loopw [5] (fun i wr => ∃ k : Nat, k ≤ len ∧ i = .int .i64 k ∧ Hid (l.take k = m.take k) ∧ Below w.heap.size w wr) (fun i _ => len - (intOf i).toNat)
    case atStart => exact ⟨0, Nat.zero_le _, rfl, by simp [Hid], Below.refl _ _⟩
    case round =>
      obtain ⟨k, hk, rfl, ht, hbel⟩ := hrel
      by_cases hlt : k < len
      · have hlen0 : len ≠ 0 := by omega
        obtain ⟨b1, off1, rfl, hbs1, hcell1⟩ := h4.resolve_left hlen0
        obtain ⟨b2, off2, rfl, hbs2, hcell2⟩ := j4.resolve_left hlen0
        have hx : wr.cell? ⟨b1, off1 + k, none⟩ = some (.int .i64 (l.getD k 0)) := by rw [hbel.cell (p := ⟨b1, off1 + k, none⟩) hbs1]; exact hcell1 k hlt
        have hy : wr.cell? ⟨b2, off2 + k, none⟩ = some (.int .i64 (m.getD k 0)) := by rw [hbel.cell (p := ⟨b2, off2 + k, none⟩) hbs2]; exact hcell2 k hlt
        have t1 := Lib.hid (take_snocZ l k (by rw [H1.out]; exact hlt))
        have t2 := Lib.hid (take_snocZ m k (by rw [J1.out]; exact hlt))
        generalize l.getD k 0 = x at *
        generalize m.getD k 0 = y at *
        clear h4 j4 hcell1 hcell2
        go_wp2
        go_quiet (fail)
        go_wp2
        · have hne : (x != y) = true := by assumption
          go_ret
          refine ⟨?_, hbel.trans (below_drewN (Below.refl _ _) _)⟩
          have hD : D = false := by
            rw [← HD.out, decide_eq_false_iff_not]
            intro h
            have e := t1.out
            rw [h, t2.out, snoc_eq_snoc] at e
            rw [e.2] at hne; simp at hne
          rw [hD]; rfl
        · have heq : (x != y) = false := by assumption
          go_roundw
          case rel =>
            refine ⟨k + 1, by omega, by go_num, ?_, hbel.trans (below_drewN (Below.refl _ _) _)⟩
            have hxy : x = y := by simpa using heq
            show l.take (k + 1) = m.take (k + 1)
            rw [t1.out, t2.out, snoc_eq_snoc]
            exact ⟨ht.out, hxy⟩
          case measure => simp [intOf]; omega
      · obtain rfl : k = len := by omega
        go_wp2
        go_ret
        have h3 := ht.out
        have hh := HD.out
        rw [List.take_of_length_le (by rw [H1.out]; omega), List.take_of_length_le (by rw [J1.out]; omega)] at h3
        rw [← hh, decide_eq_true h3]
        exact ⟨rfl, hbel⟩
def WordAt (w : World) (wa : Option Addr) (wn : Nat) (row : Nat → List Int) : Prop :=
  wn = 0 ∨ ∃ b off, wa = some ⟨b, off, none⟩ ∧ b < w.heap.size ∧ ∀ i, i < wn → ∃ (ra : Option Addr) (rl rc : Nat), w.cell? ⟨b, off + i, none⟩ = some (.slice ra rl rc) ∧ IntsAt w ra rl (row i)
theorem WordAt.mono {w w' : World} {wa : Option Addr} {wn : Nat} {row : Nat → List Int} (h : WordAt w wa wn row) (hb : Below w.heap.size w w') : WordAt w' wa wn row := by
  rcases h with h0 | ⟨b, off, ha, hlt, hi⟩
  · exact .inl h0
  · refine .inr ⟨b, off, ha, Nat.lt_of_lt_of_le hlt hb.size, fun i hil => ?_⟩
    obtain ⟨ra, rl, rc, h1, h2⟩ := hi i hil
    exact ⟨ra, rl, rc, (hb.cell (p := ⟨b, _, none⟩) hlt).trans h1, h2.mono hb⟩
theorem WordAt.cell {w : World} {a : Option Addr} {n : Nat} {row : Nat → List Int} (h : WordAt w a n row) {j : Nat} (hj : j < n) : ∃ b off, a = some ⟨b, off, none⟩ ∧ b < w.heap.size ∧ ∃ (ra : Option Addr) (rl rc : Nat), w.cell? ⟨b, off + j, none⟩ = some (.slice ra rl rc) ∧ IntsAt w ra rl (row j) := by
  rcases h with h0 | ⟨b, off, ha, hlt, hi⟩
  · omega
  · exact ⟨b, off, ha, hlt, hi j hj⟩
set_option maxRecDepth 20000 in
set_option maxHeartbeats 1000000 in
theorem vecs_same (w : World) (a b : Option Addr) (n c c' : Nat) (r s : Nat → List Int) (h : WordAt w a n r) (h' : WordAt w b n s) (hn : n ≤ 9223372036854775807) (he : ∀ j, j < n → r j = s j) :
    Calls Try.prog 23 #[.slice a n c, .slice b n c'] w fun e w' => e = .returned (.bool true) ∧ Below w.heap.size w w' := by
  have e0 : ((n : Int) != (n : Int)) = false := by simp
  have HE := Lib.hid he
  clear he
  go_enter Try.func23, Try.ntmps23
  go_wp2_with fail
  go_loopw [5] (fun i w' => ∃ j : Nat, j ≤ n ∧ i = .int .i64 (j : Nat) ∧ Below w.heap.size w w') (fun i _ => n - (intOf i).toNat)
  case atStart => exact ⟨0, Nat.zero_le _, rfl, Below.refl _ _⟩
  case round =>
    obtain ⟨j, hj, rfl, bel⟩ := hrel
    by_cases hjl : j < n
    · have f1 : decide (j < n) = true := by simpa using hjl
      obtain ⟨b1, o1, rfl, hb1, x1, l1, c1, e1, k1⟩ := (h.mono bel).cell hjl
      obtain ⟨b2, o2, rfl, hb2, x2, l2, c2, e2, k2⟩ := (h'.mono bel).cell hjl
      have kk : ∀ x : Later wr.heap.size wr, Calls Try.prog 12 #[.slice x1 l1 c1, .slice x2 l2 c2] x.w fun e w' => e = .returned (.bool true) ∧ Below x.w.heap.size x.w w' := fun x => by
        have q := vec_any x.w x1 l1 c1 x2 l2 c2 _ _ (k1.mono x.below) (k2.mono x.below)
        rw [decide_eq_true (HE.out j hjl)] at q
        exact q
      have q1 : ∀ x : Later wr.heap.size wr, x.w.cell? ⟨b1, o1 + j, none⟩ = some (.slice x1 l1 c1) := fun x => (x.below.cell (p := ⟨b1, o1 + j, none⟩) hb1).trans e1
      have q2 : ∀ x : Later wr.heap.size wr, x.w.cell? ⟨b2, o2 + j, none⟩ = some (.slice x2 l2 c2) := fun x => (x.below.cell (p := ⟨b2, o2 + j, none⟩) hb2).trans e2
      clear e1 k1 e2 k2
      go_wp2_with fail
      refine wp_region_later wr.heap.size wr (by kernel_rfl) (by kernel_rfl) (Below.refl _ _) ?_
      repeat (go_big_quiet_step ((go_at_call 12; refine Calls.later0 (kk _))))
      refine wpQuiet_nil ?_
      intro _ hlat
      obtain ⟨x, rfl⟩ := hlat
      clear q1 q2 kk
      go_wp2_with fail
      exact ⟨⟨j + 1, by omega, by simp, below_then bel x.below⟩, by simp [intOf]; omega⟩
    · have f1 : decide (j < n) = false := by simpa using hjl
      go_wp2_with fail
      go_ret
      exact ⟨rfl, bel⟩
theorem rows_same (w : World) (a b : Option Addr) (n c c' : Nat) (r s : Nat → List Int) (h : WordAt w a n r) (h' : WordAt w b n s) (hn : n ≤ 9223372036854775807) (he : ∀ j, j < n → r j = s j) :
    Calls Try.prog 11 #[.slice a n c, .slice b n c'] w fun e w' => e = .returned (.bool true) ∧ Below w.heap.size w w' := by
  go_enter Try.func11, Try.ntmps11
  go_wp2_with fail
  refine (vecs_same w a b n c c' r s h h' hn he).mono ?_
  rintro e w1 ⟨rfl, b1⟩
  go_wp2_with fail
  go_ret
  exact ⟨rfl, b1⟩
theorem number_any (w : World) (k q s : Int) (hk : 0 ≤ k ∧ k ≤ 1000) (hq : 0 ≤ q ∧ q ≤ 1000000) (hs : 0 ≤ s ∧ s ≤ 1000) :
    Calls Try.prog 21 #[.int .i64 k, .int .i64 q, .int .i64 s] w fun e w' => e = .returned (.int .i64 (q * k + s)) ∧ w = w' := by
  have h0 : 0 ≤ q * k := Int.mul_nonneg hq.1 hk.1
  have h1 : q * k ≤ 1000000 * 1000 := Int.mul_le_mul hq.2 hk.2 hk.1 (by decide)
  have w1 : IntKind.i64.wrap (q * k) = q * k := by simp [IntKind.wrap, IntKind.bits, IntKind.signed]; omega
  have w2 : IntKind.i64.wrap (q * k + s) = q * k + s := by simp [IntKind.wrap, IntKind.bits, IntKind.signed]; omega
  have m1 : RowKit.wrap64 (q * k) = q * k := by unfold RowKit.wrap64; omega
  have m2 : RowKit.wrap64 (q * k + s) = q * k + s := by unfold RowKit.wrap64; omega
  go_enter Try.func21, Try.ntmps21
  go_wp2_with fail
  go_ret
  exact ⟨rfl, rfl⟩
theorem behind_any (w : World) (k i : Nat) (hk : 0 < k ∧ k ≤ 1000) (hi : i < k) :
    Calls Try.prog 19 #[.int .i64 (k : Nat), .int .i64 (i : Nat)] w fun e w' => e = .returned (.int .i64 (((i + 1) % k : Nat) : Int)) ∧ w = w' := by
  have hkk : ((k : Nat) : Int) ≠ 0 := by omega
  have m2 : (((i : Nat) : Int) + 1).tmod ((k : Nat) : Int) = (((i + 1) % k : Nat) : Int) := by
    rw [Int.tmod_eq_emod_of_nonneg (by omega)]; push_cast; rfl
  have hlt := Nat.mod_lt (i + 1) hk.1
  obtain ⟨r, hr⟩ : ∃ r, (i + 1) % k = r := ⟨_, rfl⟩
  rw [hr] at m2 hlt ⊢
  have HR := Lib.hid hr
  clear hr
  go_enter Try.func19, Try.ntmps19
  go_wp2_with fail
  go_ret
  first | exact ⟨rfl, rfl⟩ | exact ⟨by rw [m2], rfl⟩
end Go.Proofs.Ytpabnpgbclfcfaa
