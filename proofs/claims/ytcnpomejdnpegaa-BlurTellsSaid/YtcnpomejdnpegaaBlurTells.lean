/- BlurTells returns true (by gen10tt.py). -/
import Derived.Test.YtcnpomejdnpegaaBlurE
import Derived.Deep.CutBlock
namespace Go.Proofs.Ytcnpomejdnpegaa
open Go.RowKit
set_option linter.unusedVariables false

theorem RefBox.len0 {w : World} {Q : Nat → Prop} {g M K seed : Nat} {a0 a1 a2 : Option Addr} {n0 n1 n2 c0 c1 c2 : Nat} {on0 on1 on2 : List Nat} (h : RefBox w Q g M K seed a0 a1 a2 n0 n1 n2 c0 c1 c2 on0 on1 on2) : on0.length = n0 := by
  obtain ⟨x0, x1, x2, y0, y1, y2, z0, z1, z2, he, h0, _⟩ := h.store.val
  simp at he
  rw [h0.len_eq]
  exact he.1.2.1.symm
set_option maxRecDepth 100000 in
set_option maxHeartbeats 16000000 in
theorem blurtells_any (w : World) (m k : Int) (seed : Nat) (al : Option Addr) (n cl : Nat) (f : Nat → ActD) (hm1 : -9223372036854775808 ≤ m) (hm2 : m ≤ 9223372036854775807) (hk1 : -9223372036854775808 ≤ k) (hk2 : k ≤ 9223372036854775807) (sd : seed < 18446744073709551616) (hA : ActsAt w al n f) :
    Calls Try.prog 3 #[.agg #[.int .i64 m, .int .i64 k, .int .u64 (seed : Nat), .slice al n cl]] w fun e w' => e = .returned (.bool true) ∧ Below w.heap.size w w' := by
  have bA : ∀ o : Obj, Below w.heap.size w (w.alloc o) := fun o => (Below.refl _ _).alloc (Nat.le_refl _) _
  go_enter Try.func3, Try.ntmps3
  go_wp2_with fail
  refine (shown_any _).mono ?_
  rintro e w0 ⟨rfl, b0⟩
  have bt := below_then (bA _) b0
  clear b0
  go_wp2_with fail
  refine (few_any _ al n cl f 50 (hA.mono bt)).mono ?_
  rintro e w00 ⟨⟨fb, rfl, hfew⟩, rfl⟩
  cases fb with
  | false =>
    go_wp2_with fail
    go_ret
    exact ⟨rfl, bt⟩
  | true =>
  obtain ⟨n50, hk100⟩ := hfew rfl
  by_cases hg : 1 ≤ m ∧ m ≤ 5000 ∧ 1 ≤ k ∧ k ≤ 16
  case neg =>
    by_cases h5 : 5000 < m
    · have f1 : decide (5000 < m) = true := by simpa using h5
      by_cases h4 : m ≤ 4194304
      · have f2 : decide (m ≤ 4194304) = true := by simpa using h4
        go_wp2_with fail
        go_ret
        exact ⟨rfl, bt⟩
      · have f2 : decide (m ≤ 4194304) = false := by simpa using h4
        have hbad : ¬ (1 ≤ m ∧ m ≤ 4194304 ∧ 1 ≤ k ∧ k ≤ 16) := by omega
        go_wp2_with fail
        refine (new_bad _ m k seed hbad).mono ?_
        rintro e w1 ⟨rfl, b1⟩
        replace bt := below_then bt b1
        have A1 := (Below.refl w1.heap.size w1).alloc (Nat.le_refl _) (.cells #[.int .i64 0, .int .i64 0, .int .u64 0, .slice none 0 0, .slice none 0 0, .slice none 0 0] 31)
        replace bt := below_then bt A1
        clear A1 b1
        go_wp2_with fail
        refine (refNew_bad _ m k seed hbad).mono ?_
        rintro e w2 ⟨rfl, b2⟩
        replace bt := below_then bt b2
        have A2 := (Below.refl w2.heap.size w2).alloc (Nat.le_refl _) (.cells #[.int .i64 0, .int .i64 0, .int .u64 0, .slice none 0 0, .slice none 0 0, .slice none 0 0] 38)
        replace bt := below_then bt A2
        clear A2 b2
        go_wp2_with fail
        go_ret
        exact ⟨rfl, bt⟩
    · have f1 : decide (5000 < m) = false := by simpa using h5
      have hbad : ¬ (1 ≤ m ∧ m ≤ 4194304 ∧ 1 ≤ k ∧ k ≤ 16) := by omega
      go_wp2_with fail
      refine (new_bad _ m k seed hbad).mono ?_
      rintro e w1 ⟨rfl, b1⟩
      replace bt := below_then bt b1
      have A1 := (Below.refl w1.heap.size w1).alloc (Nat.le_refl _) (.cells #[.int .i64 0, .int .i64 0, .int .u64 0, .slice none 0 0, .slice none 0 0, .slice none 0 0] 31)
      replace bt := below_then bt A1
      clear A1 b1
      go_wp2_with fail
      refine (refNew_bad _ m k seed hbad).mono ?_
      rintro e w2 ⟨rfl, b2⟩
      replace bt := below_then bt b2
      have A2 := (Below.refl w2.heap.size w2).alloc (Nat.le_refl _) (.cells #[.int .i64 0, .int .i64 0, .int .u64 0, .slice none 0 0, .slice none 0 0, .slice none 0 0] 38)
      replace bt := below_then bt A2
      clear A2 b2
      go_wp2_with fail
      go_ret
      exact ⟨rfl, bt⟩
  obtain ⟨m1, m5, k1, k2⟩ := hg
  obtain ⟨M, rfl⟩ := Int.eq_ofNat_of_zero_le (show 0 ≤ m by omega)
  obtain ⟨K, rfl⟩ := Int.eq_ofNat_of_zero_le (show 0 ≤ k by omega)
  replace m1 : 1 ≤ M := by omega
  replace m5 : M ≤ 5000 := by omega
  replace k1 : 1 ≤ K := by omega
  replace k2 : K ≤ 16 := by omega
  have m2 : M ≤ 4194304 := by omega
  clear hm1 hm2 hk1 hk2
  have f1 : decide ((5000 : Int) < (M : Int)) = false := by simp; omega
  obtain ⟨L, hL⟩ : ∃ L, (M + 7) / 8 = L := ⟨_, rfl⟩
  have HL := Lib.hid hL
  clear hL
  go_wp2_with fail
  refine (new_at _ (M : Nat) (K : Nat) (seed : Nat) M K seed L rfl rfl rfl HL.out m1 m2 k1 k2 sd).mono ?_
  rintro e w1 ⟨b0', b1', b2', d0', d1', d2', rfl, Hb, b1⟩
  replace bt := below_then bt b1
  have hgw := bt.size
  have A1 := (Below.refl w1.heap.size w1).alloc (Nat.le_refl _) (.cells #[.int .i64 (M : Nat), .int .i64 (K : Nat), .int .u64 (seed : Nat), .slice b0' L d0', .slice b1' L d1', .slice b2' L d2'] 31)
  have X1 : BoxAt (w1.alloc (.cells #[.int .i64 (M : Nat), .int .i64 (K : Nat), .int .u64 (seed : Nat), .slice b0' L d0', .slice b1' L d1', .slice b2' L d2'] 31)) w1.heap.size M K seed L b0' b1' b2' d0' d1' d2' (List.replicate L 0) (List.replicate L 0) (List.replicate L 0) := ⟨heap_alloc_new _ _, Hb.mono A1⟩
  replace bt := below_then bt A1
  obtain ⟨gB, hgB⟩ : ∃ gB, w1.heap.size = gB := ⟨_, rfl⟩
  rw [hgB] at X1 hgw
  have hgB1 : gB < (w1.alloc (.cells #[.int .i64 (M : Nat), .int .i64 (K : Nat), .int .u64 (seed : Nat), .slice b0' L d0', .slice b1' L d1', .slice b2' L d2'] 31)).heap.size := X1.lt
  clear A1 b1 Hb
  go_wp2_with fail
  refine (refNew_ok _ M K seed m1 m2 k1 k2).mono ?_
  rintro e w2 ⟨rfl, b2⟩
  have hgBC : gB < w2.heap.size := Nat.lt_of_lt_of_le hgB1 b2.size
  have A2 := (Below.refl w2.heap.size w2).alloc (Nat.le_refl _) (.cells #[.int .i64 (M : Nat), .int .i64 (K : Nat), .int .u64 (seed : Nat), .slice none 0 0, .slice none 0 0, .slice none 0 0] 38)
  obtain ⟨gC, hgC⟩ : ∃ gC, w2.heap.size = gC := ⟨_, rfl⟩
  have X2 := (X1.mono b2).mono A2
  have R2 : RefBox (w2.alloc (.cells #[.int .i64 (M : Nat), .int .i64 (K : Nat), .int .u64 (seed : Nat), .slice none 0 0, .slice none 0 0, .slice none 0 0] 38)) (fun b => b ≠ gB ∧ b ≠ gC) gC M K seed none none none 0 0 0 0 0 0 [] [] [] := ⟨by rw [← hgC]; exact heap_alloc_new _ _, RefAt.zero _ M K seed m1 m2 k1 k2 sd, offAt_row.2 ⟨nofun, nofun, nofun⟩⟩
  replace bt := below_then (below_then bt b2) A2
  rw [hgC] at hgBC
  have hgw2 : w.heap.size ≤ gC := by omega
  have hneBC : gB ≠ gC := Nat.ne_of_lt hgBC
  clear A2 b2 X1 hgB1
  go_wp2_with fail
  go_loopw [12] (fun i w' => ∃ (j : Nat) (b0 b1 b2 : Option Addr) (d0 d1 d2 : Nat) (l0 l1 l2 : List Nat) (a0 a1 a2 : Option Addr) (n0 n1 n2 c0 c1 c2 : Nat) (on0 on1 on2 : List Nat), j ≤ n ∧ i = .int .i64 (j : Nat) ∧ BoxAt w' gB M K seed L b0 b1 b2 d0 d1 d2 l0 l1 l2 ∧ RefBox w' (fun b => b ≠ gB ∧ b ≠ gC) gC M K seed a0 a1 a2 n0 n1 n2 c0 c1 c2 on0 on1 on2 ∧ TellP M L l0 l1 l2 on0 on1 on2 ∧ Below w.heap.size w w') (fun i _ => n - (intOf i).toNat)
  case atStart => exact ⟨0, b0', b1', b2', d0', d1', d2', _, _, _, none, none, none, 0, 0, 0, 0, 0, 0, [], [], [], Nat.zero_le _, rfl, X2, R2, TellP.zero M L, bt⟩
  case round =>
    clear X2 R2 bt hgB hgC
    obtain ⟨j, b0, b1, b2, d0, d1, d2, l0, l1, l2, a0, a1, a2, n0, n1, n2, c0, c1, c2, on0, on1, on2, hj, rfl, X, R, hT, bel⟩ := hrel
    have nb := hA.small
    by_cases hjn : j < n
    · have f1 : decide (j < n) = true := by simpa using hjn
      obtain ⟨bl, ol, rfl, hbl, hact⟩ := hA.at_.resolve_left (by omega)
      obtain ⟨⟨kd, ka, kl, kc, key, fl⟩, hu⟩ : ∃ u, f j = u := ⟨_, rfl⟩
      have hx := (hact j hjn).mono hbl bel
      rw [hu] at hx
      have kd256 := hx.kd256
      have y0 := hx.c0
      have y1 := hx.c1
      have y2 := hx.c2
      have hky := hx.key
      have fl1 := hx.fl1
      have fl2 := hx.fl2
      simp only [] at y0 y1 y2 hky kd256 fl1 fl2
      have hblw : bl < wr.heap.size := Nat.lt_of_lt_of_le hbl bel.size
      have hkey : ∀ w' : World, Below w.heap.size w w' → BytesAt w' ka kl kc key := fun w' hb => by
        have := ((hact j hjn).mono hbl hb).key
        rwa [hu] at this
      clear hx hu hact hfew hk100
      go_upto_block 2 with fail
      have A := (Below.refl wr.heap.size wr).alloc (Nat.le_refl _) (.cells #[.int .u8 (kd : Nat), .slice ka kl kc, .int .i64 fl] 42)
      have pa : (wr.alloc (.cells #[.int .u8 (kd : Nat), .slice ka kl kc, .int .i64 fl] 42)).heap[wr.heap.size]? = some (.cells #[.int .u8 (kd : Nat), .slice ka kl kc, .int .i64 fl] 42 (0, 0)) := heap_alloc_new _ _
      have haB : wr.heap.size ≠ gB := Nat.ne_of_gt X.lt
      have haC : wr.heap.size ≠ gC := Nat.ne_of_gt R.lt
      have hag := bel.size
      have za : wr.heap.size < (wr.alloc (.cells #[.int .u8 (kd : Nat), .slice ka kl kc, .int .i64 fl] 42)).heap.size := by simp
      replace X := X.mono A
      replace R := R.mono A
      replace hky := hky.mono A
      replace bel := below_then bel A
      obtain ⟨wa, hwa⟩ : ∃ wa, wr.alloc (.cells #[.int .u8 (kd : Nat), .slice ka kl kc, .int .i64 fl] 42) = wa := ⟨_, rfl⟩
      obtain ⟨ga, hga⟩ : ∃ ga, wr.heap.size = ga := ⟨_, rfl⟩
      rw [hwa] at pa za X R hky bel ⊢
      rw [hga] at pa za haB haC hag ⊢
      clear A hwa hga y0 y1 y2 hblw
      go_cut [] from 67 to 171 (fun w' => ∃ (b0 b1 b2 : Option Addr) (d0 d1 d2 : Nat) (l0 l1 l2 : List Nat) (a0 a1 a2 : Option Addr) (n0 n1 n2 c0 c1 c2 : Nat) (on0 on1 on2 : List Nat), BoxAt w' gB M K seed L b0 b1 b2 d0 d1 d2 l0 l1 l2 ∧ RefBox w' (fun b => b ≠ gB ∧ b ≠ gC) gC M K seed a0 a1 a2 n0 n1 n2 c0 c1 c2 on0 on1 on2 ∧ TellP M L l0 l1 l2 on0 on1 on2 ∧ Below w.heap.size w w' ∧ w'.heap[ga]? = some (.cells #[.int .u8 (kd : Nat), .slice ka kl kc, .int .i64 fl] 42 (0, 0)))
      case first =>
        by_cases t0 : kd % 3 = 0
        · have f2 : decide (kd % 3 = 0) = true := by simpa using t0
          obtain ⟨F, Z0, Q0, hT', hO, hR⟩ := insert_both hT HL.out m1 m5 K seed ka kl kc key
          have rB := X.row
          have q1 : wa.cell? ⟨ga, 1, none⟩ = some (.slice ka kl kc) := cell_of_row _ _ 1 _ _ _ pa
          have q2 : wa.cell? ⟨ga, 2, none⟩ = some (.int .i64 fl) := cell_of_row _ _ 2 _ _ _ pa
          go_wp2_with (refine wpList_load_row rfl 31 _ rfl gB rfl 31 _ _ _ rB Try.underlying31 rfl (by kernel_rfl) ?_)
          refine (hO _ _ X.store hky).mono ?_
          rintro e w1 ⟨b0', b1', b2', d0', d1', d2', rfl, Hx, bx⟩
          clear rB q1 q2
          replace X := X.mono bx
          replace R := R.mono bx
          replace hky := hky.mono bx
          replace bel := below_then bel bx
          replace pa := (bx.block ga za).trans pa
          replace za := Nat.lt_of_lt_of_le za bx.size
          have A1 := (Below.refl w1.heap.size w1).alloc (Nat.le_refl _) (.cells #[.int .i64 (M : Nat), .int .i64 (K : Nat), .int .u64 (seed : Nat), .slice b0' L d0', .slice b1' L d1', .slice b2' L d2'] 31)
          have Y : BoxAt (w1.alloc (.cells #[.int .i64 (M : Nat), .int .i64 (K : Nat), .int .u64 (seed : Nat), .slice b0' L d0', .slice b1' L d1', .slice b2' L d2'] 31)) w1.heap.size M K seed L b0' b1' b2' d0' d1' d2' Z0 l1 l2 := ⟨heap_alloc_new _ _, Hx.mono A1⟩
          have hxB : w1.heap.size ≠ gB := Nat.ne_of_gt X.lt
          have hxC : w1.heap.size ≠ gC := Nat.ne_of_gt R.lt
          have hbx := bel.size
          replace X := X.mono A1
          replace R := R.mono A1
          replace hky := hky.mono A1
          replace bel := below_then bel A1
          replace pa := (A1.block ga za).trans pa
          replace za := Nat.lt_of_lt_of_le za A1.size
          have rC := R.row
          have q1 : (w1.alloc (.cells #[.int .i64 (M : Nat), .int .i64 (K : Nat), .int .u64 (seed : Nat), .slice b0' L d0', .slice b1' L d1', .slice b2' L d2'] 31)).cell? ⟨ga, 1, none⟩ = some (.slice ka kl kc) := cell_of_row _ _ 1 _ _ _ pa
          have q2 : (w1.alloc (.cells #[.int .i64 (M : Nat), .int .i64 (K : Nat), .int .u64 (seed : Nat), .slice b0' L d0', .slice b1' L d1', .slice b2' L d2'] 31)).cell? ⟨ga, 2, none⟩ = some (.int .i64 fl) := cell_of_row _ _ 2 _ _ _ pa
          go_wp2_with (refine wpList_load_row rfl 38 _ rfl gC rfl 38 _ _ _ rC Try.underlying38 rfl (by kernel_rfl) ?_)
          refine (hR _ _ R.store hky).mono ?_
          obtain ⟨w2, hw2⟩ : ∃ w2, w1.alloc (.cells #[.int .i64 (M : Nat), .int .i64 (K : Nat), .int .u64 (seed : Nat), .slice b0' L d0', .slice b1' L d1', .slice b2' L d2'] 31) = w2 := ⟨_, rfl⟩
          obtain ⟨gx, hgx⟩ : ∃ gx, w1.heap.size = gx := ⟨_, rfl⟩
          rw [hw2] at X R Y hky bel pa za ⊢
          rw [hgx] at Y hxB hxC hbx ⊢
          rintro e w3 ⟨a0', a1', a2', n0', n1', n2', c0', c1', c2', rfl, Hr, hq, br⟩
          have hQ : OffAt (fun b => b ≠ gB ∧ b ≠ gC) (.agg #[.int .i64 (M : Nat), .int .i64 (K : Nat), .int .u64 (seed : Nat), .slice a0' n0' c0', .slice a1' n1' c1', .slice a2' n2' c2']) := hq _ (fun b hb => by have h1 := X.lt; have h2 := R.lt; exact ⟨by omega, by omega⟩) R.off
          have zx := Y.lt
          clear rC q1 q2 hw2 hgx A1 Hx bx hq
          replace X := X.mono br
          replace R := R.mono br
          replace Y := Y.mono br
          replace hky := hky.mono br
          replace bel := below_then bel br
          replace pa := (br.block ga za).trans pa
          replace za := Nat.lt_of_lt_of_le za br.size
          replace zx := Nat.lt_of_lt_of_le zx br.size
          have A3 := (Below.refl w3.heap.size w3).alloc (Nat.le_refl _) (.cells #[.int .i64 (M : Nat), .int .i64 (K : Nat), .int .u64 (seed : Nat), .slice a0' n0' c0', .slice a1' n1' c1', .slice a2' n2' c2'] 38)
          have S : RefBox (w3.alloc (.cells #[.int .i64 (M : Nat), .int .i64 (K : Nat), .int .u64 (seed : Nat), .slice a0' n0' c0', .slice a1' n1' c1', .slice a2' n2' c2'] 38)) (fun b => b ≠ gB ∧ b ≠ gC) w3.heap.size M K seed a0' a1' a2' n0' n1' n2' c0' c1' c2' Q0 on1 on2 := ⟨heap_alloc_new _ _, Hr.mono A3, hQ⟩
          have hyB : w3.heap.size ≠ gB := Nat.ne_of_gt X.lt
          have hyC : w3.heap.size ≠ gC := Nat.ne_of_gt R.lt
          replace X := X.mono A3
          replace R := R.mono A3
          replace Y := Y.mono A3
          replace hky := hky.mono A3
          replace bel := below_then bel A3
          replace pa := (A3.block ga za).trans pa
          have rB := X.row
          have rX := Y.row
          clear A3 Hr hQ br
          go_upto_region 25 with (first | (refine wpList_load_row rfl 31 _ rfl gx rfl 31 _ _ _ rX Try.underlying31 rfl (by kernel_rfl) ?_) | (refine store_rec rfl 31 (.tmp 8) (.tmp 99) rfl gB #[.int .i64 (M : Nat), .int .i64 (K : Nat), .int .u64 (seed : Nat), .slice b0' L d0', .slice b1' L d1', .slice b2' L d2'] rfl rfl 31 _ rB (by kernel_rfl) rfl (by simp [Value.oneCell']) ?_; intro w6 g6 z6 o6 b6))
          have Y4 := Y.over X g6 z6 o6
          have R4 := R.keep hneBC.symm (fun b hb => hb.1) z6 o6
          have S4 := S.keep hyB (fun b hb => hb.1) z6 o6
          replace bel := bel.trans (b6.mono hgw)
          replace pa := (o6 ga haB).trans pa
          clear g6 z6 o6 b6 X Y R S rB rX
          obtain ⟨w4, hw4⟩ : ∃ w4, w6 = w4 := ⟨_, rfl⟩
          rw [hw4] at Y4 R4 S4 bel pa ⊢
          clear hw4
          have rC := R4.row
          have rY := S4.row
          go_wp2_with (first | (refine wpList_load_row rfl 38 _ rfl w3.heap.size rfl 38 _ _ _ rY Try.underlying38 rfl (by kernel_rfl) ?_) | (refine store_rec rfl 38 (.tmp 10) (.tmp 100) rfl gC #[.int .i64 (M : Nat), .int .i64 (K : Nat), .int .u64 (seed : Nat), .slice a0' n0' c0', .slice a1' n1' c1', .slice a2' n2' c2'] rfl rfl 38 _ rC (by kernel_rfl) rfl (by simp [Value.oneCell']) ?_; intro w6 g6 z6 o6 b6))
          go_meet
          exact ⟨b0', b1', b2', d0', d1', d2', _, _, _, a0', a1', a2', n0', n1', n2', c0', c1', c2', _, _, _, Y4.ref rC hneBC z6 o6, S4.over (fun b hb => hb.2) g6 z6 o6, hT', bel.trans (b6.mono hgw2), (o6 ga haC).trans pa⟩
        · have f2 : decide (kd % 3 = 0) = false := by simpa using t0
          by_cases t1 : kd % 3 = 1
          · have f3 : decide (kd % 3 = 1) = true := by simpa using t1
            obtain ⟨c, Z1, Z2, Q1, Q2, hT', hO, hR⟩ := set_both hT HL.out m1 m5 K seed ka kl kc key fl
            have rB := X.row
            have q1 : wa.cell? ⟨ga, 1, none⟩ = some (.slice ka kl kc) := cell_of_row _ _ 1 _ _ _ pa
            have q2 : wa.cell? ⟨ga, 2, none⟩ = some (.int .i64 fl) := cell_of_row _ _ 2 _ _ _ pa
            go_wp2_with (refine wpList_load_row rfl 31 _ rfl gB rfl 31 _ _ _ rB Try.underlying31 rfl (by kernel_rfl) ?_)
            refine (hO _ _ X.store hky).mono ?_
            rintro e w1 ⟨b0', b1', b2', d0', d1', d2', rfl, Hx, bx⟩
            clear rB q1 q2
            replace X := X.mono bx
            replace R := R.mono bx
            replace hky := hky.mono bx
            replace bel := below_then bel bx
            replace pa := (bx.block ga za).trans pa
            replace za := Nat.lt_of_lt_of_le za bx.size
            have A1 := (Below.refl w1.heap.size w1).alloc (Nat.le_refl _) (.cells #[.int .i64 (M : Nat), .int .i64 (K : Nat), .int .u64 (seed : Nat), .slice b0' L d0', .slice b1' L d1', .slice b2' L d2'] 31)
            have Y : BoxAt (w1.alloc (.cells #[.int .i64 (M : Nat), .int .i64 (K : Nat), .int .u64 (seed : Nat), .slice b0' L d0', .slice b1' L d1', .slice b2' L d2'] 31)) w1.heap.size M K seed L b0' b1' b2' d0' d1' d2' l0 Z1 Z2 := ⟨heap_alloc_new _ _, Hx.mono A1⟩
            have hxB : w1.heap.size ≠ gB := Nat.ne_of_gt X.lt
            have hxC : w1.heap.size ≠ gC := Nat.ne_of_gt R.lt
            have hbx := bel.size
            replace X := X.mono A1
            replace R := R.mono A1
            replace hky := hky.mono A1
            replace bel := below_then bel A1
            replace pa := (A1.block ga za).trans pa
            replace za := Nat.lt_of_lt_of_le za A1.size
            have rC := R.row
            have q1 : (w1.alloc (.cells #[.int .i64 (M : Nat), .int .i64 (K : Nat), .int .u64 (seed : Nat), .slice b0' L d0', .slice b1' L d1', .slice b2' L d2'] 31)).cell? ⟨ga, 1, none⟩ = some (.slice ka kl kc) := cell_of_row _ _ 1 _ _ _ pa
            have q2 : (w1.alloc (.cells #[.int .i64 (M : Nat), .int .i64 (K : Nat), .int .u64 (seed : Nat), .slice b0' L d0', .slice b1' L d1', .slice b2' L d2'] 31)).cell? ⟨ga, 2, none⟩ = some (.int .i64 fl) := cell_of_row _ _ 2 _ _ _ pa
            go_wp2_with (refine wpList_load_row rfl 38 _ rfl gC rfl 38 _ _ _ rC Try.underlying38 rfl (by kernel_rfl) ?_)
            refine (hR _ _ R.store hky).mono ?_
            obtain ⟨w2, hw2⟩ : ∃ w2, w1.alloc (.cells #[.int .i64 (M : Nat), .int .i64 (K : Nat), .int .u64 (seed : Nat), .slice b0' L d0', .slice b1' L d1', .slice b2' L d2'] 31) = w2 := ⟨_, rfl⟩
            obtain ⟨gx, hgx⟩ : ∃ gx, w1.heap.size = gx := ⟨_, rfl⟩
            rw [hw2] at X R Y hky bel pa za ⊢
            rw [hgx] at Y hxB hxC hbx ⊢
            rintro e w3 ⟨a0', a1', a2', n0', n1', n2', c0', c1', c2', rfl, Hr, hq, br⟩
            have hQ : OffAt (fun b => b ≠ gB ∧ b ≠ gC) (.agg #[.int .i64 (M : Nat), .int .i64 (K : Nat), .int .u64 (seed : Nat), .slice a0' n0' c0', .slice a1' n1' c1', .slice a2' n2' c2']) := hq _ (fun b hb => by have h1 := X.lt; have h2 := R.lt; exact ⟨by omega, by omega⟩) R.off
            have zx := Y.lt
            clear rC q1 q2 hw2 hgx A1 Hx bx hq
            replace X := X.mono br
            replace R := R.mono br
            replace Y := Y.mono br
            replace hky := hky.mono br
            replace bel := below_then bel br
            replace pa := (br.block ga za).trans pa
            replace za := Nat.lt_of_lt_of_le za br.size
            replace zx := Nat.lt_of_lt_of_le zx br.size
            have A3 := (Below.refl w3.heap.size w3).alloc (Nat.le_refl _) (.cells #[.int .i64 (M : Nat), .int .i64 (K : Nat), .int .u64 (seed : Nat), .slice a0' n0' c0', .slice a1' n1' c1', .slice a2' n2' c2'] 38)
            have S : RefBox (w3.alloc (.cells #[.int .i64 (M : Nat), .int .i64 (K : Nat), .int .u64 (seed : Nat), .slice a0' n0' c0', .slice a1' n1' c1', .slice a2' n2' c2'] 38)) (fun b => b ≠ gB ∧ b ≠ gC) w3.heap.size M K seed a0' a1' a2' n0' n1' n2' c0' c1' c2' on0 Q1 Q2 := ⟨heap_alloc_new _ _, Hr.mono A3, hQ⟩
            have hyB : w3.heap.size ≠ gB := Nat.ne_of_gt X.lt
            have hyC : w3.heap.size ≠ gC := Nat.ne_of_gt R.lt
            replace X := X.mono A3
            replace R := R.mono A3
            replace Y := Y.mono A3
            replace hky := hky.mono A3
            replace bel := below_then bel A3
            replace pa := (A3.block ga za).trans pa
            have rB := X.row
            have rX := Y.row
            clear A3 Hr hQ br
            go_upto_region 32 with (first | (refine wpList_load_row rfl 31 _ rfl gx rfl 31 _ _ _ rX Try.underlying31 rfl (by kernel_rfl) ?_) | (refine store_rec rfl 31 (.tmp 8) (.tmp 124) rfl gB #[.int .i64 (M : Nat), .int .i64 (K : Nat), .int .u64 (seed : Nat), .slice b0' L d0', .slice b1' L d1', .slice b2' L d2'] rfl rfl 31 _ rB (by kernel_rfl) rfl (by simp [Value.oneCell']) ?_; intro w6 g6 z6 o6 b6))
            have Y4 := Y.over X g6 z6 o6
            have R4 := R.keep hneBC.symm (fun b hb => hb.1) z6 o6
            have S4 := S.keep hyB (fun b hb => hb.1) z6 o6
            replace bel := bel.trans (b6.mono hgw)
            replace pa := (o6 ga haB).trans pa
            clear g6 z6 o6 b6 X Y R S rB rX
            obtain ⟨w4, hw4⟩ : ∃ w4, w6 = w4 := ⟨_, rfl⟩
            rw [hw4] at Y4 R4 S4 bel pa ⊢
            clear hw4
            have rC := R4.row
            have rY := S4.row
            go_wp2_with (first | (refine wpList_load_row rfl 38 _ rfl w3.heap.size rfl 38 _ _ _ rY Try.underlying38 rfl (by kernel_rfl) ?_) | (refine store_rec rfl 38 (.tmp 10) (.tmp 125) rfl gC #[.int .i64 (M : Nat), .int .i64 (K : Nat), .int .u64 (seed : Nat), .slice a0' n0' c0', .slice a1' n1' c1', .slice a2' n2' c2'] rfl rfl 38 _ rC (by kernel_rfl) rfl (by simp [Value.oneCell']) ?_; intro w6 g6 z6 o6 b6))
            go_meet
            exact ⟨b0', b1', b2', d0', d1', d2', _, _, _, a0', a1', a2', n0', n1', n2', c0', c1', c2', _, _, _, Y4.ref rC hneBC z6 o6, S4.over (fun b hb => hb.2) g6 z6 o6, hT', bel.trans (b6.mono hgw2), (o6 ga haC).trans pa⟩
          · have f3 : decide (kd % 3 = 1) = false := by simpa using t1
            have f4 : decide (kd % 3 = 2) = true := by simp; omega
            obtain ⟨T, c, hO, hR⟩ := get_both hT HL.out m1 m5 K seed ka kl kc key fl
            have rB := X.row
            have q1 : wa.cell? ⟨ga, 1, none⟩ = some (.slice ka kl kc) := cell_of_row _ _ 1 _ _ _ pa
            have q2 : wa.cell? ⟨ga, 2, none⟩ = some (.int .i64 fl) := cell_of_row _ _ 2 _ _ _ pa
            go_wp2_with (refine wpList_load_row rfl 31 _ rfl gB rfl 31 _ _ _ rB Try.underlying31 rfl (by kernel_rfl) ?_)
            refine (hO _ _ X.store hky).mono ?_
            rintro e w1 ⟨rfl, bx⟩
            clear rB q1 q2
            replace X := X.mono bx
            replace R := R.mono bx
            replace hky := hky.mono bx
            replace bel := below_then bel bx
            replace pa := (bx.block ga za).trans pa
            replace za := Nat.lt_of_lt_of_le za bx.size
            have rC := R.row
            have q1 : w1.cell? ⟨ga, 1, none⟩ = some (.slice ka kl kc) := cell_of_row _ _ 1 _ _ _ pa
            have q2 : w1.cell? ⟨ga, 2, none⟩ = some (.int .i64 fl) := cell_of_row _ _ 2 _ _ _ pa
            go_wp2_with (refine wpList_load_row rfl 38 _ rfl gC rfl 38 _ _ _ rC Try.underlying38 rfl (by kernel_rfl) ?_)
            refine (hR _ _ R.store hky).mono ?_
            rintro e w2 ⟨rfl, br⟩
            clear rC q1 q2
            go_wp2_with fail
            go_meet
            exact ⟨b0, b1, b2, d0, d1, d2, _, _, _, a0, a1, a2, n0, n1, n2, c0, c1, c2, _, _, _, X.mono br, R.mono br, hT, below_then bel br, (br.block ga za).trans pa⟩
      case rest =>
        have hky0 := hky
        clear X R hT bel pa hky
        obtain ⟨b0, b1, b2, d0, d1, d2, l0, l1, l2, a0, a1, a2, n0, n1, n2, c0, c1, c2, on0, on1, on2, X, R, hT, bel, pa⟩ := hcut
        obtain ⟨T, hO, hR⟩ := member_both hT HL.out m1 m5 K seed ka kl kc key
        have hlen := R.len0
        have zc : ga < wc.heap.size := (Array.getElem?_eq_some_iff.1 pa).1
        have hon : onesV l0 = n0 := hT.r0.many.trans hlen
        have hky : BytesAt wc ka kl kc key := hkey wc bel
        have qB0 : ∀ x : Later wc.heap.size wc, x.w.cell? ⟨gB, 0, none⟩ = some (.int .i64 (M : Nat)) := fun x => (X.mono x.below).cell 0
        have qB1 : ∀ x : Later wc.heap.size wc, x.w.cell? ⟨gB, 1, none⟩ = some (.int .i64 (K : Nat)) := fun x => (X.mono x.below).cell 1
        have qB2 : ∀ x : Later wc.heap.size wc, x.w.cell? ⟨gB, 2, none⟩ = some (.int .u64 (seed : Nat)) := fun x => (X.mono x.below).cell 2
        have qB3 : ∀ x : Later wc.heap.size wc, x.w.cell? ⟨gB, 3, none⟩ = some (.slice b0 L d0) := fun x => (X.mono x.below).cell 3
        have qB4 : ∀ x : Later wc.heap.size wc, x.w.cell? ⟨gB, 4, none⟩ = some (.slice b1 L d1) := fun x => (X.mono x.below).cell 4
        have qB5 : ∀ x : Later wc.heap.size wc, x.w.cell? ⟨gB, 5, none⟩ = some (.slice b2 L d2) := fun x => (X.mono x.below).cell 5
        have qR0 : ∀ x : Later wc.heap.size wc, x.w.cell? ⟨gC, 0, none⟩ = some (.int .i64 (M : Nat)) := fun x => (R.mono x.below).cell 0
        have qR1 : ∀ x : Later wc.heap.size wc, x.w.cell? ⟨gC, 1, none⟩ = some (.int .i64 (K : Nat)) := fun x => (R.mono x.below).cell 1
        have qR2 : ∀ x : Later wc.heap.size wc, x.w.cell? ⟨gC, 2, none⟩ = some (.int .u64 (seed : Nat)) := fun x => (R.mono x.below).cell 2
        have qR3 : ∀ x : Later wc.heap.size wc, x.w.cell? ⟨gC, 3, none⟩ = some (.slice a0 n0 c0) := fun x => (R.mono x.below).cell 3
        have qR4 : ∀ x : Later wc.heap.size wc, x.w.cell? ⟨gC, 4, none⟩ = some (.slice a1 n1 c1) := fun x => (R.mono x.below).cell 4
        have qR5 : ∀ x : Later wc.heap.size wc, x.w.cell? ⟨gC, 5, none⟩ = some (.slice a2 n2 c2) := fun x => (R.mono x.below).cell 5
        have qa : ∀ x : Later wc.heap.size wc, x.w.cell? ⟨ga, 1, none⟩ = some (.slice ka kl kc) := fun x => (x.below.cell (p := ⟨ga, 1, none⟩) zc).trans (cell_of_row _ _ 1 _ _ _ pa)
        have cO : ∀ x : Later wc.heap.size wc, Calls Try.prog 17 #[.agg #[.int .i64 (M : Nat), .int .i64 (K : Nat), .int .u64 (seed : Nat), .slice b0 L d0, .slice b1 L d1, .slice b2 L d2], .slice ka kl kc] x.w fun e w' => e = .returned (.bool T) ∧ Below x.w.heap.size x.w w' := fun x => hO _ _ (X.mono x.below).store (hky.mono x.below)
        have cR : ∀ x : Later wc.heap.size wc, Calls Try.prog 18 #[.agg #[.int .i64 (M : Nat), .int .i64 (K : Nat), .int .u64 (seed : Nat), .slice a0 n0 c0, .slice a1 n1 c1, .slice a2 n2 c2], .slice ka kl kc] x.w fun e w' => e = .returned (.bool T) ∧ Below x.w.heap.size x.w w' := fun x => hR _ _ (R.mono x.below).store (hky.mono x.below)
        have cN : ∀ x : Later wc.heap.size wc, Calls Try.prog 19 #[.agg #[.int .i64 (M : Nat), .int .i64 (K : Nat), .int .u64 (seed : Nat), .slice b0 L d0, .slice b1 L d1, .slice b2 L d2]] x.w fun e w' => e = .returned (.int .i64 (n0 : Nat)) ∧ Below x.w.heap.size x.w w' := fun x => by
          have := ones_any x.w M K seed _ l0 l1 l2 (X.mono x.below).store
          rwa [hon] at this
        clear hon hlen hO hR
        go_wp2_with fail
        refine wp_region_later wc.heap.size wc (by kernel_rfl) (by kernel_rfl) (Below.refl _ _) ?_
        repeat (go_big_quiet_step ((first | (go_at_call 17; refine Calls.later0 (cO _)) | (go_at_call 18; refine Calls.later0 (cR _)) | (go_at_call 19; refine Calls.later0 (cN _)))))
        refine wpQuiet_nil ?_
        intro _ hlat
        obtain ⟨x, rfl⟩ := hlat
        clear cO cR cN qB0 qB1 qB2 qB3 qB4 qB5 qR0 qR1 qR2 qR3 qR4 qR5 qa
        go_wp2_with fail
        exact ⟨⟨j + 1, b0, b1, b2, d0, d1, d2, l0, l1, l2, a0, a1, a2, n0, n1, n2, c0, c1, c2, on0, on1, on2, by omega, by simp, X.mono x.below, R.mono x.below, hT, below_then bel x.below⟩, by simp [intOf]; omega⟩
    · have f1 : decide (j < n) = false := by simpa using hjn
      go_wp2_with fail
      go_ret
      exact ⟨rfl, bel⟩
end Go.Proofs.Ytcnpomejdnpegaa
