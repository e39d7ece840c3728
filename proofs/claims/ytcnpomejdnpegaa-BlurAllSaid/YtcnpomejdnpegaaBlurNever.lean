/- BlurNever returns true (by gen10n.py). -/
import Derived.Test.YtcnpomejdnpegaaBlurC
import Derived.Deep.DeepCutAuto
import Derived.Deep.CutRange
import Derived.Outline
namespace Go.Proofs.Ytcnpomejdnpegaa
open Go.RowKit
set_option linter.unusedVariables false

/-- A store in a box. -/
structure BoxAt (w : World) (g M K seed L : Nat) (b0 b1 b2 : Option Addr) (d0 d1 d2 : Nat) (l0 l1 l2 : List Nat) : Prop where
  row : w.heap[g]? = some (.cells #[.int .i64 (M : Nat), .int .i64 (K : Nat), .int .u64 (seed : Nat), .slice b0 L d0, .slice b1 L d1, .slice b2 L d2] 31 (0, 0))
  store : BlurAt w M K seed (.agg #[.int .i64 (M : Nat), .int .i64 (K : Nat), .int .u64 (seed : Nat), .slice b0 L d0, .slice b1 L d1, .slice b2 L d2]) l0 l1 l2
theorem BoxAt.lt {w : World} {g M K seed L : Nat} {b0 b1 b2 : Option Addr} {d0 d1 d2 : Nat} {l0 l1 l2 : List Nat} (h : BoxAt w g M K seed L b0 b1 b2 d0 d1 d2 l0 l1 l2) : g < w.heap.size := (Array.getElem?_eq_some_iff.1 h.row).1
theorem BoxAt.mono {w w' : World} {g M K seed L : Nat} {b0 b1 b2 : Option Addr} {d0 d1 d2 : Nat} {l0 l1 l2 : List Nat} (h : BoxAt w g M K seed L b0 b1 b2 d0 d1 d2 l0 l1 l2) (hb : Below w.heap.size w w') : BoxAt w' g M K seed L b0 b1 b2 d0 d1 d2 l0 l1 l2 :=
  ⟨(hb.block g h.lt).trans h.row, h.store.mono hb⟩
theorem BoxAt.cell {w : World} {g M K seed L : Nat} {b0 b1 b2 : Option Addr} {d0 d1 d2 : Nat} {l0 l1 l2 : List Nat} (h : BoxAt w g M K seed L b0 b1 b2 d0 d1 d2 l0 l1 l2) (j : Nat) : w.cell? ⟨g, j, none⟩ = (#[.int .i64 (M : Nat), .int .i64 (K : Nat), .int .u64 (seed : Nat), .slice b0 L d0, .slice b1 L d1, .slice b2 L d2] : Array Value)[j]? := cell_of_row _ _ _ _ _ _ h.row
theorem BoxAt.frozen {w : World} {g M K seed L : Nat} {b0 b1 b2 : Option Addr} {d0 d1 d2 : Nat} {l0 l1 l2 : List Nat} (h : BoxAt w g M K seed L b0 b1 b2 d0 d1 d2 l0 l1 l2) (j : Nat) : w.frozen? ⟨g, j, none⟩ = false := frozen_of_row _ _ _ _ _ h.row
theorem row_no (M K seed L : Nat) (b0 b1 b2 : Option Addr) (d0 d1 d2 : Nat) : ∀ (i : Nat) (n : Int), (#[.int .i64 (M : Nat), .int .i64 (K : Nat), .int .u64 (seed : Nat), .slice b0 L d0, .slice b1 L d1, .slice b2 L d2] : Array Value)[i]? ≠ some (.int .u8 n) := by
  intro i n
  match i with
  | 0 => simp
  | 1 => simp
  | 2 => simp
  | 3 => simp
  | 4 => simp
  | 5 => simp
  | n + 6 => simp
/-- A store written over another one's box. -/
theorem BoxAt.over {w w' : World} {g h M K seed L : Nat} {b0 b1 b2 a0 a1 a2 : Option Addr} {d0 d1 d2 c0 c1 c2 : Nat} {l0 l1 l2 m0 m1 m2 : List Nat} (x : BoxAt w g M K seed L b0 b1 b2 d0 d1 d2 l0 l1 l2) (y : BoxAt w h M K seed L a0 a1 a2 c0 c1 c2 m0 m1 m2)
    (hg : w'.heap[h]? = some (.cells #[.int .i64 (M : Nat), .int .i64 (K : Nat), .int .u64 (seed : Nat), .slice b0 L d0, .slice b1 L d1, .slice b2 L d2] 31 (0, 0))) (hs : w'.heap.size = w.heap.size) (ho : ∀ b, b ≠ h → w'.heap[b]? = w.heap[b]?) :
    BoxAt w' h M K seed L b0 b1 b2 d0 d1 d2 l0 l1 l2 := ⟨hg, x.store.recd y.row (row_no _ _ _ _ _ _ _ _ _ _) hs ho⟩
theorem box_six {w : World} {g h M K seed L : Nat} {b0 b1 b2 a0 a1 a2 : Option Addr} {d0 d1 d2 c0 c1 c2 : Nat} {l0 l1 l2 m0 m1 m2 : List Nat} (x : BlurAt w M K seed (.agg #[.int .i64 (M : Nat), .int .i64 (K : Nat), .int .u64 (seed : Nat), .slice a0 L c0, .slice a1 L c1, .slice a2 L c2]) m0 m1 m2)
    (gz : w.heap[g]? = some (.cells #[.int .i64 0, .int .i64 0, .int .u64 0, .slice none 0 0, .slice none 0 0, .slice none 0 0] 31 (0, 0))) (y : BoxAt w h M K seed L b0 b1 b2 d0 d1 d2 l0 l1 l2) (hne : h ≠ g) :
    BoxAt (six w g (.int .i64 (M : Nat)) (.int .i64 (K : Nat)) (.int .u64 (seed : Nat)) (.slice a0 L c0) (.slice a1 L c1) (.slice a2 L c2)) g M K seed L a0 a1 a2 c0 c1 c2 m0 m1 m2 ∧
    BoxAt (six w g (.int .i64 (M : Nat)) (.int .i64 (K : Nat)) (.int .u64 (seed : Nat)) (.slice a0 L c0) (.slice a1 L c1) (.slice a2 L c2)) h M K seed L b0 b1 b2 d0 d1 d2 l0 l1 l2 :=
  ⟨⟨six_row _ _ _ _ _ _ _ _ _ _ _ _ _ _ _ gz, x.recd gz zero_no (six_size _ _ _ _ _ _ _ _) (six_other _ _ _ _ _ _ _ _)⟩, ⟨(six_other _ _ _ _ _ _ _ _ _ hne).trans y.row, y.store.recd gz zero_no (six_size _ _ _ _ _ _ _ _) (six_other _ _ _ _ _ _ _ _)⟩⟩
theorem BoxAt.keep {w w' : World} {g h M K seed L : Nat} {b0 b1 b2 a0 a1 a2 : Option Addr} {d0 d1 d2 c0 c1 c2 : Nat} {l0 l1 l2 m0 m1 m2 : List Nat} (x : BoxAt w g M K seed L b0 b1 b2 d0 d1 d2 l0 l1 l2) (y : BoxAt w h M K seed L a0 a1 a2 c0 c1 c2 m0 m1 m2) (hne : g ≠ h)
    (hs : w'.heap.size = w.heap.size) (ho : ∀ b, b ≠ h → w'.heap[b]? = w.heap[b]?) : BoxAt w' g M K seed L b0 b1 b2 d0 d1 d2 l0 l1 l2 := ⟨(ho g hne).trans x.row, x.store.recd y.row (row_no _ _ _ _ _ _ _ _ _ _) hs ho⟩
/-- Behind a store into some box nothing else has changed. -/
theorem ActsAt.recd {w w' : World} {a : Option Addr} {len : Nat} {f : Nat → ActD} (h : ActsAt w a len f) {w0 : World} (h0 : ActsAt w0 a len f) (hb : Below w0.heap.size w0 w') : ActsAt w' a len f := h0.mono hb
set_option maxRecDepth 100000 in
set_option maxHeartbeats 16000000 in
theorem blurnever_any (w : World) (m k seed : Nat) (al : Option Addr) (n cl : Nat) (f : Nat → ActD) (hm : m < 65536) (hk : k < 256) (sd : seed < 18446744073709551616) (hA : ActsAt w al n f) :
    Calls Try.prog 4 #[.agg #[.int .u16 (m : Nat), .int .u8 (k : Nat), .int .u64 (seed : Nat), .slice al n cl]] w fun e w' => e = .returned (.bool true) ∧ Below w.heap.size w w' := by
  have bA : ∀ o : Obj, Below w.heap.size w (w.alloc o) := fun o => (Below.refl _ _).alloc (Nat.le_refl _) _
  obtain ⟨M, hM⟩ : ∃ M : Nat, 1 + (m : Int) % 2000 = (M : Int) := ⟨1 + m % 2000, by omega⟩
  obtain ⟨K, hK⟩ : ∃ K : Nat, 1 + (k : Int) % 16 = (K : Int) := ⟨1 + k % 16, by omega⟩
  have m1 : 1 ≤ M := by omega
  have m2 : M ≤ 4194304 := by omega
  have m3 : M ≤ 2000 := by omega
  have k1 : 1 ≤ K := by omega
  have k2 : K ≤ 16 := by omega
  obtain ⟨L, hL⟩ : ∃ L, (M + 7) / 8 = L := ⟨_, rfl⟩
  have hML : M ≤ 8 * L := by omega
  have HL := Lib.hid hL
  clear hL
  go_enter Try.func4, Try.ntmps4
  go_wp2_with fail
  refine (shown_any _).mono ?_
  rintro e w0 ⟨rfl, b0⟩
  have bt := below_then (bA _) b0
  go_wp2_with fail
  refine (few_any _ al n cl f 50 (hA.mono bt)).mono ?_
  rintro e w00 ⟨⟨fb, rfl, hfew⟩, rfl⟩
  cases fb with
  | false =>
    go_wp2_with fail
    go_ret
    exact ⟨rfl, bt⟩
  | true =>
  obtain ⟨n50, hk100⟩ := hfew rfl
  go_wp2_with fail
  refine (new_at _ (M : Nat) (K : Nat) (seed : Nat) M K seed L rfl rfl rfl HL.out m1 m2 k1 k2 sd).mono ?_
  rintro e w1 ⟨b0', b1', b2', d0', d1', d2', rfl, Hb, b1⟩
  replace bt := below_then bt b1
  have A1 := (Below.refl w1.heap.size w1).alloc (Nat.le_refl _) (.cells #[.int .i64 (M : Nat), .int .i64 (K : Nat), .int .u64 (seed : Nat), .slice b0' L d0', .slice b1' L d1', .slice b2' L d2'] 31)
  have X1 : BoxAt (w1.alloc (.cells #[.int .i64 (M : Nat), .int .i64 (K : Nat), .int .u64 (seed : Nat), .slice b0' L d0', .slice b1' L d1', .slice b2' L d2'] 31)) w1.heap.size M K seed L b0' b1' b2' d0' d1' d2' (List.replicate L 0) (List.replicate L 0) (List.replicate L 0) := ⟨heap_alloc_new _ _, Hb.mono A1⟩
  have bt1 := below_then bt A1
  obtain ⟨gB, hgB⟩ : ∃ gB, w1.heap.size = gB := ⟨_, rfl⟩
  have hgw : w.heap.size ≤ gB := by rw [← hgB]; exact bt.size
  rw [hgB] at X1
  go_wp2_with fail
  go_loopw [12] (fun i w' => ∃ (j : Nat) (b0 b1 b2 : Option Addr) (d0 d1 d2 : Nat) (l0 l1 l2 : List Nat), j ≤ n ∧ i = .int .i64 (j : Nat) ∧ BoxAt w' gB M K seed L b0 b1 b2 d0 d1 d2 l0 l1 l2 ∧ NevP M K seed L f j l0 l1 l2 ∧ Below w.heap.size w w') (fun i _ => n - (intOf i).toNat)
  case atStart => exact ⟨0, b0', b1', b2', d0', d1', d2', _, _, _, Nat.zero_le _, rfl, X1, NevP.zero M K seed L f, bt1⟩
  case round =>
    clear X1 bt1 bt A1 Hb b1 b0
    obtain ⟨j, b0, b1, b2, d0, d1, d2, l0, l1, l2, hj, rfl, X, hP, bel⟩ := hrel
    have nb := hA.small
    by_cases hjn : j < n
    · have f1 : decide (j < n) = true := by simpa using hjn
      obtain ⟨bl, ol, rfl, hbl, hact⟩ := hA.at_.resolve_left (by omega)
      obtain ⟨s1, s2, s3, s4, s5, s6, s7⟩ := hP.step m1 hML
      obtain ⟨⟨kd, ka, kl, kc, key, fl⟩, hu⟩ : ∃ u, f j = u := ⟨_, rfl⟩
      have hx := (hact j hjn).mono hbl bel
      rw [hu] at s1 s2 s3 s4 s5 s6 s7 hx
      have kd256 := hx.kd256
      have y0 := hx.c0
      have y1 := hx.c1
      have hky := hx.key
      simp only [] at y0 y1 hky s1 s2 s3 s4 s5 s6 s7 kd256
      have hblw : bl < wr.heap.size := Nat.lt_of_lt_of_le hbl bel.size
      obtain ⟨ps, hps⟩ : ∃ ps, placesN key seed M K = ps := ⟨_, rfl⟩
      rw [hps] at s1 s2 s3 s4 s5 s6 s7
      obtain ⟨F, hF⟩ : ∃ F, (!allV l0 ps) = F := ⟨_, rfl⟩
      obtain ⟨Z0, hZ0⟩ : ∃ Z0, insV l0 ps = Z0 := ⟨_, rfl⟩
      rw [hZ0] at s1 s2 s3 s4 s5 s6 s7
      go_upto_region 16 with fail
      go_cut [13, 14] from 51 to 163 (fun v13 v14 w' => ∃ (gx : Nat) (a0 a1 a2 : Option Addr) (c0 c1 c2 : Nat), v13 = .pointer (some ⟨gx, 0, none⟩) ∧ v14 = .bool F ∧ gx ≠ gB ∧ w.heap.size ≤ gx ∧ BoxAt w' gB M K seed L b0 b1 b2 d0 d1 d2 l0 l1 l2 ∧ BoxAt w' gx M K seed L a0 a1 a2 c0 c1 c2 Z0 l1 l2 ∧ Below wr.heap.size wr w')
      case first =>
        have bD : Below wr.heap.size wr wr.drew := (Below.refl _ _).drew
        have bAA : Below wr.heap.size wr (wr.alloc (.cells #[.int .i64 0, .int .i64 0, .int .u64 0, .slice none 0 0, .slice none 0 0, .slice none 0 0] 31)).drew := ((Below.refl _ _).alloc (Nat.le_refl _) _).drew
        have XD := X.mono bD
        have XA := X.mono bAA
        have kD := hky.mono bD
        have kA := hky.mono bAA
        have gBl := X.lt
        have hnB : gB ≠ wr.heap.size := Nat.ne_of_lt gBl
        have hnb : bl ≠ wr.heap.size := Nat.ne_of_lt hblw
        have gD0 : wr.drew.cell? ⟨gB, 0, none⟩ = some (.int .i64 (M : Nat)) := XD.cell 0
        have gA0 : (wr.alloc (.cells #[.int .i64 0, .int .i64 0, .int .u64 0, .slice none 0 0, .slice none 0 0, .slice none 0 0] 31)).drew.cell? ⟨gB, 0, none⟩ = some (.int .i64 (M : Nat)) := XA.cell 0
        have gD1 : wr.drew.cell? ⟨gB, 1, none⟩ = some (.int .i64 (K : Nat)) := XD.cell 1
        have gA1 : (wr.alloc (.cells #[.int .i64 0, .int .i64 0, .int .u64 0, .slice none 0 0, .slice none 0 0, .slice none 0 0] 31)).drew.cell? ⟨gB, 1, none⟩ = some (.int .i64 (K : Nat)) := XA.cell 1
        have gD2 : wr.drew.cell? ⟨gB, 2, none⟩ = some (.int .u64 (seed : Nat)) := XD.cell 2
        have gA2 : (wr.alloc (.cells #[.int .i64 0, .int .i64 0, .int .u64 0, .slice none 0 0, .slice none 0 0, .slice none 0 0] 31)).drew.cell? ⟨gB, 2, none⟩ = some (.int .u64 (seed : Nat)) := XA.cell 2
        have gD3 : wr.drew.cell? ⟨gB, 3, none⟩ = some (.slice b0 L d0) := XD.cell 3
        have gA3 : (wr.alloc (.cells #[.int .i64 0, .int .i64 0, .int .u64 0, .slice none 0 0, .slice none 0 0, .slice none 0 0] 31)).drew.cell? ⟨gB, 3, none⟩ = some (.slice b0 L d0) := XA.cell 3
        have gD4 : wr.drew.cell? ⟨gB, 4, none⟩ = some (.slice b1 L d1) := XD.cell 4
        have gA4 : (wr.alloc (.cells #[.int .i64 0, .int .i64 0, .int .u64 0, .slice none 0 0, .slice none 0 0, .slice none 0 0] 31)).drew.cell? ⟨gB, 4, none⟩ = some (.slice b1 L d1) := XA.cell 4
        have gD5 : wr.drew.cell? ⟨gB, 5, none⟩ = some (.slice b2 L d2) := XD.cell 5
        have gA5 : (wr.alloc (.cells #[.int .i64 0, .int .i64 0, .int .u64 0, .slice none 0 0, .slice none 0 0, .slice none 0 0] 31)).drew.cell? ⟨gB, 5, none⟩ = some (.slice b2 L d2) := XA.cell 5
        have yD : wr.drew.cell? ⟨bl, ol + j * 3 + 1, none⟩ = some (.slice ka kl kc) := (bD.cell (p := ⟨bl, ol + j * 3 + 1, none⟩) hblw).trans y1
        have yA : (wr.alloc (.cells #[.int .i64 0, .int .i64 0, .int .u64 0, .slice none 0 0, .slice none 0 0, .slice none 0 0] 31)).drew.cell? ⟨bl, ol + j * 3 + 1, none⟩ = some (.slice ka kl kc) := (bAA.cell (p := ⟨bl, ol + j * 3 + 1, none⟩) hblw).trans y1
        have hI := fun (wx : World) (hs : BlurAt wx M K seed (.agg #[.int .i64 (M : Nat), .int .i64 (K : Nat), .int .u64 (seed : Nat), .slice b0 L d0, .slice b1 L d1, .slice b2 L d2]) l0 l1 l2) (hk : BytesAt wx ka kl kc key) => insert_at wx (M : Nat) (K : Nat) (seed : Nat) M K seed L rfl rfl rfl HL.out _ l0 l1 l2 ka kl kc key hs hk
        rw [hps] at hI
        have hI2 : ∀ wx : World, BlurAt wx M K seed (.agg #[.int .i64 (M : Nat), .int .i64 (K : Nat), .int .u64 (seed : Nat), .slice b0 L d0, .slice b1 L d1, .slice b2 L d2]) l0 l1 l2 → BytesAt wx ka kl kc key → Calls Try.prog 11 #[.agg #[.int .i64 (M : Nat), .int .i64 (K : Nat), .int .u64 (seed : Nat), .slice b0 L d0, .slice b1 L d1, .slice b2 L d2], .slice ka kl kc] wx fun e w' => ∃ a0 a1 a2 c0 c1 c2, e = .returned (.tuple #[.agg #[.int .i64 (M : Nat), .int .i64 (K : Nat), .int .u64 (seed : Nat), .slice a0 L c0, .slice a1 L c1, .slice a2 L c2], .bool F]) ∧ BlurAt w' M K seed (.agg #[.int .i64 (M : Nat), .int .i64 (K : Nat), .int .u64 (seed : Nat), .slice a0 L c0, .slice a1 L c1, .slice a2 L c2]) Z0 l1 l2 ∧ Below wx.heap.size wx w' := fun wx hs hk => by
          have := hI wx hs hk
          rw [hF] at this
          rw [← hZ0]
          exact this
        clear hI
        have zA : wr.heap.size < (wr.alloc (.cells #[.int .i64 0, .int .i64 0, .int .u64 0, .slice none 0 0, .slice none 0 0, .slice none 0 0] 31)).drew.heap.size := by simp
        clear hx hact hu hP s1 s2 s3 s4 s5 s6 s7 hfew hk100 hA f1 y0 y1
        go_region_held3 (fun w' => w'.cell? ⟨gB, 0, none⟩ = some (.int .i64 (M : Nat)) ∧ w'.cell? ⟨gB, 1, none⟩ = some (.int .i64 (K : Nat)) ∧ w'.cell? ⟨gB, 2, none⟩ = some (.int .u64 (seed : Nat)) ∧ w'.cell? ⟨gB, 3, none⟩ = some (.slice b0 L d0) ∧ w'.cell? ⟨gB, 4, none⟩ = some (.slice b1 L d1) ∧ w'.cell? ⟨gB, 5, none⟩ = some (.slice b2 L d2) ∧ w'.cell? ⟨bl, ol + j * 3 + 1, none⟩ = some (.slice ka kl kc))
            (first | (refine ⟨?_, ?_, ?_, ?_, ?_, ?_, ?_⟩ <;> with_reducible assumption) | (refine ⟨?_, ?_, ?_, ?_, ?_, ?_, ?_⟩; with_reducible exact cellAlloc _ _ r0; with_reducible exact cellAlloc _ _ r1; with_reducible exact cellAlloc _ _ r2; with_reducible exact cellAlloc _ _ r3; with_reducible exact cellAlloc _ _ r4; with_reducible exact cellAlloc _ _ r5; with_reducible exact cellAlloc _ _ ry) | (refine ⟨?_, ?_, ?_, ?_, ?_, ?_, ?_⟩; with_reducible exact six_cellU _ _ _ _ _ _ _ _ _ 0 hnB r0; with_reducible exact six_cellU _ _ _ _ _ _ _ _ _ 1 hnB r1; with_reducible exact six_cellU _ _ _ _ _ _ _ _ _ 2 hnB r2; with_reducible exact six_cellU _ _ _ _ _ _ _ _ _ 3 hnB r3; with_reducible exact six_cellU _ _ _ _ _ _ _ _ _ 4 hnB r4; with_reducible exact six_cellU _ _ _ _ _ _ _ _ _ 5 hnB r5; with_reducible exact six_cellU _ _ _ _ _ _ _ _ _ _ hnb ry))
            (first | (go_at_call 11; refine (hI2 wr.drew XD.store kD).mono ?_; rintro e ws ⟨a0, a1, a2, c0, c1, c2, rfl, Hx, bx⟩; have r0 : ws.cell? ⟨gB, 0, none⟩ = some (.int .i64 (M : Nat)) := (bx.cell (p := ⟨gB, 0, none⟩) gBl).trans gD0; have r1 : ws.cell? ⟨gB, 1, none⟩ = some (.int .i64 (K : Nat)) := (bx.cell (p := ⟨gB, 1, none⟩) gBl).trans gD1; have r2 : ws.cell? ⟨gB, 2, none⟩ = some (.int .u64 (seed : Nat)) := (bx.cell (p := ⟨gB, 2, none⟩) gBl).trans gD2; have r3 : ws.cell? ⟨gB, 3, none⟩ = some (.slice b0 L d0) := (bx.cell (p := ⟨gB, 3, none⟩) gBl).trans gD3; have r4 : ws.cell? ⟨gB, 4, none⟩ = some (.slice b1 L d1) := (bx.cell (p := ⟨gB, 4, none⟩) gBl).trans gD4; have r5 : ws.cell? ⟨gB, 5, none⟩ = some (.slice b2 L d2) := (bx.cell (p := ⟨gB, 5, none⟩) gBl).trans gD5; have ry : ws.cell? ⟨bl, ol + j * 3 + 1, none⟩ = some (.slice ka kl kc) := (bx.cell (p := ⟨bl, ol + j * 3 + 1, none⟩) hblw).trans yD) | (go_at_call 11; refine (hI2 (wr.alloc (.cells #[.int .i64 0, .int .i64 0, .int .u64 0, .slice none 0 0, .slice none 0 0, .slice none 0 0] 31)).drew XA.store kA).mono ?_; rintro e ws ⟨a0, a1, a2, c0, c1, c2, rfl, Hx, bx⟩; have r0 : ws.cell? ⟨gB, 0, none⟩ = some (.int .i64 (M : Nat)) := (bx.cell (p := ⟨gB, 0, none⟩) (Nat.lt_trans gBl zA)).trans gA0; have r1 : ws.cell? ⟨gB, 1, none⟩ = some (.int .i64 (K : Nat)) := (bx.cell (p := ⟨gB, 1, none⟩) (Nat.lt_trans gBl zA)).trans gA1; have r2 : ws.cell? ⟨gB, 2, none⟩ = some (.int .u64 (seed : Nat)) := (bx.cell (p := ⟨gB, 2, none⟩) (Nat.lt_trans gBl zA)).trans gA2; have r3 : ws.cell? ⟨gB, 3, none⟩ = some (.slice b0 L d0) := (bx.cell (p := ⟨gB, 3, none⟩) (Nat.lt_trans gBl zA)).trans gA3; have r4 : ws.cell? ⟨gB, 4, none⟩ = some (.slice b1 L d1) := (bx.cell (p := ⟨gB, 4, none⟩) (Nat.lt_trans gBl zA)).trans gA4; have r5 : ws.cell? ⟨gB, 5, none⟩ = some (.slice b2 L d2) := (bx.cell (p := ⟨gB, 5, none⟩) (Nat.lt_trans gBl zA)).trans gA5; have ry : ws.cell? ⟨bl, ol + j * 3 + 1, none⟩ = some (.slice ka kl kc) := (bx.cell (p := ⟨bl, ol + j * 3 + 1, none⟩) (Nat.lt_trans hblw zA)).trans yA; have gz : ws.heap[wr.heap.size]? = some (.cells #[.int .i64 0, .int .i64 0, .int .u64 0, .slice none 0 0, .slice none 0 0, .slice none 0 0] 31 (0, 0)) := (bx.block _ zA).trans (heap_alloc_new wr _); have v0 : ws.cell? ⟨wr.heap.size, 0, none⟩ = some (.int .i64 0) := cell_of_row _ _ 0 _ _ _ gz; have g0 := frozen_of_row ws wr.heap.size 0 _ _ gz; have v1 : ws.cell? ⟨wr.heap.size, 1, none⟩ = some (.int .i64 0) := cell_of_row _ _ 1 _ _ _ gz; have g1 := frozen_of_row ws wr.heap.size 1 _ _ gz; have v2 : ws.cell? ⟨wr.heap.size, 2, none⟩ = some (.int .u64 0) := cell_of_row _ _ 2 _ _ _ gz; have g2 := frozen_of_row ws wr.heap.size 2 _ _ gz; have v3 : ws.cell? ⟨wr.heap.size, 3, none⟩ = some (.slice none 0 0) := cell_of_row _ _ 3 _ _ _ gz; have g3 := frozen_of_row ws wr.heap.size 3 _ _ gz; have v4 : ws.cell? ⟨wr.heap.size, 4, none⟩ = some (.slice none 0 0) := cell_of_row _ _ 4 _ _ _ gz; have g4 := frozen_of_row ws wr.heap.size 4 _ _ gz; have v5 : ws.cell? ⟨wr.heap.size, 5, none⟩ = some (.slice none 0 0) := cell_of_row _ _ 5 _ _ _ gz; have g5 := frozen_of_row ws wr.heap.size 5 _ _ gz))
        all_goals
          go_wp2_with fail
          go_meet
          have hbs := bx.size
          have al := (Below.refl ws.heap.size ws).alloc (Nat.le_refl _) (.cells #[.int .i64 (M : Nat), .int .i64 (K : Nat), .int .u64 (seed : Nat), .slice a0 L c0, .slice a1 L c1, .slice a2 L c2] 31)
          have := bel.size
          first
          | exact ⟨ws.heap.size, a0, a1, a2, c0, c1, c2, rfl, rfl, by have := (XD.mono bx).lt; omega, by have := (below_then bel (below_then bD bx)).size; omega, (XD.mono bx).mono al, ⟨heap_alloc_new _ _, Hx.mono al⟩, below_then (below_then bD bx) al⟩
          | exact ⟨wr.heap.size, a0, a1, a2, c0, c1, c2, rfl, rfl, hnB.symm, bel.size, (box_six Hx gz (XA.mono bx) hnB).2, (box_six Hx gz (XA.mono bx) hnB).1, six_below (below_then bAA bx) (Nat.le_refl _) _ _ _ _ _ _⟩
      case rest =>
        obtain ⟨gx, a0, a1, a2, c0, c1, c2, rfl, rfl, hne, hgx, XB, Y, bel2⟩ := hcut
        have hnb : bl < wc.heap.size := Nat.lt_of_lt_of_le hblw bel2.size
        have bel3 := below_then bel bel2
        obtain ⟨n0, hn0⟩ : ∃ n0, onesV l0 = n0 := ⟨_, rfl⟩
        obtain ⟨n1, hn1⟩ : ∃ n1, onesV Z0 = n1 := ⟨_, rfl⟩
        rw [hn0, hn1] at s2 s3 s5 s6
        rw [hn1] at s4
        obtain ⟨D, hD⟩ : ∃ D : Nat, IntKind.i64.wrap ((n1 : Int) - (n0 : Int)) = (D : Int) := ⟨n1 - n0, by rw [IntWalk.i64_in _ (by omega)]; omega⟩
        have hD2 : D = n1 - n0 := by rw [IntWalk.i64_in _ (by omega)] at hD; omega
        have hFD : F = decide (0 < D) := by
          rw [← hF]
          cases ha : allV l0 ps with
          | true => have := s5 ha; simp; omega
          | false => have := s6 ha; simp; omega
        have e1 : decide ((D : Int) < 0) = false := by simp
        have e2 : decide (K < D) = false := by simp; omega
        have e3 : decide (M < n1) = false := by simp; omega
        clear hF hD2
        have qB0 : ∀ x : Later wc.heap.size wc, x.w.cell? ⟨gB, 0, none⟩ = some (.int .i64 (M : Nat)) := fun x => (XB.mono x.below).cell 0
        have qB1 : ∀ x : Later wc.heap.size wc, x.w.cell? ⟨gB, 1, none⟩ = some (.int .i64 (K : Nat)) := fun x => (XB.mono x.below).cell 1
        have qB2 : ∀ x : Later wc.heap.size wc, x.w.cell? ⟨gB, 2, none⟩ = some (.int .u64 (seed : Nat)) := fun x => (XB.mono x.below).cell 2
        have qB3 : ∀ x : Later wc.heap.size wc, x.w.cell? ⟨gB, 3, none⟩ = some (.slice b0 L d0) := fun x => (XB.mono x.below).cell 3
        have qB4 : ∀ x : Later wc.heap.size wc, x.w.cell? ⟨gB, 4, none⟩ = some (.slice b1 L d1) := fun x => (XB.mono x.below).cell 4
        have qB5 : ∀ x : Later wc.heap.size wc, x.w.cell? ⟨gB, 5, none⟩ = some (.slice b2 L d2) := fun x => (XB.mono x.below).cell 5
        have qA0 : ∀ x : Later wc.heap.size wc, x.w.cell? ⟨gx, 0, none⟩ = some (.int .i64 (M : Nat)) := fun x => (Y.mono x.below).cell 0
        have qA1 : ∀ x : Later wc.heap.size wc, x.w.cell? ⟨gx, 1, none⟩ = some (.int .i64 (K : Nat)) := fun x => (Y.mono x.below).cell 1
        have qA2 : ∀ x : Later wc.heap.size wc, x.w.cell? ⟨gx, 2, none⟩ = some (.int .u64 (seed : Nat)) := fun x => (Y.mono x.below).cell 2
        have qA3 : ∀ x : Later wc.heap.size wc, x.w.cell? ⟨gx, 3, none⟩ = some (.slice a0 L c0) := fun x => (Y.mono x.below).cell 3
        have qA4 : ∀ x : Later wc.heap.size wc, x.w.cell? ⟨gx, 4, none⟩ = some (.slice a1 L c1) := fun x => (Y.mono x.below).cell 4
        have qA5 : ∀ x : Later wc.heap.size wc, x.w.cell? ⟨gx, 5, none⟩ = some (.slice a2 L c2) := fun x => (Y.mono x.below).cell 5
        have nB : ∀ x : Later wc.heap.size wc, Calls Try.prog 19 #[.agg #[.int .i64 (M : Nat), .int .i64 (K : Nat), .int .u64 (seed : Nat), .slice b0 L d0, .slice b1 L d1, .slice b2 L d2]] x.w fun e w' => e = .returned (.int .i64 (n0 : Nat)) ∧ Below x.w.heap.size x.w w' := fun x => by
          have := ones_any x.w M K seed _ l0 l1 l2 (XB.mono x.below).store
          rwa [hn0] at this
        have nA : ∀ x : Later wc.heap.size wc, Calls Try.prog 19 #[.agg #[.int .i64 (M : Nat), .int .i64 (K : Nat), .int .u64 (seed : Nat), .slice a0 L c0, .slice a1 L c1, .slice a2 L c2]] x.w fun e w' => e = .returned (.int .i64 (n1 : Nat)) ∧ Below x.w.heap.size x.w w' := fun x => by
          have := ones_any x.w M K seed _ Z0 l1 l2 (Y.mono x.below).store
          rwa [hn1] at this
        go_wp2_with fail
        refine wp_region_later wc.heap.size wc (by kernel_rfl) (by kernel_rfl) (Below.refl _ _) ?_
        repeat (go_big_quiet_step ((first | (go_at_call_of 19 b0; refine Calls.later0 (nB _)) | (go_at_call_of 19 a0; refine Calls.later0 (nA _)))))
        refine wpQuiet_nil ?_
        intro _ hlat
        obtain ⟨x, rfl⟩ := hlat
        obtain ⟨w3, hw3⟩ : ∃ w3, x.w = w3 := ⟨_, rfl⟩
        have b3 : Below wc.heap.size wc w3 := by rw [← hw3]; exact x.below
        have nA3 := nA x
        rw [hw3] at nA3 ⊢
        replace XB := XB.mono b3
        replace Y := Y.mono b3
        replace bel3 := below_then bel3 b3
        replace hnb := Nat.lt_of_lt_of_le hnb b3.size
        clear qB0 qB1 qB2 qB3 qB4 qB5 qA0 qA1 qA2 qA3 qA4 qA5 nB nA hw3 b3 bel2
        have qA0 : w3.cell? ⟨gx, 0, none⟩ = some (.int .i64 (M : Nat)) := Y.cell 0
        have qA1 : w3.cell? ⟨gx, 1, none⟩ = some (.int .i64 (K : Nat)) := Y.cell 1
        have qA2 : w3.cell? ⟨gx, 2, none⟩ = some (.int .u64 (seed : Nat)) := Y.cell 2
        have qA3 : w3.cell? ⟨gx, 3, none⟩ = some (.slice a0 L c0) := Y.cell 3
        have qA4 : w3.cell? ⟨gx, 4, none⟩ = some (.slice a1 L c1) := Y.cell 4
        have qA5 : w3.cell? ⟨gx, 5, none⟩ = some (.slice a2 L c2) := Y.cell 5
        have hx := (hact j hjn).mono hbl bel3
        rw [hu] at hx
        have y0 := hx.c0
        simp only [] at y0
        have e4 : decide (0 < D) = F := hFD.symm
        clear hFD
        go_wp2_with fail
        refine nA3.mono ?_
        rintro e w4 ⟨rfl, b4⟩
        replace XB := XB.mono b4
        replace Y := Y.mono b4
        replace bel3 := below_then bel3 b4
        replace hnb := Nat.lt_of_lt_of_le hnb b4.size
        clear qA0 qA1 qA2 qA3 qA4 qA5 nA3 hx y0 y1 hky b4
        have hx := (hact j hjn).mono hbl bel3
        rw [hu] at hx
        have y0 := hx.c0
        have y1 := hx.c1
        have hky := hx.key
        simp only [] at y0 y1 hky
        obtain ⟨R, hR⟩ : ∃ R, rowsL ⟨kd, ka, kl, kc, key, fl⟩ ps l1 l2 = R := ⟨_, rfl⟩
        rw [hR] at s1
        have HR := Lib.hid hR
        clear hR
        go_upto_if 97 with fail
        clear e1 e2 e3 e4
        go_cut [16, 17] from 51 to 163 (fun _ _ w' => ∃ (a0 a1 a2 : Option Addr) (c0 c1 c2 : Nat), BoxAt w' gB M K seed L b0 b1 b2 d0 d1 d2 l0 l1 l2 ∧ BoxAt w' gx M K seed L a0 a1 a2 c0 c1 c2 Z0 R.1 R.2 ∧ Below w.heap.size w w')
        case first =>
          by_cases hk2 : kd % 2 = 0
          · have f2 : decide (kd % 2 = 0) = true := by simpa using hk2
            have hS : ∀ (wx : World) (z : Int), z = ((kd / 2 % 2 : Nat) : Int) → BlurAt wx M K seed (.agg #[.int .i64 (M : Nat), .int .i64 (K : Nat), .int .u64 (seed : Nat), .slice a0 L c0, .slice a1 L c1, .slice a2 L c2]) Z0 l1 l2 → BytesAt wx ka kl kc key → Calls Try.prog 13 #[.agg #[.int .i64 (M : Nat), .int .i64 (K : Nat), .int .u64 (seed : Nat), .slice a0 L c0, .slice a1 L c1, .slice a2 L c2], .slice ka kl kc, .int .i64 z] wx fun e w' => ∃ e0 e1 e2 g0 g1 g2, e = .returned (.tuple #[.agg #[.int .i64 (M : Nat), .int .i64 (K : Nat), .int .u64 (seed : Nat), .slice e0 L g0, .slice e1 L g1, .slice e2 L g2], .int .i64 0]) ∧ BlurAt w' M K seed (.agg #[.int .i64 (M : Nat), .int .i64 (K : Nat), .int .u64 (seed : Nat), .slice e0 L g0, .slice e1 L g1, .slice e2 L g2]) Z0 R.1 R.2 ∧ Below wx.heap.size wx w' := fun wx z hq hb hk => by
              have hR := HR.out
              rw [rowsL, if_pos hk2] at hR
              rcases Nat.mod_two_eq_zero_or_one (kd / 2) with h | h
              · rw [h] at hq
                subst hq
                rw [if_pos h] at hR
                have := set0_at wx (M : Nat) (K : Nat) (seed : Nat) M K seed L rfl rfl rfl HL.out _ Z0 l1 l2 ka kl kc key hb hk (by rw [hps]; exact s7)
                rw [hps] at this
                subst hR
                exact this
              · rw [h] at hq
                subst hq
                rw [if_neg (show ¬ kd / 2 % 2 = 0 by omega)] at hR
                have := set1_at wx (M : Nat) (K : Nat) (seed : Nat) M K seed L rfl rfl rfl HL.out _ Z0 l1 l2 ka kl kc key hb hk (by rw [hps]; exact s7)
                rw [hps] at this
                subst hR
                exact this
            have hkq : (IntKind.i64.wrap (IntKind.u8.wrap ((kd : Int) / 2))).tmod 2 = ((kd / 2 % 2 : Nat) : Int) := by
              rw [IntWalk.u8_in _ (by omega), IntWalk.i64_in _ (by omega), Int.tmod_eq_emod_of_nonneg (by omega)]
              omega
            have HK := Lib.hid hkq
            clear hkq
            go_upto_region 21 with fail
            go_cut [16, 17] from 51 to 163 (fun v16 v17 w' => ∃ (gy : Nat) (e0 e1 e2 : Option Addr) (g0 g1 g2 : Nat), v16 = .pointer (some ⟨gy, 0, none⟩) ∧ v17 = .int .i64 0 ∧ BoxAt w' gB M K seed L b0 b1 b2 d0 d1 d2 l0 l1 l2 ∧ BoxAt w' gx M K seed L a0 a1 a2 c0 c1 c2 Z0 l1 l2 ∧ BoxAt w' gy M K seed L e0 e1 e2 g0 g1 g2 Z0 R.1 R.2 ∧ Below w.heap.size w w')
            case first =>
              have bD : Below w4.heap.size w4 w4.drew := (Below.refl _ _).drew
              have bAA : Below w4.heap.size w4 (w4.alloc (.cells #[.int .i64 0, .int .i64 0, .int .u64 0, .slice none 0 0, .slice none 0 0, .slice none 0 0] 31)).drew := ((Below.refl _ _).alloc (Nat.le_refl _) _).drew
              have XD := XB.mono bD
              have XA := XB.mono bAA
              have YD := Y.mono bD
              have YA := Y.mono bAA
              have kD := hky.mono bD
              have kA := hky.mono bAA
              have gxl := Y.lt
              have hnX : gx ≠ w4.heap.size := Nat.ne_of_lt gxl
              have hnB : gB ≠ w4.heap.size := Nat.ne_of_lt XB.lt
              have hnL : bl ≠ w4.heap.size := Nat.ne_of_lt hnb
              have gD0 : w4.drew.cell? ⟨gx, 0, none⟩ = some (.int .i64 (M : Nat)) := YD.cell 0
              have gA0 : (w4.alloc (.cells #[.int .i64 0, .int .i64 0, .int .u64 0, .slice none 0 0, .slice none 0 0, .slice none 0 0] 31)).drew.cell? ⟨gx, 0, none⟩ = some (.int .i64 (M : Nat)) := YA.cell 0
              have gD1 : w4.drew.cell? ⟨gx, 1, none⟩ = some (.int .i64 (K : Nat)) := YD.cell 1
              have gA1 : (w4.alloc (.cells #[.int .i64 0, .int .i64 0, .int .u64 0, .slice none 0 0, .slice none 0 0, .slice none 0 0] 31)).drew.cell? ⟨gx, 1, none⟩ = some (.int .i64 (K : Nat)) := YA.cell 1
              have gD2 : w4.drew.cell? ⟨gx, 2, none⟩ = some (.int .u64 (seed : Nat)) := YD.cell 2
              have gA2 : (w4.alloc (.cells #[.int .i64 0, .int .i64 0, .int .u64 0, .slice none 0 0, .slice none 0 0, .slice none 0 0] 31)).drew.cell? ⟨gx, 2, none⟩ = some (.int .u64 (seed : Nat)) := YA.cell 2
              have gD3 : w4.drew.cell? ⟨gx, 3, none⟩ = some (.slice a0 L c0) := YD.cell 3
              have gA3 : (w4.alloc (.cells #[.int .i64 0, .int .i64 0, .int .u64 0, .slice none 0 0, .slice none 0 0, .slice none 0 0] 31)).drew.cell? ⟨gx, 3, none⟩ = some (.slice a0 L c0) := YA.cell 3
              have gD4 : w4.drew.cell? ⟨gx, 4, none⟩ = some (.slice a1 L c1) := YD.cell 4
              have gA4 : (w4.alloc (.cells #[.int .i64 0, .int .i64 0, .int .u64 0, .slice none 0 0, .slice none 0 0, .slice none 0 0] 31)).drew.cell? ⟨gx, 4, none⟩ = some (.slice a1 L c1) := YA.cell 4
              have gD5 : w4.drew.cell? ⟨gx, 5, none⟩ = some (.slice a2 L c2) := YD.cell 5
              have gA5 : (w4.alloc (.cells #[.int .i64 0, .int .i64 0, .int .u64 0, .slice none 0 0, .slice none 0 0, .slice none 0 0] 31)).drew.cell? ⟨gx, 5, none⟩ = some (.slice a2 L c2) := YA.cell 5
              have yD : w4.drew.cell? ⟨bl, ol + j * 3 + 1, none⟩ = some (.slice ka kl kc) := (bD.cell (p := ⟨bl, ol + j * 3 + 1, none⟩) hnb).trans y1
              have yA : (w4.alloc (.cells #[.int .i64 0, .int .i64 0, .int .u64 0, .slice none 0 0, .slice none 0 0, .slice none 0 0] 31)).drew.cell? ⟨bl, ol + j * 3 + 1, none⟩ = some (.slice ka kl kc) := (bAA.cell (p := ⟨bl, ol + j * 3 + 1, none⟩) hnb).trans y1
              have yyD : w4.drew.cell? ⟨bl, ol + j * 3, none⟩ = some (.int .u8 (kd : Nat)) := (bD.cell (p := ⟨bl, ol + j * 3, none⟩) hnb).trans y0
              have yyA : (w4.alloc (.cells #[.int .i64 0, .int .i64 0, .int .u64 0, .slice none 0 0, .slice none 0 0, .slice none 0 0] 31)).drew.cell? ⟨bl, ol + j * 3, none⟩ = some (.int .u8 (kd : Nat)) := (bAA.cell (p := ⟨bl, ol + j * 3, none⟩) hnb).trans y0
              have zA : w4.heap.size < (w4.alloc (.cells #[.int .i64 0, .int .i64 0, .int .u64 0, .slice none 0 0, .slice none 0 0, .slice none 0 0] 31)).drew.heap.size := by simp
              clear hx hact hu hP s1 s2 s3 s4 s5 s6 s7 hfew hk100 hA f1 y0 y1
              go_region_held3 (fun w' => w'.cell? ⟨gx, 0, none⟩ = some (.int .i64 (M : Nat)) ∧ w'.cell? ⟨gx, 1, none⟩ = some (.int .i64 (K : Nat)) ∧ w'.cell? ⟨gx, 2, none⟩ = some (.int .u64 (seed : Nat)) ∧ w'.cell? ⟨gx, 3, none⟩ = some (.slice a0 L c0) ∧ w'.cell? ⟨gx, 4, none⟩ = some (.slice a1 L c1) ∧ w'.cell? ⟨gx, 5, none⟩ = some (.slice a2 L c2) ∧ w'.cell? ⟨bl, ol + j * 3 + 1, none⟩ = some (.slice ka kl kc) ∧ w'.cell? ⟨bl, ol + j * 3, none⟩ = some (.int .u8 (kd : Nat)))
                  (first | (refine ⟨?_, ?_, ?_, ?_, ?_, ?_, ?_, ?_⟩ <;> with_reducible assumption) | (refine ⟨?_, ?_, ?_, ?_, ?_, ?_, ?_, ?_⟩; with_reducible exact cellAlloc _ _ r0; with_reducible exact cellAlloc _ _ r1; with_reducible exact cellAlloc _ _ r2; with_reducible exact cellAlloc _ _ r3; with_reducible exact cellAlloc _ _ r4; with_reducible exact cellAlloc _ _ r5; with_reducible exact cellAlloc _ _ ry; with_reducible exact cellAlloc _ _ rk) | (refine ⟨?_, ?_, ?_, ?_, ?_, ?_, ?_, ?_⟩; with_reducible exact six_cellU _ _ _ _ _ _ _ _ _ 0 hnX r0; with_reducible exact six_cellU _ _ _ _ _ _ _ _ _ 1 hnX r1; with_reducible exact six_cellU _ _ _ _ _ _ _ _ _ 2 hnX r2; with_reducible exact six_cellU _ _ _ _ _ _ _ _ _ 3 hnX r3; with_reducible exact six_cellU _ _ _ _ _ _ _ _ _ 4 hnX r4; with_reducible exact six_cellU _ _ _ _ _ _ _ _ _ 5 hnX r5; with_reducible exact six_cellU _ _ _ _ _ _ _ _ _ _ hnL ry; with_reducible exact six_cellU _ _ _ _ _ _ _ _ _ _ hnL rk))
                  (first | (go_at_call 13; refine (hS w4.drew _ HK.out YD.store kD).mono ?_; rintro e ws ⟨e0, e1, e2, g0, g1, g2, rfl, Hx, bx⟩; have r0 : ws.cell? ⟨gx, 0, none⟩ = some (.int .i64 (M : Nat)) := (bx.cell (p := ⟨gx, 0, none⟩) gxl).trans gD0; have r1 : ws.cell? ⟨gx, 1, none⟩ = some (.int .i64 (K : Nat)) := (bx.cell (p := ⟨gx, 1, none⟩) gxl).trans gD1; have r2 : ws.cell? ⟨gx, 2, none⟩ = some (.int .u64 (seed : Nat)) := (bx.cell (p := ⟨gx, 2, none⟩) gxl).trans gD2; have r3 : ws.cell? ⟨gx, 3, none⟩ = some (.slice a0 L c0) := (bx.cell (p := ⟨gx, 3, none⟩) gxl).trans gD3; have r4 : ws.cell? ⟨gx, 4, none⟩ = some (.slice a1 L c1) := (bx.cell (p := ⟨gx, 4, none⟩) gxl).trans gD4; have r5 : ws.cell? ⟨gx, 5, none⟩ = some (.slice a2 L c2) := (bx.cell (p := ⟨gx, 5, none⟩) gxl).trans gD5; have ry : ws.cell? ⟨bl, ol + j * 3 + 1, none⟩ = some (.slice ka kl kc) := (bx.cell (p := ⟨bl, ol + j * 3 + 1, none⟩) hnb).trans yD; have rk : ws.cell? ⟨bl, ol + j * 3, none⟩ = some (.int .u8 (kd : Nat)) := (bx.cell (p := ⟨bl, ol + j * 3, none⟩) hnb).trans yyD) | (go_at_call 13; refine (hS (w4.alloc (.cells #[.int .i64 0, .int .i64 0, .int .u64 0, .slice none 0 0, .slice none 0 0, .slice none 0 0] 31)).drew _ HK.out YA.store kA).mono ?_; rintro e ws ⟨e0, e1, e2, g0, g1, g2, rfl, Hx, bx⟩; have r0 : ws.cell? ⟨gx, 0, none⟩ = some (.int .i64 (M : Nat)) := (bx.cell (p := ⟨gx, 0, none⟩) (Nat.lt_trans gxl zA)).trans gA0; have r1 : ws.cell? ⟨gx, 1, none⟩ = some (.int .i64 (K : Nat)) := (bx.cell (p := ⟨gx, 1, none⟩) (Nat.lt_trans gxl zA)).trans gA1; have r2 : ws.cell? ⟨gx, 2, none⟩ = some (.int .u64 (seed : Nat)) := (bx.cell (p := ⟨gx, 2, none⟩) (Nat.lt_trans gxl zA)).trans gA2; have r3 : ws.cell? ⟨gx, 3, none⟩ = some (.slice a0 L c0) := (bx.cell (p := ⟨gx, 3, none⟩) (Nat.lt_trans gxl zA)).trans gA3; have r4 : ws.cell? ⟨gx, 4, none⟩ = some (.slice a1 L c1) := (bx.cell (p := ⟨gx, 4, none⟩) (Nat.lt_trans gxl zA)).trans gA4; have r5 : ws.cell? ⟨gx, 5, none⟩ = some (.slice a2 L c2) := (bx.cell (p := ⟨gx, 5, none⟩) (Nat.lt_trans gxl zA)).trans gA5; have ry : ws.cell? ⟨bl, ol + j * 3 + 1, none⟩ = some (.slice ka kl kc) := (bx.cell (p := ⟨bl, ol + j * 3 + 1, none⟩) (Nat.lt_trans hnb zA)).trans yA; have rk : ws.cell? ⟨bl, ol + j * 3, none⟩ = some (.int .u8 (kd : Nat)) := (bx.cell (p := ⟨bl, ol + j * 3, none⟩) (Nat.lt_trans hnb zA)).trans yyA; have gz : ws.heap[w4.heap.size]? = some (.cells #[.int .i64 0, .int .i64 0, .int .u64 0, .slice none 0 0, .slice none 0 0, .slice none 0 0] 31 (0, 0)) := (bx.block _ zA).trans (heap_alloc_new w4 _); have v0 : ws.cell? ⟨w4.heap.size, 0, none⟩ = some (.int .i64 0) := cell_of_row _ _ 0 _ _ _ gz; have q0 := frozen_of_row ws w4.heap.size 0 _ _ gz; have v1 : ws.cell? ⟨w4.heap.size, 1, none⟩ = some (.int .i64 0) := cell_of_row _ _ 1 _ _ _ gz; have q1 := frozen_of_row ws w4.heap.size 1 _ _ gz; have v2 : ws.cell? ⟨w4.heap.size, 2, none⟩ = some (.int .u64 0) := cell_of_row _ _ 2 _ _ _ gz; have q2 := frozen_of_row ws w4.heap.size 2 _ _ gz; have v3 : ws.cell? ⟨w4.heap.size, 3, none⟩ = some (.slice none 0 0) := cell_of_row _ _ 3 _ _ _ gz; have q3 := frozen_of_row ws w4.heap.size 3 _ _ gz; have v4 : ws.cell? ⟨w4.heap.size, 4, none⟩ = some (.slice none 0 0) := cell_of_row _ _ 4 _ _ _ gz; have q4 := frozen_of_row ws w4.heap.size 4 _ _ gz; have v5 : ws.cell? ⟨w4.heap.size, 5, none⟩ = some (.slice none 0 0) := cell_of_row _ _ 5 _ _ _ gz; have q5 := frozen_of_row ws w4.heap.size 5 _ _ gz))
              all_goals
                go_wp2_with fail
                go_meet
                have hbs := bx.size
                have al := (Below.refl ws.heap.size ws).alloc (Nat.le_refl _) (.cells #[.int .i64 (M : Nat), .int .i64 (K : Nat), .int .u64 (seed : Nat), .slice e0 L g0, .slice e1 L g1, .slice e2 L g2] 31)
                have := bel3.size
                first
                | exact ⟨ws.heap.size, e0, e1, e2, g0, g1, g2, rfl, rfl, (XD.mono bx).mono al, (YD.mono bx).mono al, ⟨heap_alloc_new _ _, Hx.mono al⟩, below_then bel3 (below_then (below_then bD bx) al)⟩
                | exact ⟨w4.heap.size, e0, e1, e2, g0, g1, g2, rfl, rfl, (box_six Hx gz (XA.mono bx) hnB).2, (box_six Hx gz (YA.mono bx) hnX).2, (box_six Hx gz (YA.mono bx) hnX).1, below_then bel3 (six_below (below_then bAA bx) (Nat.le_refl _) _ _ _ _ _ _)⟩
            case rest =>
              obtain ⟨gy, e0, e1, e2, g0, g1, g2, rfl, rfl, XB, Y, Z, bel4⟩ := hcut
              have gx4 := Y.row
              have gy4 := Z.row
              go_wp2_with (first | (refine wpList_load_row rfl 31 _ rfl gy rfl 31 _ _ _ gy4 Try.underlying31 rfl (by kernel_rfl) ?_) | (refine store_rec rfl 31 (.tmp 13) (.tmp 118) rfl gx #[.int .i64 (M : Nat), .int .i64 (K : Nat), .int .u64 (seed : Nat), .slice e0 L g0, .slice e1 L g1, .slice e2 L g2] rfl rfl 31 _ gx4 (by kernel_rfl) rfl (by simp [Value.oneCell']) ?_; intro w6 g6 z6 o6 b6))
              go_meet
              exact ⟨e0, e1, e2, g0, g1, g2, XB.keep Y hne.symm z6 o6, Z.over Y g6 z6 o6, bel4.trans (b6.mono hgx)⟩
          · have f2 : decide (kd % 2 = 0) = false := by simpa using hk2
            go_wp2_with fail
            go_meet
            have hR := HR.out
            rw [rowsL, if_neg hk2] at hR
            subst hR
            exact ⟨a0, a1, a2, c0, c1, c2, XB, Y, bel3⟩
        case rest =>
          obtain ⟨a0, a1, a2, c0, c1, c2, XB, Y, bel4⟩ := hcut
          have gx4 := Y.row
          have gB4 := XB.row
          clear hx y0 y1 hky bel3 hnb
          go_wp2_with (first | (refine wpList_load_row rfl 31 _ rfl gx rfl 31 _ _ _ gx4 Try.underlying31 rfl (by kernel_rfl) ?_) | (refine store_rec rfl 31 (.tmp 10) (.tmp 119) rfl gB #[.int .i64 (M : Nat), .int .i64 (K : Nat), .int .u64 (seed : Nat), .slice a0 L c0, .slice a1 L c1, .slice a2 L c2] rfl rfl 31 _ gB4 (by kernel_rfl) rfl (by simp [Value.oneCell']) ?_; intro w6 g6 z6 o6 b6))
          have X := Y.over XB g6 z6 o6
          have bel6 := bel4.trans (b6.mono hgw)
          clear Y XB gx4 gB4 g6 z6 o6 b6 bel4 bel
          go_loopw [18] (fun i w' => ∃ (j2 : Nat), j2 ≤ j + 1 ∧ i = .int .i64 (j2 : Nat) ∧ BoxAt w' gB M K seed L a0 a1 a2 c0 c1 c2 Z0 R.1 R.2 ∧ Below w.heap.size w w') (fun i _ => j + 1 - (intOf i).toNat)
          case atStart => exact ⟨0, Nat.zero_le _, rfl, X, bel6⟩
          case round =>
            clear X bel6
            obtain ⟨j2, hj2, rfl, X, bel⟩ := hrel
            by_cases hjj : j2 ≤ j
            · have f3 : decide (j2 ≤ j) = true := by simpa using hjj
              have hj2n : j2 < n := by omega
              have T := s1.there j2 (by omega)
              obtain ⟨⟨kd2, ka2, kl2, kc2, key2, fl2⟩, hu2⟩ : ∃ u, f j2 = u := ⟨_, rfl⟩
              have hx := (hact j2 hj2n).mono hbl bel
              rw [hu2] at hx T
              have kd256' := hx.kd256
              have y0 := hx.c0
              have y1 := hx.c1
              have hky := hx.key
              simp only [] at y0 y1 hky T kd256'
              obtain ⟨T1, T2, T3⟩ := T
              have hblw : bl < wr.heap.size := Nat.lt_of_lt_of_le hbl bel.size
              have qy1 : ∀ x : Later wr.heap.size wr, x.w.cell? ⟨bl, ol + j2 * 3 + 1, none⟩ = some (.slice ka2 kl2 kc2) := fun x => (x.below.cell (p := ⟨bl, ol + j2 * 3 + 1, none⟩) hblw).trans y1
              have qX0 : ∀ x : Later wr.heap.size wr, x.w.cell? ⟨gB, 0, none⟩ = some (.int .i64 (M : Nat)) := fun x => (X.mono x.below).cell 0
              have qX1 : ∀ x : Later wr.heap.size wr, x.w.cell? ⟨gB, 1, none⟩ = some (.int .i64 (K : Nat)) := fun x => (X.mono x.below).cell 1
              have qX2 : ∀ x : Later wr.heap.size wr, x.w.cell? ⟨gB, 2, none⟩ = some (.int .u64 (seed : Nat)) := fun x => (X.mono x.below).cell 2
              have qX3 : ∀ x : Later wr.heap.size wr, x.w.cell? ⟨gB, 3, none⟩ = some (.slice a0 L c0) := fun x => (X.mono x.below).cell 3
              have qX4 : ∀ x : Later wr.heap.size wr, x.w.cell? ⟨gB, 4, none⟩ = some (.slice a1 L c1) := fun x => (X.mono x.below).cell 4
              have qX5 : ∀ x : Later wr.heap.size wr, x.w.cell? ⟨gB, 5, none⟩ = some (.slice a2 L c2) := fun x => (X.mono x.below).cell 5
              have mem : ∀ x : Later wr.heap.size wr, Calls Try.prog 17 #[.agg #[.int .i64 (M : Nat), .int .i64 (K : Nat), .int .u64 (seed : Nat), .slice a0 L c0, .slice a1 L c1, .slice a2 L c2], .slice ka2 kl2 kc2] x.w fun e w' => e = .returned (.bool true) ∧ Below x.w.heap.size x.w w' := fun x => by
                have := member_any x.w M K seed _ Z0 R.1 R.2 ka2 kl2 kc2 key2 (X.mono x.below).store (hky.mono x.below)
                rwa [T1] at this
              go_wp2_with fail
              refine wp_region_later wr.heap.size wr (by kernel_rfl) (by kernel_rfl) (Below.refl _ _) ?_
              repeat (go_big_quiet_step ((go_at_call 17; refine Calls.later0 (mem _))))
              refine wpQuiet_nil ?_
              intro _ hlat
              obtain ⟨x, rfl⟩ := hlat
              obtain ⟨w5, hw5⟩ : ∃ w5, x.w = w5 := ⟨_, rfl⟩
              have b5 : Below wr.heap.size wr w5 := by rw [← hw5]; exact x.below
              rw [hw5]
              replace X := X.mono b5
              replace hky := hky.mono b5
              replace bel := below_then bel b5
              clear hx qy1 qX0 qX1 qX2 qX3 qX4 qX5 mem hw5
              replace y0 := (b5.cell (p := ⟨bl, ol + j2 * 3, none⟩) hblw).trans y0
              replace y1 := (b5.cell (p := ⟨bl, ol + j2 * 3 + 1, none⟩) hblw).trans y1
              replace hblw := Nat.lt_of_lt_of_le hblw b5.size
              clear b5
              by_cases hk2 : kd2 % 2 = 0
              · have f4 : decide (kd2 % 2 = 0) = true := by simpa using hk2
                have qy0 : ∀ x : Later w5.heap.size w5, x.w.cell? ⟨bl, ol + j2 * 3, none⟩ = some (.int .u8 (kd2 : Nat)) := fun x => (x.below.cell (p := ⟨bl, ol + j2 * 3, none⟩) hblw).trans y0
                have qy1 : ∀ x : Later w5.heap.size w5, x.w.cell? ⟨bl, ol + j2 * 3 + 1, none⟩ = some (.slice ka2 kl2 kc2) := fun x => (x.below.cell (p := ⟨bl, ol + j2 * 3 + 1, none⟩) hblw).trans y1
                have qY0 : ∀ x : Later w5.heap.size w5, x.w.cell? ⟨gB, 0, none⟩ = some (.int .i64 (M : Nat)) := fun x => (X.mono x.below).cell 0
                have qY1 : ∀ x : Later w5.heap.size w5, x.w.cell? ⟨gB, 1, none⟩ = some (.int .i64 (K : Nat)) := fun x => (X.mono x.below).cell 1
                have qY2 : ∀ x : Later w5.heap.size w5, x.w.cell? ⟨gB, 2, none⟩ = some (.int .u64 (seed : Nat)) := fun x => (X.mono x.below).cell 2
                have qY3 : ∀ x : Later w5.heap.size w5, x.w.cell? ⟨gB, 3, none⟩ = some (.slice a0 L c0) := fun x => (X.mono x.below).cell 3
                have qY4 : ∀ x : Later w5.heap.size w5, x.w.cell? ⟨gB, 4, none⟩ = some (.slice a1 L c1) := fun x => (X.mono x.below).cell 4
                have qY5 : ∀ x : Later w5.heap.size w5, x.w.cell? ⟨gB, 5, none⟩ = some (.slice a2 L c2) := fun x => (X.mono x.below).cell 5
                have gt : ∀ (x : Later w5.heap.size w5) (q : Nat), q = kd2 / 2 % 2 → Calls Try.prog 15 #[.agg #[.int .i64 (M : Nat), .int .i64 (K : Nat), .int .u64 (seed : Nat), .slice a0 L c0, .slice a1 L c1, .slice a2 L c2], .slice ka2 kl2 kc2, .int .i64 (q : Nat)] x.w fun e w' => e = .returned (.tuple #[.bool true, .int .i64 0]) ∧ Below x.w.heap.size x.w w' := fun x q hq => by
                  have T2 := T2 hk2
                  have T3 := T3 hk2
                  rcases Nat.mod_two_eq_zero_or_one (kd2 / 2) with h | h
                  · rw [h] at hq
                    subst hq
                    have := get0_ok x.w M K seed _ Z0 R.1 R.2 ka2 kl2 kc2 key2 (X.mono x.below).store (hky.mono x.below) T1
                    rwa [T2 h] at this
                  · rw [h] at hq
                    subst hq
                    have := get1_ok x.w M K seed _ Z0 R.1 R.2 ka2 kl2 kc2 key2 (X.mono x.below).store (hky.mono x.below) T1
                    rwa [T3 (by omega)] at this
                go_wp2_with fail
                refine wp_region_later w5.heap.size w5 (by kernel_rfl) (by kernel_rfl) (Below.refl _ _) ?_
                repeat (go_big_quiet_step ((go_at_call 15; refine Calls.later0 (gt _ (kd2 / 2 % 2) rfl))))
                refine wpQuiet_nil ?_
                intro _ hlat
                obtain ⟨x, rfl⟩ := hlat
                clear gt qy0 qy1 qY0 qY1 qY2 qY3 qY4 qY5
                go_wp2_with fail
                exact ⟨⟨j2 + 1, by omega, by simp, X.mono x.below, below_then bel x.below⟩, by simp [intOf]; omega⟩
              · have f4 : decide (kd2 % 2 = 0) = false := by simpa using hk2
                go_wp2_with fail
                exact ⟨⟨j2 + 1, by omega, by simp, X, bel⟩, by simp [intOf]; omega⟩
            · have f3 : decide (j2 ≤ j) = false := by simpa using hjj
              go_wp2_with fail
              exact ⟨⟨j + 1, a0, a1, a2, c0, c1, c2, Z0, R.1, R.2, by omega, by simp, X, s1, bel⟩, by simp [intOf]; omega⟩
    · have f1 : decide (j < n) = false := by simpa using hjn
      go_wp2_with fail
      go_ret
      exact ⟨rfl, bel⟩
end Go.Proofs.Ytcnpomejdnpegaa
