/- BlurAll returns true (by gen10x.py). -/
import Derived.Test.YtcnpomejdnpegaaOnMap
namespace Go.Proofs.Ytcnpomejdnpegaa
open Go.RowKit Go.Maps
set_option linter.unusedVariables false

set_option maxRecDepth 100000 in
set_option maxHeartbeats 16000000 in
theorem blurall_any (w : World) (m k seed : Nat) (al : Option Addr) (n cl : Nat) (f : Nat → KeyD) (ka : Option Addr) (kl kc : Nat) (key : List Nat) (hm : m < 256) (hk : k < 256) (sd : seed < 18446744073709551616) (hA : KeysAt w al n f) (hky : BytesAt w ka kl kc key) :
    Calls Try.prog 6 #[.agg #[.int .u8 (m : Nat), .int .u8 (k : Nat), .int .u64 (seed : Nat), .slice al n cl, .slice ka kl kc]] w fun e w' => e = .returned (.bool true) ∧ Below w.heap.size w w' := by
  have bA : ∀ o : Obj, Below w.heap.size w (w.alloc o) := fun o => (Below.refl _ _).alloc (Nat.le_refl _) _
  obtain ⟨M, hM⟩ : ∃ M : Nat, 1 + (m : Int) % 60 = (M : Int) := ⟨1 + m % 60, by omega⟩
  obtain ⟨K, hK⟩ : ∃ K : Nat, 1 + (k : Int) % 16 = (K : Int) := ⟨1 + k % 16, by omega⟩
  have m1 : 1 ≤ M := by omega
  have m2 : M ≤ 4194304 := by omega
  have m3 : M ≤ 60 := by omega
  have k1 : 1 ≤ K := by omega
  have k2 : K ≤ 16 := by omega
  obtain ⟨L, hL⟩ : ∃ L, (M + 7) / 8 = L := ⟨_, rfl⟩
  have hML : M ≤ 8 * L := by omega
  have HL := Lib.hid hL
  clear hL
  have nb := hA.small
  have hks := hky.small
  have hmm := @run_makeMap Try.prog
  go_enter Try.func6, Try.ntmps6
  go_wp2_with fail
  refine (shown_any _).mono ?_
  rintro e w0 ⟨rfl, b0⟩
  have bt := below_then (bA _) b0
  clear b0
  by_cases hn : 100 < n
  · have f1 : decide ((100 : Int) < (n : Int)) = true := by simp; omega
    go_wp2_with fail
    go_ret
    exact ⟨rfl, bt⟩
  have f1 : decide ((100 : Int) < (n : Int)) = false := by simp; omega
  by_cases hkl : 100 < kl
  · have f2 : decide ((100 : Int) < (kl : Int)) = true := by simp; omega
    go_wp2_with fail
    go_ret
    exact ⟨rfl, bt⟩
  have f2 : decide ((100 : Int) < (kl : Int)) = false := by simp; omega
  go_wp2_with fail
  refine (new_at _ (M : Nat) (K : Nat) (seed : Nat) M K seed L rfl rfl rfl HL.out m1 m2 k1 k2 sd).mono ?_
  rintro e w1 ⟨b0', b1', b2', d0', d1', d2', rfl, Hb, b1⟩
  replace bt := below_then bt b1
  have hgw := bt.size
  have A1 := (Below.refl w1.heap.size w1).alloc (Nat.le_refl _) (.cells #[.int .i64 (M : Nat), .int .i64 (K : Nat), .int .u64 (seed : Nat), .slice b0' L d0', .slice b1' L d1', .slice b2' L d2'] 31)
  have X1 : BoxAt (w1.alloc (.cells #[.int .i64 (M : Nat), .int .i64 (K : Nat), .int .u64 (seed : Nat), .slice b0' L d0', .slice b1' L d1', .slice b2' L d2'] 31)) w1.heap.size M K seed L b0' b1' b2' d0' d1' d2' (List.replicate L 0) (List.replicate L 0) (List.replicate L 0) := ⟨heap_alloc_new _ _, Hb.mono A1⟩
  replace bt := below_then bt A1
  obtain ⟨gB, hgB⟩ : ∃ gB, w1.heap.size = gB := ⟨_, rfl⟩
  have hP0 := OnMap.made (w1.alloc (.cells #[.int .i64 (M : Nat), .int .i64 (K : Nat), .int .u64 (seed : Nat), .slice b0' L d0', .slice b1' L d1', .slice b2' L d2'] 31))
  have A2 := (Below.refl (w1.alloc (.cells #[.int .i64 (M : Nat), .int .i64 (K : Nat), .int .u64 (seed : Nat), .slice b0' L d0', .slice b1' L d1', .slice b2' L d2'] 31)).heap.size (w1.alloc (.cells #[.int .i64 (M : Nat), .int .i64 (K : Nat), .int .u64 (seed : Nat), .slice b0' L d0', .slice b1' L d1', .slice b2' L d2'] 31))).alloc (Nat.le_refl _) (.map #[] 0)
  replace X1 := X1.mono A2
  replace bt := below_then bt A2
  rw [World.size_alloc] at hP0
  rw [hgB] at X1 hgw hP0
  clear A1 A2 b1 Hb
  have hRz := RowOf.zero L
  obtain ⟨Zr, hZr⟩ : ∃ Zr, List.replicate L 0 = Zr := ⟨_, rfl⟩
  have hZl : Zr.length = L := by rw [← hZr]; exact List.length_replicate
  rw [hZr] at X1 hRz
  clear hZr
  go_wp2_with fail
  go_loopw [14] (fun i w' => ∃ (j : Nat) (b0 b1 b2 : Option Addr) (d0 d1 d2 : Nat) (l0 on : List Nat), j ≤ n ∧ i = .int .i64 (j : Nat) ∧ BoxAt w' gB M K seed L b0 b1 b2 d0 d1 d2 l0 Zr Zr ∧ OnMap w' (gB + 1) (j * 16) on ∧ RowOf l0 on ∧ on.Nodup ∧ (∀ p ∈ on, p < M) ∧ l0.length = L ∧ Below w.heap.size w w') (fun i _ => n - (intOf i).toNat)
  case atStart => exact ⟨0, b0', b1', b2', d0', d1', d2', Zr, [], Nat.zero_le _, rfl, X1, hP0, hRz, List.nodup_nil, (fun p hp => by simp at hp), hZl, bt⟩
  case round =>
    clear X1 bt hP0 hRz hZl hgB hmm
    obtain ⟨j, b0, b1, b2, d0, d1, d2, l0, on, hj, rfl, X, hO, hR, nd, hlt, hll, bel⟩ := hrel
    by_cases hjn : j < n
    · have f3 : decide (j < n) = true := by simpa using hjn
      obtain ⟨bl, ol, rfl, hbl, hact⟩ := hA.at_.resolve_left (by omega)
      obtain ⟨⟨ka2, kl2, kc2, key2⟩, hu⟩ : ∃ u, f j = u := ⟨_, rfl⟩
      have hkey : ∀ w' : World, Below w.heap.size w w' → BytesAt w' ka2 kl2 kc2 key2 := fun w' hb => by
        have := (hact j hjn).2.mono hb
        rwa [hu] at this
      have y1 : wr.cell? ⟨bl, ol + j, none⟩ = some (.slice ka2 kl2 kc2) := by
        have := (bel.cell (p := ⟨bl, ol + j, none⟩) hbl).trans (hact j hjn).1
        rwa [hu] at this
      have hblw : bl < wr.heap.size := Nat.lt_of_lt_of_le hbl bel.size
      have hks2 := (hkey wr bel).small
      clear hact hu
      by_cases h20 : 20 < kl2
      · have f4 : decide ((20 : Int) < (kl2 : Int)) = true := by simp; omega
        go_wp2_with fail
        go_ret
        exact ⟨rfl, bel⟩
      have f4 : decide ((20 : Int) < (kl2 : Int)) = false := by simp; omega
      go_wp2_with fail
      refine (refPlacesN wr ka2 kl2 kc2 key2 seed M K sd m2 k1 k2 (hkey wr bel)).mono ?_
      rintro e w1 ⟨pa, pc, rfl, hip, b1⟩
      replace X := X.mono b1
      replace hO := hO.mono b1
      replace bel := below_then bel b1
      replace y1 := (b1.cell (p := ⟨bl, ol + j, none⟩) hblw).trans y1
      replace hblw := Nat.lt_of_lt_of_le hblw b1.size
      clear b1
      have hp := placesN_lt key2 seed M K m1
      have hpl := placesN_length key2 seed M K
      obtain ⟨ps, hps⟩ : ∃ ps, placesN key2 seed M K = ps := ⟨_, rfl⟩
      rw [hps] at hp hpl hip
      go_wp2_with fail
      go_loopw [16] (fun i w' => ∃ (q : Nat), q ≤ K ∧ i = .int .i64 (q : Nat) ∧ OnMap w' (gB + 1) (j * 16 + q) (withV on (ps.take q)) ∧ (∀ c, c < w1.heap.size → c ≠ gB + 1 → w'.heap[c]? = w1.heap[c]?) ∧ w1.heap.size ≤ w'.heap.size ∧ Below w.heap.size w w') (fun i _ => K - (intOf i).toNat)
      case atStart => exact ⟨0, Nat.zero_le _, rfl, hO, fun _ _ _ => rfl, Nat.le_refl _, bel⟩
      case round =>
        obtain ⟨q, hq, rfl, hO2, ho, hsz, bel2⟩ := hrel
        by_cases hqk : q < K
        · have f5 : decide (q < K) = true := by simpa using hqk
          obtain ⟨bp, op, rfl, hbp, hat⟩ := (hip.offmap hO hsz ho).at_.resolve_left (by omega)
          have yq := hat q hqk
          have hv : ps.getD q 0 < M := by
            rw [List.getD_eq_getElem?_getD, List.getElem?_eq_getElem (by omega)]
            exact hp _ (List.getElem_mem _)
          have hst : withV on (ps.take (q + 1)) = if ps.getD q 0 ∈ withV on (ps.take q) then withV on (ps.take q) else withV on (ps.take q) ++ [ps.getD q 0] := by rw [take_snoc ps q (by omega), withV_snoc]
          obtain ⟨v, hv0⟩ : ∃ v, ps.getD q 0 = v := ⟨_, rfl⟩
          rw [hv0] at yq hv hst
          have HS := Lib.hid hst
          obtain ⟨D, hown, hD⟩ := hO2
          clear hat hst hv0
          go_wp2_with (first | (at_mapUpdate; refine wpList_mapUpdate_own _ rfl _ _ _ 67 rfl 3 4 int_law Try.underlying67 _ (gB + 1) (j * 16 + q) D rfl hown (by unfold maxLen; omega) _ _ (.int .i64 (v : Nat)) rfl rfl (keyOf_int_mk Try.underlying3 (wf_i64_nat (by omega))) (.lit (.bool true)) [] (plainElem_bool Try.underlying4 true) ?_; intro w9 hown9 hg9))
          refine ⟨⟨q + 1, by omega, by simp, by rw [HS.out]; exact onMap_put hown hD v hown9, fun c hc hne => (hg9.block c (Nat.lt_of_lt_of_le hc hsz) (fun he => hne (Option.some.inj he))).trans (ho c hc hne), Nat.le_trans hsz hg9.size, bel2.grown hg9 bel2.size (fun c hc => by cases hc; omega)⟩, by simp [intOf]; omega⟩
        · have f5 : decide (q < K) = false := by simpa using hqk
          obtain rfl : K = q := by omega
          rw [List.take_of_length_le (by omega)] at hO2
          replace X := X.offmap hO hsz ho
          replace y1 : wr.cell? ⟨bl, ol + j, none⟩ = some (.slice ka2 kl2 kc2) := (World.cell?_of_block (a := ⟨bl, ol + j, none⟩) (ho bl hblw (by show bl ≠ gB + 1; omega))).trans y1
          replace hblw := Nat.lt_of_lt_of_le hblw hsz
          have hky2 := hkey wr bel2
          have hF := hR.ins ps (fun p h => by have := hp p h; omega)
          have hnd := withV_nodup ps on nd
          have hlt2 := with_lt hlt hp
          have hlen2 : (insV l0 ps).length = L := (insV_length _ _).trans hll
          clear hO ho hsz bel hkey hip f5
          obtain ⟨F, hF0⟩ : ∃ F, (!allV l0 ps) = F := ⟨_, rfl⟩
          obtain ⟨Z0, hZ0⟩ : ∃ Z0, insV l0 ps = Z0 := ⟨_, rfl⟩
          rw [hZ0] at hF hlen2
          obtain ⟨on2, hon2⟩ : ∃ on2, withV on ps = on2 := ⟨_, rfl⟩
          rw [hon2] at hO2 hF hnd hlt2
          go_upto_region 25 with fail
          go_cut [17, 18] from 62 to 103 (fun v17 v18 w' => ∃ (gx : Nat) (a0 a1 a2 : Option Addr) (c0 c1 c2 : Nat), v17 = .pointer (some ⟨gx, 0, none⟩) ∧ BoxAt w' gB M K seed L b0 b1 b2 d0 d1 d2 l0 Zr Zr ∧ BoxAt w' gx M K seed L a0 a1 a2 c0 c1 c2 Z0 Zr Zr ∧ OnMap w' (gB + 1) (j * 16 + K) on2 ∧ Below w.heap.size w w')
          case first =>
            have bD : Below wr.heap.size wr wr.drew := (Below.refl _ _).drew
            have bAA : Below wr.heap.size wr (wr.alloc (.cells #[.int .i64 0, .int .i64 0, .int .u64 0, .slice none 0 0, .slice none 0 0, .slice none 0 0] 31)).drew := ((Below.refl _ _).alloc (Nat.le_refl _) _).drew
            have XD := X.mono bD
            have XA := X.mono bAA
            have kD := hky2.mono bD
            have kA := hky2.mono bAA
            have gBl := X.lt
            have hnB : gB ≠ wr.heap.size := Nat.ne_of_lt gBl
            have hnb : bl ≠ wr.heap.size := Nat.ne_of_lt hblw
            have gD0 : wr.drew.cell? ⟨gB, 0, none⟩ = some (.int .i64 (M : Nat)) := XD.cell 0
            have gA0 : (wr.alloc (.cells #[.int .i64 0, .int .i64 0, .int .u64 0, .slice none 0 0, .slice none 0 0, .slice none 0 0] 31)).drew.cell? ⟨gB, 0, none⟩ = some (.int .i64 (M : Nat)) := XA.cell 0
            have gD1 : wr.drew.cell? ⟨gB, 1, none⟩ = some (.int .i64 (K : Nat)) := XD.cell 1
            have gA1 : (wr.alloc (.cells #[.int .i64 0, .int .i64 0, .int .u64 0, .slice none 0 0, .slice none 0 0, .slice none 0 0] 31)).drew.cell? ⟨gB, 1, none⟩ = some (.int .i64 (K : Nat)) := XA.cell 1
            have gD2 : wr.drew.cell? ⟨gB, 2, none⟩ = some (.int .u64 (seed : Nat)) := XD.cell 2
            have gA2 : (wr.alloc (.cells #[.int .i64 0, .int .i64 0, .int .u64 0, .slice none 0 0, .slice none 0 0, .slice none 0 0] 31)).drew.cell? ⟨gB, 2, none⟩ = some (.int .u64 (seed : Nat)) := XA.cell 2
            have gD3 : wr.drew.cell? ⟨gB, 3, none⟩ = some (.slice b0 L d0) := XD.cell 3
            have gA3 : (wr.alloc (.cells #[.int .i64 0, .int .i64 0, .int .u64 0, .slice none 0 0, .slice none 0 0, .slice none 0 0] 31)).drew.cell? ⟨gB, 3, none⟩ = some (.slice b0 L d0) := XA.cell 3
            have gD4 : wr.drew.cell? ⟨gB, 4, none⟩ = some (.slice b1 L d1) := XD.cell 4
            have gA4 : (wr.alloc (.cells #[.int .i64 0, .int .i64 0, .int .u64 0, .slice none 0 0, .slice none 0 0, .slice none 0 0] 31)).drew.cell? ⟨gB, 4, none⟩ = some (.slice b1 L d1) := XA.cell 4
            have gD5 : wr.drew.cell? ⟨gB, 5, none⟩ = some (.slice b2 L d2) := XD.cell 5
            have gA5 : (wr.alloc (.cells #[.int .i64 0, .int .i64 0, .int .u64 0, .slice none 0 0, .slice none 0 0, .slice none 0 0] 31)).drew.cell? ⟨gB, 5, none⟩ = some (.slice b2 L d2) := XA.cell 5
            have yD : wr.drew.cell? ⟨bl, ol + j, none⟩ = some (.slice ka2 kl2 kc2) := (bD.cell (p := ⟨bl, ol + j, none⟩) hblw).trans y1
            have yA : (wr.alloc (.cells #[.int .i64 0, .int .i64 0, .int .u64 0, .slice none 0 0, .slice none 0 0, .slice none 0 0] 31)).drew.cell? ⟨bl, ol + j, none⟩ = some (.slice ka2 kl2 kc2) := (bAA.cell (p := ⟨bl, ol + j, none⟩) hblw).trans y1
            have hI2 : ∀ wx : World, BlurAt wx M K seed (.agg #[.int .i64 (M : Nat), .int .i64 (K : Nat), .int .u64 (seed : Nat), .slice b0 L d0, .slice b1 L d1, .slice b2 L d2]) l0 Zr Zr → BytesAt wx ka2 kl2 kc2 key2 → Calls Try.prog 11 #[.agg #[.int .i64 (M : Nat), .int .i64 (K : Nat), .int .u64 (seed : Nat), .slice b0 L d0, .slice b1 L d1, .slice b2 L d2], .slice ka2 kl2 kc2] wx fun e w' => ∃ a0 a1 a2 c0 c1 c2, e = .returned (.tuple #[.agg #[.int .i64 (M : Nat), .int .i64 (K : Nat), .int .u64 (seed : Nat), .slice a0 L c0, .slice a1 L c1, .slice a2 L c2], .bool F]) ∧ BlurAt w' M K seed (.agg #[.int .i64 (M : Nat), .int .i64 (K : Nat), .int .u64 (seed : Nat), .slice a0 L c0, .slice a1 L c1, .slice a2 L c2]) Z0 Zr Zr ∧ Below wx.heap.size wx w' := fun wx hs hk => by
              have := insert_at wx (M : Nat) (K : Nat) (seed : Nat) M K seed L rfl rfl rfl HL.out _ l0 Zr Zr ka2 kl2 kc2 key2 hs hk
              rw [hps, hF0] at this
              rw [← hZ0]
              exact this
            have zA : wr.heap.size < (wr.alloc (.cells #[.int .i64 0, .int .i64 0, .int .u64 0, .slice none 0 0, .slice none 0 0, .slice none 0 0] 31)).drew.heap.size := by simp
            clear hF hnd hlt2 hlen2 hA f3 f4 y1 hR nd hlt hp hpl hps hF0 hZ0 hon2
            go_region_held3 (fun w' => w'.cell? ⟨gB, 0, none⟩ = some (.int .i64 (M : Nat)) ∧ w'.cell? ⟨gB, 1, none⟩ = some (.int .i64 (K : Nat)) ∧ w'.cell? ⟨gB, 2, none⟩ = some (.int .u64 (seed : Nat)) ∧ w'.cell? ⟨gB, 3, none⟩ = some (.slice b0 L d0) ∧ w'.cell? ⟨gB, 4, none⟩ = some (.slice b1 L d1) ∧ w'.cell? ⟨gB, 5, none⟩ = some (.slice b2 L d2) ∧ w'.cell? ⟨bl, ol + j, none⟩ = some (.slice ka2 kl2 kc2))
                (first | (refine ⟨?_, ?_, ?_, ?_, ?_, ?_, ?_⟩ <;> with_reducible assumption) | (refine ⟨?_, ?_, ?_, ?_, ?_, ?_, ?_⟩; with_reducible exact cellAlloc _ _ r0; with_reducible exact cellAlloc _ _ r1; with_reducible exact cellAlloc _ _ r2; with_reducible exact cellAlloc _ _ r3; with_reducible exact cellAlloc _ _ r4; with_reducible exact cellAlloc _ _ r5; with_reducible exact cellAlloc _ _ ry) | (refine ⟨?_, ?_, ?_, ?_, ?_, ?_, ?_⟩; with_reducible exact six_cellU _ _ _ _ _ _ _ _ _ 0 hnB r0; with_reducible exact six_cellU _ _ _ _ _ _ _ _ _ 1 hnB r1; with_reducible exact six_cellU _ _ _ _ _ _ _ _ _ 2 hnB r2; with_reducible exact six_cellU _ _ _ _ _ _ _ _ _ 3 hnB r3; with_reducible exact six_cellU _ _ _ _ _ _ _ _ _ 4 hnB r4; with_reducible exact six_cellU _ _ _ _ _ _ _ _ _ 5 hnB r5; with_reducible exact six_cellU _ _ _ _ _ _ _ _ _ _ hnb ry))
                (first | (go_at_call 11; refine (hI2 wr.drew XD.store kD).mono ?_; rintro e ws ⟨a0, a1, a2, c0, c1, c2, rfl, Hx, bx⟩; have r0 : ws.cell? ⟨gB, 0, none⟩ = some (.int .i64 (M : Nat)) := (bx.cell (p := ⟨gB, 0, none⟩) gBl).trans gD0; have r1 : ws.cell? ⟨gB, 1, none⟩ = some (.int .i64 (K : Nat)) := (bx.cell (p := ⟨gB, 1, none⟩) gBl).trans gD1; have r2 : ws.cell? ⟨gB, 2, none⟩ = some (.int .u64 (seed : Nat)) := (bx.cell (p := ⟨gB, 2, none⟩) gBl).trans gD2; have r3 : ws.cell? ⟨gB, 3, none⟩ = some (.slice b0 L d0) := (bx.cell (p := ⟨gB, 3, none⟩) gBl).trans gD3; have r4 : ws.cell? ⟨gB, 4, none⟩ = some (.slice b1 L d1) := (bx.cell (p := ⟨gB, 4, none⟩) gBl).trans gD4; have r5 : ws.cell? ⟨gB, 5, none⟩ = some (.slice b2 L d2) := (bx.cell (p := ⟨gB, 5, none⟩) gBl).trans gD5; have ry : ws.cell? ⟨bl, ol + j, none⟩ = some (.slice ka2 kl2 kc2) := (bx.cell (p := ⟨bl, ol + j, none⟩) hblw).trans yD) | (go_at_call 11; refine (hI2 (wr.alloc (.cells #[.int .i64 0, .int .i64 0, .int .u64 0, .slice none 0 0, .slice none 0 0, .slice none 0 0] 31)).drew XA.store kA).mono ?_; rintro e ws ⟨a0, a1, a2, c0, c1, c2, rfl, Hx, bx⟩; have r0 : ws.cell? ⟨gB, 0, none⟩ = some (.int .i64 (M : Nat)) := (bx.cell (p := ⟨gB, 0, none⟩) (Nat.lt_trans gBl zA)).trans gA0; have r1 : ws.cell? ⟨gB, 1, none⟩ = some (.int .i64 (K : Nat)) := (bx.cell (p := ⟨gB, 1, none⟩) (Nat.lt_trans gBl zA)).trans gA1; have r2 : ws.cell? ⟨gB, 2, none⟩ = some (.int .u64 (seed : Nat)) := (bx.cell (p := ⟨gB, 2, none⟩) (Nat.lt_trans gBl zA)).trans gA2; have r3 : ws.cell? ⟨gB, 3, none⟩ = some (.slice b0 L d0) := (bx.cell (p := ⟨gB, 3, none⟩) (Nat.lt_trans gBl zA)).trans gA3; have r4 : ws.cell? ⟨gB, 4, none⟩ = some (.slice b1 L d1) := (bx.cell (p := ⟨gB, 4, none⟩) (Nat.lt_trans gBl zA)).trans gA4; have r5 : ws.cell? ⟨gB, 5, none⟩ = some (.slice b2 L d2) := (bx.cell (p := ⟨gB, 5, none⟩) (Nat.lt_trans gBl zA)).trans gA5; have ry : ws.cell? ⟨bl, ol + j, none⟩ = some (.slice ka2 kl2 kc2) := (bx.cell (p := ⟨bl, ol + j, none⟩) (Nat.lt_trans hblw zA)).trans yA; have gz : ws.heap[wr.heap.size]? = some (.cells #[.int .i64 0, .int .i64 0, .int .u64 0, .slice none 0 0, .slice none 0 0, .slice none 0 0] 31 (0, 0)) := (bx.block _ zA).trans (heap_alloc_new wr _); have v0 : ws.cell? ⟨wr.heap.size, 0, none⟩ = some (.int .i64 0) := cell_of_row _ _ 0 _ _ _ gz; have g0 := frozen_of_row ws wr.heap.size 0 _ _ gz; have v1 : ws.cell? ⟨wr.heap.size, 1, none⟩ = some (.int .i64 0) := cell_of_row _ _ 1 _ _ _ gz; have g1 := frozen_of_row ws wr.heap.size 1 _ _ gz; have v2 : ws.cell? ⟨wr.heap.size, 2, none⟩ = some (.int .u64 0) := cell_of_row _ _ 2 _ _ _ gz; have g2 := frozen_of_row ws wr.heap.size 2 _ _ gz; have v3 : ws.cell? ⟨wr.heap.size, 3, none⟩ = some (.slice none 0 0) := cell_of_row _ _ 3 _ _ _ gz; have g3 := frozen_of_row ws wr.heap.size 3 _ _ gz; have v4 : ws.cell? ⟨wr.heap.size, 4, none⟩ = some (.slice none 0 0) := cell_of_row _ _ 4 _ _ _ gz; have g4 := frozen_of_row ws wr.heap.size 4 _ _ gz; have v5 : ws.cell? ⟨wr.heap.size, 5, none⟩ = some (.slice none 0 0) := cell_of_row _ _ 5 _ _ _ gz; have g5 := frozen_of_row ws wr.heap.size 5 _ _ gz))
            all_goals
              go_wp2_with fail
              go_meet
              have hbs := bx.size
              have al := (Below.refl ws.heap.size ws).alloc (Nat.le_refl _) (.cells #[.int .i64 (M : Nat), .int .i64 (K : Nat), .int .u64 (seed : Nat), .slice a0 L c0, .slice a1 L c1, .slice a2 L c2] 31)
              first
              | exact ⟨ws.heap.size, a0, a1, a2, c0, c1, c2, rfl, (XD.mono bx).mono al, ⟨heap_alloc_new _ _, Hx.mono al⟩, hO2.mono (below_then (below_then bD bx) al), below_then bel2 (below_then (below_then bD bx) al)⟩
              | exact ⟨wr.heap.size, a0, a1, a2, c0, c1, c2, rfl, (box_six Hx gz (XA.mono bx) hnB).2, (box_six Hx gz (XA.mono bx) hnB).1, hO2.mono (six_below (below_then bAA bx) (Nat.le_refl _) _ _ _ _ _ _), below_then bel2 (six_below (below_then bAA bx) (Nat.le_refl _) _ _ _ _ _ _)⟩
          case rest =>
            obtain ⟨gx, a0, a1, a2, c0, c1, c2, rfl, XB, Y, hO3, bel3⟩ := hcut
            clear hO2 X y1 hky2 bel2
            have rB := XB.row
            have rX := Y.row
            go_wp2_with (first | (refine wpList_load_row rfl 31 _ rfl gx rfl 31 _ _ _ rX Try.underlying31 rfl (by kernel_rfl) ?_) | (refine store_rec rfl 31 (.tmp 11) (.tmp 103) rfl gB #[.int .i64 (M : Nat), .int .i64 (K : Nat), .int .u64 (seed : Nat), .slice a0 L c0, .slice a1 L c1, .slice a2 L c2] rfl rfl 31 _ rB (by kernel_rfl) rfl (by simp [Value.oneCell']) ?_; intro w6 g6 z6 o6 b6))
            exact ⟨⟨j + 1, a0, a1, a2, c0, c1, c2, Z0, on2, by omega, by simp, Y.over XB g6 z6 o6, (hO3.block (o6 (gB + 1) (by omega))).more (by omega), hF, hnd, hlt2, hlen2, bel3.trans (b6.mono hgw)⟩, by simp [intOf]; omega⟩
    · have f3 : decide (j < n) = false := by simpa using hjn
      have hky0 : ∀ w' : World, Below w.heap.size w w' → BytesAt w' ka kl kc key := fun w' hb => hky.mono hb
      have hns := (TellP.small ⟨hR, RowOf.zero L, RowOf.zero L, nd, List.nodup_nil, List.nodup_nil, hlt, (fun p hp => by simp at hp), (fun p hp => by simp at hp), hll, List.length_replicate, List.length_replicate⟩ : on.length ≤ M ∧ _).1
      clear hky hA
      go_wp2_with fail
      refine (refPlacesN wr ka kl kc key seed M K sd m2 k1 k2 (hky0 wr bel)).mono ?_
      rintro e w1 ⟨pa, pc, rfl, hip, b1⟩
      replace X := X.mono b1
      replace hO := hO.mono b1
      replace bel := below_then bel b1
      clear b1
      have hp := placesN_lt key seed M K m1
      have hpl := placesN_length key seed M K
      obtain ⟨ps, hps⟩ : ∃ ps, placesN key seed M K = ps := ⟨_, rfl⟩
      rw [hps] at hp hpl hip
      go_wp2_with fail
      go_loop [19, 21] (fun v i => ∃ q : Nat, q ≤ K ∧ i = .int .i64 (q : Nat) ∧ v = .bool ((ps.take q).all (fun p => decide (p ∈ on)))) (fun _ i => K - (intOf i).toNat)
      case atStart => exact ⟨0, Nat.zero_le _, rfl, rfl⟩
      case round =>
        obtain ⟨q, hq, rfl, rfl⟩ := hrel
        by_cases hqk : q < K
        · have f5 : decide (q < K) = true := by simpa using hqk
          obtain ⟨bp, op, rfl, hbp, hat⟩ := hip.at_.resolve_left (by omega)
          have yq := hat q hqk
          have hv : ps.getD q 0 < M := by
            rw [List.getD_eq_getElem?_getD, List.getElem?_eq_getElem (by omega)]
            exact hp _ (List.getElem_mem _)
          have hst : (ps.take (q + 1)).all (fun p => decide (p ∈ on)) = ((ps.take q).all (fun p => decide (p ∈ on)) && decide (ps.getD q 0 ∈ on)) := by rw [take_snoc ps q (by omega), List.all_append]; simp
          obtain ⟨v, hv0⟩ : ∃ v, ps.getD q 0 = v := ⟨_, rfl⟩
          rw [hv0] at yq hv hst
          have hlk := hO.look v (by omega)
          obtain ⟨T, hT⟩ : ∃ T, (ps.take q).all (fun p => decide (p ∈ on)) = T := ⟨_, rfl⟩
          obtain ⟨U, hU⟩ : ∃ U, decide (v ∈ on) = U := ⟨_, rfl⟩
          rw [hT] at hst ⊢
          rw [hU] at hst hlk
          have HS := Lib.hid hst
          clear hat hst hv0 hT hU
          cases T with
          | true =>
            go_wp2_with fail
            exact ⟨⟨q + 1, by omega, by simp, by rw [HS.out]; rfl⟩, by simp [intOf]; omega⟩
          | false =>
            go_wp2_with fail
            exact ⟨⟨q + 1, by omega, by simp, by rw [HS.out]; rfl⟩, by simp [intOf]; omega⟩
        · have f5 : decide (q < K) = false := by simpa using hqk
          obtain rfl : K = q := by omega
          rw [List.take_of_length_le (by omega)]
          have hI : ∀ wx : World, BlurAt wx M K seed (.agg #[.int .i64 (M : Nat), .int .i64 (K : Nat), .int .u64 (seed : Nat), .slice b0 L d0, .slice b1 L d1, .slice b2 L d2]) l0 Zr Zr → BytesAt wx ka kl kc key → Calls Try.prog 11 #[.agg #[.int .i64 (M : Nat), .int .i64 (K : Nat), .int .u64 (seed : Nat), .slice b0 L d0, .slice b1 L d1, .slice b2 L d2], .slice ka kl kc] wx fun e w' => ∃ a0 a1 a2 c0 c1 c2, e = .returned (.tuple #[.agg #[.int .i64 (M : Nat), .int .i64 (K : Nat), .int .u64 (seed : Nat), .slice a0 L c0, .slice a1 L c1, .slice a2 L c2], .bool (!allV l0 ps)]) ∧ BlurAt w' M K seed (.agg #[.int .i64 (M : Nat), .int .i64 (K : Nat), .int .u64 (seed : Nat), .slice a0 L c0, .slice a1 L c1, .slice a2 L c2]) (insV l0 ps) Zr Zr ∧ Below wx.heap.size wx w' := fun wx hs hk => by
            have := insert_at wx (M : Nat) (K : Nat) (seed : Nat) M K seed L rfl rfl rfl HL.out _ l0 Zr Zr ka kl kc key hs hk
            rw [hps] at this
            exact this
          have hmb : ∀ wx : World, BlurAt wx M K seed (.agg #[.int .i64 (M : Nat), .int .i64 (K : Nat), .int .u64 (seed : Nat), .slice b0 L d0, .slice b1 L d1, .slice b2 L d2]) l0 Zr Zr → BytesAt wx ka kl kc key → Calls Try.prog 17 #[.agg #[.int .i64 (M : Nat), .int .i64 (K : Nat), .int .u64 (seed : Nat), .slice b0 L d0, .slice b1 L d1, .slice b2 L d2], .slice ka kl kc] wx fun e w' => e = .returned (.bool (allV l0 ps)) ∧ Below wx.heap.size wx w' := fun wx hs hk => by
            have := member_any wx M K seed _ l0 Zr Zr ka kl kc key hs hk
            rwa [hps] at this
          have hon : onesV l0 = on.length := hR.many
          have hTA : allV l0 ps = ps.all (fun p => decide (p ∈ on)) := hR.all ps
          have hbig : on.length = M → ps.all (fun p => decide (p ∈ on)) = true := fun he => List.all_eq_true.2 fun p hpp => decide_eq_true (all_in nd hlt he p (hp p hpp))
          have hins : allV l0 ps = true → onesV (insV l0 ps) = on.length := fun ha => by rw [insV, if_pos ha]; exact hon
          obtain ⟨Z1, hZ1⟩ : ∃ Z1, insV l0 ps = Z1 := ⟨_, rfl⟩
          obtain ⟨T, hT⟩ : ∃ T, ps.all (fun p => decide (p ∈ on)) = T := ⟨_, rfl⟩
          obtain ⟨n0, hn0⟩ : ∃ n0, on.length = n0 := ⟨_, rfl⟩
          rw [hT] at hTA hbig ⊢
          rw [hTA] at hI hmb hins
          rw [hZ1] at hI hins
          rw [hn0] at hon hbig hins hns
          have hlen : ∀ wx : World, OnMap wx (gB + 1) (j * 16) on → (Builtin.len_ #[67] 3 #[.map (some (gB + 1))]).run Try.prog wx = .ok (.int .i64 (n0 : Nat)) wx := fun wx h => by rw [← hn0]; exact h.len _
          have rB := X.row
          clear hT hTA hZ1 hn0 hR nd hlt hll hp hpl hip hps f3 f5
          go_wp2_with (refine wpList_load_row rfl 31 _ rfl gB rfl 31 _ _ _ rB Try.underlying31 rfl (by kernel_rfl) ?_)
          refine (hI _ X.store (hky0 _ bel)).mono ?_
          rintro e w2 ⟨a0, a1, a2, c0, c1, c2, rfl, Hx, b2⟩
          have A2 := (Below.refl w2.heap.size w2).alloc (Nat.le_refl _) (.cells #[.int .i64 (M : Nat), .int .i64 (K : Nat), .int .u64 (seed : Nat), .slice a0 L c0, .slice a1 L c1, .slice a2 L c2] 31)
          have Y : BoxAt (w2.alloc (.cells #[.int .i64 (M : Nat), .int .i64 (K : Nat), .int .u64 (seed : Nat), .slice a0 L c0, .slice a1 L c1, .slice a2 L c2] 31)) w2.heap.size M K seed L a0 a1 a2 c0 c1 c2 Z1 Zr Zr := ⟨heap_alloc_new _ _, Hx.mono A2⟩
          replace X := (X.mono b2).mono A2
          replace hO := (hO.mono b2).mono A2
          replace bel := below_then (below_then bel b2) A2
          clear b2 A2 Hx rB hI
          have qB0 : (w2.alloc (.cells #[.int .i64 (M : Nat), .int .i64 (K : Nat), .int .u64 (seed : Nat), .slice a0 L c0, .slice a1 L c1, .slice a2 L c2] 31)).cell? ⟨gB, 0, none⟩ = some (.int .i64 (M : Nat)) := X.cell 0
          have qB1 : (w2.alloc (.cells #[.int .i64 (M : Nat), .int .i64 (K : Nat), .int .u64 (seed : Nat), .slice a0 L c0, .slice a1 L c1, .slice a2 L c2] 31)).cell? ⟨gB, 1, none⟩ = some (.int .i64 (K : Nat)) := X.cell 1
          have qB2 : (w2.alloc (.cells #[.int .i64 (M : Nat), .int .i64 (K : Nat), .int .u64 (seed : Nat), .slice a0 L c0, .slice a1 L c1, .slice a2 L c2] 31)).cell? ⟨gB, 2, none⟩ = some (.int .u64 (seed : Nat)) := X.cell 2
          have qB3 : (w2.alloc (.cells #[.int .i64 (M : Nat), .int .i64 (K : Nat), .int .u64 (seed : Nat), .slice a0 L c0, .slice a1 L c1, .slice a2 L c2] 31)).cell? ⟨gB, 3, none⟩ = some (.slice b0 L d0) := X.cell 3
          have qB4 : (w2.alloc (.cells #[.int .i64 (M : Nat), .int .i64 (K : Nat), .int .u64 (seed : Nat), .slice a0 L c0, .slice a1 L c1, .slice a2 L c2] 31)).cell? ⟨gB, 4, none⟩ = some (.slice b1 L d1) := X.cell 4
          have qB5 : (w2.alloc (.cells #[.int .i64 (M : Nat), .int .i64 (K : Nat), .int .u64 (seed : Nat), .slice a0 L c0, .slice a1 L c1, .slice a2 L c2] 31)).cell? ⟨gB, 5, none⟩ = some (.slice b2 L d2) := X.cell 5
          go_wp2_with fail
          refine (ones_any _ M K seed _ l0 Zr Zr X.store).mono ?_
          rw [hon]
          rintro e w3 ⟨rfl, b3⟩
          replace X := X.mono b3
          replace Y := Y.mono b3
          replace hO := hO.mono b3
          replace bel := below_then bel b3
          clear b3 qB0 qB1 qB2 qB3 qB4 qB5
          have qB0 : w3.cell? ⟨gB, 0, none⟩ = some (.int .i64 (M : Nat)) := X.cell 0
          have qB1 : w3.cell? ⟨gB, 1, none⟩ = some (.int .i64 (K : Nat)) := X.cell 1
          have qB2 : w3.cell? ⟨gB, 2, none⟩ = some (.int .u64 (seed : Nat)) := X.cell 2
          have qB3 : w3.cell? ⟨gB, 3, none⟩ = some (.slice b0 L d0) := X.cell 3
          have qB4 : w3.cell? ⟨gB, 4, none⟩ = some (.slice b1 L d1) := X.cell 4
          have qB5 : w3.cell? ⟨gB, 5, none⟩ = some (.slice b2 L d2) := X.cell 5
          have hl3 := hlen _ hO
          go_wp2_with fail
          refine (hmb _ X.store (hky0 _ bel)).mono ?_
          rintro e w4 ⟨rfl, b4⟩
          replace X := X.mono b4
          replace Y := Y.mono b4
          replace hO := hO.mono b4
          replace bel := below_then bel b4
          clear b4 qB0 qB1 qB2 qB3 qB4 qB5 hl3 hmb
          have hl4 := hlen _ hO
          by_cases hnM : n0 < M
          · have f6 : decide (n0 < M) = true := by simpa using hnM
            cases T with
            | true =>
              go_wp2_with fail
              go_ret
              exact ⟨rfl, bel⟩
            | false =>
              go_wp2_with fail
              go_ret
              exact ⟨rfl, bel⟩
          · have f6 : decide (n0 < M) = false := by simpa using hnM
            have hnn : n0 = M := by omega
            obtain rfl := hbig hnn
            have hz := hins rfl
            have f7 : (((n0 : Nat) : Int) == ((M : Nat) : Int)) = true := by rw [hnn]; simp
            have qY0 : w4.cell? ⟨w2.heap.size, 0, none⟩ = some (.int .i64 (M : Nat)) := Y.cell 0
            have qY1 : w4.cell? ⟨w2.heap.size, 1, none⟩ = some (.int .i64 (K : Nat)) := Y.cell 1
            have qY2 : w4.cell? ⟨w2.heap.size, 2, none⟩ = some (.int .u64 (seed : Nat)) := Y.cell 2
            have qY3 : w4.cell? ⟨w2.heap.size, 3, none⟩ = some (.slice a0 L c0) := Y.cell 3
            have qY4 : w4.cell? ⟨w2.heap.size, 4, none⟩ = some (.slice a1 L c1) := Y.cell 4
            have qY5 : w4.cell? ⟨w2.heap.size, 5, none⟩ = some (.slice a2 L c2) := Y.cell 5
            clear hbig hins hnn
            go_wp2_with fail
            refine (ones_any _ M K seed _ Z1 Zr Zr Y.store).mono ?_
            rw [hz]
            rintro e w5 ⟨rfl, b5⟩
            go_wp2_with fail
            go_ret
            exact ⟨rfl, below_then bel b5⟩
end Go.Proofs.Ytcnpomejdnpegaa
