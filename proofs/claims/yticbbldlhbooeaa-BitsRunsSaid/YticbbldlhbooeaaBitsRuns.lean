/- BitsRuns returns true. -/
import Derived.Test.YticbbldlhbooeaaBitsBack
namespace Go.Proofs.Yticbbldlhbooeaa
open Go.RowKit
set_option linter.unusedVariables false

/-- A row of numbers of 64 bits. -/
structure NatsAt (w : World) (a : Option Addr) (len : Nat) (l : List Nat) : Prop where
  len_eq : l.length = len
  lt : ∀ n ∈ l, n < 18446744073709551616
  at_ : len = 0 ∨ ∃ b off, a = some ⟨b, off, none⟩ ∧ b < w.heap.size ∧ ∀ i, i < len → w.cell? ⟨b, off + i, none⟩ = some (.int .u64 (l.getD i 0 : Nat))
theorem NatsAt.mono {w w' : World} {a : Option Addr} {len : Nat} {l : List Nat} (h : NatsAt w a len l) (hb : Below w.heap.size w w') : NatsAt w' a len l := by
  refine ⟨h.1, h.2, ?_⟩
  rcases h.3 with h4 | ⟨b, off, ha, hlt, hc⟩
  · exact .inl h4
  · exact .inr ⟨b, off, ha, Nat.lt_of_lt_of_le hlt hb.size, fun i hi => by rw [hb.cell (p := ⟨b, off + i, none⟩) hlt]; exact hc i hi⟩
/-- What has been put after so many numbers. -/
def runs (L Ws : List Nat) : Nat → List Nat
  | 0 => []
  | i + 1 => runs L Ws i ++ (if Lib.bitLen (L.getD i 0) ≤ Ws.getD i 0 % 65 then digs (L.getD i 0) (Ws.getD i 0 % 65) else [])
theorem runs_bits (L Ws : List Nat) : ∀ i, IsBits (runs L Ws i)
  | 0 => IsBits.nil
  | i + 1 => by
    unfold runs
    refine (runs_bits L Ws i).append ?_
    split
    · exact digs_bits _ _
    · exact IsBits.nil
theorem runs_length (L Ws : List Nat) : ∀ i, (runs L Ws i).length ≤ 64 * i
  | 0 => by simp [runs]
  | i + 1 => by
    have := runs_length L Ws i
    unfold runs
    rw [List.length_append]
    split
    · rw [digs_length]; omega
    · simp; omega
theorem runs_prefix (L Ws : List Nat) (i : Nat) : ∀ d, ∃ r, runs L Ws (i + d) = runs L Ws i ++ r
  | 0 => ⟨[], by simp⟩
  | d + 1 => by
    obtain ⟨r, hr⟩ := runs_prefix L Ws i d
    rw [show i + (d + 1) = (i + d) + 1 from by omega, runs, hr, List.append_assoc]
    exact ⟨_, rfl⟩
theorem runs_take (L Ws : List Nat) (i m : Nat) (hi : i < m) (hL : L.getD i 0 < 18446744073709551616) (h : Lib.bitLen (L.getD i 0) ≤ Ws.getD i 0 % 65) : takeS (runs L Ws m) ((runs L Ws i).length : Int) ((Ws.getD i 0 % 65 : Nat) : Int) = (L.getD i 0, 0) := by
  obtain ⟨r, hr⟩ := runs_prefix L Ws (i + 1) (m - (i + 1))
  rw [show i + 1 + (m - (i + 1)) = m from by omega, runs, if_pos h] at hr
  rw [hr]
  exact takeS_mid _ r _ _ (by omega) (bitLen_lt _ _ hL (by omega))
set_option maxHeartbeats 2000000 in
theorem bitsruns_no (w : World) (al : Option Addr) (m cl : Nat) (aw : Option Addr) (lw cw : Nat) (hm : m ≤ 9223372036854775807) (hlw : lw ≤ 9223372036854775807) (h : 30 < m ∨ lw ≠ m) :
    Calls Try.prog 8 #[.slice al m cl, .slice aw lw cw] w fun e w' => e = .returned (.bool true) ∧ Below w.heap.size w w' := by
  by_cases h1 : 30 < m
  · have d1 : decide ((30 : Int) < (m : Int)) = true := by simp; omega
    have d1' : decide (30 < m) = true := by simpa using h1
    clear h
    go_enter Try.func8, Try.ntmps8
    go_wp2_with fail
    refine (shown_any _).mono ?_
    rintro e w1 ⟨rfl, b1⟩
    go_wp2
    go_ret
    exact ⟨rfl, b1⟩
  · have d1 : decide ((30 : Int) < (m : Int)) = false := by simp; omega
    have d1' : decide (30 < m) = false := by simpa using h1
    have d2 : ((lw : Int) != (m : Int)) = true := by simp; omega
    clear h
    go_enter Try.func8, Try.ntmps8
    go_wp2_with fail
    refine (shown_any _).mono ?_
    rintro e w1 ⟨rfl, b1⟩
    go_wp2
    go_ret
    exact ⟨rfl, b1⟩
theorem cell_setOther {w : World} {g i b o : Nat} {v : Value} (hne : b ≠ g) : (w.setCell ⟨g, i, none⟩ v).cell? ⟨b, o, none⟩ = w.cell? ⟨b, o, none⟩ := by
  have := Below.heap_setCell w ⟨g, i, none⟩ v b hne
  simp [World.cell?, this]
theorem BitsBox.set1 {W : World} {b : Nat} {a : Option Addr} {len cap : Nat} {N : Int} (h : BitsBox W b a len cap N) (N' : Int) : BitsBox (W.setCell ⟨b, 1, none⟩ (.int .i64 N')) b a len cap N' := (Joins.block_setCell (i := 1) h _).trans (by simp)
theorem BitsBox.setOther {W : World} {b g i : Nat} {v : Value} {a : Option Addr} {len cap : Nat} {N : Int} (h : BitsBox W b a len cap N) (hne : b ≠ g) : BitsBox (W.setCell ⟨g, i, none⟩ v) b a len cap N := (Below.heap_setCell _ _ _ _ hne).trans h
set_option maxHeartbeats 8000000 in
theorem bitsruns_yes (w : World) (al : Option Addr) (m cl : Nat) (L : List Nat) (aw : Option Addr) (lw cw : Nat) (Ws : List Nat) (hl : NatsAt w al m L) (hw : BytesAt w aw lw cw Ws) (hm : m ≤ 30) (hlw : lw = m) :
    Calls Try.prog 8 #[.slice al m cl, .slice aw lw cw] w fun e w' => e = .returned (.bool true) ∧ Below w.heap.size w w' := by
  have d1 : decide ((30 : Int) < (m : Int)) = false := by simp; omega
  have d1' : decide (30 < m) = false := by simp; omega
  have d2 : ((lw : Int) != (m : Int)) = false := by simp; omega
  have hlm : m ≤ lw := by omega
  have hwl : Hid (Ws.length = m) := by show _ = _; rw [hw.len_eq, hlw]
  have hlws : lw ≤ 30 := by omega
  clear hlw
  go_enter Try.func8, Try.ntmps8
  go_wp2_with fail
  refine (shown_any _).mono ?_
  rintro e w1 ⟨rfl, b1⟩
  have z1 : BitsBox (w1.alloc (.cells #[.slice none 0 0, .int .i64 0] 24)) w1.heap.size none 0 0 ((runs L Ws 0).length : Nat) := World.alloc_heap_new _ _
  have B1 := below_new b1 (.cells #[.slice none 0 0, .int .i64 0] 24)
  go_wp2
  go_loopw [7, 8] (fun n i wr => ∃ (j : Nat) (a : Option Addr) (len cap N : Nat), j ≤ m ∧ N ≤ 1920 ∧ i = .int .i64 (j : Int) ∧ n = .int .i64 (N : Int) ∧ Hid (N = (runs L Ws j).length) ∧ BitsBox wr w1.heap.size a len cap (N : Int) ∧ BytesAt wr a len cap (pack (runs L Ws j)) ∧ Below w.heap.size w wr) (fun _ i _ => m - (intOf i).toNat)
  case atStart => exact ⟨0, none, 0, 0, 0, by omega, by omega, rfl, rfl, rfl, z1, (show BytesAt _ none 0 0 (pack []) from bytesNone _), B1⟩
  case round =>
    obtain ⟨j, a, len, cap, N, hj, hN, rfl, rfl, hNe, xb, yb, Bel⟩ := hrel
    clear z1 B1
    by_cases hlt : j < m
    · have lj := hl.mono Bel
      have wj := hw.mono Bel
      obtain ⟨bl, ol, rfl, hbl0, hcl0⟩ := hl.at_.resolve_left (by omega)
      have hbl := Nat.lt_of_lt_of_le hbl0 Bel.size
      have c10 := hcl0 j hlt
      obtain ⟨bw, ow, rfl, hbw, hcw⟩ := wj.at_.resolve_left (by omega)
      have c1 := (Bel.cell (p := ⟨bl, ol + j, none⟩) hbl0).trans c10
      have c2 := hcw j (by omega)
      have hx : L.getD j 0 < 18446744073709551616 := by
        have hjl : j < L.length := by rw [hl.len_eq]; exact hlt
        have e : L.getD j 0 = L[j] := by simp [hjl]
        rw [e]; exact hl.lt _ (List.getElem_mem hjl)
      have hk : Ws.getD j 0 < 256 := by
        have hjl : j < Ws.length := by rw [hwl.out]; exact hlt
        have e : Ws.getD j 0 = Ws[j] := by simp [hjl]
        rw [e]; exact hw.byte _ (List.getElem_mem hjl)
      have hstep : runs L Ws (j + 1) = runs L Ws j ++ (if Lib.bitLen (L.getD j 0) ≤ Ws.getD j 0 % 65 then digs (L.getD j 0) (Ws.getD j 0 % 65) else []) := rfl
      have hrl := runs_length L Ws (j + 1)
      generalize L.getD j 0 = x at *
      generalize Ws.getD j 0 = kk at *
      obtain ⟨K, hK⟩ : ∃ K : Nat, (kk : Int) % 65 = (K : Int) := ⟨kk % 65, by omega⟩
      rw [show kk % 65 = K from by omega] at hstep
      have hK64 : K ≤ 64 := by omega
      have hjw : (j : Int) < (lw : Int) := by omega
      have hjm : (j : Int) < (m : Int) := by omega
      have g0 := xb.cell0
      have g1 := xb.cell1
      have hjl : (runs L Ws j).length ≤ 2000 := by have := hNe.out; omega
      have hbj := runs_bits L Ws j
      obtain ⟨P, hP⟩ : ∃ P, P = runs L Ws j := ⟨_, rfl⟩
      obtain ⟨P', hP'⟩ : ∃ P', P' = runs L Ws (j + 1) := ⟨_, rfl⟩
      rw [← hP] at hNe yb hstep hjl hbj
      rw [← hP'] at hstep hrl
      have HP := Lib.hid hP
      have HP' := Lib.hid hP'
      clear hP hP'
      by_cases hfit : Lib.bitLen x ≤ K
      · rw [if_pos hfit] at hstep
        have hput : putS P x (K : Int) = (P', 0) := by rw [hstep]; exact putS_ok P x K hK64 hfit
        have HPUT := Lib.hid hput
        have hNN : (P'.length : Int) = (N : Int) + (K : Int) := by rw [hstep, List.length_append, digs_length]; have := hNe.out; omega
        have hNN' : (N : Int) + (K : Int) = (P'.length : Int) := hNN.symm
        have hP'l : P'.length ≤ 1920 := by omega
        have d5 : decide ((Lib.bitLen x : Int) ≤ (K : Int)) = true := by simp; omega
        have d6 : decide (Lib.bitLen x ≤ K) = true := by simpa using hfit
        clear hput hstep hNN
        have hNP : (N : Int) = (P.length : Int) := by have := hNe.out; omega
        have HNP := Lib.hid hNP
        clear hNP
        have bd : Below wr.heap.size wr wr.drew := (Below.refl _ _).drew
        have hgr : w1.heap.size < wr.heap.size := (Array.getElem?_eq_some_iff.1 xb).1
        have yD := yb.mono bd
        have xD := xb.below bd
        have BelD := below_then Bel bd
        have cD : wr.drew.cell? ⟨bl, ol + j, none⟩ = some (.int .u64 (x : Int)) := (bd.cell (p := ⟨bl, ol + j, none⟩) hbl).trans c1
        have bA : Below wr.heap.size wr (wr.drew.alloc (.cells #[.slice none 0 0, .int .i64 0] 24)) := bd.alloc (Nat.le_refl _) _
        have yA := yb.mono bA
        have xA := xb.below bA
        have zA : BitsBox (wr.drew.alloc (.cells #[.slice none 0 0, .int .i64 0] 24)) wr.heap.size none 0 0 0 := World.alloc_heap_new _ _
        have BelA := below_then Bel bA
        have cA : (wr.drew.alloc (.cells #[.slice none 0 0, .int .i64 0] 24)).cell? ⟨bl, ol + j, none⟩ = some (.int .u64 (x : Int)) := (bA.cell (p := ⟨bl, ol + j, none⟩) hbl).trans c1
        have hblA : bl < (wr.drew.alloc (.cells #[.slice none 0 0, .int .i64 0] 24)).heap.size := Nat.lt_of_lt_of_le hbl bA.size
        have g0D := xD.cell0
        have g1D := xD.cell1
        go_wp2
        go_region_held3 (fun w' => w'.cell? ⟨w1.heap.size, 0, none⟩ = some (.slice a len cap) ∧ w'.cell? ⟨w1.heap.size, 1, none⟩ = some (.int .i64 (N : Int)) ∧ w'.cell? ⟨bl, ol + j, none⟩ = some (.int .u64 (x : Int)))
          (first | exact ⟨g0D, g1D, cD⟩ | exact ⟨r0, r1, r2⟩ | exact ⟨cellAlloc _ _ g0D, cellAlloc _ _ g1D, cellAlloc _ _ cD⟩ | exact ⟨cellAlloc _ _ r0, cellAlloc _ _ r1, cellAlloc _ _ r2⟩ | exact ⟨by simpa [go_sem] using r0, by simpa [go_sem] using r1, by simpa [go_sem] using r2⟩)
          (first | (go_at_call 18; refine (put_any wr.drew _ _ _ P hbj (by omega) x hx (K : Int) yD _ _ HPUT.out _ HNP.out).mono ?_; rintro e w3 ⟨a3, l3, c3, rfl, y3, b3⟩; have x3 := xD.below b3; have r0 := x3.cell0; have r1 := x3.cell1; have r2 := (b3.cell (p := ⟨bl, ol + j, none⟩) (Nat.lt_of_lt_of_le hbl bd.size)).trans cD) | (go_at_call 18; refine (put_any (wr.drew.alloc (.cells #[.slice none 0 0, .int .i64 0] 24)) _ _ _ P hbj (by omega) x hx (K : Int) yA _ _ HPUT.out _ HNP.out).mono ?_; rintro e w3 ⟨a3, l3, c3, rfl, y3, b3⟩; have x3 := xA.below b3; have r0 := x3.cell0; have r1 := x3.cell1; have r2 := (b3.cell (p := ⟨bl, ol + j, none⟩) hblA).trans cA; have z3 := zA.below b3; have v0 := z3.cell0; have v1 := z3.cell1; have v2 := z3.frozen 0; have v3 := z3.frozen 1))
        · generalize hWz : w3.alloc (.cells #[.slice a3 l3 c3, .int .i64 (P'.length : Int)] 24) = Wz
          have al : Below w3.heap.size w3 Wz := by rw [← hWz]; exact (Below.refl _ _).alloc (Nat.le_refl _) _
          have xg := x3.below al
          have xx : BitsBox Wz w3.heap.size a3 l3 c3 (P'.length : Int) := by rw [← hWz]; exact World.alloc_heap_new _ _
          have ys := y3.mono al
          have BelZ : Below w.heap.size w Wz := below_then (below_then BelD b3) al
          obtain ⟨gx, hgx⟩ : ∃ gx, gx = w3.heap.size := ⟨_, rfl⟩
          have hne : gx ≠ w1.heap.size := by have := b3.size; have := bd.size; omega
          rw [← hgx] at xx ⊢
          have lz := hl.mono BelZ
          have cz : Wz.cell? ⟨bl, ol + j, none⟩ = some (.int .u64 (x : Int)) := by
            rw [BelZ.cell (p := ⟨bl, ol + j, none⟩) hbl0]; exact c10
          clear hWz r0 r1 r2 hgx
          have f0 := xg.cell0
          have f1 := xg.cell1
          have f2 := xx.cell0
          have f3 := xx.cell1
          have f4 := xg.frozen 0
          have f5 := xg.frozen 1
          go_wp2_with fail
          refine (refwide_any _ x hx).mono ?_
          rintro e w5 ⟨rfl, rfl⟩
          go_wp2
          go_roundw
          case rel =>
            refine ⟨j + 1, a3, l3, c3, P'.length, by omega, hP'l, by go_num, rfl, by rw [← HP'.out]; rfl, ?_, ?_, ?_⟩
            · exact (xg.set0 _ _ _).set1 _
            · rw [← HP'.out]
              exact (ys.setBits xg 0 _).setBits (xg.set0 _ _ _) 1 _
            · have h0 : w.heap.size ≤ w1.heap.size := b1.size
              exact (BelZ.setCell h0 _).setCell h0 _
          case measure => simp [intOf]; omega
        · generalize hWz : (w3.setCell ⟨wr.heap.size, 0, none⟩ (.slice a3 l3 c3)).setCell ⟨wr.heap.size, 1, none⟩ (.int .i64 (P'.length : Int)) = Wz
          have hne : wr.heap.size ≠ w1.heap.size := by omega
          have xg : BitsBox Wz w1.heap.size a len cap (N : Int) := by rw [← hWz]; exact (x3.setOther hne.symm).setOther hne.symm
          have xx : BitsBox Wz wr.heap.size a3 l3 c3 (P'.length : Int) := by rw [← hWz]; exact (z3.set0 _ _ _).set1 _
          have ys : BytesAt Wz a3 l3 c3 (pack P') := by rw [← hWz]; exact (y3.setBits z3 0 _).setBits (z3.set0 _ _ _) 1 _
          have BelZ : Below w.heap.size w Wz := by rw [← hWz]; exact ((below_then BelA b3).setCell (by have := Bel.size; simpa using this) _).setCell (by have := Bel.size; simpa using this) _
          obtain ⟨gx, hgx⟩ : ∃ gx, gx = wr.heap.size := ⟨_, rfl⟩
          rw [← hgx] at xx hne ⊢
          have lz := hl.mono BelZ
          have cz : Wz.cell? ⟨bl, ol + j, none⟩ = some (.int .u64 (x : Int)) := by
            rw [BelZ.cell (p := ⟨bl, ol + j, none⟩) hbl0]; exact c10
          clear hWz r0 r1 r2 hgx
          have f0 := xg.cell0
          have f1 := xg.cell1
          have f2 := xx.cell0
          have f3 := xx.cell1
          have f4 := xg.frozen 0
          have f5 := xg.frozen 1
          go_wp2_with fail
          refine (refwide_any _ x hx).mono ?_
          rintro e w5 ⟨rfl, rfl⟩
          go_wp2
          go_roundw
          case rel =>
            refine ⟨j + 1, a3, l3, c3, P'.length, by omega, hP'l, by go_num, rfl, by rw [← HP'.out]; rfl, ?_, ?_, ?_⟩
            · exact (xg.set0 _ _ _).set1 _
            · rw [← HP'.out]
              exact (ys.setBits xg 0 _).setBits (xg.set0 _ _ _) 1 _
            · have h0 : w.heap.size ≤ w1.heap.size := b1.size
              exact (BelZ.setCell h0 _).setCell h0 _
          case measure => simp [intOf]; omega
      · rw [if_neg hfit, List.append_nil] at hstep
        have hput : putS P x (K : Int) = (P', 5) := by
          rw [hstep]; unfold putS
          rw [if_neg (by omega), if_pos (by omega)]
        have HPUT := Lib.hid hput
        have hNN : (P'.length : Int) = (N : Int) := by rw [hstep]; have := hNe.out; omega
        have hP'l : P'.length ≤ 1920 := by omega
        have HNN := Lib.hid hNN
        clear hNN
        have d5 : decide ((Lib.bitLen x : Int) ≤ (K : Int)) = false := by simp; omega
        have d6 : decide (Lib.bitLen x ≤ K) = false := by simpa using hfit
        clear hput hstep
        have hNP : (N : Int) = (P.length : Int) := by have := hNe.out; omega
        have HNP := Lib.hid hNP
        clear hNP
        have bd : Below wr.heap.size wr wr.drew := (Below.refl _ _).drew
        have hgr : w1.heap.size < wr.heap.size := (Array.getElem?_eq_some_iff.1 xb).1
        have yD := yb.mono bd
        have xD := xb.below bd
        have BelD := below_then Bel bd
        have cD : wr.drew.cell? ⟨bl, ol + j, none⟩ = some (.int .u64 (x : Int)) := (bd.cell (p := ⟨bl, ol + j, none⟩) hbl).trans c1
        have bA : Below wr.heap.size wr (wr.drew.alloc (.cells #[.slice none 0 0, .int .i64 0] 24)) := bd.alloc (Nat.le_refl _) _
        have yA := yb.mono bA
        have xA := xb.below bA
        have zA : BitsBox (wr.drew.alloc (.cells #[.slice none 0 0, .int .i64 0] 24)) wr.heap.size none 0 0 0 := World.alloc_heap_new _ _
        have BelA := below_then Bel bA
        have cA : (wr.drew.alloc (.cells #[.slice none 0 0, .int .i64 0] 24)).cell? ⟨bl, ol + j, none⟩ = some (.int .u64 (x : Int)) := (bA.cell (p := ⟨bl, ol + j, none⟩) hbl).trans c1
        have hblA : bl < (wr.drew.alloc (.cells #[.slice none 0 0, .int .i64 0] 24)).heap.size := Nat.lt_of_lt_of_le hbl bA.size
        have g0D := xD.cell0
        have g1D := xD.cell1
        go_wp2
        go_region_held3 (fun w' => w'.cell? ⟨w1.heap.size, 0, none⟩ = some (.slice a len cap) ∧ w'.cell? ⟨w1.heap.size, 1, none⟩ = some (.int .i64 (N : Int)) ∧ w'.cell? ⟨bl, ol + j, none⟩ = some (.int .u64 (x : Int)))
          (first | exact ⟨g0D, g1D, cD⟩ | exact ⟨r0, r1, r2⟩ | exact ⟨cellAlloc _ _ g0D, cellAlloc _ _ g1D, cellAlloc _ _ cD⟩ | exact ⟨cellAlloc _ _ r0, cellAlloc _ _ r1, cellAlloc _ _ r2⟩ | exact ⟨by simpa [go_sem] using r0, by simpa [go_sem] using r1, by simpa [go_sem] using r2⟩)
          (first | (go_at_call 18; refine (put_any wr.drew _ _ _ P hbj (by omega) x hx (K : Int) yD _ _ HPUT.out _ HNP.out).mono ?_; rintro e w3 ⟨a3, l3, c3, rfl, y3, b3⟩; have x3 := xD.below b3; have r0 := x3.cell0; have r1 := x3.cell1; have r2 := (b3.cell (p := ⟨bl, ol + j, none⟩) (Nat.lt_of_lt_of_le hbl bd.size)).trans cD) | (go_at_call 18; refine (put_any (wr.drew.alloc (.cells #[.slice none 0 0, .int .i64 0] 24)) _ _ _ P hbj (by omega) x hx (K : Int) yA _ _ HPUT.out _ HNP.out).mono ?_; rintro e w3 ⟨a3, l3, c3, rfl, y3, b3⟩; have x3 := xA.below b3; have r0 := x3.cell0; have r1 := x3.cell1; have r2 := (b3.cell (p := ⟨bl, ol + j, none⟩) hblA).trans cA; have z3 := zA.below b3; have v0 := z3.cell0; have v1 := z3.cell1; have v2 := z3.frozen 0; have v3 := z3.frozen 1))
        · generalize hWz : w3.alloc (.cells #[.slice a3 l3 c3, .int .i64 (P'.length : Int)] 24) = Wz
          have al : Below w3.heap.size w3 Wz := by rw [← hWz]; exact (Below.refl _ _).alloc (Nat.le_refl _) _
          have xg := x3.below al
          have xx : BitsBox Wz w3.heap.size a3 l3 c3 (P'.length : Int) := by rw [← hWz]; exact World.alloc_heap_new _ _
          have ys := y3.mono al
          have BelZ : Below w.heap.size w Wz := below_then (below_then BelD b3) al
          obtain ⟨gx, hgx⟩ : ∃ gx, gx = w3.heap.size := ⟨_, rfl⟩
          have hne : gx ≠ w1.heap.size := by have := b3.size; have := bd.size; omega
          rw [← hgx] at xx ⊢
          have lz := hl.mono BelZ
          have cz : Wz.cell? ⟨bl, ol + j, none⟩ = some (.int .u64 (x : Int)) := by
            rw [BelZ.cell (p := ⟨bl, ol + j, none⟩) hbl0]; exact c10
          clear hWz r0 r1 r2 hgx
          have f0 := xg.cell0
          have f1 := xg.cell1
          have f2 := xx.cell0
          have f3 := xx.cell1
          have f4 := xg.frozen 0
          have f5 := xg.frozen 1
          go_wp2_with fail
          refine (refwide_any _ x hx).mono ?_
          rintro e w5 ⟨rfl, rfl⟩
          go_wp2
          go_roundw
          case rel =>
            refine ⟨j + 1, a3, l3, c3, P'.length, by omega, hP'l, by go_num, by rw [HNN.out], by rw [← HP'.out]; rfl, ?_, ?_, ?_⟩
            · exact (xg.set0 _ _ _).set1 _
            · rw [← HP'.out]
              exact (ys.setBits xg 0 _).setBits (xg.set0 _ _ _) 1 _
            · have h0 : w.heap.size ≤ w1.heap.size := b1.size
              exact (BelZ.setCell h0 _).setCell h0 _
          case measure => simp [intOf]; omega
        · generalize hWz : (w3.setCell ⟨wr.heap.size, 0, none⟩ (.slice a3 l3 c3)).setCell ⟨wr.heap.size, 1, none⟩ (.int .i64 (P'.length : Int)) = Wz
          have hne : wr.heap.size ≠ w1.heap.size := by omega
          have xg : BitsBox Wz w1.heap.size a len cap (N : Int) := by rw [← hWz]; exact (x3.setOther hne.symm).setOther hne.symm
          have xx : BitsBox Wz wr.heap.size a3 l3 c3 (P'.length : Int) := by rw [← hWz]; exact (z3.set0 _ _ _).set1 _
          have ys : BytesAt Wz a3 l3 c3 (pack P') := by rw [← hWz]; exact (y3.setBits z3 0 _).setBits (z3.set0 _ _ _) 1 _
          have BelZ : Below w.heap.size w Wz := by rw [← hWz]; exact ((below_then BelA b3).setCell (by have := Bel.size; simpa using this) _).setCell (by have := Bel.size; simpa using this) _
          obtain ⟨gx, hgx⟩ : ∃ gx, gx = wr.heap.size := ⟨_, rfl⟩
          rw [← hgx] at xx hne ⊢
          have lz := hl.mono BelZ
          have cz : Wz.cell? ⟨bl, ol + j, none⟩ = some (.int .u64 (x : Int)) := by
            rw [BelZ.cell (p := ⟨bl, ol + j, none⟩) hbl0]; exact c10
          clear hWz r0 r1 r2 hgx
          have f0 := xg.cell0
          have f1 := xg.cell1
          have f2 := xx.cell0
          have f3 := xx.cell1
          have f4 := xg.frozen 0
          have f5 := xg.frozen 1
          go_wp2_with fail
          refine (refwide_any _ x hx).mono ?_
          rintro e w5 ⟨rfl, rfl⟩
          go_wp2
          go_roundw
          case rel =>
            refine ⟨j + 1, a3, l3, c3, P'.length, by omega, hP'l, by go_num, by rw [HNN.out], by rw [← HP'.out]; rfl, ?_, ?_, ?_⟩
            · exact (xg.set0 _ _ _).set1 _
            · rw [← HP'.out]
              exact (ys.setBits xg 0 _).setBits (xg.set0 _ _ _) 1 _
            · have h0 : w.heap.size ≤ w1.heap.size := b1.size
              exact (BelZ.setCell h0 _).setCell h0 _
          case measure => simp [intOf]; omega
    · obtain rfl : j = m := by omega
      obtain ⟨R, hR⟩ : ∃ R, R = runs L Ws j := ⟨_, rfl⟩
      have hRb : IsBits R := by rw [hR]; exact runs_bits L Ws j
      have hRl : N = R.length := by rw [hR]; exact hNe.out
      rw [← hR] at yb
      have hq : ((N : Int) + 7) / 8 = (len : Int) := by have := yb.len_eq; rw [pack_length] at this; omega
      have hlen' : len ≤ 1000 := by omega
      have HR := Lib.hid hR
      have HRL := Lib.hid hRl
      clear hR hRl hNe
      have hgr : w1.heap.size < wr.heap.size := (Array.getElem?_eq_some_iff.1 xb).1
      rename World => wo
      go_wp2
      go_loopw [12, 13] (fun t i w2 => ∃ (p M : Nat), p ≤ j ∧ M ≤ 1920 ∧ i = .int .i64 (p : Int) ∧ t = .int .i64 (M : Int) ∧ Hid (M = (runs L Ws p).length) ∧ Below wo.heap.size wo w2) (fun _ i _ => j - (intOf i).toNat)
      case atStart => exact ⟨0, 0, by omega, by omega, rfl, rfl, rfl, Below.refl _ _⟩
      case round =>
        obtain ⟨p, M, hp, hM, rfl, rfl, hMe, hb2⟩ := hrel
        have xb2 := xb.below hb2
        have yb2 := yb.mono hb2
        have g0 := xb2.cell0
        have g1 := xb2.cell1
        have BelT := below_then Bel hb2
        have hNR : (N : Int) = (R.length : Int) := by have := HRL.out; omega
        have HNR := Lib.hid hNR
        clear hNR
        by_cases hlt2 : p < j
        · obtain ⟨bl, ol, rfl, hbl0, hcl0⟩ := hl.at_.resolve_left (by omega)
          obtain ⟨bw, ow, rfl, hbw0, hcw0⟩ := hw.at_.resolve_left (by omega)
          have c1 := (BelT.cell (p := ⟨bl, ol + p, none⟩) hbl0).trans (hcl0 p hlt2)
          have c2 := (BelT.cell (p := ⟨bw, ow + p, none⟩) hbw0).trans (hcw0 p (by omega))
          have hbl := Nat.lt_of_lt_of_le hbl0 BelT.size
          have hx : L.getD p 0 < 18446744073709551616 := by
            have hjl : p < L.length := by rw [hl.len_eq]; exact hlt2
            have e : L.getD p 0 = L[p] := by simp [hjl]
            rw [e]; exact hl.lt _ (List.getElem_mem hjl)
          have hk : Ws.getD p 0 < 256 := by
            have hjl : p < Ws.length := by rw [hwl.out]; exact hlt2
            have e : Ws.getD p 0 = Ws[p] := by simp [hjl]
            rw [e]; exact hw.byte _ (List.getElem_mem hjl)
          have htk := runs_take L Ws p j hlt2 hx
          rw [← HR.out, ← hMe.out] at htk
          have hstep : (runs L Ws (p + 1)).length = M + (if Lib.bitLen (L.getD p 0) ≤ Ws.getD p 0 % 65 then digs (L.getD p 0) (Ws.getD p 0 % 65) else []).length := by
            rw [runs, List.length_append, hMe.out]
          have hrl := runs_length L Ws (p + 1)
          generalize L.getD p 0 = x at *
          generalize Ws.getD p 0 = kk at *
          obtain ⟨K, hK⟩ : ∃ K : Nat, (kk : Int) % 65 = (K : Int) := ⟨kk % 65, by omega⟩
          rw [show kk % 65 = K from by omega] at hstep htk
          have hK64 : K ≤ 64 := by omega
          have hjw : (p : Int) < (lw : Int) := by omega
          have hjm : (p : Int) < (j : Int) := by omega
          have hRs : R.length ≤ 2000 := by have := HRL.out; omega
          by_cases hfit : Lib.bitLen x ≤ K
          · rw [if_pos hfit, digs_length] at hstep
            have HST := Lib.hid hstep
            have HTK := Lib.hid (htk hfit)
            have hMK : M + K ≤ 1920 := by omega
            have d5 : decide ((K : Int) < (Lib.bitLen x : Int)) = false := by simp; omega
            have d6 : decide (K < Lib.bitLen x) = false := by simp; omega
            clear htk hstep
            go_wp2_with fail
            refine (refwide_any _ x hx).mono ?_
            rintro e w5 ⟨rfl, rfl⟩
            go_wp2_with fail
            refine (take_any _ a len cap R hRb (by omega) (M : Int) (K : Int) yb2 _ _ HTK.out _ HNR.out).mono ?_
            rintro e w6 ⟨rfl, b6⟩
            have c3 := (b6.cell (p := ⟨bl, ol + p, none⟩) hbl).trans c1
            go_wp2
            go_roundw
            case rel => exact ⟨p + 1, M + K, by omega, by omega, by go_num, by go_num, HST.out.symm, below_then hb2 b6⟩
            case measure => simp [intOf]; omega
          · rw [if_neg hfit] at hstep
            have hMM : (runs L Ws (p + 1)).length = M := by simpa using hstep
            have HMM := Lib.hid hMM
            have d5 : decide ((K : Int) < (Lib.bitLen x : Int)) = true := by simp; omega
            have d6 : decide (K < Lib.bitLen x) = true := by simp; omega
            clear htk hstep hMM
            go_wp2_with fail
            refine (refwide_any _ x hx).mono ?_
            rintro e w5 ⟨rfl, rfl⟩
            go_wp2
            go_roundw
            case rel => exact ⟨p + 1, M, by omega, by omega, by go_num, rfl, HMM.out.symm, hb2⟩
            case measure => simp [intOf]; omega
        · obtain rfl : p = j := by omega
          have hMN : M = N := by rw [hMe.out, ← HR.out]; exact HRL.out.symm
          subst hMN
          go_wp2
          go_ret
          exact ⟨rfl, BelT⟩
theorem bitsruns_any (w : World) (al : Option Addr) (m cl : Nat) (L : List Nat) (aw : Option Addr) (lw cw : Nat) (Ws : List Nat) (hl : NatsAt w al m L) (hms : m ≤ 9223372036854775807) (hw : BytesAt w aw lw cw Ws) :
    Calls Try.prog 8 #[.slice al m cl, .slice aw lw cw] w fun e w' => e = .returned (.bool true) ∧ Below w.heap.size w w' := by
  by_cases h : 30 < m ∨ lw ≠ m
  · exact bitsruns_no w al m cl aw lw cw hms hw.small h
  · exact bitsruns_yes w al m cl L aw lw cw Ws hl hw (by omega) (by omega)
end Go.Proofs.Yticbbldlhbooeaa
