/- Which states are in which set: degen.sets (by gen19g.py). -/
import Derived.Test.YtpabnpgbclfcfaaAutE
import Derived.Deep.RegionHeld3
import Derived.Deep.OwnRows
import Derived.StillTailTactics
namespace Go.Proofs.Ytpabnpgbclfcfaa
open Go.RowKit
set_option linter.unusedVariables false
set_option linter.unusedSimpArgs false

theorem Try.info_bool : (Try.prog.info? 4).map (fun i => (i.zero, i.size, i.bytes)) = some (some (.bool false), 1, 1) := by kernel_rfl
theorem Try.info_bools : (Try.prog.info? 48).map (fun i => (i.zero, i.size, i.bytes)) = some (some (.slice none 0 0), 1, 24) := by kernel_rfl
def inB (cn : Nat) (acc : Nat → List Int) (i q : Nat) : Bool := if cn = 0 then true else decide ((q : Int) ∈ acc i)
/-- Rows of answers, one behind the other. -/
structure InAt (w : World) (gI K n : Nat) (f : Nat → Nat → Bool) : Prop where
  head : w.rowIs gI 48 K fun i => .slice (some ⟨gI + 1 + i, 0, none⟩) n n
  row : ∀ i, i < K → w.rowIs (gI + 1 + i) 4 n fun q => .bool (f i q)
theorem InAt.mono {w w' : World} {gI K n : Nat} {f : Nat → Nat → Bool} (h : InAt w gI K n f) (hb : Below w.heap.size w w') : InAt w' gI K n f :=
  ⟨h.head.of_block (hb.block _ h.head.lt), fun i hi => (h.row i hi).of_block (hb.block _ (h.row i hi).lt)⟩
theorem InAt.to {w w' : World} {gI K n : Nat} {f : Nat → Nat → Bool} (h : InAt w gI K n f) (S : Nat → Prop) (hS : ∀ b, gI ≤ b → b ≤ gI + K → S b) (hb : ∀ b, S b → w'.heap[b]? = w.heap[b]?) : InAt w' gI K n f :=
  ⟨h.head.of_block (hb _ (hS _ (by omega) (by omega))), fun i hi => (h.row i hi).of_block (hb _ (hS _ (by omega) (by omega)))⟩
theorem InAt.set {w : World} {gI K n : Nat} {f f' : Nat → Nat → Bool} (h : InAt w gI K n f) (i q : Nat) (x : Bool) (hf : ∀ j p, f' j p = if j = i ∧ p = q then x else f j p) : InAt (w.setCell ⟨gI + 1 + i, q, none⟩ (.bool x)) gI K n f' := by
  refine ⟨h.head.setOther (by show gI ≠ gI + 1 + i; omega) _, fun j hj => ?_⟩
  by_cases hji : j = i
  · subst hji
    refine ((h.row j hj).set q (.bool x)).congr fun p hp => ?_
    show (if p = q then Value.bool x else .bool (f j p)) = _
    rw [hf]
    by_cases hpq : p = q
    · rw [if_pos hpq, if_pos ⟨rfl, hpq⟩]
    · rw [if_neg hpq, if_neg (fun h => hpq h.2)]
  · refine ((h.row j hj).setOther (by show gI + 1 + j ≠ gI + 1 + i; omega) _).congr fun p hp => ?_
    rw [hf, if_neg (fun h => hji h.1)]
theorem InAt.congr {w : World} {gI K n : Nat} {f f' : Nat → Nat → Bool} (h : InAt w gI K n f) (hf : ∀ i q, i < K → q < n → f i q = f' i q) : InAt w gI K n f' :=
  ⟨h.head, fun i hi => (h.row i hi).congr fun q hq => by rw [hf i q hi hq]⟩
def SetsR (w : World) (K n : Nat) (f : Nat → Nat → Bool) (e : Ending) (w' : World) : Prop := ∃ gI, e = .returned (.slice (some ⟨gI, 0, none⟩) K K) ∧ w.heap.size ≤ gI ∧ InAt w' gI K n f
set_option maxRecDepth 20000 in
set_option maxHeartbeats 2000000 in
theorem sets_any (w : World) (la na ia ca : Option Addr) (n lc nn nc il ic cn cc : Nat) (ln : Nat → Nat) (lit : Nat → Nat → T) (next : Nat → List Int) (init : List Int) (acc : Nat → List Int) (h : AutAt w la na ia ca n nn il cn ln lit next init acc) (K : Nat) (hK : K = if cn = 0 then 1 else cn) (hc : cn ≤ 1000) (hn : nn ≤ 1000) (hacc : ∀ i, i < cn → StP (acc i) nn) :
    Calls Try.prog 17 #[.agg #[.slice la n lc, .slice na nn nc, .slice ia il ic, .slice ca cn cc]] w fun e w' => SetsR w K nn (inB cn acc) e w' ∧ Below w.heap.size w w' := by
  have hK1 : 1 ≤ K ∧ K ≤ 1000 := by rw [hK]; split <;> omega
  have HA := Lib.hid hacc
  have HKK := Lib.hid hK
  have hmx : ∀ W : World, (Builtin.max_ #[3, 3] 3 #[.int .i64 1, .int .i64 (cn : Nat)]).run Try.prog W = .ok (.int .i64 (K : Nat)) W := fun W => by
    rw [run_max_int2, show (if (cn : Int) > 1 then (cn : Int) else 1) = (K : Nat) by rw [hK]; split <;> split <;> omega]
  have hmkO := run_make_row' (P := Try.prog) 44 48 (.slice none 0 0) 24 Try.underlying44 Try.info_bools rfl .i64 .i64 K (by omega) (by omega)
  have hmkB := run_make_row' (P := Try.prog) 48 4 (.bool false) 1 Try.underlying48 Try.info_bool rfl .i64 .i64 nn (by omega) (by omega)
  clear hacc hK
  have A0 := (Below.refl w.heap.size w).alloc (Nat.le_refl _) (.cells #[.slice la n lc, .slice na nn nc, .slice ia il ic, .slice ca cn cc] 26)
  have pt : (w.alloc (.cells #[.slice la n lc, .slice na nn nc, .slice ia il ic, .slice ca cn cc] 26)).heap[w.heap.size]? = some (.cells #[.slice la n lc, .slice na nn nc, .slice ia il ic, .slice ca cn cc] 26 (0, 0)) := heap_alloc_new _ _
  go_enter Try.func17, Try.ntmps17
  go_upto_region 1 with fail
  obtain ⟨v1, hv⟩ : ∃ v, w.alloc (.cells #[.slice la n lc, .slice na nn nc, .slice ia il ic, .slice ca cn cc] 26) = v := ⟨_, rfl⟩
  obtain ⟨ga, hg⟩ : ∃ g, w.heap.size = g := ⟨_, rfl⟩
  rw [hv] at pt A0 ⊢
  rw [hg] at pt ⊢
  have bt := A0
  have hgw : w.heap.size ≤ ga := Nat.le_of_eq hg
  clear hv hg A0
  have c0 : v1.cell? ⟨ga, 0, none⟩ = some (.slice la n lc) := cell_of_row _ _ 0 _ _ _ pt
  have c1 : v1.cell? ⟨ga, 1, none⟩ = some (.slice na nn nc) := cell_of_row _ _ 1 _ _ _ pt
  have c2 : v1.cell? ⟨ga, 2, none⟩ = some (.slice ia il ic) := cell_of_row _ _ 2 _ _ _ pt
  have c3 : v1.cell? ⟨ga, 3, none⟩ = some (.slice ca cn cc) := cell_of_row _ _ 3 _ _ _ pt
  have hm0 := World.rowIs_made v1 (.slice none 0 0) K 48
  have bm := bt.trans (((Below.refl v1.heap.size v1).alloc (Nat.le_refl _) (.cells (madeCells #[Value.slice none 0 0] K) 48)).mono bt.size)
  have ptm := (Below.heap_alloc v1 (.cells (madeCells #[Value.slice none 0 0] K) 48) ga (Array.getElem?_eq_some_iff.1 pt).1).trans pt
  have hgs := bt.size
  have hga := (Array.getElem?_eq_some_iff.1 pt).1
  have hsz : (v1.alloc (.cells (madeCells #[Value.slice none 0 0] K) 48)).heap.size = v1.heap.size + 1 := World.size_alloc _ _
  go_upto_region 2 with fail
  obtain ⟨v2, hv⟩ : ∃ v, v1.alloc (.cells (madeCells #[Value.slice none 0 0] K) 48) = v := ⟨_, rfl⟩
  rw [hv] at bm ptm hsz hm0 ⊢
  obtain ⟨gI, hg⟩ : ∃ g, v1.heap.size = g := ⟨_, rfl⟩
  rw [hg] at hgs hga hsz hm0 ⊢
  have HM0 := Lib.hid hm0
  clear hv hg hm0 c0 c1 c2 c3 pt bt
  go_wp2_with fail
  go_loopw [17] (fun i w' => ∃ j : Nat, j ≤ K ∧ i = .int .i64 (j : Nat) ∧ w'.heap.size = gI + 1 + j ∧ Hid (w'.rowIs gI 48 K fun i => if i < j then .slice (some ⟨gI + 1 + i, 0, none⟩) nn nn else .slice none 0 0) ∧ Hid (∀ i, i < j → w'.rowIs (gI + 1 + i) 4 nn fun _ => .bool false) ∧ w'.heap[ga]? = some (.cells #[.slice la n lc, .slice na nn nc, .slice ia il ic, .slice ca cn cc] 26 (0, 0)) ∧ Below w.heap.size w w') (fun i _ => K - (intOf i).toNat)
  case atStart => exact ⟨0, Nat.zero_le _, rfl, hsz, Lib.hid (HM0.out.congr fun i hi => by rw [if_neg (by omega)]), Lib.hid (fun i hi => by omega), ptm, bm⟩
  case round =>
    clear HM0 hsz ptm bm
    obtain ⟨j, hj, rfl, hsz, HM, HB, pt, bt⟩ := hrel
    by_cases hjK : j < K
    · have f1 : decide (j < K) = true := by simpa using hjK
      have c1 : wr.cell? ⟨ga, 1, none⟩ = some (.slice na nn nc) := cell_of_row _ _ 1 _ _ _ pt
      have bA : Below wr.heap.size wr (wr.alloc (.cells (madeCells #[Value.bool false] nn) 4)) := (Below.refl _ _).alloc (Nat.le_refl _) _
      have HR := Lib.hid (HM.out.of_block (bA.block _ HM.out.lt))
      have hcell := HR.out.cell hjK
      have hfr := HR.out.frozen j
      have hnew := World.rowIs_made wr (.bool false) nn 4
      have hz2 : (wr.alloc (.cells (madeCells #[Value.bool false] nn) 4)).heap.size = wr.heap.size + 1 := World.size_alloc _ _
      have HN := Lib.hid hnew
      have HZ := Lib.hid hz2
      clear hnew hz2
      go_wp2_with fail
      have b1 : Below w.heap.size w ((wr.alloc (.cells (madeCells #[Value.bool false] nn) 4)).setCell ⟨gI, j, none⟩ (.slice (some ⟨gI + 1 + j, 0, none⟩) nn nn)) := (below_then bt bA).setCell (by show _ ≤ gI; omega) _
      have r1 : ((wr.alloc (.cells (madeCells #[Value.bool false] nn) 4)).setCell ⟨gI, j, none⟩ (.slice (some ⟨gI + 1 + j, 0, none⟩) nn nn)).rowIs gI 48 K (fun i => if i < j + 1 then .slice (some ⟨gI + 1 + i, 0, none⟩) nn nn else .slice none 0 0) := (HR.out.set j _).congr fun i hi => by
        by_cases hij : i = j
        · rw [if_pos hij, if_pos (by omega), hij]
        · rw [if_neg hij]
          by_cases h2 : i < j
          · rw [if_pos h2, if_pos (by omega)]
          · rw [if_neg h2, if_neg (by omega)]
      have r2 : ∀ i, i < j + 1 → ((wr.alloc (.cells (madeCells #[Value.bool false] nn) 4)).setCell ⟨gI, j, none⟩ (.slice (some ⟨gI + 1 + j, 0, none⟩) nn nn)).rowIs (gI + 1 + i) 4 nn (fun _ => .bool false) := fun i hi => by
        by_cases hij : i = j
        · rw [hij, ← hsz]
          exact HN.out.setOther (by show wr.heap.size ≠ gI; omega) _
        · exact ((HB.out i (by omega)).of_block (bA.block _ (HB.out i (by omega)).lt)).setOther (by show gI + 1 + i ≠ gI; omega) _
      have r3 : ((wr.alloc (.cells (madeCells #[Value.bool false] nn) 4)).setCell ⟨gI, j, none⟩ (.slice (some ⟨gI + 1 + j, 0, none⟩) nn nn)).heap.size = gI + 1 + (j + 1) := by
        have := HZ.out
        show (World.setCell _ _ _).heap.size = _
        simp only [World.setCell, Array.size_modify]
        omega
      exact ⟨⟨j + 1, by omega, by simp, r3, Lib.hid r1, Lib.hid r2, (Below.heap_setCell _ _ _ _ (by show ga ≠ gI; omega)).trans ((bA.block ga (Array.getElem?_eq_some_iff.1 pt).1).trans pt), b1⟩, by simp [intOf]; omega⟩
    · have f1 : decide (j < K) = false := by simpa using hjK
      obtain rfl : j = K := by omega
      have HI := Lib.hid (show InAt wr gI j nn (fun _ _ => false) from ⟨HM.out.congr fun i hi => by rw [if_pos hi], HB.out⟩)
      have i0 := HI.out.head.cell (i := 0) (by omega)
      clear HM HB hsz
      go_wp2_with fail
      clear i0
      go_loopw [32] (fun i w' => ∃ q : Nat, q ≤ nn ∧ i = .int .i64 (q : Nat) ∧ Hid (InAt w' gI j nn fun i p => decide (i = 0) && decide (p < q) && decide (cn = 0)) ∧ w'.heap[ga]? = some (.cells #[.slice la n lc, .slice na nn nc, .slice ia il ic, .slice ca cn cc] 26 (0, 0)) ∧ Below w.heap.size w w') (fun i _ => nn - (intOf i).toNat)
      case atStart => exact ⟨0, Nat.zero_le _, rfl, Lib.hid (HI.out.congr fun i q hi hq => by simp), pt, bt⟩
      case round =>
        clear HI pt bt
        obtain ⟨q, hq, rfl, HI, pt, bt⟩ := hrel
        have i0 : wr.cell? ⟨gI, 0, none⟩ = some (.slice (some ⟨gI + 1, 0, none⟩) nn nn) := HI.out.head.cell (i := 0) (by omega)
        by_cases hqn : q < nn
        · have f2 : decide (q < nn) = true := by simpa using hqn
          have hcell : wr.cell? ⟨gI + 1, q, none⟩ = some _ := (HI.out.row 0 (by omega)).cell hqn
          have hfr : wr.frozen? ⟨gI + 1, q, none⟩ = false := (HI.out.row 0 (by omega)).frozen q
          have g3 : wr.cell? ⟨ga, 3, none⟩ = some (.slice ca cn cc) := cell_of_row _ _ 3 _ _ _ pt
          obtain ⟨Z, hZ⟩ : ∃ Z, decide (cn = 0) = Z := ⟨_, rfl⟩
          have e0 : ((cn : Int) == 0) = Z := by rw [← hZ]; by_cases h0 : cn = 0 <;> simp [h0]
          have HZ := Lib.hid hZ
          clear hZ
          have p1 : (0 : Int) < (j : Int) := by omega
          have p3 : 0 < j := by omega
          have p4 : (q : Int) < (nn : Int) := by omega
          go_upto_region 10 with fail
          go_still_tail 9, (by kernel_rfl)
          change wpList _ _ _ _ _ wr.drew
          obtain ⟨wd, hwd⟩ : ∃ wd, wr.drew = wd := ⟨_, rfl⟩
          have hd : wd.heap = wr.heap := by rw [← hwd]; rfl
          rw [hwd]
          have bd : Below wr.heap.size wr wd := by rw [← hwd]; exact (Below.refl _ _).drew
          have hcell2 := (World.cell?_of_block (a := ⟨gI + 1, q, none⟩) (by rw [hd])).trans hcell
          have hfr2 := (World.frozen?_of_block (a := ⟨gI + 1, q, none⟩) (by rw [hd])).trans hfr
          have HI2 := Lib.hid (HI.out.mono bd)
          have pt2 := (bd.block ga (Array.getElem?_eq_some_iff.1 pt).1).trans pt
          have bt2 := below_then bt bd
          clear hwd hd
          go_wp2_with fail
          refine ⟨⟨q + 1, by omega, by simp, Lib.hid ((HI2.out.set 0 q Z (f' := fun i p => decide (i = 0) && decide (p < q + 1) && decide (cn = 0)) (fun i p => ?_))), (Below.heap_setCell _ _ _ _ (by show ga ≠ gI + 1; omega)).trans pt2, bt2.setCell (by show _ ≤ gI + 1; omega) _⟩, by simp [intOf]; omega⟩
          have := HZ.out
          by_cases h1 : i = 0
          · by_cases h2 : p = q
            · rw [if_pos ⟨h1, h2⟩]; simp [h1, h2, this]
            · rw [if_neg (fun h => h2 h.2)]
              have : decide (p < q + 1) = decide (p < q) := by congr 1; apply propext; omega
              rw [this]
          · rw [if_neg (fun h => h1 h.1)]
            simp [h1]
        · have f2 : decide (q < nn) = false := by simpa using hqn
          obtain rfl : q = nn := by omega
          have HI2 := Lib.hid (show InAt wr gI j q (fun i p => if cn = 0 then true else false) from HI.out.congr fun i p hi hp => by
            have hk := HKK.out
            by_cases h0 : cn = 0
            · rw [if_pos h0] at hk ⊢
              have : i = 0 := by omega
              simp [this, hp, h0]
            · rw [if_neg h0]; simp [h0])
          clear HI i0
          have c3 : wr.cell? ⟨ga, 3, none⟩ = some (.slice ca cn cc) := cell_of_row _ _ 3 _ _ _ pt
          go_wp2_with fail
          clear c3
          go_loopw [48] (fun i w' => ∃ l : Nat, l ≤ cn ∧ i = .int .i64 (l : Nat) ∧ Hid (InAt w' gI j q fun i p => if cn = 0 then true else decide (i < l) && decide ((p : Int) ∈ acc i)) ∧ w'.heap[ga]? = some (.cells #[.slice la n lc, .slice na q nc, .slice ia il ic, .slice ca cn cc] 26 (0, 0)) ∧ Below w.heap.size w w') (fun i _ => cn - (intOf i).toNat)
          case atStart => exact ⟨0, Nat.zero_le _, rfl, Lib.hid (HI2.out.congr fun i p hi hp => by simp), pt, bt⟩
          case round =>
            clear HI2 pt bt
            obtain ⟨l, hl, rfl, HI, pt, bt⟩ := hrel
            by_cases hln : l < cn
            · have f3 : decide (l < cn) = true := by simpa using hln
              obtain ⟨b1, o1, rfl, hb1, x1, l1, k1, e2, r1⟩ := h.acc.cell hln
              have hlen := Lib.hid r1.len_eq
              have hst := Lib.hid (HA.out l hln)
              have hsm := r1.small
              have HKC := Lib.hid (show j = cn by have := HKK.out; rw [if_neg (by omega)] at this; omega)
              have e3 := (bt.cell (p := ⟨b1, o1 + l, none⟩) hb1).trans e2
              go_wp2_with fail
              clear e3
              go_loopw [55] (fun i w' => ∃ p : Nat, p ≤ l1 ∧ i = .int .i64 (p : Nat) ∧ Hid (InAt w' gI j q fun i s => if cn = 0 then true else (decide (i < l) && decide ((s : Int) ∈ acc i)) || (decide (i = l) && decide ((s : Int) ∈ (acc l).take p))) ∧ w'.heap[ga]? = some (.cells #[.slice la n lc, .slice na q nc, .slice ia il ic, .slice (some ⟨b1, o1, none⟩) cn cc] 26 (0, 0)) ∧ Below w.heap.size w w') (fun i _ => l1 - (intOf i).toNat)
              case atStart => exact ⟨0, Nat.zero_le _, rfl, Lib.hid (HI.out.congr fun i p hi hp => by simp), pt, bt⟩
              case round =>
                clear HI pt bt
                obtain ⟨p, hp, rfl, HI, pt, bt⟩ := hrel
                have hc0 : ¬ cn = 0 := by omega
                by_cases hpl : p < l1
                · have f4 : decide (p < l1) = true := by simpa using hpl
                  obtain ⟨b5, o5, rfl, hb5, hat⟩ := (r1.mono bt).at_.resolve_left (by omega)
                  have hx := hat p hpl
                  have hy := hst.out ((acc l).getD p 0) ((memD_iff _ _).2 ⟨p, by rw [hlen.out]; exact hpl, rfl⟩)
                  have ht := take_snocZ (acc l) p (by rw [hlen.out]; exact hpl)
                  obtain ⟨y, hye⟩ : ∃ y, (acc l).getD p 0 = y := ⟨_, rfl⟩
                  rw [hye] at hx hy ht
                  obtain ⟨s, rfl⟩ : ∃ s : Nat, y = (s : Int) := ⟨y.toNat, by omega⟩
                  have hs : s < q := by omega
                  have HT := Lib.hid ht
                  have hcell := HI.out.head.cell (i := l) (by have := HKC.out; omega)
                  have hcell2 := (HI.out.row l (by have := HKC.out; omega)).cell hs
                  have hfr := (HI.out.row l (by have := HKC.out; omega)).frozen s
                  have hlj : l < j := by have := HKC.out; omega
                  have f5 : decide (l < j) = true := by simpa using hlj
                  clear hat hye hy ht
                  go_wp2_with fail
                  refine ⟨⟨p + 1, by omega, by simp, Lib.hid (HI.out.set l s true (fun i t => ?_)), (Below.heap_setCell _ _ _ _ (by show ga ≠ gI + 1 + l; omega)).trans pt, bt.setCell (by show _ ≤ gI + 1 + l; omega) _⟩, by simp [intOf]; omega⟩
                  rw [HT.out]
                  simp only [if_neg hc0, List.mem_append, List.mem_singleton]
                  by_cases h1 : i = l
                  · by_cases h2 : t = s
                    · rw [if_pos ⟨h1, h2⟩]; simp [h1, h2]
                    · rw [if_neg (fun h => h2 h.2)]
                      have : ¬ ((t : Int) = (s : Int)) := by omega
                      simp [h1, this]
                  · rw [if_neg (fun h => h1 h.1)]
                    simp [h1]
                · have f4 : decide (p < l1) = false := by simpa using hpl
                  obtain rfl : p = l1 := by omega
                  have HI3 := Lib.hid (show InAt wr gI j q (fun i p => if cn = 0 then true else decide (i < l + 1) && decide ((p : Int) ∈ acc i)) from HI.out.congr fun i t hi ht => by
                    rw [List.take_of_length_le (by rw [hlen.out]; exact Nat.le_refl _)]
                    simp only [if_neg hc0]
                    by_cases h1 : i = l
                    · simp [h1]
                    · have : decide (i < l + 1) = decide (i < l) := by congr 1; apply propext; omega
                      simp [h1, this])
                  clear HI
                  go_wp2_with fail
                  exact ⟨⟨l + 1, by omega, by simp, HI3, pt, bt⟩, by simp [intOf]; omega⟩
            · have f3 : decide (l < cn) = false := by simpa using hln
              obtain rfl : l = cn := by omega
              go_wp2_with fail
              go_ret
              exact ⟨⟨gI, rfl, by omega, HI.out.congr fun i p hi hp => by
                unfold inB
                by_cases h0 : l = 0
                · rw [if_pos h0, if_pos h0]
                · rw [if_neg h0, if_neg h0]
                  have := HKK.out
                  rw [if_neg h0] at this
                  have : decide (i < l) = true := by simp; omega
                  rw [this]; rfl⟩, bt⟩
end Go.Proofs.Ytpabnpgbclfcfaa
