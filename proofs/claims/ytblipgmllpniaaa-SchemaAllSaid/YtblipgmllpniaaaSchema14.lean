/- Contract of the document's Encode. -/
import Derived.Test.YtblipgmllpniaaaSchemaHead
import Derived.Test.YtblipgmllpniaaaBitsRef6
namespace Go.Proofs.Ytblipgmllpniaaa
open Go.RowKit
set_option linter.unusedVariables false

/-- A slice's length. -/
def lenOf : Value → Nat
  | .slice _ n _ => n
  | _ => 0
/-- What a round of the document's Encode holds on to. -/
structure RefAt (w : World) (g : Nat) (a : Option Addr) (l c : Nat) (bs : List Nat) (N : Int) (bv ov : Nat) (x : Int) (bk ok : Nat) (lo hi : Int) : Prop where
  x1 : BitsBox w g a l c N
  y1 : BytesAt w a l c (pack bs)
  v1 : w.cell? ⟨bv, ov, none⟩ = some (.int .i64 x)
  v2 : bv < w.heap.size
  f0 : w.cell? ⟨bk, ok, none⟩ = some (.int .i64 lo)
  f1 : w.cell? ⟨bk, ok + 1, none⟩ = some (.int .i64 hi)
  f2 : bk < w.heap.size
theorem RefAt.below {w w' : World} {g : Nat} {a : Option Addr} {l c : Nat} {bs : List Nat} {N : Int} {bv ov : Nat} {x : Int} {bk ok : Nat} {lo hi : Int} (h : RefAt w g a l c bs N bv ov x bk ok lo hi) (hb : Below w.heap.size w w') : RefAt w' g a l c bs N bv ov x bk ok lo hi :=
  ⟨h.x1.below hb, h.y1.mono hb, (hb.cell (p := ⟨bv, ov, none⟩) h.v2).trans h.v1, Nat.lt_of_lt_of_le h.v2 hb.size, (hb.cell (p := ⟨bk, ok, none⟩) h.f2).trans h.f0, (hb.cell (p := ⟨bk, ok + 1, none⟩) h.f2).trans h.f1, Nat.lt_of_lt_of_le h.f2 hb.size⟩
theorem RefAt.all {w : World} {g : Nat} {a : Option Addr} {l c : Nat} {bs : List Nat} {N : Int} {bv ov : Nat} {x : Int} {bk ok : Nat} {lo hi : Int} (h : RefAt w g a l c bs N bv ov x bk ok lo hi) :
    w.cell? ⟨g, 0, none⟩ = some (.slice a l c) ∧ w.cell? ⟨g, 1, none⟩ = some (.int .i64 N) ∧ w.cell? ⟨bv, ov, none⟩ = some (.int .i64 x) ∧ w.cell? ⟨bk, ok, none⟩ = some (.int .i64 lo) ∧ w.cell? ⟨bk, ok + 1, none⟩ = some (.int .i64 hi) :=
  ⟨h.x1.cell0, h.x1.cell1, h.v1, h.f0, h.f1⟩
theorem RefAt.lt {w : World} {g : Nat} {a : Option Addr} {l c : Nat} {bs : List Nat} {N : Int} {bv ov : Nat} {x : Int} {bk ok : Nat} {lo hi : Int} (h : RefAt w g a l c bs N bv ov x bk ok lo hi) : g < w.heap.size := (Array.getElem?_eq_some_iff.1 h.x1).1
theorem RefAt.set {w : World} {g : Nat} {a : Option Addr} {l c : Nat} {bs : List Nat} {N : Int} {bv ov : Nat} {x : Int} {bk ok : Nat} {lo hi : Int} (h : RefAt w g a l c bs N bv ov x bk ok lo hi) (q : Nat) (h1 : q ≠ g) (h2 : q ≠ bv) (h3 : q ≠ bk) (u v : Value) :
    ((w.setCell ⟨q, 0, none⟩ u).setCell ⟨q, 1, none⟩ v).cell? ⟨g, 0, none⟩ = some (.slice a l c) ∧ ((w.setCell ⟨q, 0, none⟩ u).setCell ⟨q, 1, none⟩ v).cell? ⟨g, 1, none⟩ = some (.int .i64 N) ∧ ((w.setCell ⟨q, 0, none⟩ u).setCell ⟨q, 1, none⟩ v).cell? ⟨bv, ov, none⟩ = some (.int .i64 x) ∧ ((w.setCell ⟨q, 0, none⟩ u).setCell ⟨q, 1, none⟩ v).cell? ⟨bk, ok, none⟩ = some (.int .i64 lo) ∧ ((w.setCell ⟨q, 0, none⟩ u).setCell ⟨q, 1, none⟩ v).cell? ⟨bk, ok + 1, none⟩ = some (.int .i64 hi) := by
  have key : ∀ (b o : Nat), q ≠ b → ((w.setCell ⟨q, 0, none⟩ u).setCell ⟨q, 1, none⟩ v).cell? ⟨b, o, none⟩ = w.cell? ⟨b, o, none⟩ := fun b o hb => by
    rw [World.cell?_setCell_other _ _ _ _ (fun e => hb (by injection e)), World.cell?_setCell_other _ _ _ _ (fun e => hb (by injection e))]
  exact ⟨(key _ _ h1).trans h.x1.cell0, (key _ _ h1).trans h.x1.cell1, (key _ _ h2).trans h.v1, (key _ _ h3).trans h.f0, (key _ _ h3).trans h.f1⟩
theorem refencode_bad (w : World) (a : Option Addr) (len cap : Nat) (b : Option Addr) (len' cap' : Nat) (fs : List (Int × Int)) (vs : List Int) (hlen : len ≤ 1000) (hl : FieldsAt w a len fs) (hv : IntsAt w b len' vs) (c : Int) (hc : inS fs vs = c) (h0 : c ≠ 0) :
    Calls Try.prog 13 #[.slice a len cap, .slice b len' cap'] w (BytesOut [] c w) := by
  have HC := Lib.hid hc
  have d1 : (c != 0) = true := by simpa using h0
  clear hc
  go_enter Try.func13, Try.ntmps13
  go_wp2_with fail
  refine (refin_any _ a len cap b len' cap' fs vs hlen hl hv).mono ?_
  rintro e w1 ⟨rfl, b1⟩
  rw [HC.out]
  go_wp2
  go_ret2
  exact ⟨_, _, _, rfl, bytesNone _, b1⟩
set_option maxHeartbeats 2000000 in
theorem refencode_ok (w : World) (a : Option Addr) (len cap : Nat) (b : Option Addr) (len' cap' : Nat) (fs : List (Int × Int)) (vs : List Int) (hr : ∀ f ∈ fs, RightF f) (hlen : len ≤ 40) (hl : FieldsAt w a len fs) (hv : IntsAt w b len' vs) (hc : inS fs vs = 0) :
    Calls Try.prog 13 #[.slice a len cap, .slice b len' cap'] w (BytesOut (encS fs vs) 0 w) := by
  obtain ⟨hvl, hall⟩ := inS_zero hc
  have HC := Lib.hid hc
  have HL := Lib.hid hl.len_eq
  have HV := Lib.hid hv.len_eq
  have hll : len' = len := by rw [← HV.out, ← HL.out]; exact hvl
  subst hll
  clear hc hvl
  go_enter Try.func13, Try.ntmps13
  go_wp2_with fail
  refine (refin_any _ a _ cap b _ cap' fs vs (by omega) hl hv).mono ?_
  rintro e w1 ⟨rfl, b1⟩
  rw [HC.out]
  go_wp2
  generalize hW0 : w1.alloc (.cells #[.slice none 0 0, .int .i64 0] 53) = W0
  have x0 : BitsBox W0 w1.heap.size none 0 0 0 := by rw [← hW0]; exact World.alloc_heap_new _ _
  have B0 : Below w.heap.size w W0 := by rw [← hW0]; exact b1.alloc b1.size _
  obtain ⟨G, hG⟩ : ∃ G, G = w1.heap.size := ⟨_, rfl⟩
  have hGw : w.heap.size ≤ G := by rw [hG]; exact b1.size
  rw [← hG] at x0 ⊢
  clear hW0 hG
  go_loopw [8] (fun i wr => ∃ (j : Nat) (al : Option Addr) (ll lc : Nat), j ≤ len' ∧ i = .int .i64 (j : Int) ∧ BitsBox wr G al ll lc ((encTo fs vs j).length : Int) ∧ BytesAt wr al ll lc (pack (encTo fs vs j)) ∧ Below w.heap.size w wr) (fun i _ => len' - (intOf i).toNat)
  case atStart => exact ⟨0, none, 0, 0, by omega, rfl, x0, by have h := bytesNone W0; rw [← pack_nil] at h; exact h, B0⟩
  case round =>
    obtain ⟨j, al, ll, lc, hj, rfl, xb, yb, Bel⟩ := hrel
    clear x0 B0 b1
    by_cases hlt : j < len'
    · obtain ⟨bk, off, rfl, hbk0, hcl0⟩ := hl.at_.resolve_left (by omega)
      obtain ⟨bv, offv, rfl, hbv0, hcv0⟩ := hv.at_.resolve_left (by omega)
      have hbk := Nat.lt_of_lt_of_le hbk0 Bel.size
      have hbv := Nat.lt_of_lt_of_le hbv0 Bel.size
      have c1 := (Bel.cell (p := ⟨bk, off + j * 2, none⟩) hbk0).trans (hcl0 j hlt).1
      have c2 := (Bel.cell (p := ⟨bk, off + j * 2 + 1, none⟩) hbk0).trans (hcl0 j hlt).2
      have c3 := (Bel.cell (p := ⟨bv, offv + j, none⟩) hbv0).trans (hcv0 j hlt)
      have hjl : j < fs.length := by rw [HL.out]; exact hlt
      have hrf := hr _ (getD_mem hjl)
      have hin := hall j hjl
      have hst : encTo fs vs (j + 1) = encTo fs vs j ++ digs (vs.getD j 0 - (fs.getD j (0, 0)).1).toNat (wideF (fs.getD j (0, 0))) := rfl
      have hle := bitsF_le fs hr j (by omega)
      rw [← encTo_length fs vs j (by omega)] at hle
      have hbj := encTo_bits fs vs j
      have hw16 := wideF_le _ hrf
      have hjlt : (j : Int) < (len' : Int) := by omega
      obtain ⟨P, hP⟩ : ∃ P, P = encTo fs vs j := ⟨_, rfl⟩
      obtain ⟨P', hP'⟩ : ∃ P', P' = encTo fs vs (j + 1) := ⟨_, rfl⟩
      rw [← hP] at xb yb hst hle hbj
      rw [← hP'] at hst
      generalize fs.getD j (0, 0) = f at *
      generalize vs.getD j 0 = x at *
      obtain ⟨lo, hi'⟩ := f
      simp only at c1 c2 hst
      have hfit := has_width hrf hin
      have hr' := hrf
      unfold RightF at hr'
      unfold hasF at hin
      simp at hr' hin
      obtain ⟨d, hd⟩ : ∃ d : Nat, x - lo = (d : Int) := ⟨(x - lo).toNat, by omega⟩
      simp only at hfit
      rw [hd, Int.toNat_natCast] at hfit hst
      obtain ⟨Kw, hKw⟩ : ∃ Kw, Kw = wideF (lo, hi') := ⟨_, rfl⟩
      rw [← hKw] at hfit hst hw16
      have hdK := Lib.bitLen_le d Kw (by omega) hfit
      have hput : putS P d (Kw : Int) = (P', 0) := by
        unfold putS
        rw [if_neg (by omega), if_neg (by omega), Int.toNat_natCast, hst]
      have hPl : (P'.length : Int) = (P.length : Int) + (Kw : Int) := by rw [hst, List.length_append, digs_length]; omega
      have hsub : IntKind.i64.wrap (x - lo) = (d : Int) := by rw [← hd]; exact IntWalk.i64_in _ (by omega)
      have hcv : ∀ w : World, (convert 3 64 (.int .i64 (d : Int))).run Try.prog w = .ok (.int .u64 (d : Int)) w := by
        intro w
        rw [run_convert_int (P := Try.prog) w 3 64 .i64 _ (by kernel_rfl) (by kernel_rfl), show Try.prog.intKind 64 = IntKind.u64 from by kernel_rfl, show IntKind.u64.wrap (d : Int) = (d : Int) from by rw [IntKind.wrap_u64]; omega]
      have HPUT := Lib.hid hput
      have HP := Lib.hid hP
      have HP' := Lib.hid hP'
      have HK := Lib.hid hKw
      have hd64 : d < 18446744073709551616 := by omega
      have hPs : P.length ≤ 1000 := by omega
      have hPs' : P'.length ≤ 1016 := by omega
      clear hput hP hP' hKw hPl hst hfit hd hle hcl0 hcv0
      have bd : Below wr.heap.size wr wr.drew := (Below.refl _ _).drew
      have RA : RefAt wr G al ll lc P (P.length : Int) bv (offv + j) x bk (off + j * 2) lo hi' := ⟨xb, yb, c3, hbv, c1, c2, hbk⟩
      have RD := RA.below bd
      have BelD := below_then Bel bd
      have hGlt := RD.lt
      have hbvl := RD.v2
      have hbkl := RD.f2
      clear xb yb c1 c2 c3 bd RA Bel
      have qa1 : wr.heap.size ≠ G := Nat.ne_of_gt hGlt
      have qa2 : wr.heap.size ≠ bv := Nat.ne_of_gt hbvl
      have qa3 : wr.heap.size ≠ bk := Nat.ne_of_gt hbkl
      go_wp2
      go_region_held3 (fun w' => w'.cell? ⟨G, 0, none⟩ = some (.slice al ll lc) ∧ w'.cell? ⟨G, 1, none⟩ = some (.int .i64 (P.length : Int)) ∧ w'.cell? ⟨bv, offv + j, none⟩ = some (.int .i64 x) ∧ w'.cell? ⟨bk, off + j * 2, none⟩ = some (.int .i64 lo) ∧ w'.cell? ⟨bk, off + j * 2 + 1, none⟩ = some (.int .i64 hi'))
        (first | exact RD.all | exact E2.all | exact E3.all | exact (RD.below (below_alloc _ _)).all | exact (E2.below (below_alloc _ _)).all | exact (E3.below (below_alloc _ _)).all | exact E3.set _ qa1 qa2 qa3 _ _ | exact E3.set _ qb1 qb2 qb3 _ _)
        (first | (go_at_call 17; refine (schemarefwide_any _ lo hi' hrf).mono ?_; rintro e w2 ⟨rfl, b2⟩; have E2 : RefAt w2 G al ll lc P (P.length : Int) bv (offv + j) x bk (off + j * 2) lo hi' := (by first | exact RD.below b2 | exact (RD.below (below_alloc _ (.cells #[.slice none 0 0, .int .i64 0] 53))).below b2); have qb1 : w2.heap.size ≠ G := Nat.ne_of_gt E2.lt; have qb2 : w2.heap.size ≠ bv := Nat.ne_of_gt E2.v2; have qb3 : w2.heap.size ≠ bk := Nat.ne_of_gt E2.f2; (try have zz2 : BitsBox w2 wr.heap.size none 0 0 0 := BitsBox.below (W := wr.drew.alloc (.cells #[.slice none 0 0, .int .i64 0] 53)) (World.alloc_heap_new _ _) b2); rw [← HK.out]) | (go_at_call 30; refine (refput_any _ _ _ _ P hbj (by omega) d hd64 (Kw : Int) (by omega) (by omega) (by first | exact E2.y1 | exact (E2.below (below_alloc _ _)).y1) _ _ HPUT.out _ rfl).mono ?_; rintro e w3 ⟨a3, l3, c3, rfl, y3, b3⟩; have E3 : RefAt w3 G al ll lc P (P.length : Int) bv (offv + j) x bk (off + j * 2) lo hi' := (by first | exact E2.below b3 | exact (E2.below (below_alloc _ (.cells #[.slice none 0 0, .int .i64 0] 53))).below b3); (try have zz3 := zz2.below b3); (try have zz3 : BitsBox w3 w2.heap.size none 0 0 0 := BitsBox.below (W := w2.alloc (.cells #[.slice none 0 0, .int .i64 0] 53)) (World.alloc_heap_new _ _) b3); try (have k0 := zz3.cell0; have k1 := zz3.cell1; have k2 := zz3.frozen 0; have k3 := zz3.frozen 1)))
      · generalize hWz : w3.alloc (.cells #[.slice a3 l3 c3, .int .i64 (P'.length : Int)] 53) = Wz
        have al' : Below w3.heap.size w3 Wz := by rw [← hWz]; exact below_alloc _ _
        have xg := (E3.below al').x1
        have xx : BitsBox Wz w3.heap.size a3 l3 c3 (P'.length : Int) := by rw [← hWz]; exact World.alloc_heap_new _ _
        have ys := y3.mono al'
        have BelZ : Below w.heap.size w Wz := below_then (below_then (below_then BelD b2) b3) al'
        have hne : w3.heap.size ≠ G := Nat.ne_of_gt E3.lt
        clear hWz
        have f0 := xg.cell0
        have f1 := xg.cell1
        have f2 := xx.cell0
        have f3 := xx.cell1
        have f4 := xg.frozen 0
        have f5 := xg.frozen 1
        go_wp2
        go_roundw
        case rel =>
          refine ⟨j + 1, a3, l3, c3, by omega, by go_num, ?_, ?_, ?_⟩
          · rw [← HP'.out]; exact (xg.set0 _ _ _).set1' _
          · rw [← HP'.out]; exact (ys.setBits xg 0 _).setBits (xg.set0 _ _ _) 1 _
          · exact (BelZ.setCell hGw _).setCell hGw _
        case measure => simp [intOf]; omega
      · generalize hWz : (w3.setCell ⟨w2.heap.size, 0, none⟩ (.slice a3 l3 c3)).setCell ⟨w2.heap.size, 1, none⟩ (.int .i64 (P'.length : Int)) = Wz
        have hne : w2.heap.size ≠ G := qb1
        have xg : BitsBox Wz G al ll lc (P.length : Int) := by rw [← hWz]; exact (E3.x1.setOther' hne.symm).setOther' hne.symm
        have xx : BitsBox Wz w2.heap.size a3 l3 c3 (P'.length : Int) := by rw [← hWz]; exact (zz3.set0 _ _ _).set1' _
        have ys : BytesAt Wz a3 l3 c3 (pack P') := by rw [← hWz]; exact (y3.setBits zz3 0 _).setBits (zz3.set0 _ _ _) 1 _
        have hqw2 : w.heap.size ≤ w2.heap.size := (below_then BelD b2).size
        have BelZ : Below w.heap.size w Wz := by rw [← hWz]; exact ((below_then (below_then (below_then BelD b2) (below_alloc w2 (.cells #[.slice none 0 0, .int .i64 0] 53))) b3).setCell hqw2 _).setCell hqw2 _
        clear hWz
        have f0 := xg.cell0
        have f1 := xg.cell1
        have f2 := xx.cell0
        have f3 := xx.cell1
        have f4 := xg.frozen 0
        have f5 := xg.frozen 1
        go_wp2
        go_roundw
        case rel =>
          refine ⟨j + 1, a3, l3, c3, by omega, by go_num, ?_, ?_, ?_⟩
          · rw [← HP'.out]; exact (xg.set0 _ _ _).set1' _
          · rw [← HP'.out]; exact (ys.setBits xg 0 _).setBits (xg.set0 _ _ _) 1 _
          · exact (BelZ.setCell hGw _).setCell hGw _
        case measure => simp [intOf]; omega
      · generalize hWz : (w3.setCell ⟨wr.heap.size, 0, none⟩ (.slice a3 l3 c3)).setCell ⟨wr.heap.size, 1, none⟩ (.int .i64 (P'.length : Int)) = Wz
        have hne : wr.heap.size ≠ G := qa1
        have xg : BitsBox Wz G al ll lc (P.length : Int) := by rw [← hWz]; exact (E3.x1.setOther' hne.symm).setOther' hne.symm
        have xx : BitsBox Wz wr.heap.size a3 l3 c3 (P'.length : Int) := by rw [← hWz]; exact (zz3.set0 _ _ _).set1' _
        have ys : BytesAt Wz a3 l3 c3 (pack P') := by rw [← hWz]; exact (y3.setBits zz3 0 _).setBits (zz3.set0 _ _ _) 1 _
        have hqwr : w.heap.size ≤ wr.heap.size := BelD.size
        have BelZ : Below w.heap.size w Wz := by rw [← hWz]; exact ((below_then (below_then (below_then BelD (below_alloc wr.drew (.cells #[.slice none 0 0, .int .i64 0] 53))) b2) b3).setCell hqwr _).setCell hqwr _
        clear hWz
        have f0 := xg.cell0
        have f1 := xg.cell1
        have f2 := xx.cell0
        have f3 := xx.cell1
        have f4 := xg.frozen 0
        have f5 := xg.frozen 1
        go_wp2
        go_roundw
        case rel =>
          refine ⟨j + 1, a3, l3, c3, by omega, by go_num, ?_, ?_, ?_⟩
          · rw [← HP'.out]; exact (xg.set0 _ _ _).set1' _
          · rw [← HP'.out]; exact (ys.setBits xg 0 _).setBits (xg.set0 _ _ _) 1 _
          · exact (BelZ.setCell hGw _).setCell hGw _
        case measure => simp [intOf]; omega
    · obtain rfl : j = len' := by omega
      have hlb := encTo_all fs vs
      have hjl : j = fs.length := HL.out.symm
      rw [hjl] at xb yb
      have hbl := bitsF_le fs hr fs.length (Nat.le_refl _)
      rw [List.take_length] at hbl
      have hble := bytesF_bits fs
      have hb1 := bytesF_pos fs
      have hb2 : bytesF fs ≤ 1000 := by unfold bytesF; split <;> omega
      have g0 := xb.cell0
      have g1 := xb.cell1
      have hE := encS_eq fs vs
      have hElt := encS_lt fs vs
      obtain ⟨T, hT⟩ : ∃ T, T = bytesF fs := ⟨_, rfl⟩
      obtain ⟨P, hP⟩ : ∃ P, P = encTo fs vs fs.length := ⟨_, rfl⟩
      rw [← hP] at xb yb hlb hE
      rw [← hT] at hble hb1 hb2 hE
      have hyl := yb.len_eq
      rw [pack_length] at hyl
      have hp0 : ll ≤ T := by omega
      have hE2 : encS fs vs = pack P ++ List.replicate (T - ll) 0 := by rw [hE, ← hlb, hyl]
      have hnone := yb.none_
      have hb256 := yb.byte
      have HT := Lib.hid hT
      have HE := Lib.hid hE2
      have HELT := Lib.hid hElt
      have HYL := Lib.hid yb.len_eq
      have hL1 := Lib.hid (show (u8s (pack P)).length = ll by rw [u8s_length]; exact yb.len_eq)
      have hN1 := Lib.hid yb.news
      have hsz := Bel.size
      have hGlt : G < wr.heap.size := (Array.getElem?_eq_some_iff.1 xb).1
      clear hT hP hlb hjl hE hE2 hElt hyl hbl hble
      go_wp2_with ((at_builtin; refine append_any rfl (.tmp 46) (.tmp 48) 24 rfl wr.heap.size 5 (.int .u8 0) 1 Try.underlying24 Try.info_u8 rfl _ 0 [] rfl ?_ al ll lc (u8s (pack P)) rfl ?_ ?_ ?_ ?_ ?_ ?_ ?_ ?_; exact (World.ownsRow_made wr #[] 0 (Nat.le_refl _) (by unfold maxLen; omega) rfl); exact hnone; exact hL1.out; exact (fun ad ha j u hu => cellAlloc wr _ (hN1.out ad ha j u hu)); exact (u8s_oneCell _); (unfold maxLen; omega); omega; (simp; try omega); intro vA wA ownA belA; simp only [Nat.zero_add, List.nil_append] at ownA; have OWN0 := Lib.hid ownA; clear ownA))
      have hs0 := own_slice OWN0.out
      obtain ⟨pA, qA, hvA, _⟩ := hs0
      have BelA : Below w.heap.size w wA := (Bel.alloc hsz _).trans (belA.mono hsz)
      have hbw : w.heap.size ≤ wr.heap.size := hsz
      have hbA : wr.heap.size ≤ wA.heap.size := by have := belA.size; simp at this; omega
      have O0 : wA.ownsRow wr.heap.size 5 1 vA ll (u8s (pack P ++ List.replicate (ll - ll) 0)) := by rw [Nat.sub_self]; simpa using OWN0.out
      clear OWN0 belA g0 g1 hN1 hL1 xb yb
      generalize wr.heap.size = B at *
      go_loopw [11] (fun v wz => ∃ (m : Nat) (p : Option Addr) (q : Nat), ll ≤ m ∧ m ≤ T ∧ v = .slice p m q ∧ wz.ownsRow B 5 1 (.slice p m q) m (u8s (pack P ++ List.replicate (m - ll) 0)) ∧ B ≤ wz.heap.size ∧ Below w.heap.size w wz) (fun v _ => T - lenOf v)
      case atStart => exact ⟨ll, pA, qA, by omega, hp0, hvA, by rw [← hvA]; exact O0, hbA, BelA⟩
      case round =>
        obtain ⟨m, p, q, hm1, hm2, rfl, own, hBz, BelZ⟩ := hrel
        clear O0 BelA hvA hbA
        have OWN := Lib.hid own
        clear own
        by_cases hlt : m < T
        · have hmt : (m : Int) < (T : Int) := by omega
          go_wp2_with fail
          refine (refbytes_any _ _ _ _ fs hr hlen (hl.mono BelZ)).mono ?_
          rintro e w5 ⟨rfl, b5⟩
          rw [← HT.out]
          have O5 := Lib.hid (own_below OWN.out b5)
          have hB5 : B ≤ w5.heap.size := Nat.le_trans hBz b5.size
          have Bel5 := below_then BelZ b5
          have hs5 := Bel5.size
          go_wp2_with ((at_builtin; refine append_any rfl (.tmp 55) (.tmp 56) 24 rfl B 5 (.int .u8 0) 1 Try.underlying24 Try.info_u8 rfl _ m (u8s (pack P ++ List.replicate (m - ll) 0)) rfl ?_ (some ⟨w5.heap.size, 0, none⟩) 1 1 [.int .u8 0] rfl ?_ ?_ ?_ ?_ ?_ ?_ ?_ ?_; exact (O5.out.alloc _); exact nofun; exact rfl; exact (fun ad ha => by obtain rfl := Option.some.inj ha; exact cell_one_new _ _ _); exact oneCell_u8 _; (unfold maxLen; omega); omega; (simp; omega); intro v6 w6 own6 bel6; have O6 := Lib.hid own6; clear own6))
          obtain ⟨p6, q6, hv6, _⟩ := own_slice O6.out
          have hnew : u8s (pack P ++ List.replicate (m - ll) 0) ++ [Value.int .u8 0] = u8s (pack P ++ List.replicate (m + 1 - ll) 0) := by
            rw [show m + 1 - ll = (m - ll) + 1 from by omega, List.replicate_succ', ← List.append_assoc]
            simp [u8s]
          have O7 := O6.out
          rw [hnew, hv6] at O7
          have hB6 : B ≤ w6.heap.size := by have := bel6.size; simp at this; omega
          have Bel6 : Below w.heap.size w w6 := (Bel5.alloc hs5 _).trans (bel6.mono hbw)
          clear O6 O5 hnew
          go_roundw
          case rel => exact ⟨m + 1, p6, q6, by omega, by omega, hv6, O7, hB6, Bel6⟩
          case measure => rw [hv6]; simp [lenOf]; omega
        · obtain rfl : m = T := by omega
          have hmt : (m : Int) ≤ (m : Int) := by omega
          go_wp2_with fail
          refine (refbytes_any _ _ _ _ fs hr hlen (hl.mono BelZ)).mono ?_
          rintro e w5 ⟨rfl, b5⟩
          rw [← HT.out]
          have O5 := own_below OWN.out b5
          rw [← HE.out] at O5
          obtain ⟨p7, q7, e7, y7⟩ := ownBytes (l := encS fs vs) O5 HELT.out (by omega)
          simp at e7
          obtain ⟨rfl, rfl⟩ := e7
          have y8 := Lib.hid y7
          clear O5 y7 OWN
          go_wp2
          go_ret2
          exact ⟨_, _, _, rfl, y8.out, below_then BelZ b5⟩
theorem refencode_any (w : World) (a : Option Addr) (len cap : Nat) (b : Option Addr) (len' cap' : Nat) (fs : List (Int × Int)) (vs : List Int) (hr : ∀ f ∈ fs, RightF f) (hlen : len ≤ 40) (hl : FieldsAt w a len fs) (hv : IntsAt w b len' vs) (bs : List Nat) (c : Int) (hc : inS fs vs = c) (hb : (if c = 0 then encS fs vs else []) = bs) :
    Calls Try.prog 13 #[.slice a len cap, .slice b len' cap'] w (BytesOut bs c w) := by
  by_cases h0 : c = 0
  · subst h0
    rw [if_pos rfl] at hb
    subst hb
    exact refencode_ok w a len cap b len' cap' fs vs hr hlen hl hv hc
  · rw [if_neg h0] at hb
    subst hb
    exact refencode_bad w a len cap b len' cap' fs vs (by omega) hl hv c hc h0
end Go.Proofs.Ytblipgmllpniaaa
