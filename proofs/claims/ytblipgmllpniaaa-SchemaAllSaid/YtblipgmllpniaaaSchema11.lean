/- Contract of schema.Encode. -/
import Derived.Test.YtblipgmllpniaaaSchema10
import Derived.Test.YtblipgmllpniaaaBits8
import Derived.Test.YtblipgmllpniaaaBitsRef5
import Derived.Deep.RegionHeld3
import Derived.Laws.CopyOwn
namespace Go.Proofs.Ytblipgmllpniaaa
open Go.RowKit
set_option linter.unusedVariables false
set_option linter.unusedSimpArgs false

theorem BitsBox.set1' {W : World} {b : Nat} {a : Option Addr} {len cap : Nat} {N : Int} (h : BitsBox W b a len cap N) (N' : Int) : BitsBox (W.setCell ⟨b, 1, none⟩ (.int .i64 N')) b a len cap N' := (Joins.block_setCell (i := 1) h _).trans (by simp)
/-- Bytes and a code are returned. -/
def BytesOut (l : List Nat) (c : Int) (w : World) (e : Ending) (w' : World) : Prop := ∃ a n cap, e = .returned (.tuple #[.slice a n cap, .int .i64 c]) ∧ BytesAt w' a n cap l ∧ Below w.heap.size w w'
theorem inS_zero {fs : List (Int × Int)} {vs : List Int} (h : inS fs vs = 0) : vs.length = fs.length ∧ AllIn fs vs := by
  unfold inS at h
  split at h
  · omega
  · split at h
    · exact ⟨by omega, by assumption⟩
    · omega
theorem made_zero {w w' : World} {n : Nat} (h : w'.ownsRow w.heap.size 5 1 (.slice (some ⟨w.heap.size, 0, none⟩) n n) n (madeCells (Value.int .u8 0).cells (n * 1)).toList) :
    w'.heap[w.heap.size]? = some (.cells (u8s (List.replicate n 0)).toArray 5 (0, 0)) := by
  have hz : (madeCells (Value.int .u8 0).cells (n * 1)).toList = u8s (List.replicate n 0) := by
    apply List.ext_getElem
    · simp [madeCells, u8s]
    · intro i h1 h2
      simp [madeCells, u8s, Value.cells, Nat.mod_one]
  rw [hz] at h
  rcases h.2 with ⟨hv, _⟩ | ⟨g, cp, cur, hv, _, hh, _, _, hcs, ht⟩
  · simp at hv
  · simp at hv
    obtain ⟨rfl, rfl⟩ := hv
    rw [hh]
    congr 2
    apply Array.toList_inj.1
    rw [← ht, List.take_of_length_le (by simp [hcs])]
theorem bytes_block {w : World} {g n : Nat} {l : List Nat} (h : w.heap[g]? = some (.cells (u8s l).toArray 5 (0, 0))) (hn : l.length = n) (hb : ∀ c ∈ l, c < 256) (hm : n ≤ 9223372036854775807) : BytesAt w (some ⟨g, 0, none⟩) n n l := by
  refine ⟨hn, hm, hb, nofun, .inr ⟨g, 0, rfl, (Array.getElem?_eq_some_iff.1 h).1, fun i hi => ?_⟩⟩
  rw [Nat.zero_add, cur_cell h]
  simp [u8s, show i < l.length by omega]
theorem splice_zero (l : List Nat) (n : Nat) (h : l.length ≤ n) : splice (u8s (List.replicate n 0)) 0 (u8s l) = u8s (l ++ List.replicate (n - l.length) 0) := by
  unfold splice u8s
  simp
theorem u8s_oneCell (l : List Nat) : ∀ u ∈ u8s l, u.oneCell' = true := by
  intro u hu
  obtain ⟨_, _, rfl⟩ := List.mem_map.1 hu
  rfl
/-- What a round of Encode holds on to. -/
structure EncAt (w : World) (g : Nat) (a : Option Addr) (l c : Nat) (bs : List Nat) (N : Int) (bv ov : Nat) (x : Int) (gf : Nat) (lo hi : Int) : Prop where
  x1 : BitsBox w g a l c N
  y1 : BytesAt w a l c (pack bs)
  v1 : w.cell? ⟨bv, ov, none⟩ = some (.int .i64 x)
  v2 : bv < w.heap.size
  f0 : w.cell? ⟨gf, 0, none⟩ = some (.int .i64 lo)
  f1 : w.cell? ⟨gf, 1, none⟩ = some (.int .i64 hi)
  f2 : gf < w.heap.size
theorem EncAt.below {w w' : World} {g : Nat} {a : Option Addr} {l c : Nat} {bs : List Nat} {N : Int} {bv ov : Nat} {x : Int} {gf : Nat} {lo hi : Int} (h : EncAt w g a l c bs N bv ov x gf lo hi) (hb : Below w.heap.size w w') : EncAt w' g a l c bs N bv ov x gf lo hi :=
  ⟨h.x1.below hb, h.y1.mono hb, (hb.cell (p := ⟨bv, ov, none⟩) h.v2).trans h.v1, Nat.lt_of_lt_of_le h.v2 hb.size, (hb.cell (p := ⟨gf, 0, none⟩) h.f2).trans h.f0, (hb.cell (p := ⟨gf, 1, none⟩) h.f2).trans h.f1, Nat.lt_of_lt_of_le h.f2 hb.size⟩
theorem EncAt.all {w : World} {g : Nat} {a : Option Addr} {l c : Nat} {bs : List Nat} {N : Int} {bv ov : Nat} {x : Int} {gf : Nat} {lo hi : Int} (h : EncAt w g a l c bs N bv ov x gf lo hi) :
    w.cell? ⟨g, 0, none⟩ = some (.slice a l c) ∧ w.cell? ⟨g, 1, none⟩ = some (.int .i64 N) ∧ w.cell? ⟨bv, ov, none⟩ = some (.int .i64 x) ∧ w.cell? ⟨gf, 0, none⟩ = some (.int .i64 lo) ∧ w.cell? ⟨gf, 1, none⟩ = some (.int .i64 hi) :=
  ⟨h.x1.cell0, h.x1.cell1, h.v1, h.f0, h.f1⟩
theorem EncAt.some3 {w : World} {g : Nat} {a : Option Addr} {l c : Nat} {bs : List Nat} {N : Int} {bv ov : Nat} {x : Int} {gf : Nat} {lo hi : Int} (h : EncAt w g a l c bs N bv ov x gf lo hi) :
    w.cell? ⟨bv, ov, none⟩ = some (.int .i64 x) ∧ w.cell? ⟨gf, 0, none⟩ = some (.int .i64 lo) ∧ w.cell? ⟨gf, 1, none⟩ = some (.int .i64 hi) := ⟨h.v1, h.f0, h.f1⟩
theorem EncAt.set3 {w : World} {g : Nat} {a : Option Addr} {l c : Nat} {bs : List Nat} {N : Int} {bv ov : Nat} {x : Int} {gf : Nat} {lo hi : Int} (h : EncAt w g a l c bs N bv ov x gf lo hi) (h1 : g ≠ bv) (h2 : g ≠ gf) (u v : Value) :
    ((w.setCell ⟨g, 0, none⟩ u).setCell ⟨g, 1, none⟩ v).cell? ⟨bv, ov, none⟩ = some (.int .i64 x) ∧ ((w.setCell ⟨g, 0, none⟩ u).setCell ⟨g, 1, none⟩ v).cell? ⟨gf, 0, none⟩ = some (.int .i64 lo) ∧ ((w.setCell ⟨g, 0, none⟩ u).setCell ⟨g, 1, none⟩ v).cell? ⟨gf, 1, none⟩ = some (.int .i64 hi) := by
  have key : ∀ (b o : Nat), g ≠ b → ((w.setCell ⟨g, 0, none⟩ u).setCell ⟨g, 1, none⟩ v).cell? ⟨b, o, none⟩ = w.cell? ⟨b, o, none⟩ := fun b o hb => by
    rw [World.cell?_setCell_other _ _ _ _ (fun e => hb (by injection e)), World.cell?_setCell_other _ _ _ _ (fun e => hb (by injection e))]
  exact ⟨(key _ _ h1).trans h.v1, (key _ _ h2).trans h.f0, (key _ _ h2).trans h.f1⟩
theorem schemaencode_bad (w : World) (a : Option Addr) (len cap : Nat) (b : Option Addr) (len' cap' : Nat) (fs : List (Int × Int)) (vs : List Int) (hlen : len ≤ 1000) (hl : FieldsAt w a len fs) (hv : IntsAt w b len' vs) (c : Int) (hc : inS fs vs = c) (h0 : c ≠ 0) :
    Calls Try.prog 12 #[.slice a len cap, .slice b len' cap'] w (BytesOut [] c w) := by
  have HC := Lib.hid hc
  have d1 : (c != 0) = true := by simpa using h0
  clear hc
  go_enter Try.func12, Try.ntmps12
  go_wp2_with fail
  refine (schemain_any _ a len cap b len' cap' fs vs hlen hl hv).mono ?_
  rintro e w1 ⟨rfl, b1⟩
  rw [HC.out]
  go_wp2
  go_ret2
  exact ⟨_, _, _, rfl, bytesNone _, b1⟩
set_option maxHeartbeats 8000000 in
theorem schemaencode_ok (w : World) (a : Option Addr) (len cap : Nat) (b : Option Addr) (len' cap' : Nat) (fs : List (Int × Int)) (vs : List Int) (hr : ∀ f ∈ fs, RightF f) (hlen : len ≤ 40) (hl : FieldsAt w a len fs) (hv : IntsAt w b len' vs) (hc : inS fs vs = 0) :
    Calls Try.prog 12 #[.slice a len cap, .slice b len' cap'] w (BytesOut (encS fs vs) 0 w) := by
  obtain ⟨hvl, hall⟩ := inS_zero hc
  have HC := Lib.hid hc
  have HL := Lib.hid hl.len_eq
  have HV := Lib.hid hv.len_eq
  have hll : len' = len := by rw [← HV.out, ← HL.out]; exact hvl
  subst hll
  clear hc hvl
  obtain ⟨i0, hi, hz0, hz1, hz2⟩ := info_parts Try.info_u8
  go_enter Try.func12, Try.ntmps12
  go_wp2_with fail
  refine (schemain_any _ a _ cap b _ cap' fs vs (by omega) hl hv).mono ?_
  rintro e w1 ⟨rfl, b1⟩
  rw [HC.out]
  go_wp2
  generalize hW0 : w1.alloc (.cells #[.slice none 0 0, .int .i64 0] 53) = W0
  have x0 : BitsBox W0 w1.heap.size none 0 0 0 := by rw [← hW0]; exact World.alloc_heap_new _ _
  have B0 : Below w.heap.size w W0 := by rw [← hW0]; exact b1.alloc b1.size _
  obtain ⟨G, hG⟩ : ∃ G, G = w1.heap.size := ⟨_, rfl⟩
  have hGw : w.heap.size ≤ G := by rw [hG]; exact b1.size
  rw [← hG] at x0 ⊢
  clear hW0 hG
  go_loopw [20] (fun i wr => ∃ (j : Nat) (al : Option Addr) (ll lc : Nat), j ≤ len' ∧ i = .int .i64 (j : Int) ∧ BitsBox wr G al ll lc ((encTo fs vs j).length : Int) ∧ BytesAt wr al ll lc (pack (encTo fs vs j)) ∧ Below w.heap.size w wr) (fun i _ => len' - (intOf i).toNat)
  case atStart => exact ⟨0, none, 0, 0, by omega, rfl, x0, by have h := bytesNone W0; rw [← pack_nil] at h; exact h, B0⟩
  case round =>
    obtain ⟨j, al, ll, lc, hj, rfl, xb, yb, Bel⟩ := hrel
    clear x0 B0 b1
    by_cases hlt : j < len'
    · obtain ⟨bk, off, rfl, hb, hcl⟩ := (hl.mono Bel).at_.resolve_left (by omega)
      obtain ⟨bv, offv, rfl, hbv0, hcv0⟩ := hv.at_.resolve_left (by omega)
      have hbv := Nat.lt_of_lt_of_le hbv0 Bel.size
      have hcv : ∀ i, i < len' → wr.cell? ⟨bv, offv + i, none⟩ = some (.int .i64 (vs.getD i 0)) := fun i hi => (Bel.cell (p := ⟨bv, offv + i, none⟩) hbv0).trans (hcv0 i hi)
      obtain ⟨c1, c2⟩ := hcl j hlt
      have c3 := hcv j hlt
      have hjl : j < fs.length := by rw [HL.out]; exact hlt
      have hrf := hr _ (getD_mem hjl)
      have hin := hall j hjl
      have hst : encTo fs vs (j + 1) = encTo fs vs j ++ digs (vs.getD j 0 - (fs.getD j (0, 0)).1).toNat (wideF (fs.getD j (0, 0))) := rfl
      have hle := bitsF_le fs hr j (by omega)
      rw [← encTo_length fs vs j (by omega)] at hle
      have hbj := encTo_bits fs vs j
      have hw16 := wideF_le _ hrf
      have hjlt : (j : Int) < (len' : Int) := by omega
      obtain ⟨P, hP⟩ : ∃ P, P = encTo fs vs j := ⟨_, rfl⟩
      obtain ⟨P', hP'⟩ : ∃ P', P' = encTo fs vs (j + 1) := ⟨_, rfl⟩
      rw [← hP] at xb yb hst hle hbj
      rw [← hP'] at hst
      generalize fs.getD j (0, 0) = f at *
      generalize vs.getD j 0 = x at *
      obtain ⟨lo, hi'⟩ := f
      simp only at c1 c2 hst
      have hfit := has_width hrf hin
      have hr' := hrf
      unfold RightF at hr'
      unfold hasF at hin
      simp at hr' hin
      obtain ⟨d, hd⟩ : ∃ d : Nat, x - lo = (d : Int) := ⟨(x - lo).toNat, by omega⟩
      simp only at hfit
      rw [hd, Int.toNat_natCast] at hfit hst
      obtain ⟨Kw, hKw⟩ : ∃ Kw, Kw = wideF (lo, hi') := ⟨_, rfl⟩
      rw [← hKw] at hfit hst hw16
      have hdK := Lib.bitLen_le d Kw (by omega) hfit
      have hput : putS P d (Kw : Int) = (P', 0) := by
        unfold putS
        rw [if_neg (by omega), if_neg (by omega), Int.toNat_natCast, hst]
      have hPl : (P'.length : Int) = (P.length : Int) + (Kw : Int) := by rw [hst, List.length_append, digs_length]; omega
      have hsub : IntKind.i64.wrap (x - lo) = (d : Int) := by rw [← hd]; exact IntWalk.i64_in _ (by omega)
      have hcv : ∀ w : World, (convert 3 64 (.int .i64 (d : Int))).run Try.prog w = .ok (.int .u64 (d : Int)) w := by
        intro w
        rw [run_convert_int (P := Try.prog) w 3 64 .i64 _ (by kernel_rfl) (by kernel_rfl), show Try.prog.intKind 64 = IntKind.u64 from by kernel_rfl, show IntKind.u64.wrap (d : Int) = (d : Int) from by rw [IntKind.wrap_u64]; omega]
      have HPUT := Lib.hid hput
      have HP := Lib.hid hP
      have HP' := Lib.hid hP'
      have HK := Lib.hid hKw
      have HPL := Lib.hid hPl
      have hd64 : d < 18446744073709551616 := by omega
      have hPs : P.length ≤ 1000 := by omega
      clear hput hP hP' hKw hPl hst hfit hcl hd
      go_wp2
      generalize hWx : wr.alloc (.cells #[.int .i64 lo, .int .i64 hi'] 38) = Wx
      have bal : Below wr.heap.size wr Wx := by rw [← hWx]; exact (Below.refl _ _).alloc (Nat.le_refl _) _
      have EA : EncAt Wx G al ll lc P (P.length : Int) bv (offv + j) x wr.heap.size lo hi' := by
        refine ⟨xb.below bal, yb.mono bal, (bal.cell (p := ⟨bv, offv + j, none⟩) hbv).trans c3, Nat.lt_of_lt_of_le hbv bal.size, ?_, ?_, ?_⟩
        · rw [← hWx]; simp [go_sem]
        · rw [← hWx]; simp [go_sem]
        · rw [← hWx]; simp
      have BelX := below_then Bel bal
      have hGv : G ≠ bv := by omega
      have hGx : G ≠ wr.heap.size := by have := (Array.getElem?_eq_some_iff.1 xb).1; omega
      generalize wr.heap.size = gf at *
      clear hWx xb yb c1 c2 c3 bal Bel
      have ED := EA.below (Below.refl _ _).drew
      have BelD := below_then BelX (Below.refl _ _).drew
      have fz0 : ∀ w' : World, BitsBox w' G al ll lc (P.length : Int) → w'.frozen? ⟨G, 0, none⟩ = false ∧ w'.frozen? ⟨G, 1, none⟩ = false := fun w' h => ⟨h.frozen 0, h.frozen 1⟩
      obtain ⟨dx0, dx1, dx2, dx3, dx4⟩ := ED.all
      -- REGION
      refine wp_region_noPanic ?_
      refine wp_region_held_drew (S := fun w' => w'.cell? ⟨bv, offv + j, none⟩ = some (.int .i64 x) ∧ w'.cell? ⟨gf, 0, none⟩ = some (.int .i64 lo) ∧ w'.cell? ⟨gf, 1, none⟩ = some (.int .i64 hi')) (by kernel_rfl) ED.some3 (fun hHeld => ?_)
      refine wpAnyH_take (i := 1) (v := ?_) rfl (by kernel_rfl) (by kernel_rfl) (by kernel_rfl) (fun _ _ _ h => h) (Or.inl ⟨by rfl, ?_⟩) (by assumption) ?_
      rotate_left
      · (intro wq hSw; (try dsimp only at hSw); go_simp; try with_reducible rfl)
      try simp only [Act.put, List.setIfInBounds_toArray, List.set_cons_zero, List.set_cons_succ]
      refine wpAnyH_take (i := 2) (v := ?_) rfl (by kernel_rfl) (by kernel_rfl) (by kernel_rfl) (fun _ _ _ h => h) (Or.inl ⟨by rfl, ?_⟩) (by assumption) ?_
      rotate_left
      · (intro wq hSw; (try dsimp only at hSw); go_simp; try with_reducible rfl)
      try simp only [Act.put, List.setIfInBounds_toArray, List.set_cons_zero, List.set_cons_succ]
      refine wpAnyH_take (i := 3) (v := ?_) rfl (by kernel_rfl) (by kernel_rfl) (by kernel_rfl) (fun _ _ _ h => h) (Or.inl ⟨by rfl, ?_⟩) (by assumption) ?_
      rotate_left
      · (intro wq hSw; (try dsimp only at hSw); go_simp; try with_reducible rfl)
      try simp only [Act.put, List.setIfInBounds_toArray, List.set_cons_zero, List.set_cons_succ]
      refine wpAnyH_take (i := 4) (v := ?_) rfl (by kernel_rfl) (by kernel_rfl) (by kernel_rfl) (fun _ _ _ h => h) (Or.inl ⟨by rfl, ?_⟩) (by assumption) ?_
      rotate_left
      · (intro wq hSw; (try dsimp only at hSw); go_simp; try with_reducible rfl)
      try simp only [Act.put, List.setIfInBounds_toArray, List.set_cons_zero, List.set_cons_succ]
      refine wpAnyH_take (i := 5) (v := ?_) rfl (by kernel_rfl) (by kernel_rfl) (by kernel_rfl) (fun _ _ _ h => h) (Or.inl ⟨by rfl, ?_⟩) (by assumption) ?_
      rotate_left
      · (intro wq hSw; (try dsimp only at hSw); go_simp; try with_reducible rfl)
      try simp only [Act.put, List.setIfInBounds_toArray, List.set_cons_zero, List.set_cons_succ]
      refine wpAnyH_take (i := 6) (v := ?_) rfl (by kernel_rfl) (by kernel_rfl) (by kernel_rfl) (fun _ _ _ h => h) (Or.inl ⟨by rfl, ?_⟩) (by assumption) ?_
      rotate_left
      · (intro wq hSw; (try dsimp only at hSw); go_simp; try with_reducible rfl)
      try simp only [Act.put, List.setIfInBounds_toArray, List.set_cons_zero, List.set_cons_succ]
      refine wpAnyH_take (i := 7) (v := ?_) rfl (by kernel_rfl) (by kernel_rfl) (by kernel_rfl) (fun _ _ _ h => h) (Or.inl ⟨by rfl, ?_⟩) (by assumption) ?_
      rotate_left
      · (intro wq hSw; (try dsimp only at hSw); go_simp; try with_reducible rfl)
      try simp only [Act.put, List.setIfInBounds_toArray, List.set_cons_zero, List.set_cons_succ]
      refine wpAnyH_take (i := 8) (v := ?_) rfl (by kernel_rfl) (by kernel_rfl) (by kernel_rfl) (fun _ _ _ h => h) (Or.inl ⟨by rfl, ?_⟩) (by assumption) ?_
      rotate_left
      · (intro wq hSw; (try dsimp only at hSw); go_simp; try with_reducible rfl)
      try simp only [Act.put, List.setIfInBounds_toArray, List.set_cons_zero, List.set_cons_succ]
      refine wpAnyH_take (i := 9) (v := ?_) rfl (by kernel_rfl) (by kernel_rfl) (by kernel_rfl) (fun _ _ _ h => h) (Or.inl ⟨by rfl, ?_⟩) (by assumption) ?_
      rotate_left
      · (intro wq hSw; (try dsimp only at hSw); go_simp; try with_reducible rfl)
      try simp only [Act.put, List.setIfInBounds_toArray, List.set_cons_zero, List.set_cons_succ]
      refine wpAnyH_ready (rs := [0, 10]) (by kernel_rfl) (by simp) ?_
      refine AllReadyH.cons rfl (fun K hK => ?_) (AllReadyH.cons rfl (fun K hK => ?_) (AllReadyH.nil))
      · go_simp
        refine hK.out _ _ (ED.some3) (fun hHeld => ?_)
        clear hK K
        try simp only [Act.put, List.setIfInBounds_toArray, List.set_cons_zero, List.set_cons_succ]
        refine wpAnyH_ready (rs := [10]) (by kernel_rfl) (by simp) ?_
        refine AllReadyH.cons rfl (fun K hK => ?_) (AllReadyH.nil)
        go_simp
        refine (schemawide_any _ lo hi' hrf).mono ?_
        rintro e w2 ⟨rfl, b2⟩
        have E2 := ED.below b2
        have e20 := E2.x1.cell0
        have e21 := E2.x1.cell1
        rw [← HK.out]
        go_wp2_with fail
        refine hK.out _ _ (E2.some3) (fun hHeld => ?_)
        clear hK K
        try simp only [Act.put, List.setIfInBounds_toArray, List.set_cons_zero, List.set_cons_succ]
        refine wpAnyH_ready (rs := [11]) (by kernel_rfl) (by simp) ?_
        refine AllReadyH.cons rfl (fun K hK => ?_) (AllReadyH.nil)
        go_simp
        refine (put_any _ _ _ _ P hbj (by omega) d hd64 (Kw : Int) E2.y1 _ _ HPUT.out _ rfl).mono ?_
        rintro e w3 ⟨a3, l3, c3, rfl, y3, b3⟩
        have E3 := E2.below b3
        have z0 := (fz0 _ E3.x1).1
        have z1 := (fz0 _ E3.x1).2
        have z2 := E3.x1.cell0
        have z3 := E3.x1.cell1
        go_wp2_with fail
        refine hK.out _ _ (E3.some3) (fun hHeld => ?_)
        clear hK K
        try simp only [Act.put, List.setIfInBounds_toArray, List.set_cons_zero, List.set_cons_succ]
        refine wpAnyH_take (i := 12) (v := ?_) rfl (by kernel_rfl) (by kernel_rfl) (by kernel_rfl) (fun _ _ _ h => h) (Or.inl ⟨by rfl, ?_⟩) (by assumption) ?_
        rotate_left
        · (intro wq hSw; (try dsimp only at hSw); go_simp; try with_reducible rfl)
        try simp only [Act.put, List.setIfInBounds_toArray, List.set_cons_zero, List.set_cons_succ]
        refine wpAnyH_take (i := 13) (v := ?_) rfl (by kernel_rfl) (by kernel_rfl) (by kernel_rfl) (fun _ _ _ h => h) (Or.inl ⟨by rfl, ?_⟩) (by assumption) ?_
        rotate_left
        · (intro wq hSw; (try dsimp only at hSw); go_simp; try with_reducible rfl)
        try simp only [Act.put, List.setIfInBounds_toArray, List.set_cons_zero, List.set_cons_succ]
        refine wpAnyH_take (i := 14) (v := ?_) rfl (by kernel_rfl) (by kernel_rfl) (by kernel_rfl) (fun _ _ _ h => h) (Or.inl ⟨by rfl, ?_⟩) (by assumption) ?_
        rotate_left
        · (intro wq hSw; (try dsimp only at hSw); go_simp; try with_reducible rfl)
        try simp only [Act.put, List.setIfInBounds_toArray, List.set_cons_zero, List.set_cons_succ]
        refine wpAnyH_ready (rs := [15]) (by kernel_rfl) (by simp) ?_
        refine AllReadyH.cons rfl (fun K hK => ?_) (AllReadyH.nil)
        go_simp
        refine hK.out _ _ (E3.set3 hGv hGx _ _) (fun hHeld => ?_)
        clear hK K
        try simp only [Act.put, List.setIfInBounds_toArray, List.set_cons_zero, List.set_cons_succ]
        refine wpAnyH_done (by kernel_rfl) ?_ _
        refine NoPanic.normal ?_
        go_wp2
        go_roundw
        case rel =>
          refine ⟨j + 1, a3, l3, c3, by omega, by go_num, ?_, ?_, ?_⟩
          · rw [← HP'.out]; exact (E3.x1.set0 _ _ _).set1' _
          · rw [← HP'.out]; exact (y3.setBits E3.x1 0 _).setBits (E3.x1.set0 _ _ _) 1 _
          · exact ((below_then (below_then BelD b2) b3).setCell hGw _).setCell hGw _
        case measure => simp [intOf]; omega
      · go_simp
        refine (schemawide_any _ lo hi' hrf).mono ?_
        rintro e w2 ⟨rfl, b2⟩
        have E2 := ED.below b2
        have e20 := E2.x1.cell0
        have e21 := E2.x1.cell1
        rw [← HK.out]
        go_wp2_with fail
        refine hK.out _ _ (E2.some3) (fun hHeld => ?_)
        clear hK K
        try simp only [Act.put, List.setIfInBounds_toArray, List.set_cons_zero, List.set_cons_succ]
        refine wpAnyH_ready (rs := [0]) (by kernel_rfl) (by simp) ?_
        refine AllReadyH.cons rfl (fun K hK => ?_) (AllReadyH.nil)
        go_simp
        refine hK.out _ _ (E2.some3) (fun hHeld => ?_)
        clear hK K
        try simp only [Act.put, List.setIfInBounds_toArray, List.set_cons_zero, List.set_cons_succ]
        refine wpAnyH_ready (rs := [11]) (by kernel_rfl) (by simp) ?_
        refine AllReadyH.cons rfl (fun K hK => ?_) (AllReadyH.nil)
        go_simp
        refine (put_any _ _ _ _ P hbj (by omega) d hd64 (Kw : Int) E2.y1 _ _ HPUT.out _ rfl).mono ?_
        rintro e w3 ⟨a3, l3, c3, rfl, y3, b3⟩
        have E3 := E2.below b3
        have z0 := (fz0 _ E3.x1).1
        have z1 := (fz0 _ E3.x1).2
        have z2 := E3.x1.cell0
        have z3 := E3.x1.cell1
        go_wp2_with fail
        refine hK.out _ _ (E3.some3) (fun hHeld => ?_)
        clear hK K
        try simp only [Act.put, List.setIfInBounds_toArray, List.set_cons_zero, List.set_cons_succ]
        refine wpAnyH_take (i := 12) (v := ?_) rfl (by kernel_rfl) (by kernel_rfl) (by kernel_rfl) (fun _ _ _ h => h) (Or.inl ⟨by rfl, ?_⟩) (by assumption) ?_
        rotate_left
        · (intro wq hSw; (try dsimp only at hSw); go_simp; try with_reducible rfl)
        try simp only [Act.put, List.setIfInBounds_toArray, List.set_cons_zero, List.set_cons_succ]
        refine wpAnyH_take (i := 13) (v := ?_) rfl (by kernel_rfl) (by kernel_rfl) (by kernel_rfl) (fun _ _ _ h => h) (Or.inl ⟨by rfl, ?_⟩) (by assumption) ?_
        rotate_left
        · (intro wq hSw; (try dsimp only at hSw); go_simp; try with_reducible rfl)
        try simp only [Act.put, List.setIfInBounds_toArray, List.set_cons_zero, List.set_cons_succ]
        refine wpAnyH_take (i := 14) (v := ?_) rfl (by kernel_rfl) (by kernel_rfl) (by kernel_rfl) (fun _ _ _ h => h) (Or.inl ⟨by rfl, ?_⟩) (by assumption) ?_
        rotate_left
        · (intro wq hSw; (try dsimp only at hSw); go_simp; try with_reducible rfl)
        try simp only [Act.put, List.setIfInBounds_toArray, List.set_cons_zero, List.set_cons_succ]
        refine wpAnyH_ready (rs := [15]) (by kernel_rfl) (by simp) ?_
        refine AllReadyH.cons rfl (fun K hK => ?_) (AllReadyH.nil)
        go_simp
        refine hK.out _ _ (E3.set3 hGv hGx _ _) (fun hHeld => ?_)
        clear hK K
        try simp only [Act.put, List.setIfInBounds_toArray, List.set_cons_zero, List.set_cons_succ]
        refine wpAnyH_done (by kernel_rfl) ?_ _
        refine NoPanic.normal ?_
        go_wp2
        go_roundw
        case rel =>
          refine ⟨j + 1, a3, l3, c3, by omega, by go_num, ?_, ?_, ?_⟩
          · rw [← HP'.out]; exact (E3.x1.set0 _ _ _).set1' _
          · rw [← HP'.out]; exact (y3.setBits E3.x1 0 _).setBits (E3.x1.set0 _ _ _) 1 _
          · exact ((below_then (below_then BelD b2) b3).setCell hGw _).setCell hGw _
        case measure => simp [intOf]; omega
      -- END REGION
    · obtain rfl : j = len' := by omega
      have hlb := encTo_all fs vs
      have hjl : j = fs.length := HL.out.symm
      rw [hjl] at xb yb
      have hbl := bitsF_le fs hr fs.length (Nat.le_refl _)
      rw [List.take_length] at hbl
      have hble := bytesF_bits fs
      have hb1 := bytesF_pos fs
      have hb2 : bytesF fs ≤ 1000 := by unfold bytesF; split <;> omega
      have g0 := xb.cell0
      obtain ⟨T, hT⟩ : ∃ T, T = bytesF fs := ⟨_, rfl⟩
      obtain ⟨P, hP⟩ : ∃ P, P = encTo fs vs fs.length := ⟨_, rfl⟩
      rw [← hP] at xb yb hlb
      have HT := Lib.hid hT
      have HP := Lib.hid hP
      have HLB := Lib.hid hlb
      rw [← hT] at hble hb1 hb2
      clear hT hP hlb hjl
      go_wp2_with fail
      refine (schemabytes_any _ a j cap fs hr hlen (hl.mono Bel)).mono ?_
      rintro e w5 ⟨rfl, b5⟩
      rw [← HT.out]
      have Bel5 := below_then Bel b5
      have x5 := xb.below b5
      have y5 := yb.mono b5
      have hll := y5.len_eq
      rw [pack_length] at hll
      have hlT : ll ≤ T := by have := HLB.out; omega
      have hsz : (Try.prog.info? 5).map (·.size) = some 1 := by kernel_rfl
      have hGD : w.heap.size ≤ w5.heap.size := Bel5.size
      have hcn : (u8s (pack P)).length = Nat.min ll T := by rw [u8s_length, y5.len_eq]; exact (Nat.min_eq_left hlT).symm
      have hcf : 0 + (u8s (pack P)).length ≤ (u8s (List.replicate T 0)).length := by simp [u8s, y5.len_eq]; omega
      have hpos : ∀ w' : World, BytesAt w' al ll lc (pack P) → 0 < (u8s (pack P)).length → ∃ ad, al = some ad ∧ ∀ j v, (u8s (pack P))[j]? = some v → w'.cell? (ad.add j) = some v := by
        intro w' y h0
        rcases y.at_ with h1 | ⟨b1, o1, rfl, _, _⟩
        · rw [u8s_length, y.len_eq] at h0; omega
        · exact ⟨_, rfl, y.news _ rfl⟩
      have HCF := Lib.hid hcf
      have HCN := Lib.hid hcn
      have HPOS := Lib.hid hpos
      clear hcf hcn hpos
      go_wp2_with (first | (at_make; refine wpList_make_full _ rfl _ _ 24 rfl w5.heap.size 5 i0 _ 1 Try.underlying24 hi hz0 hz1 .i64 .i64 _ _ T rfl rfl rfl rfl (by rw [hz2]; omega) (by unfold maxLen; omega) (Nat.le_refl _) ?_; intro w6 hown0 hgrow0; have b6 : Below w5.heap.size w5 w6 := (Below.refl _ _).grown hgrow0 (Nat.le_refl _) (by intro k hk; simp at hk); have x6 := x5.below b6; have y6 := y5.mono b6; have Bel6 := below_then Bel5 b6; have hblk := Lib.hid (made_zero hown0); have g60 := x6.cell0; clear hown0 hgrow0) | (refine wpList_copy_splice (o := ⟨some 47, _, _, _, _, _⟩) rfl (.tmp 44) (.tmp 46) 24 24 rfl 5 Try.underlying24 hsz (some ⟨w5.heap.size, 0, none⟩) al T T ll lc (by rfl) (by rfl) w5.heap.size 0 _ _ hblk.out (u8s (pack P)) HCN.out (fun h0 => ⟨rfl, HPOS.out _ y6 h0⟩) HCF.out (u8s_oneCell _) w.heap.size w Bel6 hGD ?_; intro w7 HG7 hb7))
      go_ret2
      have hfin := HG7.out
      rw [splice_zero _ _ (by rw [y6.len_eq]; exact hlT)] at hfin
      have hE := encS_eq fs vs
      rw [← HP.out, ← HT.out, ← HLB.out] at hE
      have hE2 : encS fs vs = pack P ++ List.replicate (T - (pack P).length) 0 := by rw [hE, pack_length]
      rw [← hE2] at hfin
      exact ⟨_, _, _, rfl, bytes_block hfin (by rw [encS_length]; exact HT.out.symm) (encS_lt fs vs) (by omega), hb7⟩
end Go.Proofs.Ytblipgmllpniaaa
