/- TableTells returns true (by gen04t.py). -/
import Derived.Test.YtkklciecdhbleaaTabX
namespace Go.Proofs.Ytkklciecdhbleaa
open Go.RowKit
set_option linter.unusedVariables false
set_option linter.unusedSimpArgs false

theorem two_cellU (w : World) (g : Nat) (a b : Value) {x i : Nat} {v : Value} (h : x ≠ g) (hc : w.cell? ⟨x, i, none⟩ = some v) : ((w.setCell ⟨g, 0, none⟩ a).setCell ⟨g, 1, none⟩ b).cell? ⟨x, i, none⟩ = some v := two_cell w g a b h hc
theorem two_other (w : World) (g : Nat) (a b : Value) (x : Nat) (h : x ≠ g) : ((w.setCell ⟨g, 0, none⟩ a).setCell ⟨g, 1, none⟩ b).heap[x]? = w.heap[x]? := by
  rw [Below.heap_setCell _ _ _ _ h, Below.heap_setCell _ _ _ _ h]
theorem two_size (w : World) (g : Nat) (a b : Value) : ((w.setCell ⟨g, 0, none⟩ a).setCell ⟨g, 1, none⟩ b).heap.size = w.heap.size := by simp [World.setCell]
theorem two_below {B : Nat} {w0 w : World} (h : Below B w0 w) {g : Nat} (hg : B ≤ g) (a b : Value) : Below B w0 ((w.setCell ⟨g, 0, none⟩ a).setCell ⟨g, 1, none⟩ b) := (h.setCell hg _).setCell hg _
theorem new_ev (most : Int) : ∃ M E : Int, ((0 ≤ M ∧ M ≤ 1048576 ∧ E = 0) ∨ E = 1) ∧ (∀ w : World, Calls Try.prog 10 #[.int .i64 most] w fun e w' => e = .returned (.tuple #[.agg #[.int .i64 M, .slice none 0 0, .slice none 0 0], .int .i64 E]) ∧ Below w.heap.size w w') ∧
    ∀ w : World, Calls Try.prog 11 #[.int .i64 most] w fun e w' => e = .returned (.tuple #[.agg #[.int .i64 M, .slice none 0 0], .int .i64 E]) ∧ Below w.heap.size w w' := by
  by_cases h : 0 ≤ most ∧ most ≤ 1048576
  · refine ⟨most, 0, .inl ⟨h.1, h.2, rfl⟩, fun w => new_ok w most h, fun w => ?_⟩
    have := refnew_any w most
    rwa [if_pos h] at this
  · refine ⟨0, 1, .inr rfl, fun w => new_bad w most h, fun w => ?_⟩
    have := refnew_any w most
    rwa [if_neg h] at this
theorem rowsK_nil (w : World) : RowsK w none 0 [] := ⟨rfl, by omega, .inl rfl⟩
set_option maxRecDepth 100000 in
set_option maxHeartbeats 8000000 in
theorem tabletells_any (w : World) (most i0 : Int) (al : Option Addr) (n cl : Nat) (f : Nat → KeyD) (hA : KeysAt w al n f) (ba : Option Addr) (bl0 bc : Nat) (bkey : List Nat) (hBk : BytesAt w ba bl0 bc bkey) :
    Calls Try.prog 3 #[.agg #[.int .i64 most, .slice al n cl, .slice ba bl0 bc, .int .i64 i0]] w fun e w' => e = .returned (.bool true) ∧ Below w.heap.size w w' := by
  have nb := hA.small
  have bt0 : Below w.heap.size w (w.alloc (.cells #[.int .i64 most, .slice al n cl, .slice ba bl0 bc, .int .i64 i0] 25)) := (Below.refl _ _).alloc (Nat.le_refl _) _
  go_enter Try.func3, Try.ntmps3
  go_wp2_with fail
  refine (shown_any _).mono ?_
  rintro e w0 ⟨rfl, bt⟩
  replace bt := below_then bt0 bt
  clear bt0
  go_wp2_with fail
  refine (few_any _ al n cl f 60 (hA.mono bt)).mono ?_
  rintro e w00 ⟨⟨fb, rfl, hfew⟩, rfl⟩
  cases fb with
  | false =>
    go_wp2_with fail
    go_ret
    exact ⟨rfl, bt⟩
  | true =>
  by_cases hk : 200 < bl0
  · have f1 : decide ((200 : Int) < (bl0 : Int)) = true := by simp; omega
    have hbs := hBk.small
    go_wp2_with fail
    go_ret
    exact ⟨rfl, bt⟩
  have f1 : decide ((200 : Int) < (bl0 : Int)) = false := by simp; omega
  have hbs := hBk.small
  obtain ⟨n60, hk200⟩ := hfew rfl
  clear hfew
  obtain ⟨M, E, hME, hn1, hn2⟩ := new_ev most
  have HN1 := Lib.hid hn1
  have HN2 := Lib.hid hn2
  have HME := Lib.hid hME
  clear hn1 hn2 hME
  go_wp2_with fail
  refine (HN1.out _).mono ?_
  rintro e w1 ⟨rfl, b1⟩
  replace bt := below_then bt b1
  have hB := bt.size
  have A := (Below.refl w1.heap.size w1).alloc (Nat.le_refl _) (.cells #[.int .i64 M, .slice none 0 0, .slice none 0 0] 30)
  have pt : (w1.alloc (.cells #[.int .i64 M, .slice none 0 0, .slice none 0 0] 30)).heap[w1.heap.size]? = some (.cells #[.int .i64 M, .slice none 0 0, .slice none 0 0] 30 (0, 0)) := heap_alloc_new _ _
  replace bt := below_then bt A
  go_upto_region 9 with fail
  obtain ⟨v1, hv⟩ : ∃ v, w1.alloc (.cells #[.int .i64 M, .slice none 0 0, .slice none 0 0] 30) = v := ⟨_, rfl⟩
  obtain ⟨gt, hg⟩ : ∃ g, w1.heap.size = g := ⟨_, rfl⟩
  rw [hv] at pt bt ⊢
  rw [hg] at pt hB ⊢
  clear hv hg A b1
  go_wp2_with fail
  refine (HN2.out _).mono ?_
  rintro e w1 ⟨rfl, b1⟩
  replace pt := (b1.block gt (Array.getElem?_eq_some_iff.1 pt).1).trans pt
  replace bt := below_then bt b1
  have hBd := bt.size
  have A := (Below.refl w1.heap.size w1).alloc (Nat.le_refl _) (.cells #[.int .i64 M, .slice none 0 0] 35)
  have pd : (w1.alloc (.cells #[.int .i64 M, .slice none 0 0] 35)).heap[w1.heap.size]? = some (.cells #[.int .i64 M, .slice none 0 0] 35 (0, 0)) := heap_alloc_new _ _
  have hne : gt < w1.heap.size := (Array.getElem?_eq_some_iff.1 pt).1
  replace pt := (A.block gt (Array.getElem?_eq_some_iff.1 pt).1).trans pt
  replace bt := below_then bt A
  go_upto_region 10 with fail
  obtain ⟨v2, hv⟩ : ∃ v, w1.alloc (.cells #[.int .i64 M, .slice none 0 0] 35) = v := ⟨_, rfl⟩
  obtain ⟨gd, hg⟩ : ∃ g, w1.heap.size = g := ⟨_, rfl⟩
  rw [hv] at pt pd bt ⊢
  rw [hg] at pd hBd hne ⊢
  clear hv hg A b1 HN1 HN2
  have gtl := (Array.getElem?_eq_some_iff.1 pt).1
  have gdl := (Array.getElem?_eq_some_iff.1 pd).1
  have hK : ∀ w', Below v2.heap.size v2 w' → Calls Try.prog 13 #[.agg #[.int .i64 M, .slice none 0 0, .slice none 0 0]] w' fun e w'' => (∃ g, e = .returned (.slice (some ⟨g, 0, none⟩) 0 0) ∧ RowsK w'' (some ⟨g, 0, none⟩) 0 []) ∧ Below w'.heap.size w' w'' := fun w' hb => (keys_any w' M none 0 0 none 0 0 [] [] [] ((TabM.empty v2 0).rd.mono hb) (fun k hk => by cases hk)).mono (fun e w'' ⟨⟨g, h1, h2, _⟩, h3⟩ => ⟨⟨g, h1, h2⟩, h3⟩)
  have hR : ∀ w' g, Below v2.heap.size v2 w' → RowsK w' (some ⟨g, 0, none⟩) 0 [] → Calls Try.prog 12 #[.slice (some ⟨g, 0, none⟩) 0 0, .slice none 0 0] w' fun e w'' => e = .returned (.bool true) ∧ Below w'.heap.size w' w'' := fun w' g hb h => by
    have := rows_any w' (some ⟨g, 0, none⟩) none 0 0 0 0 [] [] h ((rowsK_nil v2).mono hb)
    rwa [decide_eq_true rfl] at this
  have bD : Below v2.heap.size v2 v2.drew := (Below.refl _ _).drew
  have gD0 : v2.drew.cell? ⟨gt, 0, none⟩ = some (.int .i64 M) := cell_of_row _ _ 0 _ _ _ pt
  have gD1 : v2.drew.cell? ⟨gt, 1, none⟩ = some (.slice none 0 0) := cell_of_row _ _ 1 _ _ _ pt
  have gD2 : v2.drew.cell? ⟨gt, 2, none⟩ = some (.slice none 0 0) := cell_of_row _ _ 2 _ _ _ pt
  have dD : v2.drew.cell? ⟨gd, 1, none⟩ = some (.slice none 0 0) := cell_of_row _ _ 1 _ _ _ pd
  go_region_held3 (fun w' => w'.cell? ⟨gt, 0, none⟩ = some (.int .i64 M) ∧ w'.cell? ⟨gt, 1, none⟩ = some (.slice none 0 0) ∧ w'.cell? ⟨gt, 2, none⟩ = some (.slice none 0 0) ∧ w'.cell? ⟨gd, 1, none⟩ = some (.slice none 0 0))
    (refine ⟨?_, ?_, ?_, ?_⟩ <;> with_reducible assumption)
    (first | (go_at_call 13; refine (hK _ bD).mono ?_; rintro e ws ⟨⟨gK, rfl, hKs⟩, b6⟩; have bq := below_then bD b6; have r0 : ws.cell? ⟨gt, 0, none⟩ = some (.int .i64 M) := (bq.cell (p := ⟨gt, 0, none⟩) gtl).trans gD0; have r1 : ws.cell? ⟨gt, 1, none⟩ = some (.slice none 0 0) := (bq.cell (p := ⟨gt, 1, none⟩) gtl).trans gD1; have r2 : ws.cell? ⟨gt, 2, none⟩ = some (.slice none 0 0) := (bq.cell (p := ⟨gt, 2, none⟩) gtl).trans gD2; have rd : ws.cell? ⟨gd, 1, none⟩ = some (.slice none 0 0) := (bq.cell (p := ⟨gd, 1, none⟩) gdl).trans dD) | (go_at_call 12; refine (hR _ _ bq hKs).mono ?_; rintro e wq ⟨rfl, b7⟩; have bz := below_then bq b7; have r0q : wq.cell? ⟨gt, 0, none⟩ = some (.int .i64 M) := (bz.cell (p := ⟨gt, 0, none⟩) gtl).trans gD0; have r1q : wq.cell? ⟨gt, 1, none⟩ = some (.slice none 0 0) := (bz.cell (p := ⟨gt, 1, none⟩) gtl).trans gD1; have r2q : wq.cell? ⟨gt, 2, none⟩ = some (.slice none 0 0) := (bz.cell (p := ⟨gt, 2, none⟩) gtl).trans gD2; have rdq : wq.cell? ⟨gd, 1, none⟩ = some (.slice none 0 0) := (bz.cell (p := ⟨gd, 1, none⟩) gdl).trans dD))
  replace pt := (bz.block gt gtl).trans pt
  replace pd := (bz.block gd gdl).trans pd
  replace bt := below_then bt bz
  clear hK hR bD gD0 gD1 gD2 dD r0 r1 r2 rd r0q r1q r2q rdq b6 b7 bq bz hKs gtl gdl
  rcases HME.out with ⟨hM0, hM1, rfl⟩ | rfl
  case inr =>
    go_wp2_with fail
    go_ret
    exact ⟨rfl, bt⟩
  obtain ⟨N, rfl⟩ := Int.eq_ofNat_of_zero_le hM0
  clear HME hM0
  have Mt := TabM.empty wq w.heap.size
  have Rd := rowsK_nil wq
  have Da : DocAt wq gd none none none := ⟨(fun x y h => by rcases h with h | h <;> cases h), (fun y h => by cases h)⟩
  go_wp2_with fail
  go_loopw [12] (fun i w' => ∃ (j m : Nat) (ka : Option Addr) (kc : Nat) (sa : Option Addr) (sl sc : Nat) (KS : List (List Nat)) (s : List Int) (rs : List (Nat × Nat)) (d : Option Addr) (dc : Nat), j ≤ n ∧ i = .int .i64 (j : Nat) ∧ KS.Nodup ∧ (∀ k ∈ KS, k.length ≤ 1000000) ∧ w'.heap[gt]? = some (.cells #[.int .i64 (N : Nat), .slice ka m kc, .slice sa sl sc] 30 (0, 0)) ∧ w'.heap[gd]? = some (.cells #[.int .i64 (N : Nat), .slice d m dc] 35 (0, 0)) ∧ TabM w' w.heap.size ka m kc sa sl sc KS s rs ∧ RowsK w' d m KS ∧ DocAt w' gd ka sa d ∧ Below w.heap.size w w') (fun i _ => n - (intOf i).toNat)
  case atStart => exact ⟨0, 0, none, 0, none, 0, 0, [], [], [], none, 0, Nat.zero_le _, rfl, List.nodup_nil, (fun k hk => by cases hk), pt, pd, Mt, Rd, Da, bt⟩
  case round =>
    clear pt pd Mt Rd Da bt
    obtain ⟨j, m, ka, kc, sa, sl, sc, KS, s, rs, d, dc, hj, rfl, hnd, hkl, pt, pd, Mt, Rd, Da, bt⟩ := hrel
    by_cases hjn : j < n
    · have f3 : decide (j < n) = true := by simpa using hjn
      obtain ⟨bl, ol, rfl, hbl, hact⟩ := hA.at_.resolve_left (by omega)
      obtain ⟨⟨ya, yl, yc, key⟩, hu⟩ : ∃ u, f j = u := ⟨_, rfl⟩
      have hx := hact j hjn
      have hy2 := hk200 j hjn
      rw [hu] at hx hy2
      simp only [] at hx hy2
      have y1 : wr.cell? ⟨bl, ol + j, none⟩ = some (.slice ya yl yc) := (bt.cell (p := ⟨bl, ol + j, none⟩) hbl).trans hx.1
      have hky : BytesAt wr ya yl yc key := hx.2.mono bt
      have hyl2 := hky.len_eq
      have HK := Lib.hid hx
      have HND := Lib.hid hnd
      have HKL := Lib.hid hkl
      have hm20 := Mt.rd.small
      clear hact hu hx
      go_upto_region 17 with fail
      go_cut [13, 14, 15, 16] from 71 to 121 (fun v13 v14 v15 v16 w' => ∃ (gx : Nat) (ka' : Option Addr) (n' kc' : Nat) (sa' : Option Addr) (sl' sc' : Nat) (KS' : List (List Nat)) (s' : List Int) (rs' : List (Nat × Nat)) (p : Nat) (F : Bool) (E : Int), v13 = .pointer (some ⟨gx, 0, none⟩) ∧ v14 = .int .i64 (p : Nat) ∧ v15 = .bool F ∧ v16 = .int .i64 E ∧ gx ≠ gt ∧ gx ≠ gd ∧ w.heap.size ≤ gx ∧ w'.heap[gt]? = some (.cells #[.int .i64 (N : Nat), .slice ka m kc, .slice sa sl sc] 30 (0, 0)) ∧ w'.heap[gd]? = some (.cells #[.int .i64 (N : Nat), .slice d m dc] 35 (0, 0)) ∧ w'.heap[gx]? = some (.cells #[.int .i64 (N : Nat), .slice ka' n' kc', .slice sa' sl' sc'] 30 (0, 0)) ∧ TabM w' w.heap.size ka' n' kc' sa' sl' sc' KS' s' rs' ∧ RowsK w' d m KS ∧ DocAt w' gd ka' sa' d ∧ Below w.heap.size w w' ∧ OutP (N : Nat) KS key p F E KS')
      case first =>
        have bD : Below wr.heap.size wr wr.drew := (Below.refl _ _).drew
        have bAA : Below wr.heap.size wr (wr.alloc (.cells #[.int .i64 0, .slice none 0 0, .slice none 0 0] 30)).drew := ((Below.refl _ _).alloc (Nat.le_refl _) _).drew
        have ptD : wr.drew.heap[gt]? = some (.cells #[.int .i64 (N : Nat), .slice ka m kc, .slice sa sl sc] 30 (0, 0)) := pt
        have pdD : wr.drew.heap[gd]? = some (.cells #[.int .i64 (N : Nat), .slice d m dc] 35 (0, 0)) := pd
        have gtl : gt < wr.heap.size := (Array.getElem?_eq_some_iff.1 pt).1
        have gdl : gd < wr.heap.size := (Array.getElem?_eq_some_iff.1 pd).1
        have ptA := (bAA.block gt gtl).trans pt
        have pdA := (bAA.block gd gdl).trans pd
        have MD := Mt.mono bD
        have MA := Mt.mono bAA
        have RD := Rd.mono bD
        have RA := Rd.mono bAA
        have DD := Da.size bD.size
        have DA := Da.size bAA.size
        have dlt := Da.2
        have kD := hky.mono bD
        have kA := hky.mono bAA
        have hBD := Nat.le_trans bt.size bD.size
        have hBA := Nat.le_trans bt.size bAA.size
        have hnt : gt ≠ wr.heap.size := Nat.ne_of_lt gtl
        have hnd2 : gd ≠ wr.heap.size := Nat.ne_of_lt gdl
        have hnb : bl ≠ wr.heap.size := Nat.ne_of_lt (Nat.lt_of_lt_of_le hbl bt.size)
        have gD0 : wr.drew.cell? ⟨gt, 0, none⟩ = some (.int .i64 (N : Nat)) := cell_of_row _ _ 0 _ _ _ ptD
        have gA0 : (wr.alloc (.cells #[.int .i64 0, .slice none 0 0, .slice none 0 0] 30)).drew.cell? ⟨gt, 0, none⟩ = some (.int .i64 (N : Nat)) := cell_of_row _ _ 0 _ _ _ ptA
        have gD1 : wr.drew.cell? ⟨gt, 1, none⟩ = some (.slice ka m kc) := cell_of_row _ _ 1 _ _ _ ptD
        have gA1 : (wr.alloc (.cells #[.int .i64 0, .slice none 0 0, .slice none 0 0] 30)).drew.cell? ⟨gt, 1, none⟩ = some (.slice ka m kc) := cell_of_row _ _ 1 _ _ _ ptA
        have gD2 : wr.drew.cell? ⟨gt, 2, none⟩ = some (.slice sa sl sc) := cell_of_row _ _ 2 _ _ _ ptD
        have gA2 : (wr.alloc (.cells #[.int .i64 0, .slice none 0 0, .slice none 0 0] 30)).drew.cell? ⟨gt, 2, none⟩ = some (.slice sa sl sc) := cell_of_row _ _ 2 _ _ _ ptA
        have yD : wr.drew.cell? ⟨bl, ol + j, none⟩ = some (.slice ya yl yc) := y1
        have yA : (wr.alloc (.cells #[.int .i64 0, .slice none 0 0, .slice none 0 0] 30)).drew.cell? ⟨bl, ol + j, none⟩ = some (.slice ya yl yc) := (bAA.cell (p := ⟨bl, ol + j, none⟩) (Nat.lt_of_lt_of_le hbl bt.size)).trans y1
        have zrowA : (wr.alloc (.cells #[.int .i64 0, .slice none 0 0, .slice none 0 0] 30)).drew.heap[wr.heap.size]? = some (.cells #[.int .i64 0, .slice none 0 0, .slice none 0 0] 30 (0, 0)) := heap_alloc_new wr _
        have hI1 := insert_doc wr.drew (N : Nat) (by omega) (by omega) w.heap.size ka m kc sa sl sc KS s rs MD hBD ya yl yc key kD (by omega) hnd
        have hI2 := insert_doc (wr.alloc (.cells #[.int .i64 0, .slice none 0 0, .slice none 0 0] 30)).drew (N : Nat) (by omega) (by omega) w.heap.size ka m kc sa sl sc KS s rs MA hBA ya yl yc key kA (by omega) hnd
        clear hky MD MA kD kA pt pd Mt Rd Da
        go_region_held3 (fun w' => w'.cell? ⟨gt, 0, none⟩ = some (.int .i64 (N : Nat)) ∧ w'.cell? ⟨gt, 1, none⟩ = some (.slice ka m kc) ∧ w'.cell? ⟨gt, 2, none⟩ = some (.slice sa sl sc) ∧ w'.cell? ⟨bl, ol + j, none⟩ = some (.slice ya yl yc))
          (first | (refine ⟨?_, ?_, ?_, ?_⟩ <;> with_reducible assumption) | (refine ⟨?_, ?_, ?_, ?_⟩; with_reducible exact cellAlloc _ _ r0; with_reducible exact cellAlloc _ _ r1; with_reducible exact cellAlloc _ _ r2; with_reducible exact cellAlloc _ _ ry) | (refine ⟨?_, ?_, ?_, ?_⟩; with_reducible exact three_cellU _ _ _ _ _ _ _ hnt r0; with_reducible exact three_cellU _ _ _ _ _ _ _ hnt r1; with_reducible exact three_cellU _ _ _ _ _ _ _ hnt r2; with_reducible exact three_cellU _ _ _ _ _ _ _ hnb ry))
          (first | (go_at_call 14; refine hI1.mono ?_; rintro e ws ⟨ka', n', kc', sa', sl', sc', KS', s', rs', p, F, E, rfl, Hx, bx, hrec, hdoc, hsz, hout⟩; have rt := hrec gt _ _ _ ptD (by decide) (by decide); have r0 : ws.cell? ⟨gt, 0, none⟩ = some (.int .i64 (N : Nat)) := cell_of_row _ _ 0 _ _ _ rt; have r1 : ws.cell? ⟨gt, 1, none⟩ = some (.slice ka m kc) := cell_of_row _ _ 1 _ _ _ rt; have r2 : ws.cell? ⟨gt, 2, none⟩ = some (.slice sa sl sc) := cell_of_row _ _ 2 _ _ _ rt; have rm := hrec gd _ _ _ pdD (by decide) (by decide); have hdd := hdoc _ _ _ _ RD DD; have ry : ws.cell? ⟨bl, ol + j, none⟩ = some (.slice ya yl yc) := (bx.cell (p := ⟨bl, ol + j, none⟩) hbl).trans yD; have bw : Below w.heap.size w ws := (bt.trans (bD.mono bt.size)).trans bx; have szw : wr.heap.size ≤ ws.heap.size := hsz) | (go_at_call 14; refine hI2.mono ?_; rintro e ws ⟨ka', n', kc', sa', sl', sc', KS', s', rs', p, F, E, rfl, Hx, bx, hrec, hdoc, hsz, hout⟩; have rt := hrec gt _ _ _ ptA (by decide) (by decide); have r0 : ws.cell? ⟨gt, 0, none⟩ = some (.int .i64 (N : Nat)) := cell_of_row _ _ 0 _ _ _ rt; have r1 : ws.cell? ⟨gt, 1, none⟩ = some (.slice ka m kc) := cell_of_row _ _ 1 _ _ _ rt; have r2 : ws.cell? ⟨gt, 2, none⟩ = some (.slice sa sl sc) := cell_of_row _ _ 2 _ _ _ rt; have rm := hrec gd _ _ _ pdA (by decide) (by decide); have hdd := hdoc _ _ _ _ RA DA; have ry : ws.cell? ⟨bl, ol + j, none⟩ = some (.slice ya yl yc) := (bx.cell (p := ⟨bl, ol + j, none⟩) hbl).trans yA; have bw : Below w.heap.size w ws := (bt.trans (bAA.mono bt.size)).trans bx; have gz := hrec wr.heap.size _ _ _ zrowA (by decide) (by decide); have szw : wr.heap.size ≤ ws.heap.size := Nat.le_trans bAA.size hsz; have v0 : ws.cell? ⟨wr.heap.size, 0, none⟩ = some (.int .i64 0) := cell_of_row _ _ 0 _ _ _ gz; have g0 := frozen_of_row ws wr.heap.size 0 _ _ gz; have v1 : ws.cell? ⟨wr.heap.size, 1, none⟩ = some (.slice none 0 0) := cell_of_row _ _ 1 _ _ _ gz; have g1 := frozen_of_row ws wr.heap.size 1 _ _ gz; have v2 : ws.cell? ⟨wr.heap.size, 2, none⟩ = some (.slice none 0 0) := cell_of_row _ _ 2 _ _ _ gz; have g2 := frozen_of_row ws wr.heap.size 2 _ _ gz))
        all_goals
          have HO := Lib.hid hout
          clear hout
          go_wp2_with fail
          go_meet
          have al := (Below.refl ws.heap.size ws).alloc (Nat.le_refl _) (.cells #[.int .i64 (N : Nat), .slice ka' n' kc', .slice sa' sl' sc'] 30)
          have hgw := bt.size
          have gtl2 := (Array.getElem?_eq_some_iff.1 rt).1
          have gml2 := (Array.getElem?_eq_some_iff.1 rm).1
          first
          | exact ⟨ws.heap.size, ka', n', kc', sa', sl', sc', KS', s', rs', p, F, E, rfl, rfl, rfl, rfl, Ne.symm (Nat.ne_of_lt gtl2), Ne.symm (Nat.ne_of_lt gml2), Nat.le_trans hgw szw, (al.block gt gtl2).trans rt, (al.block gd gml2).trans rm, heap_alloc_new _ _, Hx.mono al, hdd.1.mono al, hdd.2.size al.size, bw.trans (al.mono (Nat.le_trans hgw szw)), HO.out⟩
          | exact ⟨wr.heap.size, ka', n', kc', sa', sl', sc', KS', s', rs', p, F, E, rfl, rfl, rfl, rfl, hnt.symm, hnd2.symm, hgw, (three_other _ _ _ _ _ _ hnt).trans rt, (three_other _ _ _ _ _ _ hnd2).trans rm, three_rowU _ _ _ _ _ _ _ _ _ gz, Hx.recd gz (by decide) (by decide) (three_size _ _ _ _ _) (fun b hb => three_other _ _ _ _ _ _ hb), hdd.1.off (fun y hy => Nat.ne_of_lt (dlt y hy).2) (noU8_rec gz fun v hv m => by simp at hv; rcases hv with rfl | rfl | rfl <;> simp) (three_size _ _ _ _ _) (fun b hb => three_other _ _ _ _ _ _ hb), hdd.2.size (Nat.le_of_eq (three_size _ _ _ _ _).symm), three_below bw hgw _ _ _, HO.out⟩
      case rest =>
        clear Mt pt pd hky y1 bt Rd Da
        obtain ⟨gx, kz, mz, kcz, sz, slz, scz, KZ, sZ, rsZ, p, F, E, rfl, rfl, rfl, rfl, hx1, hx2, hgx, pt, pd, px, Mx, Rd, Da, bt, hout⟩ := hcut
        have Kx := HK.out
        have y1 : wc.cell? ⟨bl, ol + j, none⟩ = some (.slice ya yl yc) := (bt.cell (p := ⟨bl, ol + j, none⟩) hbl).trans Kx.1
        have hky : BytesAt wc ya yl yc key := Kx.2.mono bt
        have HO1 := Lib.hid hout
        clear Kx hout
        go_upto_region 18 with fail
        go_cut [17, 18, 19, 20] from 71 to 121 (fun v17 v18 v19 v20 w' => ∃ (gy : Nat) (d' : Option Addr) (n' c' : Nat) (K2 : List (List Nat)) (q : Nat) (G : Bool) (D : Int), v17 = .pointer (some ⟨gy, 0, none⟩) ∧ v18 = .int .i64 (q : Nat) ∧ v19 = .bool G ∧ v20 = .int .i64 D ∧ gy ≠ gt ∧ gy ≠ gd ∧ w'.heap[gt]? = some (.cells #[.int .i64 (N : Nat), .slice ka m kc, .slice sa sl sc] 30 (0, 0)) ∧ w'.heap[gd]? = some (.cells #[.int .i64 (N : Nat), .slice d m dc] 35 (0, 0)) ∧ w'.heap[gx]? = some (.cells #[.int .i64 (N : Nat), .slice kz mz kcz, .slice sz slz scz] 30 (0, 0)) ∧ w'.heap[gy]? = some (.cells #[.int .i64 (N : Nat), .slice d' n' c'] 35 (0, 0)) ∧ TabM w' w.heap.size kz mz kcz sz slz scz KZ sZ rsZ ∧ RowsK w' d' n' K2 ∧ DocAt w' gd kz sz d' ∧ Below w.heap.size w w' ∧ OutP (N : Nat) KS key q G D K2)
        case first =>
          have bD : Below wc.heap.size wc wc.drew := (Below.refl _ _).drew
          have bAA : Below wc.heap.size wc (wc.alloc (.cells #[.int .i64 0, .slice none 0 0] 35)).drew := ((Below.refl _ _).alloc (Nat.le_refl _) _).drew
          have gtl : gt < wc.heap.size := (Array.getElem?_eq_some_iff.1 pt).1
          have gdl : gd < wc.heap.size := (Array.getElem?_eq_some_iff.1 pd).1
          have gxl : gx < wc.heap.size := (Array.getElem?_eq_some_iff.1 px).1
          have pdD : wc.drew.heap[gd]? = some (.cells #[.int .i64 (N : Nat), .slice d m dc] 35 (0, 0)) := pd
          have pdA := (bAA.block gd gdl).trans pd
          have kD := hky.mono bD
          have kA := hky.mono bAA
          have hltM := Mx.ltAll
          have hnt : gt ≠ wc.heap.size := Nat.ne_of_lt gtl
          have hnd2 : gd ≠ wc.heap.size := Nat.ne_of_lt gdl
          have hnx : gx ≠ wc.heap.size := Nat.ne_of_lt gxl
          have hnb : bl ≠ wc.heap.size := Nat.ne_of_lt (Nat.lt_of_lt_of_le hbl bt.size)
          have gD0 : wc.drew.cell? ⟨gd, 0, none⟩ = some (.int .i64 (N : Nat)) := cell_of_row _ _ 0 _ _ _ pdD
          have gA0 : (wc.alloc (.cells #[.int .i64 0, .slice none 0 0] 35)).drew.cell? ⟨gd, 0, none⟩ = some (.int .i64 (N : Nat)) := cell_of_row _ _ 0 _ _ _ pdA
          have gD1 : wc.drew.cell? ⟨gd, 1, none⟩ = some (.slice d m dc) := cell_of_row _ _ 1 _ _ _ pdD
          have gA1 : (wc.alloc (.cells #[.int .i64 0, .slice none 0 0] 35)).drew.cell? ⟨gd, 1, none⟩ = some (.slice d m dc) := cell_of_row _ _ 1 _ _ _ pdA
          have yD : wc.drew.cell? ⟨bl, ol + j, none⟩ = some (.slice ya yl yc) := y1
          have yA : (wc.alloc (.cells #[.int .i64 0, .slice none 0 0] 35)).drew.cell? ⟨bl, ol + j, none⟩ = some (.slice ya yl yc) := (bAA.cell (p := ⟨bl, ol + j, none⟩) (Nat.lt_of_lt_of_le hbl bt.size)).trans y1
          have zrowA : (wc.alloc (.cells #[.int .i64 0, .slice none 0 0] 35)).drew.heap[wc.heap.size]? = some (.cells #[.int .i64 0, .slice none 0 0] 35 (0, 0)) := heap_alloc_new wc _
          have zA : wc.heap.size + 1 ≤ (wc.alloc (.cells #[.int .i64 0, .slice none 0 0] 35)).drew.heap.size := by simp
          have hI1 := refinsert_ev wc.drew (N : Nat) d m dc KS (Rd.mono bD) hm20 ya yl yc key kD (by omega) hnd
          have hI2 := refinsert_ev (wc.alloc (.cells #[.int .i64 0, .slice none 0 0] 35)).drew (N : Nat) d m dc KS (Rd.mono bAA) hm20 ya yl yc key kA (by omega) hnd
          have dlt := Da.2
          clear hky kD kA Rd
          go_region_held3 (fun w' => w'.cell? ⟨gd, 0, none⟩ = some (.int .i64 (N : Nat)) ∧ w'.cell? ⟨gd, 1, none⟩ = some (.slice d m dc) ∧ w'.cell? ⟨bl, ol + j, none⟩ = some (.slice ya yl yc))
            (first | (refine ⟨?_, ?_, ?_⟩ <;> with_reducible assumption) | (refine ⟨?_, ?_, ?_⟩; with_reducible exact cellAlloc _ _ r0; with_reducible exact cellAlloc _ _ r1; with_reducible exact cellAlloc _ _ ry) | (refine ⟨?_, ?_, ?_⟩; with_reducible exact two_cellU _ _ _ _ hnd2 r0; with_reducible exact two_cellU _ _ _ _ hnd2 r1; with_reducible exact two_cellU _ _ _ _ hnb ry))
            (first | (go_at_call 15; refine hI1.mono ?_; rintro e ws ⟨d', n', c', K2, q, G, D, rfl, Hx, bx, hloc, hout⟩; have bv := below_then bD bx; have r0 : ws.cell? ⟨gd, 0, none⟩ = some (.int .i64 (N : Nat)) := (bv.cell (p := ⟨gd, 0, none⟩) gdl).trans gD0; have r1 : ws.cell? ⟨gd, 1, none⟩ = some (.slice d m dc) := (bv.cell (p := ⟨gd, 1, none⟩) gdl).trans gD1; have ry : ws.cell? ⟨bl, ol + j, none⟩ = some (.slice ya yl yc) := (bv.cell (p := ⟨bl, ol + j, none⟩) (Nat.lt_of_lt_of_le hbl bt.size)).trans yD; have hl2 : d' = d ∨ ∃ g, d' = some ⟨g, 0, none⟩ ∧ wc.heap.size ≤ g ∧ g < ws.heap.size := hloc.imp id (fun ⟨g, e1, e2, e3⟩ => ⟨g, e1, e2, e3⟩)) | (go_at_call 15; refine hI2.mono ?_; rintro e ws ⟨d', n', c', K2, q, G, D, rfl, Hx, bx, hloc, hout⟩; have bv := below_then bAA bx; have r0 : ws.cell? ⟨gd, 0, none⟩ = some (.int .i64 (N : Nat)) := (bv.cell (p := ⟨gd, 0, none⟩) gdl).trans gD0; have r1 : ws.cell? ⟨gd, 1, none⟩ = some (.slice d m dc) := (bv.cell (p := ⟨gd, 1, none⟩) gdl).trans gD1; have ry : ws.cell? ⟨bl, ol + j, none⟩ = some (.slice ya yl yc) := (bv.cell (p := ⟨bl, ol + j, none⟩) (Nat.lt_of_lt_of_le hbl bt.size)).trans yD; have hl2 : d' = d ∨ ∃ g, d' = some ⟨g, 0, none⟩ ∧ wc.heap.size < g ∧ g < ws.heap.size := hloc.imp id (fun ⟨g, e1, e2, e3⟩ => ⟨g, e1, by omega, e3⟩); have gz := (bx.block wc.heap.size (by omega)).trans zrowA; have v0 : ws.cell? ⟨wc.heap.size, 0, none⟩ = some (.int .i64 0) := cell_of_row _ _ 0 _ _ _ gz; have g0 := frozen_of_row ws wc.heap.size 0 _ _ gz; have v1 : ws.cell? ⟨wc.heap.size, 1, none⟩ = some (.slice none 0 0) := cell_of_row _ _ 1 _ _ _ gz; have g1 := frozen_of_row ws wc.heap.size 1 _ _ gz))
          all_goals
            have HO := Lib.hid hout
            clear hout
            go_wp2_with fail
            go_meet
            have al := (Below.refl ws.heap.size ws).alloc (Nat.le_refl _) (.cells #[.int .i64 (N : Nat), .slice d' n' c'] 35)
            have hgw := bt.size
            have bz := bv.size
            first
            | exact ⟨ws.heap.size, d', n', c', K2, q, G, D, rfl, rfl, rfl, rfl, Ne.symm (Nat.ne_of_lt (Nat.lt_of_lt_of_le gtl bz)), Ne.symm (Nat.ne_of_lt (Nat.lt_of_lt_of_le gdl bz)), ((below_then bv al).block gt gtl).trans pt, ((below_then bv al).block gd gdl).trans pd, ((below_then bv al).block gx gxl).trans px, heap_alloc_new _ _, Mx.mono (below_then bv al), Hx.mono al, (Da.grow hltM gdl bz hl2).size al.size, below_then bt (below_then bv al), HO.out⟩
            | exact ⟨wc.heap.size, d', n', c', K2, q, G, D, rfl, rfl, rfl, rfl, hnt.symm, hnd2.symm, (two_other _ _ _ _ _ hnt).trans ((bv.block gt gtl).trans pt), (two_other _ _ _ _ _ hnd2).trans ((bv.block gd gdl).trans pd), (two_other _ _ _ _ _ hnx).trans ((bv.block gx gxl).trans px), two_row _ _ _ _ gz, (Mx.mono bv).offrec gz (noU8_rec gz fun v hv m => by simp at hv; rcases hv with rfl | rfl <;> simp) (by decide) (by decide) (two_size _ _ _ _) (fun b hb => two_other _ _ _ _ _ hb), Hx.off (fun y hy => by rcases hl2 with e1 | ⟨g, e1, e2, e3⟩; exact Nat.ne_of_lt (dlt y (e1 ▸ hy)).2; (rw [e1] at hy; cases hy; exact Ne.symm (Nat.ne_of_lt e2))) (noU8_rec gz fun v hv m => by simp at hv; rcases hv with rfl | rfl <;> simp) (two_size _ _ _ _) (fun b hb => two_other _ _ _ _ _ hb), (Da.grow hltM gdl bz (hl2.imp id fun ⟨g, e1, e2, e3⟩ => ⟨g, e1, Nat.le_of_lt e2, e3⟩)).size (Nat.le_of_eq (two_size _ _ _ _).symm), two_below (below_then bt bv) hgw _ _, HO.out⟩
        case rest =>
          clear pt pd px Mx Rd Da bt y1 hky hnd hkl
          obtain ⟨gy, d', n', c', K2, q, G, D, rfl, rfl, rfl, rfl, hy1, hy2', pt, pd, px, py, Mx, Rd, Da, bt, hout⟩ := hcut
          obtain ⟨rfl, rfl, rfl, rfl⟩ := HO1.out.same HND.out hout
          obtain rfl : mz = n' := Mx.rd.len.symm.trans Rd.len
          have hnd2 := hout.nodup HND.out
          have hkl2 := hout.short HKL.out (by omega)
          have HND2 := Lib.hid hnd2
          have HKL2 := Lib.hid hkl2
          have hmz := Mx.rd.small
          clear hout HO1 HND HKL hnd2 hkl2
          have gxl := (Array.getElem?_eq_some_iff.1 px).1
          have gyl := (Array.getElem?_eq_some_iff.1 py).1
          obtain ⟨W5, hW5⟩ : ∃ v, wc = v := ⟨_, rfl⟩
          rw [hW5] at pt pd px py Mx Rd Da bt gxl gyl ⊢
          clear hW5
          have q0 : ∀ x : Later W5.heap.size W5, x.w.cell? ⟨gx, 0, none⟩ = some (.int .i64 (N : Nat)) := fun x => cell_of_row _ _ 0 _ _ _ ((x.below.block gx gxl).trans px)
          have q1 : ∀ x : Later W5.heap.size W5, x.w.cell? ⟨gx, 1, none⟩ = some (.slice kz mz kcz) := fun x => cell_of_row _ _ 1 _ _ _ ((x.below.block gx gxl).trans px)
          have q2 : ∀ x : Later W5.heap.size W5, x.w.cell? ⟨gx, 2, none⟩ = some (.slice sz slz scz) := fun x => cell_of_row _ _ 2 _ _ _ ((x.below.block gx gxl).trans px)
          have q3 : ∀ x : Later W5.heap.size W5, x.w.cell? ⟨gy, 1, none⟩ = some (.slice d' mz c') := fun x => cell_of_row _ _ 1 _ _ _ ((x.below.block gy gyl).trans py)
          have nM := fun x : Later W5.heap.size W5 => many_any x.w (N : Nat) kz mz kcz (.slice sz slz scz) hmz
          go_upto_region 19 with fail
          refine wp_region_later W5.heap.size W5 (by kernel_rfl) (by kernel_rfl) (Below.refl _ _) ?_
          repeat (go_big_quiet_step ((go_at_call 16; refine Calls.later0 (nM _))))
          refine wpQuiet_nil ?_
          intro _ hlat
          obtain ⟨x, rfl⟩ := hlat
          clear q0 q1 q2 q3 nM
          replace pt := (x.below.block gt (Array.getElem?_eq_some_iff.1 pt).1).trans pt
          replace pd := (x.below.block gd (Array.getElem?_eq_some_iff.1 pd).1).trans pd
          replace px := (x.below.block gx gxl).trans px
          replace py := (x.below.block gy gyl).trans py
          replace Mx := Mx.mono x.below
          replace Rd := Rd.mono x.below
          replace Da := Da.size x.below.size
          replace bt := below_then bt x.below
          have dlt := Da.2
          go_upto_region 22 with (first | (refine wpList_load_row rfl 30 _ rfl gx rfl 30 _ _ _ px Try.underlying30 rfl (by kernel_rfl) ?_) | (refine store_rec rfl 30 (.tmp 8) (.tmp 120) rfl gt #[.int .i64 (N : Nat), .slice kz mz kcz, .slice sz slz scz] rfl rfl 30 _ pt (by kernel_rfl) rfl (by simp [Value.oneCell']) ?_; intro w6 g6 z6 o6 b6))
          have pd6 := (o6 gd (Ne.symm (Nat.ne_of_lt hne))).trans pd
          have py6 := (o6 gy hy1).trans py
          have Mx6 := Mx.recd pt (by decide) (by decide) z6 (fun b hb => o6 b hb)
          have Rd6 := Rd.off (fun y hy => Ne.symm (Nat.ne_of_lt (Nat.lt_trans hne (dlt y hy).1))) (noU8_rec pt fun v hv m => by simp at hv; rcases hv with rfl | rfl | rfl <;> simp) z6 (fun b hb => o6 b hb)
          have Da6 := Da.size (Nat.le_of_eq z6.symm)
          replace bt := bt.trans (b6.mono hB)
          clear pd py Mx Rd Da px pt
          go_wp2_with (first | (refine wpList_load_row rfl 35 _ rfl gy rfl 35 _ _ _ py6 Try.underlying35 rfl (by kernel_rfl) ?_) | (refine store_rec rfl 35 (.tmp 10) (.tmp 121) rfl gd #[.int .i64 (N : Nat), .slice d' mz c'] rfl rfl 35 _ pd6 (by kernel_rfl) rfl (by simp [Value.oneCell']) ?_; intro w7 g7 z7 o7 b7))
          refine ⟨⟨j + 1, mz, kz, kcz, sz, slz, scz, _, sZ, rsZ, d', c', by omega, by simp, HND2.out, HKL2.out, (o7 gt (Nat.ne_of_lt hne)).trans g6, g7, Mx6.offrec pd6 (noU8_rec pd6 fun v hv m => by simp at hv; rcases hv with rfl | rfl <;> simp) (by decide) (by decide) z7 (fun b hb => o7 b hb), Rd6.off (fun y hy => Ne.symm (Nat.ne_of_lt (dlt y hy).1)) (noU8_rec pd6 fun v hv m => by simp at hv; rcases hv with rfl | rfl <;> simp) z7 (fun b hb => o7 b hb), Da6.size (Nat.le_of_eq z7.symm), bt.trans (b7.mono hBd)⟩, by simp [intOf]; omega⟩
    · have f3 : decide (j < n) = false := by simpa using hjn
      obtain rfl : n = j := by omega
      obtain ⟨p0, hF1, hF2⟩ := reffind_in KS hnd bkey
      have HKL := Lib.hid hkl
      have HF1 := Lib.hid hF1
      have HF2 := Lib.hid hF2
      have HB := Lib.hid hBk
      clear hF1 hF2 hnd hBk
      obtain ⟨W, hW⟩ : ∃ W, decide (bkey ∈ KS) = W := ⟨_, rfl⟩
      rw [hW] at HF1 HF2
      clear hW
      go_wp2_with (first | (refine wpList_load_row rfl 30 _ rfl gt rfl 30 _ _ _ pt Try.underlying30 rfl (by kernel_rfl) ?_) | fail)
      refine (HF1.out _ (N : Nat) ka m kc sa sl sc s rs Mt.rd ba bl0 bc (HB.out.mono bt)).mono ?_
      rintro e w5 ⟨rfl, b5⟩
      replace pt := (b5.block gt (Array.getElem?_eq_some_iff.1 pt).1).trans pt
      replace pd := (b5.block gd (Array.getElem?_eq_some_iff.1 pd).1).trans pd
      replace Mt := Mt.mono b5
      replace Rd := Rd.mono b5
      replace bt := below_then bt b5
      clear b5 HF1 Da
      go_wp2_with (first | (refine wpList_load_row rfl 35 _ rfl gd rfl 35 _ _ _ pd Try.underlying35 rfl (by kernel_rfl) ?_) | fail)
      refine (HF2.out _ (N : Nat) d m dc Rd ba bl0 bc (HB.out.mono bt)).mono ?_
      rintro e w6 ⟨rfl, b5⟩
      replace pt := (b5.block gt (Array.getElem?_eq_some_iff.1 pt).1).trans pt
      replace pd := (b5.block gd (Array.getElem?_eq_some_iff.1 pd).1).trans pd
      replace Mt := Mt.mono b5
      replace Rd := Rd.mono b5
      replace bt := below_then bt b5
      clear b5 HF2 HB
      obtain ⟨Q, hQ⟩ : ∃ Q, eAt KS i0 = Q := ⟨_, rfl⟩
      have hk1 := fun w h => key_ev w (N : Nat) ka m kc sa sl sc KS s rs h hkl i0
      have hk2 := fun w h => refkey_ev w (N : Nat) d m dc KS h i0
      rw [hQ] at hk1 hk2
      have HK1 := Lib.hid hk1
      have HK2 := Lib.hid hk2
      clear hk1 hk2 hQ hkl
      go_wp2_with (first | (refine wpList_load_row rfl 30 _ rfl gt rfl 30 _ _ _ pt Try.underlying30 rfl (by kernel_rfl) ?_) | fail)
      refine (HK1.out _ Mt.rd).mono ?_
      rintro e w7 ⟨⟨x1, l1, c1, rfl, hy1⟩, b5⟩
      replace pt := (b5.block gt (Array.getElem?_eq_some_iff.1 pt).1).trans pt
      replace pd := (b5.block gd (Array.getElem?_eq_some_iff.1 pd).1).trans pd
      replace Mt := Mt.mono b5
      replace Rd := Rd.mono b5
      replace bt := below_then bt b5
      clear b5 HK1
      go_wp2_with (first | (refine wpList_load_row rfl 35 _ rfl gd rfl 35 _ _ _ pd Try.underlying35 rfl (by kernel_rfl) ?_) | fail)
      refine (HK2.out _ Rd).mono ?_
      rintro e w8 ⟨⟨x2, l2, c2, rfl, hy2⟩, b5⟩
      replace hy1 := hy1.mono b5
      replace pt := (b5.block gt (Array.getElem?_eq_some_iff.1 pt).1).trans pt
      replace pd := (b5.block gd (Array.getElem?_eq_some_iff.1 pd).1).trans pd
      replace Mt := Mt.mono b5
      replace Rd := Rd.mono b5
      replace bt := below_then bt b5
      clear b5 HK2
      have gtl := (Array.getElem?_eq_some_iff.1 pt).1
      have gdl := (Array.getElem?_eq_some_iff.1 pd).1
      obtain ⟨S, hS⟩ : ∃ S, strOfNums ((kAt KS i0).map fun (n : Nat) => (n : Int)) = S := ⟨_, rfl⟩
      have cv1 : ∀ w', Below w8.heap.size w8 w' → (convert 23 9 (.slice x1 l1 c1)).run Try.prog w' = .ok (.string S) w' := fun w' hb => by
        rw [← hS]
        exact (hy1.mono hb).conv 23 5 9 Try.underlying23 Try.underlying5 Try.underlying9
      have cv2 : ∀ w', Below w8.heap.size w8 w' → (convert 23 9 (.slice x2 l2 c2)).run Try.prog w' = .ok (.string S) w' := fun w' hb => by
        rw [← hS]
        exact (hy2.mono hb).conv 23 5 9 Try.underlying23 Try.underlying5 Try.underlying9
      clear hS
      have hK : ∀ w', Below w8.heap.size w8 w' → Calls Try.prog 13 #[.agg #[.int .i64 (N : Nat), .slice ka m kc, .slice sa sl sc]] w' fun e w'' => (∃ g, e = .returned (.slice (some ⟨g, 0, none⟩) m m) ∧ RowsK w'' (some ⟨g, 0, none⟩) m KS) ∧ Below w'.heap.size w' w'' := fun w' hb => (keys_any w' (N : Nat) ka m kc sa sl sc KS s rs (Mt.rd.mono hb) HKL.out).mono (fun e w'' ⟨⟨g, h1, h2, _⟩, h3⟩ => ⟨⟨g, h1, h2⟩, h3⟩)
      have hR : ∀ w' g, Below w8.heap.size w8 w' → RowsK w' (some ⟨g, 0, none⟩) m KS → Calls Try.prog 12 #[.slice (some ⟨g, 0, none⟩) m m, .slice d m dc] w' fun e w'' => e = .returned (.bool true) ∧ Below w'.heap.size w' w'' := fun w' g hb h => by
        have := rows_any w' (some ⟨g, 0, none⟩) d m m m dc KS KS h (Rd.mono hb)
        rwa [decide_eq_true rfl] at this
      clear hy1 hy2 Mt Rd
      go_upto_region 27 with fail
      have bD : Below w8.heap.size w8 w8.drew := (Below.refl _ _).drew
      have gD0 : w8.drew.cell? ⟨gt, 0, none⟩ = some (.int .i64 (N : Nat)) := cell_of_row _ _ 0 _ _ _ pt
      have gD1 : w8.drew.cell? ⟨gt, 1, none⟩ = some (.slice ka m kc) := cell_of_row _ _ 1 _ _ _ pt
      have gD2 : w8.drew.cell? ⟨gt, 2, none⟩ = some (.slice sa sl sc) := cell_of_row _ _ 2 _ _ _ pt
      have dD : w8.drew.cell? ⟨gd, 1, none⟩ = some (.slice d m dc) := cell_of_row _ _ 1 _ _ _ pd
      have cD1 := cv1 _ bD
      have cD2 := cv2 _ bD
      go_region_held3 (fun w' => w'.cell? ⟨gt, 0, none⟩ = some (.int .i64 (N : Nat)) ∧ w'.cell? ⟨gt, 1, none⟩ = some (.slice ka m kc) ∧ w'.cell? ⟨gt, 2, none⟩ = some (.slice sa sl sc) ∧ w'.cell? ⟨gd, 1, none⟩ = some (.slice d m dc) ∧ (convert 23 9 (.slice x1 l1 c1)).run Try.prog w' = .ok (.string S) w' ∧ (convert 23 9 (.slice x2 l2 c2)).run Try.prog w' = .ok (.string S) w')
        (refine ⟨?_, ?_, ?_, ?_, ?_, ?_⟩ <;> with_reducible assumption)
        (first | (go_at_call 13; refine (hK _ bD).mono ?_; rintro e ws ⟨⟨gK, rfl, hKs⟩, b6⟩; have bq := below_then bD b6; have r0 : ws.cell? ⟨gt, 0, none⟩ = some (.int .i64 (N : Nat)) := (bq.cell (p := ⟨gt, 0, none⟩) gtl).trans gD0; have r1 : ws.cell? ⟨gt, 1, none⟩ = some (.slice ka m kc) := (bq.cell (p := ⟨gt, 1, none⟩) gtl).trans gD1; have r2 : ws.cell? ⟨gt, 2, none⟩ = some (.slice sa sl sc) := (bq.cell (p := ⟨gt, 2, none⟩) gtl).trans gD2; have rd : ws.cell? ⟨gd, 1, none⟩ = some (.slice d m dc) := (bq.cell (p := ⟨gd, 1, none⟩) gdl).trans dD; have c1 := cv1 ws bq; have c2 := cv2 ws bq) | (go_at_call 12; refine (hR _ _ bq hKs).mono ?_; rintro e wq ⟨rfl, b7⟩; have bz := below_then bq b7; have r0q : wq.cell? ⟨gt, 0, none⟩ = some (.int .i64 (N : Nat)) := (bz.cell (p := ⟨gt, 0, none⟩) gtl).trans gD0; have r1q : wq.cell? ⟨gt, 1, none⟩ = some (.slice ka m kc) := (bz.cell (p := ⟨gt, 1, none⟩) gtl).trans gD1; have r2q : wq.cell? ⟨gt, 2, none⟩ = some (.slice sa sl sc) := (bz.cell (p := ⟨gt, 2, none⟩) gtl).trans gD2; have rdq : wq.cell? ⟨gd, 1, none⟩ = some (.slice d m dc) := (bz.cell (p := ⟨gd, 1, none⟩) gdl).trans dD; have c1q := cv1 wq bz; have c2q := cv2 wq bz))
      go_wp2_with fail
      go_ret
      exact ⟨rfl, below_then bt bz⟩
end Go.Proofs.Ytkklciecdhbleaa
