/- TableOrders returns true (by gen04r.py). -/
import Derived.Test.YtkklciecdhbleaaTabQ
import Derived.Test.YtkklciecdhbleaaTabMany
namespace Go.Proofs.Ytkklciecdhbleaa
open Go.RowKit
set_option linter.unusedVariables false

theorem three_other (w : World) (g : Nat) (a b c : Value) (x : Nat) (h : x ≠ g) : (((w.setCell ⟨g, 0, none⟩ a).setCell ⟨g, 1, none⟩ b).setCell ⟨g, 2, none⟩ c).heap[x]? = w.heap[x]? := by
  rw [Below.heap_setCell _ _ _ _ h, Below.heap_setCell _ _ _ _ h, Below.heap_setCell _ _ _ _ h]
theorem three_size (w : World) (g : Nat) (a b c : Value) : (((w.setCell ⟨g, 0, none⟩ a).setCell ⟨g, 1, none⟩ b).setCell ⟨g, 2, none⟩ c).heap.size = w.heap.size := by simp [World.setCell]
theorem three_below {B : Nat} {w0 w : World} (h : Below B w0 w) {g : Nat} (hg : B ≤ g) (a b c : Value) : Below B w0 (((w.setCell ⟨g, 0, none⟩ a).setCell ⟨g, 1, none⟩ b).setCell ⟨g, 2, none⟩ c) := ((h.setCell hg _).setCell hg _).setCell hg _

theorem rem_nat (c n : Nat) (hc : c < 256) : ((c : Nat) : Int).tmod (((n : Nat) : Int) + 1) = ((c % (n + 1) : Nat) : Int) := by
  rw [Int.tmod_eq_emod_of_nonneg (by omega)]
  simp
theorem keysL_all (f : Nat → KeyD) : ∀ (j : Nat) (k : List Nat), k ∈ keysL f j → ∃ i, i < j ∧ k = (f i).key
  | 0, k, h => by cases h
  | j + 1, k, h => by
    rcases insK_mem.1 (show k ∈ insK (keysL f j) (f j).key from h) with h | h
    · obtain ⟨i, hi, hk⟩ := keysL_all f j k h
      exact ⟨i, by omega, hk⟩
    · exact ⟨j, by omega, h⟩
theorem RowsK.prefix {w : World} {a : Option Addr} {n m : Nat} {ks xs : List (List Nat)} (h : RowsK w a n ks) (hp : xs <+: ks) (hm : xs.length = m) : RowsK w a m xs := by
  have h0 := hp.length_le
  have h1 := h.len
  have h2 := h.small
  refine ⟨hm, by omega, ?_⟩
  rcases h.3 with h3 | ⟨b, off, ha, hlt, hi⟩
  · exact .inl (by omega)
  · refine .inr ⟨b, off, ha, hlt, fun i hil => ?_⟩
    obtain ⟨x, l, c, e1, e2⟩ := hi i (by omega)
    exact ⟨x, l, c, e1, by rw [prefix_getD hp (by omega)]; exact e2⟩
theorem find_at (w : World) (cap : Int) (ka : Option Addr) (n kc : Nat) (sa : Option Addr) (sl sc : Nat) (ks : List (List Nat)) (s : List Int) (rs : List (Nat × Nat)) (h : TabR w ka n sa sl ks s rs) (ya : Option Addr) (yl yc : Nat) (key : List Nat) (hk : BytesAt w ya yl yc key) (hnd : ks.Nodup) (p : Nat) (hp : p < ks.length) (hpk : ks.getD p [] = key) :
    Calls Try.prog 17 #[.agg #[.int .i64 cap, .slice ka n kc, .slice sa sl sc], .slice ya yl yc] w fun e w' => e = .returned (.tuple #[.int .i64 (p : Nat), .bool true]) ∧ Below w.heap.size w w' := by
  have hm : key ∈ ks := hpk ▸ getD_mem hp
  refine (find_le w cap ka n kc sa sl sc ks s rs h ya yl yc key hk).mono ?_
  rintro e w' ⟨⟨q, rfl, h1, _⟩, hb⟩
  obtain ⟨hq, hqk⟩ := h1 hm
  obtain rfl : p = q := getD_inj hnd hp hq (by rw [hqk, hpk])
  rw [decide_eq_true hm]
  exact ⟨rfl, hb⟩
set_option maxRecDepth 100000 in
set_option maxHeartbeats 8000000 in
theorem tableorders_any (w : World) (al : Option Addr) (n cl : Nat) (f : Nat → KeyD) (c : Nat) (hc : c < 256) (hA : KeysAt w al n f) :
    Calls Try.prog 7 #[.slice al n cl, .int .u8 (c : Nat)] w fun e w' => e = .returned (.bool true) ∧ Below w.heap.size w w' := by
  have nb := hA.small
  go_enter Try.func7, Try.ntmps7
  go_wp2_with fail
  refine (shown_any _).mono ?_
  rintro e w0 ⟨rfl, bt⟩
  go_wp2_with fail
  refine (few_any _ al n cl f 60 (hA.mono bt)).mono ?_
  rintro e w00 ⟨⟨fb, rfl, hfew⟩, rfl⟩
  cases fb with
  | false =>
    go_wp2_with fail
    go_ret
    exact ⟨rfl, bt⟩
  | true =>
  obtain ⟨n60, hk200⟩ := hfew rfl
  clear hfew
  go_wp2_with fail
  refine (new_ok _ 1000 (by decide)).mono ?_
  rintro e w1 ⟨rfl, b1⟩
  replace bt := below_then bt b1
  have hB := bt.size
  have A := (Below.refl w1.heap.size w1).alloc (Nat.le_refl _) (.cells #[.int .i64 1000, .slice none 0 0, .slice none 0 0] 30)
  have pt : (w1.alloc (.cells #[.int .i64 1000, .slice none 0 0, .slice none 0 0] 30)).heap[w1.heap.size]? = some (.cells #[.int .i64 1000, .slice none 0 0, .slice none 0 0] 30 (0, 0)) := heap_alloc_new _ _
  replace bt := below_then bt A
  go_upto_region 5 with fail
  obtain ⟨v1, hv⟩ : ∃ v, w1.alloc (.cells #[.int .i64 1000, .slice none 0 0, .slice none 0 0] 30) = v := ⟨_, rfl⟩
  obtain ⟨gt, hg⟩ : ∃ g, w1.heap.size = g := ⟨_, rfl⟩
  rw [hv] at pt bt ⊢
  rw [hg] at pt hB ⊢
  clear hv hg A b1
  go_wp2_with fail
  refine (new_ok _ 1000 (by decide)).mono ?_
  rintro e w1 ⟨rfl, b1⟩
  replace pt := (b1.block gt (Array.getElem?_eq_some_iff.1 pt).1).trans pt
  replace bt := below_then bt b1
  have hBh := bt.size
  have A := (Below.refl w1.heap.size w1).alloc (Nat.le_refl _) (.cells #[.int .i64 1000, .slice none 0 0, .slice none 0 0] 30)
  have ph : (w1.alloc (.cells #[.int .i64 1000, .slice none 0 0, .slice none 0 0] 30)).heap[w1.heap.size]? = some (.cells #[.int .i64 1000, .slice none 0 0, .slice none 0 0] 30 (0, 0)) := heap_alloc_new _ _
  have hne : gt ≠ w1.heap.size := Nat.ne_of_lt (Array.getElem?_eq_some_iff.1 pt).1
  replace pt := (A.block gt (Array.getElem?_eq_some_iff.1 pt).1).trans pt
  have Mt := TabM.empty (w1.alloc (.cells #[.int .i64 1000, .slice none 0 0, .slice none 0 0] 30)) w.heap.size
  replace bt := below_then bt A
  go_upto_region 6 with fail
  obtain ⟨v2, hv⟩ : ∃ v, w1.alloc (.cells #[.int .i64 1000, .slice none 0 0, .slice none 0 0] 30) = v := ⟨_, rfl⟩
  obtain ⟨gh, hg⟩ : ∃ g, w1.heap.size = g := ⟨_, rfl⟩
  rw [hv] at pt ph Mt bt ⊢
  rw [hg] at ph hBh hne ⊢
  clear hv hg A b1
  have hrem := rem_nat c n hc
  have hz : decide ((n : Int) + 1 = 0) = false := by simp; omega
  obtain ⟨K, hK⟩ : ∃ K, c % (n + 1) = K := ⟨_, rfl⟩
  have hKn : K ≤ n := by rw [← hK]; exact Nat.le_of_lt_succ (Nat.mod_lt _ (by omega))
  rw [hK] at hrem
  clear hK
  have Mh := Mt
  have hap : ApartT none none none none := fun x y h _ => by rcases h with h | h <;> cases h
  go_wp2_with fail
  go_loopw [11] (fun i w' => ∃ (j m : Nat) (ka : Option Addr) (kc : Nat) (sa : Option Addr) (sl sc : Nat) (s : List Int) (rs : List (Nat × Nat)) (mh : Nat) (kh : Option Addr) (kch : Nat) (sh : Option Addr) (slh sch : Nat) (sH : List Int) (rsH : List (Nat × Nat)), j ≤ n ∧ i = .int .i64 (j : Nat) ∧ w'.heap[gt]? = some (.cells #[.int .i64 1000, .slice ka m kc, .slice sa sl sc] 30 (0, 0)) ∧ w'.heap[gh]? = some (.cells #[.int .i64 1000, .slice kh mh kch, .slice sh slh sch] 30 (0, 0)) ∧ TabM w' w.heap.size ka m kc sa sl sc (keysL f j) s rs ∧ TabM w' w.heap.size kh mh kch sh slh sch (keysL f (min j K)) sH rsH ∧ ApartT ka sa kh sh ∧ Below w.heap.size w w') (fun i _ => n - (intOf i).toNat)
  case atStart => exact ⟨0, 0, none, 0, none, 0, 0, [], [], 0, none, 0, none, 0, 0, [], [], Nat.zero_le _, rfl, pt, ph, Mt, (by rw [Nat.zero_min]; exact Mh), hap, bt⟩
  case round =>
    clear pt ph Mt Mh hap bt
    obtain ⟨j, m, ka, kc, sa, sl, sc, s, rs, mh, kh, kch, sh, slh, sch, sH, rsH, hj, rfl, pt, ph, Mt, Mh, hap, bt⟩ := hrel
    by_cases hjn : j < n
    · have f3 : decide (j < n) = true := by simpa using hjn
      obtain ⟨bl, ol, rfl, hbl, hact⟩ := hA.at_.resolve_left (by omega)
      have hstep1 : keysL f (j + 1) = insK (keysL f j) (f j).key := rfl
      have hnd := keysL_nodup f j
      have hndH := keysL_nodup f (min j K)
      have hm60 : m ≤ 60 := by have := keysL_len f j; have := Mt.rd.len; omega
      have hmh60 : mh ≤ 60 := by have := keysL_len f (min j K); have := Mh.rd.len; omega
      have hstep2 : (j < K → keysL f (min (j + 1) K) = insK (keysL f (min j K)) (f j).key) ∧ (¬ j < K → keysL f (min (j + 1) K) = keysL f (min j K)) := by
        refine ⟨fun h => ?_, fun h => ?_⟩
        · rw [Nat.min_eq_left (by omega : j + 1 ≤ K), Nat.min_eq_left (by omega : j ≤ K)]
          rfl
        · rw [Nat.min_eq_right (by omega : K ≤ j + 1), Nat.min_eq_right (by omega : K ≤ j)]
      obtain ⟨KS, hKS⟩ : ∃ KS, keysL f j = KS := ⟨_, rfl⟩
      obtain ⟨KH, hKH⟩ : ∃ KH, keysL f (min j K) = KH := ⟨_, rfl⟩
      rw [hKS] at Mt hnd hstep1
      rw [hKH] at Mh hndH hstep2
      obtain ⟨⟨ya, yl, yc, key⟩, hu⟩ : ∃ u, f j = u := ⟨_, rfl⟩
      have hx := hact j hjn
      have hy2 := hk200 j hjn
      rw [hu] at hx hy2 hstep1 hstep2
      have HS1 := Lib.hid hstep1
      have HS2 := Lib.hid hstep2
      have y1 : wr.cell? ⟨bl, ol + j, none⟩ = some (.slice ya yl yc) := (bt.cell (p := ⟨bl, ol + j, none⟩) hbl).trans hx.1
      have hky : BytesAt wr ya yl yc key := hx.2.mono bt
      have HK := Lib.hid hx
      have hyl2 := hky.len_eq
      simp only [] at hy2
      clear hact hu hx hKS hKH hstep1 hstep2
      go_upto_region 10 with fail
      go_cut [12, 13, 14, 15] from 47 to 81 (fun v12 v13 v14 v15 w' => ∃ (gx : Nat) (ka' : Option Addr) (n' kc' : Nat) (sa' : Option Addr) (sl' sc' : Nat) (s' : List Int) (rs' : List (Nat × Nat)) (p : Nat), v12 = .pointer (some ⟨gx, 0, none⟩) ∧ v13 = .int .i64 (p : Nat) ∧ v14 = .bool (!decide (key ∈ KS)) ∧ v15 = .int .i64 0 ∧ gx ≠ gt ∧ gx ≠ gh ∧ w.heap.size ≤ gx ∧ w'.heap[gt]? = some (.cells #[.int .i64 1000, .slice ka m kc, .slice sa sl sc] 30 (0, 0)) ∧ w'.heap[gh]? = some (.cells #[.int .i64 1000, .slice kh mh kch, .slice sh slh sch] 30 (0, 0)) ∧ w'.heap[gx]? = some (.cells #[.int .i64 1000, .slice ka' n' kc', .slice sa' sl' sc'] 30 (0, 0)) ∧ TabM w' w.heap.size ka' n' kc' sa' sl' sc' (insK KS key) s' rs' ∧ TabM w' w.heap.size kh mh kch sh slh sch KH sH rsH ∧ ApartT ka' sa' kh sh ∧ Below w.heap.size w w')
      case first =>
        have bD : Below wr.heap.size wr wr.drew := (Below.refl _ _).drew
        have bAA : Below wr.heap.size wr (wr.alloc (.cells #[.int .i64 0, .slice none 0 0, .slice none 0 0] 30)).drew := ((Below.refl _ _).alloc (Nat.le_refl _) _).drew
        have ptD : wr.drew.heap[gt]? = some (.cells #[.int .i64 1000, .slice ka m kc, .slice sa sl sc] 30 (0, 0)) := pt
        have phD : wr.drew.heap[gh]? = some (.cells #[.int .i64 1000, .slice kh mh kch, .slice sh slh sch] 30 (0, 0)) := ph
        have gtl : gt < wr.heap.size := (Array.getElem?_eq_some_iff.1 pt).1
        have ghl : gh < wr.heap.size := (Array.getElem?_eq_some_iff.1 ph).1
        have ptA := (bAA.block gt gtl).trans pt
        have phA := (bAA.block gh ghl).trans ph
        have MD := Mt.mono bD
        have MA := Mt.mono bAA
        have HD := Mh.mono bD
        have HA := Mh.mono bAA
        have hltH := Mh.ltAll
        have kD := hky.mono bD
        have kA := hky.mono bAA
        have hBD := Nat.le_trans bt.size bD.size
        have hBA := Nat.le_trans bt.size bAA.size
        have hnt : gt ≠ wr.heap.size := Nat.ne_of_lt gtl
        have hnh : gh ≠ wr.heap.size := Nat.ne_of_lt ghl
        have hnb : bl ≠ wr.heap.size := Nat.ne_of_lt (Nat.lt_of_lt_of_le hbl bt.size)
        have gD0 : wr.drew.cell? ⟨gt, 0, none⟩ = some (.int .i64 1000) := cell_of_row _ _ 0 _ _ _ ptD
        have gA0 : (wr.alloc (.cells #[.int .i64 0, .slice none 0 0, .slice none 0 0] 30)).drew.cell? ⟨gt, 0, none⟩ = some (.int .i64 1000) := cell_of_row _ _ 0 _ _ _ ptA
        have gD1 : wr.drew.cell? ⟨gt, 1, none⟩ = some (.slice ka m kc) := cell_of_row _ _ 1 _ _ _ ptD
        have gA1 : (wr.alloc (.cells #[.int .i64 0, .slice none 0 0, .slice none 0 0] 30)).drew.cell? ⟨gt, 1, none⟩ = some (.slice ka m kc) := cell_of_row _ _ 1 _ _ _ ptA
        have gD2 : wr.drew.cell? ⟨gt, 2, none⟩ = some (.slice sa sl sc) := cell_of_row _ _ 2 _ _ _ ptD
        have gA2 : (wr.alloc (.cells #[.int .i64 0, .slice none 0 0, .slice none 0 0] 30)).drew.cell? ⟨gt, 2, none⟩ = some (.slice sa sl sc) := cell_of_row _ _ 2 _ _ _ ptA
        have yD : wr.drew.cell? ⟨bl, ol + j, none⟩ = some (.slice ya yl yc) := y1
        have yA : (wr.alloc (.cells #[.int .i64 0, .slice none 0 0, .slice none 0 0] 30)).drew.cell? ⟨bl, ol + j, none⟩ = some (.slice ya yl yc) := (bAA.cell (p := ⟨bl, ol + j, none⟩) (Nat.lt_of_lt_of_le hbl bt.size)).trans y1
        have zrowA : (wr.alloc (.cells #[.int .i64 0, .slice none 0 0, .slice none 0 0] 30)).drew.heap[wr.heap.size]? = some (.cells #[.int .i64 0, .slice none 0 0, .slice none 0 0] 30 (0, 0)) := heap_alloc_new wr _
        have hI1 := insert_le2 wr.drew 1000 (by omega) (by omega) w.heap.size ka m kc sa sl sc KS s rs MD hBD ya yl yc key kD (by omega) hnd (by omega)
        have hI2 := insert_le2 (wr.alloc (.cells #[.int .i64 0, .slice none 0 0, .slice none 0 0] 30)).drew 1000 (by omega) (by omega) w.heap.size ka m kc sa sl sc KS s rs MA hBA ya yl yc key kA (by omega) hnd (by omega)
        clear hky MD MA kD kA pt ph Mt Mh
        go_region_held3 (fun w' => w'.cell? ⟨gt, 0, none⟩ = some (.int .i64 1000) ∧ w'.cell? ⟨gt, 1, none⟩ = some (.slice ka m kc) ∧ w'.cell? ⟨gt, 2, none⟩ = some (.slice sa sl sc) ∧ w'.cell? ⟨bl, ol + j, none⟩ = some (.slice ya yl yc))
          (first | (refine ⟨?_, ?_, ?_, ?_⟩ <;> with_reducible assumption) | (refine ⟨?_, ?_, ?_, ?_⟩; with_reducible exact cellAlloc _ _ r0; with_reducible exact cellAlloc _ _ r1; with_reducible exact cellAlloc _ _ r2; with_reducible exact cellAlloc _ _ ry) | (refine ⟨?_, ?_, ?_, ?_⟩; with_reducible exact three_cellU _ _ _ _ _ _ _ hnt r0; with_reducible exact three_cellU _ _ _ _ _ _ _ hnt r1; with_reducible exact three_cellU _ _ _ _ _ _ _ hnt r2; with_reducible exact three_cellU _ _ _ _ _ _ _ hnb ry))
          (first | (go_at_call 14; refine hI1.mono ?_; rintro e ws ⟨ka', n', kc', sa', sl', sc', s', rs', p, rfl, Hx, _, bx, hn', hrec, hbes, _, hp, hby, ⟨hsz, hoth⟩, hloc⟩; clear hn' hby hoth; have rt := hrec gt _ _ _ ptD (by decide) (by decide); have r0 : ws.cell? ⟨gt, 0, none⟩ = some (.int .i64 1000) := cell_of_row _ _ 0 _ _ _ rt; have r1 : ws.cell? ⟨gt, 1, none⟩ = some (.slice ka m kc) := cell_of_row _ _ 1 _ _ _ rt; have r2 : ws.cell? ⟨gt, 2, none⟩ = some (.slice sa sl sc) := cell_of_row _ _ 2 _ _ _ rt; have rh := hrec gh _ _ _ phD (by decide) (by decide); have Hh := hbes _ _ _ _ _ _ _ _ _ HD (.inr hap); have hap2 := hap.grow hloc (fun y hy => Nat.lt_of_lt_of_le (hltH y hy) bD.size); have ry : ws.cell? ⟨bl, ol + j, none⟩ = some (.slice ya yl yc) := (bx.cell (p := ⟨bl, ol + j, none⟩) hbl).trans yD; have bw : Below w.heap.size w ws := (bt.trans (bD.mono bt.size)).trans bx; have szw : wr.heap.size ≤ ws.heap.size := hsz) | (go_at_call 14; refine hI2.mono ?_; rintro e ws ⟨ka', n', kc', sa', sl', sc', s', rs', p, rfl, Hx, _, bx, hn', hrec, hbes, _, hp, hby, ⟨hsz, hoth⟩, hloc⟩; clear hn' hby hoth; have rt := hrec gt _ _ _ ptA (by decide) (by decide); have r0 : ws.cell? ⟨gt, 0, none⟩ = some (.int .i64 1000) := cell_of_row _ _ 0 _ _ _ rt; have r1 : ws.cell? ⟨gt, 1, none⟩ = some (.slice ka m kc) := cell_of_row _ _ 1 _ _ _ rt; have r2 : ws.cell? ⟨gt, 2, none⟩ = some (.slice sa sl sc) := cell_of_row _ _ 2 _ _ _ rt; have rh := hrec gh _ _ _ phA (by decide) (by decide); have Hh := hbes _ _ _ _ _ _ _ _ _ HA (.inr hap); have hap2 := hap.grow hloc (fun y hy => Nat.lt_of_lt_of_le (hltH y hy) bAA.size); have ry : ws.cell? ⟨bl, ol + j, none⟩ = some (.slice ya yl yc) := (bx.cell (p := ⟨bl, ol + j, none⟩) hbl).trans yA; have bw : Below w.heap.size w ws := (bt.trans (bAA.mono bt.size)).trans bx; have gz := hrec wr.heap.size _ _ _ zrowA (by decide) (by decide); have szw : wr.heap.size ≤ ws.heap.size := Nat.le_trans bAA.size hsz; have v0 : ws.cell? ⟨wr.heap.size, 0, none⟩ = some (.int .i64 0) := cell_of_row _ _ 0 _ _ _ gz; have g0 := frozen_of_row ws wr.heap.size 0 _ _ gz; have v1 : ws.cell? ⟨wr.heap.size, 1, none⟩ = some (.slice none 0 0) := cell_of_row _ _ 1 _ _ _ gz; have g1 := frozen_of_row ws wr.heap.size 1 _ _ gz; have v2 : ws.cell? ⟨wr.heap.size, 2, none⟩ = some (.slice none 0 0) := cell_of_row _ _ 2 _ _ _ gz; have g2 := frozen_of_row ws wr.heap.size 2 _ _ gz))
        all_goals
          go_wp2_with fail
          go_meet
          have al := (Below.refl ws.heap.size ws).alloc (Nat.le_refl _) (.cells #[.int .i64 1000, .slice ka' n' kc', .slice sa' sl' sc'] 30)
          have hgw := bt.size
          first
          | exact ⟨ws.heap.size, ka', n', kc', sa', sl', sc', s', rs', p, rfl, rfl, rfl, rfl, by omega, by omega, by omega, (al.block gt (Array.getElem?_eq_some_iff.1 rt).1).trans rt, (al.block gh (Array.getElem?_eq_some_iff.1 rh).1).trans rh, heap_alloc_new _ _, Hx.mono al, Hh.mono al, hap2, bw.trans (al.mono (by omega))⟩
          | exact ⟨wr.heap.size, ka', n', kc', sa', sl', sc', s', rs', p, rfl, rfl, rfl, rfl, hnt.symm, hnh.symm, hgw, (three_other _ _ _ _ _ _ hnt).trans rt, (three_other _ _ _ _ _ _ hnh).trans rh, three_rowU _ _ _ _ _ _ _ _ _ gz, Hx.recd gz (by decide) (by decide) (three_size _ _ _ _ _) (fun b hb => three_other _ _ _ _ _ _ hb), Hh.recd gz (by decide) (by decide) (three_size _ _ _ _ _) (fun b hb => three_other _ _ _ _ _ _ hb), hap2, three_below bw hgw _ _ _⟩
      case rest =>
        clear Mt pt Mh ph hky y1 hap bt
        obtain ⟨gx, kz, mz, kcz, sz, slz, scz, sZ, rsZ, p, rfl, rfl, rfl, rfl, hx1, hx2, hgx, pt2, ph2, px, Mx, Mh, hap, bt2⟩ := hcut
        obtain ⟨KS2, hKS2⟩ : ∃ KS2, insK KS key = KS2 := ⟨_, rfl⟩
        rw [hKS2] at Mx
        have HS3 := Lib.hid hKS2
        clear hKS2
        by_cases hjK : j < K
        · have f4 : decide (j < K) = true := by simpa using hjK
          go_upto_region 15 with (first | (refine wpList_load_row rfl 30 _ rfl gx rfl 30 _ _ _ px Try.underlying30 rfl (by kernel_rfl) ?_) | (refine store_rec rfl 30 (.tmp 6) (.tmp 66) rfl gt #[.int .i64 1000, .slice kz mz kcz, .slice sz slz scz] rfl rfl 30 _ pt2 (by kernel_rfl) rfl (by simp [Value.oneCell']) ?_; intro w6 g6 z6 o6 b6))
          have ph3 := (o6 gh hne.symm).trans ph2
          have Mx3 := Mx.recd pt2 (by decide) (by decide) z6 (fun b hb => o6 b hb)
          have Mh3 := Mh.recd pt2 (by decide) (by decide) z6 (fun b hb => o6 b hb)
          have bt := bt2.trans (b6.mono hB)
          have hX := HK.out
          have hky : BytesAt w6 ya yl yc key := hX.2.mono bt
          have y1 : w6.cell? ⟨bl, ol + j, none⟩ = some (.slice ya yl yc) := (bt.cell (p := ⟨bl, ol + j, none⟩) hbl).trans hX.1
          clear hX Mx Mh pt2 ph2 px bt2 o6 b6 z6
          go_cut [16, 17, 18, 19] from 47 to 81 (fun v16 v17 v18 v19 w' => ∃ (gx : Nat) (ka' : Option Addr) (n' kc' : Nat) (sa' : Option Addr) (sl' sc' : Nat) (s' : List Int) (rs' : List (Nat × Nat)) (p : Nat), v16 = .pointer (some ⟨gx, 0, none⟩) ∧ v17 = .int .i64 (p : Nat) ∧ v18 = .bool (!decide (key ∈ KH)) ∧ v19 = .int .i64 0 ∧ gx ≠ gh ∧ gx ≠ gt ∧ w.heap.size ≤ gx ∧ w'.heap[gh]? = some (.cells #[.int .i64 1000, .slice kh mh kch, .slice sh slh sch] 30 (0, 0)) ∧ w'.heap[gt]? = some (.cells #[.int .i64 1000, .slice kz mz kcz, .slice sz slz scz] 30 (0, 0)) ∧ w'.heap[gx]? = some (.cells #[.int .i64 1000, .slice ka' n' kc', .slice sa' sl' sc'] 30 (0, 0)) ∧ TabM w' w.heap.size ka' n' kc' sa' sl' sc' (insK KH key) s' rs' ∧ TabM w' w.heap.size kz mz kcz sz slz scz KS2 sZ rsZ ∧ ApartT ka' sa' kz sz ∧ Below w.heap.size w w')
          case first =>
            have bD : Below w6.heap.size w6 w6.drew := (Below.refl _ _).drew
            have bAA : Below w6.heap.size w6 (w6.alloc (.cells #[.int .i64 0, .slice none 0 0, .slice none 0 0] 30)).drew := ((Below.refl _ _).alloc (Nat.le_refl _) _).drew
            have ptD : w6.drew.heap[gh]? = some (.cells #[.int .i64 1000, .slice kh mh kch, .slice sh slh sch] 30 (0, 0)) := ph3
            have phD : w6.drew.heap[gt]? = some (.cells #[.int .i64 1000, .slice kz mz kcz, .slice sz slz scz] 30 (0, 0)) := g6
            have gtl : gh < w6.heap.size := (Array.getElem?_eq_some_iff.1 ph3).1
            have ghl : gt < w6.heap.size := (Array.getElem?_eq_some_iff.1 g6).1
            have ptA := (bAA.block gh gtl).trans ph3
            have phA := (bAA.block gt ghl).trans g6
            have MD := Mh3.mono bD
            have MA := Mh3.mono bAA
            have HD := Mx3.mono bD
            have HA := Mx3.mono bAA
            have hltH := Mx3.ltAll
            have kD := hky.mono bD
            have kA := hky.mono bAA
            have hBD := Nat.le_trans bt.size bD.size
            have hBA := Nat.le_trans bt.size bAA.size
            have hnt : gh ≠ w6.heap.size := Nat.ne_of_lt gtl
            have hnh : gt ≠ w6.heap.size := Nat.ne_of_lt ghl
            have hnb : bl ≠ w6.heap.size := Nat.ne_of_lt (Nat.lt_of_lt_of_le hbl bt.size)
            have gD0 : w6.drew.cell? ⟨gh, 0, none⟩ = some (.int .i64 1000) := cell_of_row _ _ 0 _ _ _ ptD
            have gA0 : (w6.alloc (.cells #[.int .i64 0, .slice none 0 0, .slice none 0 0] 30)).drew.cell? ⟨gh, 0, none⟩ = some (.int .i64 1000) := cell_of_row _ _ 0 _ _ _ ptA
            have gD1 : w6.drew.cell? ⟨gh, 1, none⟩ = some (.slice kh mh kch) := cell_of_row _ _ 1 _ _ _ ptD
            have gA1 : (w6.alloc (.cells #[.int .i64 0, .slice none 0 0, .slice none 0 0] 30)).drew.cell? ⟨gh, 1, none⟩ = some (.slice kh mh kch) := cell_of_row _ _ 1 _ _ _ ptA
            have gD2 : w6.drew.cell? ⟨gh, 2, none⟩ = some (.slice sh slh sch) := cell_of_row _ _ 2 _ _ _ ptD
            have gA2 : (w6.alloc (.cells #[.int .i64 0, .slice none 0 0, .slice none 0 0] 30)).drew.cell? ⟨gh, 2, none⟩ = some (.slice sh slh sch) := cell_of_row _ _ 2 _ _ _ ptA
            have yD : w6.drew.cell? ⟨bl, ol + j, none⟩ = some (.slice ya yl yc) := y1
            have yA : (w6.alloc (.cells #[.int .i64 0, .slice none 0 0, .slice none 0 0] 30)).drew.cell? ⟨bl, ol + j, none⟩ = some (.slice ya yl yc) := (bAA.cell (p := ⟨bl, ol + j, none⟩) (Nat.lt_of_lt_of_le hbl bt.size)).trans y1
            have zrowA : (w6.alloc (.cells #[.int .i64 0, .slice none 0 0, .slice none 0 0] 30)).drew.heap[w6.heap.size]? = some (.cells #[.int .i64 0, .slice none 0 0, .slice none 0 0] 30 (0, 0)) := heap_alloc_new w6 _
            have hI1 := insert_le2 w6.drew 1000 (by omega) (by omega) w.heap.size kh mh kch sh slh sch KH sH rsH MD hBD ya yl yc key kD (by omega) hndH (by omega)
            have hI2 := insert_le2 (w6.alloc (.cells #[.int .i64 0, .slice none 0 0, .slice none 0 0] 30)).drew 1000 (by omega) (by omega) w.heap.size kh mh kch sh slh sch KH sH rsH MA hBA ya yl yc key kA (by omega) hndH (by omega)
            clear hky MD MA kD kA ph3 g6 Mh3 Mx3
            go_region_held3 (fun w' => w'.cell? ⟨gh, 0, none⟩ = some (.int .i64 1000) ∧ w'.cell? ⟨gh, 1, none⟩ = some (.slice kh mh kch) ∧ w'.cell? ⟨gh, 2, none⟩ = some (.slice sh slh sch) ∧ w'.cell? ⟨bl, ol + j, none⟩ = some (.slice ya yl yc))
              (first | (refine ⟨?_, ?_, ?_, ?_⟩ <;> with_reducible assumption) | (refine ⟨?_, ?_, ?_, ?_⟩; with_reducible exact cellAlloc _ _ r0; with_reducible exact cellAlloc _ _ r1; with_reducible exact cellAlloc _ _ r2; with_reducible exact cellAlloc _ _ ry) | (refine ⟨?_, ?_, ?_, ?_⟩; with_reducible exact three_cellU _ _ _ _ _ _ _ hnt r0; with_reducible exact three_cellU _ _ _ _ _ _ _ hnt r1; with_reducible exact three_cellU _ _ _ _ _ _ _ hnt r2; with_reducible exact three_cellU _ _ _ _ _ _ _ hnb ry))
              (first | (go_at_call 14; refine hI1.mono ?_; rintro e ws ⟨ka', n', kc', sa', sl', sc', s', rs', p, rfl, Hx, _, bx, hn', hrec, hbes, _, hp, hby, ⟨hsz, hoth⟩, hloc⟩; clear hn' hby hoth; have rt := hrec gh _ _ _ ptD (by decide) (by decide); have r0 : ws.cell? ⟨gh, 0, none⟩ = some (.int .i64 1000) := cell_of_row _ _ 0 _ _ _ rt; have r1 : ws.cell? ⟨gh, 1, none⟩ = some (.slice kh mh kch) := cell_of_row _ _ 1 _ _ _ rt; have r2 : ws.cell? ⟨gh, 2, none⟩ = some (.slice sh slh sch) := cell_of_row _ _ 2 _ _ _ rt; have rh := hrec gt _ _ _ phD (by decide) (by decide); have Hh := hbes _ _ _ _ _ _ _ _ _ HD (.inr hap.symm); have hap2 := hap.symm.grow hloc (fun y hy => Nat.lt_of_lt_of_le (hltH y hy) bD.size); have ry : ws.cell? ⟨bl, ol + j, none⟩ = some (.slice ya yl yc) := (bx.cell (p := ⟨bl, ol + j, none⟩) hbl).trans yD; have bw : Below w.heap.size w ws := (bt.trans (bD.mono bt.size)).trans bx; have szw : w6.heap.size ≤ ws.heap.size := hsz) | (go_at_call 14; refine hI2.mono ?_; rintro e ws ⟨ka', n', kc', sa', sl', sc', s', rs', p, rfl, Hx, _, bx, hn', hrec, hbes, _, hp, hby, ⟨hsz, hoth⟩, hloc⟩; clear hn' hby hoth; have rt := hrec gh _ _ _ ptA (by decide) (by decide); have r0 : ws.cell? ⟨gh, 0, none⟩ = some (.int .i64 1000) := cell_of_row _ _ 0 _ _ _ rt; have r1 : ws.cell? ⟨gh, 1, none⟩ = some (.slice kh mh kch) := cell_of_row _ _ 1 _ _ _ rt; have r2 : ws.cell? ⟨gh, 2, none⟩ = some (.slice sh slh sch) := cell_of_row _ _ 2 _ _ _ rt; have rh := hrec gt _ _ _ phA (by decide) (by decide); have Hh := hbes _ _ _ _ _ _ _ _ _ HA (.inr hap.symm); have hap2 := hap.symm.grow hloc (fun y hy => Nat.lt_of_lt_of_le (hltH y hy) bAA.size); have ry : ws.cell? ⟨bl, ol + j, none⟩ = some (.slice ya yl yc) := (bx.cell (p := ⟨bl, ol + j, none⟩) hbl).trans yA; have bw : Below w.heap.size w ws := (bt.trans (bAA.mono bt.size)).trans bx; have gz := hrec w6.heap.size _ _ _ zrowA (by decide) (by decide); have szw : w6.heap.size ≤ ws.heap.size := Nat.le_trans bAA.size hsz; have v0 : ws.cell? ⟨w6.heap.size, 0, none⟩ = some (.int .i64 0) := cell_of_row _ _ 0 _ _ _ gz; have g0 := frozen_of_row ws w6.heap.size 0 _ _ gz; have v1 : ws.cell? ⟨w6.heap.size, 1, none⟩ = some (.slice none 0 0) := cell_of_row _ _ 1 _ _ _ gz; have g1 := frozen_of_row ws w6.heap.size 1 _ _ gz; have v2 : ws.cell? ⟨w6.heap.size, 2, none⟩ = some (.slice none 0 0) := cell_of_row _ _ 2 _ _ _ gz; have g2 := frozen_of_row ws w6.heap.size 2 _ _ gz))
            all_goals
              go_wp2_with fail
              go_meet
              have al := (Below.refl ws.heap.size ws).alloc (Nat.le_refl _) (.cells #[.int .i64 1000, .slice ka' n' kc', .slice sa' sl' sc'] 30)
              have hgw := bt.size
              first
              | exact ⟨ws.heap.size, ka', n', kc', sa', sl', sc', s', rs', p, rfl, rfl, rfl, rfl, by omega, by omega, by omega, (al.block gh (Array.getElem?_eq_some_iff.1 rt).1).trans rt, (al.block gt (Array.getElem?_eq_some_iff.1 rh).1).trans rh, heap_alloc_new _ _, Hx.mono al, Hh.mono al, hap2, bw.trans (al.mono (by omega))⟩
              | exact ⟨w6.heap.size, ka', n', kc', sa', sl', sc', s', rs', p, rfl, rfl, rfl, rfl, hnt.symm, hnh.symm, hgw, (three_other _ _ _ _ _ _ hnt).trans rt, (three_other _ _ _ _ _ _ hnh).trans rh, three_rowU _ _ _ _ _ _ _ _ _ gz, Hx.recd gz (by decide) (by decide) (three_size _ _ _ _ _) (fun b hb => three_other _ _ _ _ _ _ hb), Hh.recd gz (by decide) (by decide) (three_size _ _ _ _ _) (fun b hb => three_other _ _ _ _ _ _ hb), hap2, three_below bw hgw _ _ _⟩
          case rest =>
            clear Mx3 Mh3 ph3 g6 hky y1 hap bt
            obtain ⟨gy, ky, my, kcy, sy, sly, scy, sY, rsY, p2, rfl, rfl, rfl, rfl, hy3, hy4, hgy, ph4, pt4, py, My, Mx4, hap4, bt4⟩ := hcut
            obtain ⟨KH2, hKH2⟩ : ∃ KH2, insK KH key = KH2 := ⟨_, rfl⟩
            rw [hKH2] at My
            have HS4 := Lib.hid hKH2
            clear hKH2
            go_wp2_with (first | (refine wpList_load_row rfl 30 _ rfl gy rfl 30 _ _ _ py Try.underlying30 rfl (by kernel_rfl) ?_) | (refine store_rec rfl 30 (.tmp 8) (.tmp 81) rfl gh #[.int .i64 1000, .slice ky my kcy, .slice sy sly scy] rfl rfl 30 _ ph4 (by kernel_rfl) rfl (by simp [Value.oneCell']) ?_; intro w8 g8 z8 o8 b8))
            exact ⟨⟨j + 1, mz, kz, kcz, sz, slz, scz, sZ, rsZ, my, ky, kcy, sy, sly, scy, sY, rsY, by omega, by simp, (o8 gt hne).trans pt4, g8, (by rw [HS1.out, HS3.out]; exact Mx4.recd ph4 (by decide) (by decide) z8 (fun b hb => o8 b hb)), (by rw [HS2.out.1 hjK, HS4.out]; exact My.recd ph4 (by decide) (by decide) z8 (fun b hb => o8 b hb)), hap4.symm, bt4.trans (b8.mono hBh)⟩, by simp [intOf]; omega⟩
        · have f4 : decide (j < K) = false := by simpa using hjK
          go_wp2_with (first | (refine wpList_load_row rfl 30 _ rfl gx rfl 30 _ _ _ px Try.underlying30 rfl (by kernel_rfl) ?_) | (refine store_rec rfl 30 (.tmp 6) (.tmp 66) rfl gt #[.int .i64 1000, .slice kz mz kcz, .slice sz slz scz] rfl rfl 30 _ pt2 (by kernel_rfl) rfl (by simp [Value.oneCell']) ?_; intro w6 g6 z6 o6 b6))
          exact ⟨⟨j + 1, mz, kz, kcz, sz, slz, scz, sZ, rsZ, mh, kh, kch, sh, slh, sch, sH, rsH, by omega, by simp, g6, (o6 gh hne.symm).trans ph2, (by rw [HS1.out, HS3.out]; exact Mx.recd pt2 (by decide) (by decide) z6 (fun b hb => o6 b hb)), (by rw [HS2.out.2 hjK]; exact Mh.recd pt2 (by decide) (by decide) z6 (fun b hb => o6 b hb)), hap, bt2.trans (b6.mono hB)⟩, by simp [intOf]; omega⟩
    · have f3 : decide (j < n) = false := by simpa using hjn
      obtain rfl : n = j := by omega
      have hpre := keysL_prefix f (min n K) n (Nat.min_le_left _ _)
      have hkl : ∀ k ∈ keysL f n, k.length ≤ 1000000 := fun k hk => by
        obtain ⟨i, hi, rfl⟩ := keysL_all f n k hk
        obtain ⟨bl, ol, _, _, hact⟩ := hA.at_.resolve_left (by omega)
        have := (hact i hi).2.len_eq
        have := hk200 i hi
        omega
      have hklH : ∀ k ∈ keysL f (min n K), k.length ≤ 1000000 := fun k hk => hkl k (hpre.subset hk)
      have hnd := keysL_nodup f n
      have hpl : ∀ i, i < n → ∀ p, p < (keysL f n).length → (keysL f n).getD p [] = (f i).key → p ≤ (keysL f i).length ∧ (p = (keysL f i).length → (keysL f (i + 1)).length = (keysL f i).length + 1) ∧ (p ≠ (keysL f i).length → (keysL f (i + 1)).length = (keysL f i).length) := fun i hi p hp hk => keysL_place f hi hp hk
      have hin : ∀ i, i < n → (f i).key ∈ keysL f n := fun i hi => (keysL_prefix f (i + 1) n hi).subset (insK_mem.2 (.inr rfl))
      have hml := Mt.rd.len
      have hmhl := Mh.rd.len
      have hmm := hpre.length_le
      have hm20 := Mt.rd.small
      obtain ⟨KS, hKS⟩ : ∃ KS, keysL f n = KS := ⟨_, rfl⟩
      obtain ⟨KH, hKH⟩ : ∃ KH, keysL f (min n K) = KH := ⟨_, rfl⟩
      have HKS := Lib.hid hKS
      simp only [hKS] at hpre hkl hnd hpl hin hml hmm Mt
      simp only [hKH] at hpre hklH hmhl hmm Mh
      have HPL := Lib.hid hpl
      have HPre := Lib.hid hpre
      clear hKS hKH hpl hpre
      have hmm2 : mh ≤ m := by omega
      have f5 : decide (m < mh) = false := by simp; omega
      go_wp2_with (first | (refine wpList_load_row rfl 30 _ rfl gt rfl 30 _ _ _ pt Try.underlying30 rfl (by kernel_rfl) ?_) | fail)
      refine (keys_any wr 1000 ka m kc sa sl sc KS s rs Mt.rd hkl).mono ?_
      rintro e w2 ⟨⟨gK, rfl, hK, hgK⟩, b2⟩
      replace pt := (b2.block gt (Array.getElem?_eq_some_iff.1 pt).1).trans pt
      replace ph := (b2.block gh (Array.getElem?_eq_some_iff.1 ph).1).trans ph
      replace Mt := Mt.mono b2
      replace Mh := Mh.mono b2
      replace bt := below_then bt b2
      clear b2 hgK hap
      go_wp2_with (first | (refine wpList_load_row rfl 30 _ rfl gh rfl 30 _ _ _ ph Try.underlying30 rfl (by kernel_rfl) ?_) | fail)
      refine (keys_any w2 1000 kh mh kch sh slh sch KH sH rsH Mh.rd hklH).mono ?_
      rintro e w3 ⟨⟨gH, rfl, hH, hgH⟩, b3⟩
      replace pt := (b3.block gt (Array.getElem?_eq_some_iff.1 pt).1).trans pt
      replace Mt := Mt.mono b3
      replace bt := below_then bt b3
      replace hK := hK.mono b3
      have hP : RowsK w3 (some ⟨gK, 0, none⟩) mh KH := hK.prefix HPre.out hmhl
      clear b3 hgH ph Mh
      go_wp2_with (first | (refine wpList_load_row rfl 30 _ rfl gt rfl 30 _ _ _ pt Try.underlying30 rfl (by kernel_rfl) ?_) | fail)
      refine (rows_any w3 (some ⟨gK, 0, none⟩) (some ⟨gH, 0, none⟩) mh mh m mh KH KH hP hH).mono ?_
      rintro e w4 ⟨rfl, b4⟩
      rw [decide_eq_true (rfl : KH = KH)]
      replace pt := (b4.block gt (Array.getElem?_eq_some_iff.1 pt).1).trans pt
      replace Mt := Mt.mono b4
      replace bt := below_then bt b4
      replace hK := hK.mono b4
      clear b4 hH hP
      have qt0 : w4.cell? ⟨gt, 0, none⟩ = some (.int .i64 1000) := cell_of_row _ _ 0 _ _ _ pt
      have qt1 : w4.cell? ⟨gt, 1, none⟩ = some (.slice ka m kc) := cell_of_row _ _ 1 _ _ _ pt
      have qt2 : w4.cell? ⟨gt, 2, none⟩ = some (.slice sa sl sc) := cell_of_row _ _ 2 _ _ _ pt
      go_wp2_with fail
      refine (many_any w4 1000 ka m kc _ hm20).mono ?_
      rintro e w5 ⟨rfl, b5⟩
      replace pt := (b5.block gt (Array.getElem?_eq_some_iff.1 pt).1).trans pt
      replace Mt := Mt.mono b5
      replace bt := below_then bt b5
      replace hK := hK.mono b5
      clear b5 qt0 qt1 qt2
      clear f3
      go_wp2_with fail
      go_loopw [22, 23] (fun nx i w' => ∃ j, j ≤ n ∧ i = .int .i64 (j : Nat) ∧ nx = .int .i64 ((keysL f j).length : Nat) ∧ w'.heap[gt]? = some (.cells #[.int .i64 1000, .slice ka m kc, .slice sa sl sc] 30 (0, 0)) ∧ TabM w' w.heap.size ka m kc sa sl sc KS s rs ∧ RowsK w' (some ⟨gK, 0, none⟩) m KS ∧ Below w.heap.size w w') (fun _ i _ => n - (intOf i).toNat)
      case atStart => exact ⟨0, Nat.zero_le _, rfl, rfl, pt, Mt, hK, bt⟩
      case round =>
        clear pt Mt hK bt
        obtain ⟨j, hj, rfl, rfl, pt, Mt, hK, bt⟩ := hrel
        by_cases hjn : j < n
        · have f3 : decide (j < n) = true := by simpa using hjn
          obtain ⟨p, hp, hpk⟩ := mem_getD (hin j hjn)
          obtain ⟨h1, h2, h3⟩ := HPL.out j hjn p hp hpk
          have hnxs := keysL_len f j
          obtain ⟨nx, hnx⟩ : ∃ nx, (keysL f j).length = nx := ⟨_, rfl⟩
          obtain ⟨nx2, hnx2⟩ : ∃ nx2, (keysL f (j + 1)).length = nx2 := ⟨_, rfl⟩
          rw [hnx] at h1 h2 h3 hnxs ⊢
          rw [hnx2] at h2 h3
          have g1 : decide (nx < p) = false := by simp; omega
          have g2 : decide ((p : Int) < 0) = false := by simp
          have HN2 := Lib.hid hnx2
          have HH2 := Lib.hid h2
          have HH3 := Lib.hid h3
          clear h2 h3 hnx2 hnx
          have hpm : p < m := by omega
          obtain ⟨bl, ol, rfl, hbl, hact⟩ := hA.at_.resolve_left (by omega)
          obtain ⟨⟨ya, yl, yc, key⟩, hu⟩ : ∃ u, f j = u := ⟨_, rfl⟩
          have hx := hact j hjn
          rw [hu] at hx hpk
          simp only [] at hx hpk
          have HK := Lib.hid hx
          have gtl := (Array.getElem?_eq_some_iff.1 pt).1
          have y1 : ∀ x : Later wr.heap.size wr, x.w.cell? ⟨bl, ol + j, none⟩ = some (.slice ya yl yc) := fun x => ((below_then bt x.below).cell (p := ⟨bl, ol + j, none⟩) hbl).trans hx.1
          have q0 : ∀ x : Later wr.heap.size wr, x.w.cell? ⟨gt, 0, none⟩ = some (.int .i64 1000) := fun x => cell_of_row _ _ 0 _ _ _ ((x.below.block gt gtl).trans pt)
          have q1 : ∀ x : Later wr.heap.size wr, x.w.cell? ⟨gt, 1, none⟩ = some (.slice ka m kc) := fun x => cell_of_row _ _ 1 _ _ _ ((x.below.block gt gtl).trans pt)
          have q2 : ∀ x : Later wr.heap.size wr, x.w.cell? ⟨gt, 2, none⟩ = some (.slice sa sl sc) := fun x => cell_of_row _ _ 2 _ _ _ ((x.below.block gt gtl).trans pt)
          have nF : ∀ x : Later wr.heap.size wr, Calls Try.prog 17 #[.agg #[.int .i64 1000, .slice ka m kc, .slice sa sl sc], .slice ya yl yc] x.w fun e w' => e = .returned (.tuple #[.int .i64 (p : Nat), .bool true]) ∧ Below x.w.heap.size x.w w' := fun x => find_at x.w 1000 ka m kc sa sl sc KS s rs (Mt.rd.mono x.below) ya yl yc key (hx.2.mono (below_then bt x.below)) hnd p hp hpk
          clear hact hu hx gtl
          go_wp2_with fail
          refine wp_region_later wr.heap.size wr (by kernel_rfl) (by kernel_rfl) (Below.refl _ _) ?_
          repeat (go_big_quiet_step ((go_at_call 17; refine Calls.later0 (nF _))))
          refine wpQuiet_nil ?_
          intro _ hlat
          obtain ⟨x, rfl⟩ := hlat
          clear y1 q0 q1 q2 nF
          by_cases hpe : p = nx
          · obtain rfl : p = nx := hpe
            have HH := Lib.hid (HH2.out rfl)
            clear HH2 HH3
            have Kx := HK.out
            have px := (x.below.block gt (Array.getElem?_eq_some_iff.1 pt).1).trans pt
            have Mx := Mt.mono x.below
            have hKx := hK.mono x.below
            have bx := below_then bt x.below
            clear pt Mt hK bt
            go_wp2_with (first | (refine wpList_load_row rfl 30 _ rfl gt rfl 30 _ _ _ px Try.underlying30 rfl (by kernel_rfl) ?_) | fail)
            refine (key_ok x.w 1000 ka m kc sa sl sc KS s rs Mx.rd hkl p hpm).mono ?_
            rintro e w6 ⟨⟨xa, xl, xc, rfl, k1⟩, b6⟩
            rw [hpk] at k1
            have k2 : BytesAt w6 ya yl yc key := Kx.2.mono (below_then bx b6)
            have y6 : ∀ z : Later w6.heap.size w6, z.w.cell? ⟨bl, ol + j, none⟩ = some (.slice ya yl yc) := fun z => ((below_then (below_then bx b6) z.below).cell (p := ⟨bl, ol + j, none⟩) hbl).trans Kx.1
            have hK6 := hKx.mono b6
            obtain ⟨b3, o3, ho3, hb3, hi3⟩ := hK6.at_.resolve_left (by omega)
            cases ho3
            obtain ⟨x3, l3, c3, e3, k3⟩ := hi3 p hpm
            rw [hpk] at k3
            have y7 : ∀ z : Later w6.heap.size w6, z.w.cell? ⟨gK, 0 + p, none⟩ = some (.slice x3 l3 c3) := fun z => (z.below.cell (p := ⟨gK, 0 + p, none⟩) hb3).trans e3
            simp only [Nat.zero_add] at y7
            obtain ⟨S, hS⟩ : ∃ S, strOfNums (key.map fun (n : Nat) => (n : Int)) = S := ⟨_, rfl⟩
            have v1 : ∀ z : Later w6.heap.size w6, (convert 23 9 (.slice (some xa) xl xc)).run Try.prog z.w = .ok (.string S) z.w := fun z => by
              rw [← hS]
              exact (k1.mono z.below).conv 23 5 9 Try.underlying23 Try.underlying5 Try.underlying9
            have v2 : ∀ z : Later w6.heap.size w6, (convert 23 9 (.slice ya yl yc)).run Try.prog z.w = .ok (.string S) z.w := fun z => by
              rw [← hS]
              exact (k2.mono z.below).conv 23 5 9 Try.underlying23 Try.underlying5 Try.underlying9
            have v3 : ∀ z : Later w6.heap.size w6, (convert 23 9 (.slice x3 l3 c3)).run Try.prog z.w = .ok (.string S) z.w := fun z => by
              rw [← hS]
              exact (k3.mono z.below).conv 23 5 9 Try.underlying23 Try.underlying5 Try.underlying9
            replace px := (b6.block gt (Array.getElem?_eq_some_iff.1 px).1).trans px
            replace Mx := Mx.mono b6
            replace bx := below_then bx b6
            clear hS k1 k2 k3 e3 hi3 hKx Kx b6
            go_wp2_with fail
            refine wp_region_later w6.heap.size w6 (by kernel_rfl) (by kernel_rfl) (Below.refl _ _) ?_
            repeat (go_big_quiet_step (fail))
            refine wpQuiet_nil ?_
            intro _ hlat
            obtain ⟨z, rfl⟩ := hlat
            go_wp2_with fail
            exact ⟨⟨j + 1, by omega, by simp, (by rw [HN2.out, HH.out]; simp), (z.below.block gt (Array.getElem?_eq_some_iff.1 px).1).trans px, Mx.mono z.below, hK6.mono z.below, below_then bx z.below⟩, by simp [intOf]; omega⟩
          · have g3 : decide (p = nx) = false := by simpa using hpe
            have g4 : ((p : Int) == (nx : Int)) = false := by simp; omega
            have HH := Lib.hid (HH3.out hpe)
            clear HH2 HH3 hpe
            have Kx := HK.out
            have px := (x.below.block gt (Array.getElem?_eq_some_iff.1 pt).1).trans pt
            have Mx := Mt.mono x.below
            have hKx := hK.mono x.below
            have bx := below_then bt x.below
            clear pt Mt hK bt
            go_wp2_with (first | (refine wpList_load_row rfl 30 _ rfl gt rfl 30 _ _ _ px Try.underlying30 rfl (by kernel_rfl) ?_) | fail)
            refine (key_ok x.w 1000 ka m kc sa sl sc KS s rs Mx.rd hkl p hpm).mono ?_
            rintro e w6 ⟨⟨xa, xl, xc, rfl, k1⟩, b6⟩
            rw [hpk] at k1
            have k2 : BytesAt w6 ya yl yc key := Kx.2.mono (below_then bx b6)
            have y6 : ∀ z : Later w6.heap.size w6, z.w.cell? ⟨bl, ol + j, none⟩ = some (.slice ya yl yc) := fun z => ((below_then (below_then bx b6) z.below).cell (p := ⟨bl, ol + j, none⟩) hbl).trans Kx.1
            have hK6 := hKx.mono b6
            obtain ⟨b3, o3, ho3, hb3, hi3⟩ := hK6.at_.resolve_left (by omega)
            cases ho3
            obtain ⟨x3, l3, c3, e3, k3⟩ := hi3 p hpm
            rw [hpk] at k3
            have y7 : ∀ z : Later w6.heap.size w6, z.w.cell? ⟨gK, 0 + p, none⟩ = some (.slice x3 l3 c3) := fun z => (z.below.cell (p := ⟨gK, 0 + p, none⟩) hb3).trans e3
            simp only [Nat.zero_add] at y7
            obtain ⟨S, hS⟩ : ∃ S, strOfNums (key.map fun (n : Nat) => (n : Int)) = S := ⟨_, rfl⟩
            have v1 : ∀ z : Later w6.heap.size w6, (convert 23 9 (.slice (some xa) xl xc)).run Try.prog z.w = .ok (.string S) z.w := fun z => by
              rw [← hS]
              exact (k1.mono z.below).conv 23 5 9 Try.underlying23 Try.underlying5 Try.underlying9
            have v2 : ∀ z : Later w6.heap.size w6, (convert 23 9 (.slice ya yl yc)).run Try.prog z.w = .ok (.string S) z.w := fun z => by
              rw [← hS]
              exact (k2.mono z.below).conv 23 5 9 Try.underlying23 Try.underlying5 Try.underlying9
            have v3 : ∀ z : Later w6.heap.size w6, (convert 23 9 (.slice x3 l3 c3)).run Try.prog z.w = .ok (.string S) z.w := fun z => by
              rw [← hS]
              exact (k3.mono z.below).conv 23 5 9 Try.underlying23 Try.underlying5 Try.underlying9
            replace px := (b6.block gt (Array.getElem?_eq_some_iff.1 px).1).trans px
            replace Mx := Mx.mono b6
            replace bx := below_then bx b6
            clear hS k1 k2 k3 e3 hi3 hKx Kx b6
            go_wp2_with fail
            refine wp_region_later w6.heap.size w6 (by kernel_rfl) (by kernel_rfl) (Below.refl _ _) ?_
            repeat (go_big_quiet_step (fail))
            refine wpQuiet_nil ?_
            intro _ hlat
            obtain ⟨z, rfl⟩ := hlat
            go_wp2_with fail
            exact ⟨⟨j + 1, by omega, by simp, (by rw [HN2.out, HH.out]), (z.below.block gt (Array.getElem?_eq_some_iff.1 px).1).trans px, Mx.mono z.below, hK6.mono z.below, below_then bx z.below⟩, by simp [intOf]; omega⟩
        · have f3 : decide (j < n) = false := by simpa using hjn
          obtain rfl : n = j := by omega
          rw [show (keysL f n).length = m from by rw [HKS.out]; exact hml]
          go_wp2_with fail
          go_ret
          exact ⟨rfl, bt⟩
end Go.Proofs.Ytkklciecdhbleaa
