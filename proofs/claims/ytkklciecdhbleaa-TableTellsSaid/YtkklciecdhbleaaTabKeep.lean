/- TableKeeps returns true (by gen04x.py). -/
import Derived.Test.YtkklciecdhbleaaTabW
import Derived.Test.YtkklciecdhbleaaTabMany
import Derived.Maps.OwnIn
namespace Go.Proofs.Ytkklciecdhbleaa
open Go.RowKit Go.Maps
set_option linter.unusedVariables false

theorem three_other (w : World) (g : Nat) (a b c : Value) (x : Nat) (h : x ≠ g) : (((w.setCell ⟨g, 0, none⟩ a).setCell ⟨g, 1, none⟩ b).setCell ⟨g, 2, none⟩ c).heap[x]? = w.heap[x]? := by
  rw [Below.heap_setCell _ _ _ _ h, Below.heap_setCell _ _ _ _ h, Below.heap_setCell _ _ _ _ h]
theorem three_size (w : World) (g : Nat) (a b c : Value) : (((w.setCell ⟨g, 0, none⟩ a).setCell ⟨g, 1, none⟩ b).setCell ⟨g, 2, none⟩ c).heap.size = w.heap.size := by simp [World.setCell]
theorem three_below {B : Nat} {w0 w : World} (h : Below B w0 w) {g : Nat} (hg : B ≤ g) (a b c : Value) : Below B w0 (((w.setCell ⟨g, 0, none⟩ a).setCell ⟨g, 1, none⟩ b).setCell ⟨g, 2, none⟩ c) := ((h.setCell hg _).setCell hg _).setCell hg _

theorem AtMap.same {w w' : World} {b n : Nat} {ks : List (List Nat)} (h : AtMap w b n ks) (hb : w'.heap[b]? = w.heap[b]?) : AtMap w' b n ks := by
  obtain ⟨es, cl, hm⟩ := h.map
  exact h.block hm (hb.trans hm)
theorem find_in (ks : List (List Nat)) (hnd : ks.Nodup) (key : List Nat) : ∃ p0 : Nat, (key ∈ ks → p0 < ks.length ∧ ks.getD p0 [] = key) ∧ ∀ (w : World) (cap : Int) (ka : Option Addr) (n kc : Nat) (sa : Option Addr) (sl sc : Nat) (s : List Int) (rs : List (Nat × Nat)) (_ : TabR w ka n sa sl ks s rs) (ya : Option Addr) (yl yc : Nat) (_ : BytesAt w ya yl yc key),
    Calls Try.prog 17 #[.agg #[.int .i64 cap, .slice ka n kc, .slice sa sl sc], .slice ya yl yc] w fun e w' => e = .returned (.tuple #[.int .i64 (p0 : Nat), .bool (decide (key ∈ ks))]) ∧ Below w.heap.size w w' := by
  by_cases hm : key ∈ ks
  · obtain ⟨p0, hp, hpk⟩ := mem_getD hm
    refine ⟨p0, fun _ => ⟨hp, hpk⟩, fun w cap ka n kc sa sl sc s rs h ya yl yc hk => (find_le w cap ka n kc sa sl sc ks s rs h ya yl yc key hk).mono ?_⟩
    rintro e w' ⟨⟨q, rfl, h1, _⟩, hb⟩
    obtain ⟨hq, hqk⟩ := h1 hm
    obtain rfl : p0 = q := getD_inj hnd hp hq (by rw [hqk, hpk])
    exact ⟨rfl, hb⟩
  · refine ⟨0, fun h => absurd h hm, fun w cap ka n kc sa sl sc s rs h ya yl yc hk => (find_le w cap ka n kc sa sl sc ks s rs h ya yl yc key hk).mono ?_⟩
    rintro e w' ⟨⟨q, rfl, _, h2⟩, hb⟩
    rw [h2 hm]
    exact ⟨rfl, hb⟩
set_option maxRecDepth 100000 in
set_option maxHeartbeats 4000000 in
theorem tablekeeps_any (w : World) (c : Nat) (hc : c < 256) (al : Option Addr) (n cl : Nat) (f : Nat → KeyD) (hA : KeysAt w al n f) :
    Calls Try.prog 4 #[.int .u8 (c : Nat), .slice al n cl] w fun e w' => e = .returned (.bool true) ∧ Below w.heap.size w w' := by
  have nb := hA.small
  have hmm := @run_makeMap Try.prog
  go_enter Try.func4, Try.ntmps4
  go_wp2_with fail
  refine (shown_any _).mono ?_
  rintro e w0 ⟨rfl, bt⟩
  go_wp2_with fail
  refine (few_any _ al n cl f 60 (hA.mono bt)).mono ?_
  rintro e w00 ⟨⟨fb, rfl, hfew⟩, rfl⟩
  cases fb with
  | false =>
    go_wp2_with fail
    go_ret
    exact ⟨rfl, bt⟩
  | true =>
  obtain ⟨n60, hk200⟩ := hfew rfl
  clear hfew
  obtain ⟨N, hN⟩ : ∃ N, c % 101 = N := ⟨_, rfl⟩
  have hN100 : N ≤ 100 := by omega
  have hrem : ((c : Nat) : Int).tmod 101 = (N : Nat) := by
    rw [Int.tmod_eq_emod_of_nonneg (by omega)]
    omega
  have hrem2 : ((c : Nat) : Int) % 101 = (N : Nat) := by omega
  clear hN
  go_wp2_with fail
  refine (new_ok _ (N : Nat) (by omega)).mono ?_
  rintro e w1 ⟨rfl, b1⟩
  replace bt := below_then bt b1
  have hB := bt.size
  have A := (Below.refl w1.heap.size w1).alloc (Nat.le_refl _) (.cells #[.int .i64 (N : Nat), .slice none 0 0, .slice none 0 0] 30)
  have pt : (w1.alloc (.cells #[.int .i64 (N : Nat), .slice none 0 0, .slice none 0 0] 30)).heap[w1.heap.size]? = some (.cells #[.int .i64 (N : Nat), .slice none 0 0, .slice none 0 0] 30 (0, 0)) := heap_alloc_new _ _
  replace bt := below_then bt A
  go_upto_region 6 with fail
  obtain ⟨v1, hv⟩ : ∃ v, w1.alloc (.cells #[.int .i64 (N : Nat), .slice none 0 0, .slice none 0 0] 30) = v := ⟨_, rfl⟩
  obtain ⟨gt, hg⟩ : ∃ g, w1.heap.size = g := ⟨_, rfl⟩
  rw [hv] at pt bt ⊢
  rw [hg] at pt hB ⊢
  clear hv hg A b1
  have hBm := bt.size
  have hne : gt ≠ v1.heap.size := Nat.ne_of_lt (Array.getElem?_eq_some_iff.1 pt).1
  have A := (Below.refl v1.heap.size v1).alloc (Nat.le_refl _) (.map #[] 0)
  have hM := AtMap.made v1
  replace pt := (A.block gt (Array.getElem?_eq_some_iff.1 pt).1).trans pt
  replace bt := below_then bt A
  have Mt := TabM.empty (v1.alloc (.map #[] 0)) w.heap.size
  go_upto_region 7 with fail
  obtain ⟨v2, hv⟩ : ∃ v, v1.alloc (.map #[] 0) = v := ⟨_, rfl⟩
  obtain ⟨gm, hg⟩ : ∃ g, v1.heap.size = g := ⟨_, rfl⟩
  rw [hv] at pt bt Mt hM ⊢
  rw [hg] at hne hBm hM ⊢
  clear hv hg A hrem hrem2
  go_wp2_with fail
  go_loopw [10] (fun i w' => ∃ (j m : Nat) (ka : Option Addr) (kc : Nat) (sa : Option Addr) (sl sc : Nat) (KS : List (List Nat)) (s : List Int) (rs : List (Nat × Nat)), j ≤ n ∧ i = .int .i64 (j : Nat) ∧ KS.Nodup ∧ (∀ k ∈ KS, k.length ≤ 1000000) ∧ w'.heap[gt]? = some (.cells #[.int .i64 (N : Nat), .slice ka m kc, .slice sa sl sc] 30 (0, 0)) ∧ TabM w' w.heap.size ka m kc sa sl sc KS s rs ∧ AtMap w' gm j KS ∧ Below w.heap.size w w') (fun i _ => n - (intOf i).toNat)
  case atStart => exact ⟨0, 0, none, 0, none, 0, 0, [], [], [], Nat.zero_le _, rfl, List.nodup_nil, (fun k hk => by cases hk), pt, Mt, hM, bt⟩
  case round =>
    clear pt Mt hM bt
    obtain ⟨j, m, ka, kc, sa, sl, sc, KS, s, rs, hj, rfl, hnd, hkl, pt, Mt, hM, bt⟩ := hrel
    by_cases hjn : j < n
    · have f3 : decide (j < n) = true := by simpa using hjn
      obtain ⟨bl, ol, rfl, hbl, hact⟩ := hA.at_.resolve_left (by omega)
      obtain ⟨⟨ya, yl, yc, key⟩, hu⟩ : ∃ u, f j = u := ⟨_, rfl⟩
      have hx := hact j hjn
      have hy2 := hk200 j hjn
      rw [hu] at hx hy2
      simp only [] at hx hy2
      have y1 : wr.cell? ⟨bl, ol + j, none⟩ = some (.slice ya yl yc) := (bt.cell (p := ⟨bl, ol + j, none⟩) hbl).trans hx.1
      have hky : BytesAt wr ya yl yc key := hx.2.mono bt
      have hyl2 := hky.len_eq
      have hby := hky.byte
      have HK := Lib.hid hx
      obtain ⟨cp, hlook, hcp⟩ := hM.look key hby (by omega)
      have hKO := keyOf_k (k := key) (by omega)
      have hcv := hky.conv 23 5 9 Try.underlying23 Try.underlying5 Try.underlying9
      obtain ⟨S, hS⟩ : ∃ S, strOfNums (key.map fun (n : Nat) => (n : Int)) = S := ⟨_, rfl⟩
      rw [hS] at hlook hKO hcv
      have HS := Lib.hid hS
      obtain ⟨W, hW⟩ : ∃ W, decide (key ∈ KS) = W := ⟨_, rfl⟩
      rw [hW] at hlook
      have HW := Lib.hid hW
      have HCP := Lib.hid hcp
      obtain ⟨es, cl2, mp⟩ := hM.map
      have hml := Mt.rd.len
      have hm20 := Mt.rd.small
      clear hact hu hx hS hW hcp
      go_upto_region 11 with fail
      go_cut [13, 14, 15, 16] from 39 to 119 (fun v13 v14 v15 v16 w' => ∃ (gx : Nat) (ka' : Option Addr) (n' kc' : Nat) (sa' : Option Addr) (sl' sc' : Nat) (KS' : List (List Nat)) (s' : List Int) (rs' : List (Nat × Nat)) (p : Nat) (F : Bool) (E : Int), v13 = .pointer (some ⟨gx, 0, none⟩) ∧ v14 = .int .i64 (p : Nat) ∧ v15 = .bool F ∧ v16 = .int .i64 E ∧ gx ≠ gt ∧ gx ≠ gm ∧ w.heap.size ≤ gx ∧ w'.heap[gt]? = some (.cells #[.int .i64 (N : Nat), .slice ka m kc, .slice sa sl sc] 30 (0, 0)) ∧ w'.heap[gm]? = some (.map es cl2) ∧ w'.heap[gx]? = some (.cells #[.int .i64 (N : Nat), .slice ka' n' kc', .slice sa' sl' sc'] 30 (0, 0)) ∧ TabM w' w.heap.size ka' n' kc' sa' sl' sc' KS' s' rs' ∧ Below w.heap.size w w' ∧ ((key ∈ KS ∧ F = false ∧ E = 0 ∧ KS' = KS ∧ p < KS.length ∧ KS.getD p [] = key) ∨ (key ∉ KS ∧ ((N : Nat) : Int) ≤ m ∧ F = false ∧ E = 7 ∧ KS' = KS) ∨ (key ∉ KS ∧ m < ((N : Nat) : Int) ∧ F = true ∧ E = 0 ∧ KS' = KS ++ [key] ∧ p = m)))
      case first =>
        have bD : Below wr.heap.size wr wr.drew := (Below.refl _ _).drew
        have bAA : Below wr.heap.size wr (wr.alloc (.cells #[.int .i64 0, .slice none 0 0, .slice none 0 0] 30)).drew := ((Below.refl _ _).alloc (Nat.le_refl _) _).drew
        have ptD : wr.drew.heap[gt]? = some (.cells #[.int .i64 (N : Nat), .slice ka m kc, .slice sa sl sc] 30 (0, 0)) := pt
        have mpD : wr.drew.heap[gm]? = some (.map es cl2) := mp
        have gtl : gt < wr.heap.size := (Array.getElem?_eq_some_iff.1 pt).1
        have gml : gm < wr.heap.size := (Array.getElem?_eq_some_iff.1 mp).1
        have ptA := (bAA.block gt gtl).trans pt
        have mpA := (bAA.block gm gml).trans mp
        have MD := Mt.mono bD
        have MA := Mt.mono bAA
        have kD := hky.mono bD
        have kA := hky.mono bAA
        have hBD := Nat.le_trans bt.size bD.size
        have hBA := Nat.le_trans bt.size bAA.size
        have hnt : gt ≠ wr.heap.size := Nat.ne_of_lt gtl
        have hnm : gm ≠ wr.heap.size := Nat.ne_of_lt gml
        have hnb : bl ≠ wr.heap.size := Nat.ne_of_lt (Nat.lt_of_lt_of_le hbl bt.size)
        have gD0 : wr.drew.cell? ⟨gt, 0, none⟩ = some (.int .i64 (N : Nat)) := cell_of_row _ _ 0 _ _ _ ptD
        have gA0 : (wr.alloc (.cells #[.int .i64 0, .slice none 0 0, .slice none 0 0] 30)).drew.cell? ⟨gt, 0, none⟩ = some (.int .i64 (N : Nat)) := cell_of_row _ _ 0 _ _ _ ptA
        have gD1 : wr.drew.cell? ⟨gt, 1, none⟩ = some (.slice ka m kc) := cell_of_row _ _ 1 _ _ _ ptD
        have gA1 : (wr.alloc (.cells #[.int .i64 0, .slice none 0 0, .slice none 0 0] 30)).drew.cell? ⟨gt, 1, none⟩ = some (.slice ka m kc) := cell_of_row _ _ 1 _ _ _ ptA
        have gD2 : wr.drew.cell? ⟨gt, 2, none⟩ = some (.slice sa sl sc) := cell_of_row _ _ 2 _ _ _ ptD
        have gA2 : (wr.alloc (.cells #[.int .i64 0, .slice none 0 0, .slice none 0 0] 30)).drew.cell? ⟨gt, 2, none⟩ = some (.slice sa sl sc) := cell_of_row _ _ 2 _ _ _ ptA
        have yD : wr.drew.cell? ⟨bl, ol + j, none⟩ = some (.slice ya yl yc) := y1
        have yA : (wr.alloc (.cells #[.int .i64 0, .slice none 0 0, .slice none 0 0] 30)).drew.cell? ⟨bl, ol + j, none⟩ = some (.slice ya yl yc) := (bAA.cell (p := ⟨bl, ol + j, none⟩) (Nat.lt_of_lt_of_le hbl bt.size)).trans y1
        have zrowA : (wr.alloc (.cells #[.int .i64 0, .slice none 0 0, .slice none 0 0] 30)).drew.heap[wr.heap.size]? = some (.cells #[.int .i64 0, .slice none 0 0, .slice none 0 0] 30 (0, 0)) := heap_alloc_new wr _
        have hI1 := insert_ev wr.drew (N : Nat) (by omega) (by omega) w.heap.size ka m kc sa sl sc KS s rs MD hBD ya yl yc key kD (by omega) hnd
        have hI2 := insert_ev (wr.alloc (.cells #[.int .i64 0, .slice none 0 0, .slice none 0 0] 30)).drew (N : Nat) (by omega) (by omega) w.heap.size ka m kc sa sl sc KS s rs MA hBA ya yl yc key kA (by omega) hnd
        clear hky MD MA kD kA pt mp Mt
        go_region_held3 (fun w' => w'.cell? ⟨gt, 0, none⟩ = some (.int .i64 (N : Nat)) ∧ w'.cell? ⟨gt, 1, none⟩ = some (.slice ka m kc) ∧ w'.cell? ⟨gt, 2, none⟩ = some (.slice sa sl sc) ∧ w'.cell? ⟨bl, ol + j, none⟩ = some (.slice ya yl yc))
          (first | (refine ⟨?_, ?_, ?_, ?_⟩ <;> with_reducible assumption) | (refine ⟨?_, ?_, ?_, ?_⟩; with_reducible exact cellAlloc _ _ r0; with_reducible exact cellAlloc _ _ r1; with_reducible exact cellAlloc _ _ r2; with_reducible exact cellAlloc _ _ ry) | (refine ⟨?_, ?_, ?_, ?_⟩; with_reducible exact three_cellU _ _ _ _ _ _ _ hnt r0; with_reducible exact three_cellU _ _ _ _ _ _ _ hnt r1; with_reducible exact three_cellU _ _ _ _ _ _ _ hnt r2; with_reducible exact three_cellU _ _ _ _ _ _ _ hnb ry))
          (first | (go_at_call 14; refine hI1.mono ?_; rintro e ws ⟨ka', n', kc', sa', sl', sc', KS', s', rs', p, F, E, rfl, Hx, bx, hrec, hmap, hsz, hout⟩; have rt := hrec gt _ _ _ ptD (by decide) (by decide); have r0 : ws.cell? ⟨gt, 0, none⟩ = some (.int .i64 (N : Nat)) := cell_of_row _ _ 0 _ _ _ rt; have r1 : ws.cell? ⟨gt, 1, none⟩ = some (.slice ka m kc) := cell_of_row _ _ 1 _ _ _ rt; have r2 : ws.cell? ⟨gt, 2, none⟩ = some (.slice sa sl sc) := cell_of_row _ _ 2 _ _ _ rt; have rm := hmap gm _ _ mpD; have ry : ws.cell? ⟨bl, ol + j, none⟩ = some (.slice ya yl yc) := (bx.cell (p := ⟨bl, ol + j, none⟩) hbl).trans yD; have bw : Below w.heap.size w ws := (bt.trans (bD.mono bt.size)).trans bx; have szw : wr.heap.size ≤ ws.heap.size := hsz) | (go_at_call 14; refine hI2.mono ?_; rintro e ws ⟨ka', n', kc', sa', sl', sc', KS', s', rs', p, F, E, rfl, Hx, bx, hrec, hmap, hsz, hout⟩; have rt := hrec gt _ _ _ ptA (by decide) (by decide); have r0 : ws.cell? ⟨gt, 0, none⟩ = some (.int .i64 (N : Nat)) := cell_of_row _ _ 0 _ _ _ rt; have r1 : ws.cell? ⟨gt, 1, none⟩ = some (.slice ka m kc) := cell_of_row _ _ 1 _ _ _ rt; have r2 : ws.cell? ⟨gt, 2, none⟩ = some (.slice sa sl sc) := cell_of_row _ _ 2 _ _ _ rt; have rm := hmap gm _ _ mpA; have ry : ws.cell? ⟨bl, ol + j, none⟩ = some (.slice ya yl yc) := (bx.cell (p := ⟨bl, ol + j, none⟩) hbl).trans yA; have bw : Below w.heap.size w ws := (bt.trans (bAA.mono bt.size)).trans bx; have gz := hrec wr.heap.size _ _ _ zrowA (by decide) (by decide); have szw : wr.heap.size ≤ ws.heap.size := Nat.le_trans bAA.size hsz; have v0 : ws.cell? ⟨wr.heap.size, 0, none⟩ = some (.int .i64 0) := cell_of_row _ _ 0 _ _ _ gz; have g0 := frozen_of_row ws wr.heap.size 0 _ _ gz; have v1 : ws.cell? ⟨wr.heap.size, 1, none⟩ = some (.slice none 0 0) := cell_of_row _ _ 1 _ _ _ gz; have g1 := frozen_of_row ws wr.heap.size 1 _ _ gz; have v2 : ws.cell? ⟨wr.heap.size, 2, none⟩ = some (.slice none 0 0) := cell_of_row _ _ 2 _ _ _ gz; have g2 := frozen_of_row ws wr.heap.size 2 _ _ gz))
        all_goals
          have HO := Lib.hid hout
          clear hout
          go_wp2_with fail
          go_meet
          have al := (Below.refl ws.heap.size ws).alloc (Nat.le_refl _) (.cells #[.int .i64 (N : Nat), .slice ka' n' kc', .slice sa' sl' sc'] 30)
          have hgw := bt.size
          have gtl2 := (Array.getElem?_eq_some_iff.1 rt).1
          have gml2 := (Array.getElem?_eq_some_iff.1 rm).1
          first
          | exact ⟨ws.heap.size, ka', n', kc', sa', sl', sc', KS', s', rs', p, F, E, rfl, rfl, rfl, rfl, Ne.symm (Nat.ne_of_lt gtl2), Ne.symm (Nat.ne_of_lt gml2), Nat.le_trans hgw szw, (al.block gt gtl2).trans rt, (al.block gm gml2).trans rm, heap_alloc_new _ _, Hx.mono al, bw.trans (al.mono (Nat.le_trans hgw szw)), HO.out⟩
          | exact ⟨wr.heap.size, ka', n', kc', sa', sl', sc', KS', s', rs', p, F, E, rfl, rfl, rfl, rfl, hnt.symm, hnm.symm, hgw, (three_other _ _ _ _ _ _ hnt).trans rt, (three_other _ _ _ _ _ _ hnm).trans rm, three_rowU _ _ _ _ _ _ _ _ _ gz, Hx.recd gz (by decide) (by decide) (three_size _ _ _ _ _) (fun b hb => three_other _ _ _ _ _ _ hb), three_below bw hgw _ _ _, HO.out⟩
      case rest =>
        clear Mt pt hky y1 bt hlook hcv
        obtain ⟨gx, kz, mz, kcz, sz, slz, scz, KZ, sZ, rsZ, p, F, E, rfl, rfl, rfl, rfl, hx1, hx2, hgx, pt2, mp2, px, Mx, bt2, hout⟩ := hcut
        have hM2 := hM.block mp mp2
        have hlen2 := fun ty => hM2.len ty
        simp only [hml] at hlen2
        clear hM mp
        rcases hout with ⟨h1, rfl, rfl, rfl, hp, hpk⟩ | ⟨h1, h2, rfl, rfl, rfl⟩ | ⟨h1, h2, rfl, rfl, rfl, rfl⟩
        · obtain rfl : W = true := by rw [← HW.out]; exact decide_eq_true h1
          obtain rfl : cp = (p : Int) := HCP.out p hp hpk
          have HNd := Lib.hid hnd
          clear h1 hpk hp hnd hml
          go_wp2_with (first | (refine wpList_load_row rfl 30 _ rfl gx rfl 30 _ _ _ px Try.underlying30 rfl (by kernel_rfl) ?_) | (refine store_rec rfl 30 (.tmp 7) (.tmp 119) rfl gt #[.int .i64 (N : Nat), .slice kz mz kcz, .slice sz slz scz] rfl rfl 30 _ pt2 (by kernel_rfl) rfl (by simp [Value.oneCell']) ?_; intro w6 g6 z6 o6 b6))
          exact ⟨⟨j + 1, mz, kz, kcz, sz, slz, scz, _, sZ, rsZ, by omega, by simp, HNd.out, hkl, g6, Mx.recd pt2 (by decide) (by decide) z6 (fun b hb => o6 b hb), (hM2.same (o6 gm hne.symm)).more (Nat.le_succ j), bt2.trans (b6.mono hB)⟩, by simp [intOf]; omega⟩
        · obtain rfl : W = false := by rw [← HW.out]; exact decide_eq_false h1
          have d1 : decide (N ≤ m) = true := by simp; omega
          have HNd := Lib.hid hnd
          clear h1 hnd hml h2
          go_wp2_with (first | (refine wpList_load_row rfl 30 _ rfl gx rfl 30 _ _ _ px Try.underlying30 rfl (by kernel_rfl) ?_) | (refine store_rec rfl 30 (.tmp 7) (.tmp 119) rfl gt #[.int .i64 (N : Nat), .slice kz mz kcz, .slice sz slz scz] rfl rfl 30 _ pt2 (by kernel_rfl) rfl (by simp [Value.oneCell']) ?_; intro w6 g6 z6 o6 b6))
          exact ⟨⟨j + 1, mz, kz, kcz, sz, slz, scz, _, sZ, rsZ, by omega, by simp, HNd.out, hkl, g6, Mx.recd pt2 (by decide) (by decide) z6 (fun b hb => o6 b hb), (hM2.same (o6 gm hne.symm)).more (Nat.le_succ j), bt2.trans (b6.mono hB)⟩, by simp [intOf]; omega⟩
        · obtain rfl : W = false := by rw [← HW.out]; exact decide_eq_false h1
          have d1 : decide (N ≤ p) = false := by simp; omega
          have Kx := HK.out
          have hky2 : BytesAt wc ya yl yc key := Kx.2.mono bt2
          have y2 : wc.cell? ⟨bl, ol + j, none⟩ = some (.slice ya yl yc) := (bt2.cell (p := ⟨bl, ol + j, none⟩) hbl).trans Kx.1
          have hcv2 := hky2.conv 23 5 9 Try.underlying23 Try.underlying5 Try.underlying9
          rw [HS.out] at hcv2
          obtain ⟨D, hown, hD⟩ := hM2
          have HNd := Lib.hid hnd
          have HNo := Lib.hid h1
          have HMl := Lib.hid hml
          have hpn : p ≤ 1048576 := hm20
          clear Kx hky2 h1 h2 hnd hml
          go_wp2_with (first | (at_mapUpdate; refine wpList_mapUpdate_own _ rfl _ _ _ 53 rfl 9 3 strK_law Try.underlying53 _ gm j D rfl hown (by unfold maxLen; omega) _ _ (litK key) rfl rfl hKO (.lit (.int .i64 (p : Nat))) [] (plainElem_int Try.underlying3 (WalkArith.wf_i64 (by omega))) ?_; intro w9 hown9 hg9; have ho9 : ∀ b, b < wc.heap.size → b ≠ gm → w9.heap[b]? = wc.heap[b]? := fun b hb hne => hg9.block b hb (fun he => hne (Option.some.inj he)); have pt9 := cells_off mp2 ho9 pt2; have px9 := cells_off mp2 ho9 px) | (refine wpList_load_row rfl 30 _ rfl gx rfl 30 _ _ _ px9 Try.underlying30 rfl (by kernel_rfl) ?_) | (refine store_rec rfl 30 (.tmp 7) (.tmp 119) rfl gt #[.int .i64 (N : Nat), .slice kz mz kcz, .slice sz slz scz] rfl rfl 30 _ pt9 (by kernel_rfl) rfl (by simp [Value.oneCell']) ?_; intro w6 g6 z6 o6 b6))
          have hnd2 : (KS ++ [key]).Nodup := by
            have := insK_nodup (key := key) HNd.out
            unfold insK at this
            rwa [if_neg HNo.out] at this
          have hkl2 : ∀ k ∈ KS ++ [key], k.length ≤ 1000000 := fun k hk => by
            rcases List.mem_append.1 hk with hk | hk
            · exact hkl k hk
            · rw [List.mem_singleton.1 hk]
              omega
          have hown2 := hown9
          rw [← HMl.out] at hown2
          exact ⟨⟨j + 1, mz, kz, kcz, sz, slz, scz, _, sZ, rsZ, by omega, by simp, hnd2, hkl2, g6, (Mx.offmap mp2 hg9.size ho9).recd pt9 (by decide) (by decide) z6 (fun b hb => o6 b hb), (atMap_put hown hD key hby HNo.out hown2).same (o6 gm hne.symm), (bt2.grown hg9 bt2.size (fun c hc => by cases hc; omega)).trans (b6.mono hB)⟩, by simp [intOf]; omega⟩
    · have f3 : decide (j < n) = false := by simpa using hjn
      obtain rfl : n = j := by omega
      have hml := Mt.rd.len
      have hm20 := Mt.rd.small
      have HML := Lib.hid hml
      clear hml
      go_wp2_with fail
      clear f3
      go_loopw [18] (fun i w' => ∃ j, j ≤ n ∧ i = .int .i64 (j : Nat) ∧ w'.heap[gt]? = some (.cells #[.int .i64 (N : Nat), .slice ka m kc, .slice sa sl sc] 30 (0, 0)) ∧ TabM w' w.heap.size ka m kc sa sl sc KS s rs ∧ AtMap w' gm n KS ∧ Below w.heap.size w w') (fun i _ => n - (intOf i).toNat)
      case atStart => exact ⟨0, Nat.zero_le _, rfl, pt, Mt, hM, bt⟩
      case round =>
        clear pt Mt hM bt
        obtain ⟨j, hj, rfl, pt, Mt, hM, bt⟩ := hrel
        by_cases hjn : j < n
        · have f3 : decide (j < n) = true := by simpa using hjn
          obtain ⟨bl, ol, rfl, hbl, hact⟩ := hA.at_.resolve_left (by omega)
          obtain ⟨⟨ya, yl, yc, key⟩, hu⟩ : ∃ u, f j = u := ⟨_, rfl⟩
          have hx := hact j hjn
          have hy2 := hk200 j hjn
          rw [hu] at hx hy2
          simp only [] at hx hy2
          have y1 : wr.cell? ⟨bl, ol + j, none⟩ = some (.slice ya yl yc) := (bt.cell (p := ⟨bl, ol + j, none⟩) hbl).trans hx.1
          have hky : BytesAt wr ya yl yc key := hx.2.mono bt
          have hyl2 := hky.len_eq
          have HK := Lib.hid hx
          obtain ⟨cp, hlook, hcp⟩ := hM.look key hky.byte (by omega)
          have hcv := hky.conv 23 5 9 Try.underlying23 Try.underlying5 Try.underlying9
          obtain ⟨p0, hp0, hF⟩ := find_in KS hnd key
          obtain ⟨S, hS⟩ : ∃ S, strOfNums (key.map fun (n : Nat) => (n : Int)) = S := ⟨_, rfl⟩
          rw [hS] at hlook hcv
          have HS := Lib.hid hS
          obtain ⟨W, hW⟩ : ∃ W, decide (key ∈ KS) = W := ⟨_, rfl⟩
          rw [hW] at hlook hF
          have HW := Lib.hid hW
          have HCP := Lib.hid hcp
          have HP0 := Lib.hid hp0
          have gtl := (Array.getElem?_eq_some_iff.1 pt).1
          have yL : ∀ x : Later wr.heap.size wr, x.w.cell? ⟨bl, ol + j, none⟩ = some (.slice ya yl yc) := fun x => ((below_then bt x.below).cell (p := ⟨bl, ol + j, none⟩) hbl).trans hx.1
          have q0 : ∀ x : Later wr.heap.size wr, x.w.cell? ⟨gt, 0, none⟩ = some (.int .i64 (N : Nat)) := fun x => cell_of_row _ _ 0 _ _ _ ((x.below.block gt gtl).trans pt)
          have q1 : ∀ x : Later wr.heap.size wr, x.w.cell? ⟨gt, 1, none⟩ = some (.slice ka m kc) := fun x => cell_of_row _ _ 1 _ _ _ ((x.below.block gt gtl).trans pt)
          have q2 : ∀ x : Later wr.heap.size wr, x.w.cell? ⟨gt, 2, none⟩ = some (.slice sa sl sc) := fun x => cell_of_row _ _ 2 _ _ _ ((x.below.block gt gtl).trans pt)
          have nF := fun x : Later wr.heap.size wr => hF x.w (N : Nat) ka m kc sa sl sc s rs (Mt.rd.mono x.below) ya yl yc (hky.mono x.below)
          clear hact hu hx hS hW hcp hp0 hF gtl hky
          go_wp2_with fail
          refine wp_region_later wr.heap.size wr (by kernel_rfl) (by kernel_rfl) (Below.refl _ _) ?_
          repeat (go_big_quiet_step ((go_at_call 17; refine Calls.later0 (nF _))))
          refine wpQuiet_nil ?_
          intro _ hlat
          obtain ⟨x, rfl⟩ := hlat
          clear y1 yL q0 q1 q2 nF hlook hcv
          have px := (x.below.block gt (Array.getElem?_eq_some_iff.1 pt).1).trans pt
          have Mx := Mt.mono x.below
          have hMx := hM.mono x.below
          have bx := below_then bt x.below
          clear pt Mt hM bt
          cases W with
          | false =>
            go_wp2_with fail
            exact ⟨⟨j + 1, by omega, by simp, px, Mx, hMx, bx⟩, by simp [intOf]; omega⟩
          | true =>
            obtain ⟨hp, hpk⟩ := HP0.out (of_decide_eq_true HW.out)
            obtain rfl : cp = (p0 : Int) := HCP.out p0 hp hpk
            have hpm : p0 < m := by have := HML.out; omega
            have Kx := HK.out
            go_wp2_with (first | (refine wpList_load_row rfl 30 _ rfl gt rfl 30 _ _ _ px Try.underlying30 rfl (by kernel_rfl) ?_) | fail)
            refine (key_ok x.w (N : Nat) ka m kc sa sl sc KS s rs Mx.rd hkl p0 hpm).mono ?_
            rintro e w6 ⟨⟨xa, xl, xc, rfl, k1⟩, b6⟩
            rw [hpk] at k1
            have k2 : BytesAt w6 ya yl yc key := Kx.2.mono (below_then bx b6)
            have y6 : ∀ z : Later w6.heap.size w6, z.w.cell? ⟨bl, ol + j, none⟩ = some (.slice ya yl yc) := fun z => ((below_then (below_then bx b6) z.below).cell (p := ⟨bl, ol + j, none⟩) hbl).trans Kx.1
            have v1 : ∀ z : Later w6.heap.size w6, (convert 23 9 (.slice (some xa) xl xc)).run Try.prog z.w = .ok (.string S) z.w := fun z => by
              rw [← HS.out]
              exact (k1.mono z.below).conv 23 5 9 Try.underlying23 Try.underlying5 Try.underlying9
            have v2 : ∀ z : Later w6.heap.size w6, (convert 23 9 (.slice ya yl yc)).run Try.prog z.w = .ok (.string S) z.w := fun z => by
              rw [← HS.out]
              exact (k2.mono z.below).conv 23 5 9 Try.underlying23 Try.underlying5 Try.underlying9
            replace px := (b6.block gt (Array.getElem?_eq_some_iff.1 px).1).trans px
            replace Mx := Mx.mono b6
            replace hMx := hMx.mono b6
            replace bx := below_then bx b6
            clear k1 k2 Kx b6 hpk
            go_wp2_with fail
            refine wp_region_later w6.heap.size w6 (by kernel_rfl) (by kernel_rfl) (Below.refl _ _) ?_
            repeat (go_big_quiet_step (fail))
            refine wpQuiet_nil ?_
            intro _ hlat
            obtain ⟨z, rfl⟩ := hlat
            go_wp2_with fail
            exact ⟨⟨j + 1, by omega, by simp, (z.below.block gt (Array.getElem?_eq_some_iff.1 px).1).trans px, Mx.mono z.below, hMx.mono z.below, below_then bx z.below⟩, by simp [intOf]; omega⟩
        · have f3 : decide (j < n) = false := by simpa using hjn
          have qt0 : wr.cell? ⟨gt, 0, none⟩ = some (.int .i64 (N : Nat)) := cell_of_row _ _ 0 _ _ _ pt
          have qt1 : wr.cell? ⟨gt, 1, none⟩ = some (.slice ka m kc) := cell_of_row _ _ 1 _ _ _ pt
          have qt2 : wr.cell? ⟨gt, 2, none⟩ = some (.slice sa sl sc) := cell_of_row _ _ 2 _ _ _ pt
          have hlen2 := fun ty => hM.len ty
          simp only [HML.out] at hlen2
          go_wp2_with fail
          refine (many_any wr (N : Nat) ka m kc _ hm20).mono ?_
          rintro e w5 ⟨rfl, b5⟩
          replace pt := (b5.block gt (Array.getElem?_eq_some_iff.1 pt).1).trans pt
          replace Mt := Mt.mono b5
          replace hM := hM.mono b5
          replace bt := below_then bt b5
          clear qt0 qt1 qt2 hlen2 b5
          have qt0 : w5.cell? ⟨gt, 0, none⟩ = some (.int .i64 (N : Nat)) := cell_of_row _ _ 0 _ _ _ pt
          have qt1 : w5.cell? ⟨gt, 1, none⟩ = some (.slice ka m kc) := cell_of_row _ _ 1 _ _ _ pt
          have qt2 : w5.cell? ⟨gt, 2, none⟩ = some (.slice sa sl sc) := cell_of_row _ _ 2 _ _ _ pt
          have hlen2 := fun ty => hM.len ty
          simp only [HML.out] at hlen2
          go_wp2_with fail
          refine (keys_any w5 (N : Nat) ka m kc sa sl sc KS s rs Mt.rd hkl).mono ?_
          rintro e w6 ⟨⟨gK, rfl, hK, _⟩, b6⟩
          replace hM := hM.mono b6
          replace bt := below_then bt b6
          clear qt0 qt1 qt2 hlen2 b6 hK
          have hlen2 := fun ty => hM.len ty
          simp only [HML.out] at hlen2
          go_wp2_with fail
          go_ret
          exact ⟨rfl, bt⟩
end Go.Proofs.Ytkklciecdhbleaa
