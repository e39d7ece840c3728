/- TableOld returns true (by gen04o.py). -/
import Derived.Test.YtkklciecdhbleaaTabN
import Derived.Test.YtkklciecdhbleaaTabMany
namespace Go.Proofs.Ytkklciecdhbleaa
open Go.RowKit
set_option linter.unusedVariables false

theorem three_other (w : World) (g : Nat) (a b c : Value) (x : Nat) (h : x ≠ g) : (((w.setCell ⟨g, 0, none⟩ a).setCell ⟨g, 1, none⟩ b).setCell ⟨g, 2, none⟩ c).heap[x]? = w.heap[x]? := by
  rw [Below.heap_setCell _ _ _ _ h, Below.heap_setCell _ _ _ _ h, Below.heap_setCell _ _ _ _ h]
theorem three_size (w : World) (g : Nat) (a b c : Value) : (((w.setCell ⟨g, 0, none⟩ a).setCell ⟨g, 1, none⟩ b).setCell ⟨g, 2, none⟩ c).heap.size = w.heap.size := by simp [World.setCell]
theorem three_below {B : Nat} {w0 w : World} (h : Below B w0 w) {g : Nat} (hg : B ≤ g) (a b c : Value) : Below B w0 (((w.setCell ⟨g, 0, none⟩ a).setCell ⟨g, 1, none⟩ b).setCell ⟨g, 2, none⟩ c) := ((h.setCell hg _).setCell hg _).setCell hg _

set_option maxRecDepth 100000 in
set_option maxHeartbeats 8000000 in
theorem tableold_any (w : World) (al : Option Addr) (n cl : Nat) (f : Nat → KeyD) (aa : Option Addr) (la ca : Nat) (ka0 : List Nat) (ab : Option Addr) (lb cb : Nat) (kb0 : List Nat) (hA : KeysAt w al n f) (ha : BytesAt w aa la ca ka0) (hb : BytesAt w ab lb cb kb0) :
    Calls Try.prog 5 #[.slice al n cl, .slice aa la ca, .slice ab lb cb] w fun e w' => e = .returned (.bool true) ∧ Below w.heap.size w w' := by
  have nb := hA.small
  have nb1 := ha.small
  have nb2 := hb.small
  go_enter Try.func5, Try.ntmps5
  go_wp2_with fail
  refine (shown_any _).mono ?_
  rintro e w0 ⟨rfl, bt⟩
  go_wp2_with fail
  refine (few_any _ al n cl f 40 (hA.mono bt)).mono ?_
  rintro e w00 ⟨⟨fb, rfl, hfew⟩, rfl⟩
  cases fb with
  | false =>
    go_wp2_with fail
    go_ret
    exact ⟨rfl, bt⟩
  | true =>
  obtain ⟨n40, hk200⟩ := hfew rfl
  clear hfew
  by_cases h1 : 200 < la
  · have f1 : decide ((200 : Int) < (la : Int)) = true := by simp; omega
    go_wp2_with fail
    go_ret
    exact ⟨rfl, bt⟩
  have f1 : decide ((200 : Int) < (la : Int)) = false := by simp; omega
  by_cases h2 : 200 < lb
  · have f2 : decide ((200 : Int) < (lb : Int)) = true := by simp; omega
    go_wp2_with fail
    go_ret
    exact ⟨rfl, bt⟩
  have f2 : decide ((200 : Int) < (lb : Int)) = false := by simp; omega
  go_wp2_with fail
  refine (new_ok _ 100 (by decide)).mono ?_
  rintro e w1 ⟨rfl, b1⟩
  replace bt := below_then bt b1
  have hB := bt.size
  have A := (Below.refl w1.heap.size w1).alloc (Nat.le_refl _) (.cells #[.int .i64 100, .slice none 0 0, .slice none 0 0] 30)
  have pt : (w1.alloc (.cells #[.int .i64 100, .slice none 0 0, .slice none 0 0] 30)).heap[w1.heap.size]? = some (.cells #[.int .i64 100, .slice none 0 0, .slice none 0 0] 30 (0, 0)) := heap_alloc_new _ _
  have Mt := TabM.empty (w1.alloc (.cells #[.int .i64 100, .slice none 0 0, .slice none 0 0] 30)) w.heap.size
  replace bt := below_then bt A
  go_upto_region 5 with fail
  obtain ⟨v1, hv⟩ : ∃ v, w1.alloc (.cells #[.int .i64 100, .slice none 0 0, .slice none 0 0] 30) = v := ⟨_, rfl⟩
  obtain ⟨gt, hg⟩ : ∃ g, w1.heap.size = g := ⟨_, rfl⟩
  rw [hv] at pt Mt bt ⊢
  rw [hg] at pt hB ⊢
  clear hv hg A b1 f1 f2
  go_wp2_with fail
  go_loopw [10] (fun i w' => ∃ (j m : Nat) (ka : Option Addr) (kc : Nat) (sa : Option Addr) (sl sc : Nat) (KS : List (List Nat)) (s : List Int) (rs : List (Nat × Nat)), j ≤ n ∧ m ≤ j ∧ KS.Nodup ∧ (∀ k ∈ KS, k.length ≤ 1000000) ∧ i = .int .i64 (j : Nat) ∧ w'.heap[gt]? = some (.cells #[.int .i64 100, .slice ka m kc, .slice sa sl sc] 30 (0, 0)) ∧ TabM w' w.heap.size ka m kc sa sl sc KS s rs ∧ Below w.heap.size w w') (fun i _ => n - (intOf i).toNat)
  case atStart => exact ⟨0, 0, none, 0, none, 0, 0, [], [], [], Nat.zero_le _, Nat.zero_le _, List.nodup_nil, (fun k hk => by simp at hk), rfl, pt, Mt, bt⟩
  case round =>
    clear pt Mt bt
    obtain ⟨j, m, ka, kc, sa, sl, sc, KS, s, rs, hj, hmj, hnd, hkl, rfl, pt, Mt, bt⟩ := hrel
    by_cases hjn : j < n
    · have f3 : decide (j < n) = true := by simpa using hjn
      obtain ⟨bl, ol, rfl, hbl, hact⟩ := hA.at_.resolve_left (by omega)
      obtain ⟨⟨ya, yl, yc, key⟩, hu⟩ : ∃ u, f j = u := ⟨_, rfl⟩
      have hx := hact j hjn
      have hy2 := hk200 j hjn
      rw [hu] at hx hy2
      have y1 : wr.cell? ⟨bl, ol + j, none⟩ = some (.slice ya yl yc) := (bt.cell (p := ⟨bl, ol + j, none⟩) hbl).trans hx.1
      have hky : BytesAt wr ya yl yc key := hx.2.mono bt
      have hyl2 := hky.len_eq
      simp only [] at hy2
      clear hact hu hx
      go_upto_region 8 with fail
      go_cut [11, 12, 13, 14] from 49 to 68 (fun v11 v12 v13 v14 w' => ∃ (gx : Nat) (ka' : Option Addr) (n' kc' : Nat) (sa' : Option Addr) (sl' sc' : Nat) (s' : List Int) (rs' : List (Nat × Nat)) (p : Nat), v11 = .pointer (some ⟨gx, 0, none⟩) ∧ v12 = .int .i64 (p : Nat) ∧ v13 = .bool (!decide (key ∈ KS)) ∧ v14 = .int .i64 0 ∧ gx ≠ gt ∧ w.heap.size ≤ gx ∧ w'.heap[gt]? = some (.cells #[.int .i64 100, .slice ka m kc, .slice sa sl sc] 30 (0, 0)) ∧ w'.heap[gx]? = some (.cells #[.int .i64 100, .slice ka' n' kc', .slice sa' sl' sc'] 30 (0, 0)) ∧ TabM w' w.heap.size ka' n' kc' sa' sl' sc' (insK KS key) s' rs' ∧ Below w.heap.size w w' ∧ n' = m + (!decide (key ∈ KS)).toNat ∧ (p < (insK KS key).length ∧ (insK KS key).getD p [] = key))
      case first =>
        have bD : Below wr.heap.size wr wr.drew := (Below.refl _ _).drew
        have bAA : Below wr.heap.size wr (wr.alloc (.cells #[.int .i64 0, .slice none 0 0, .slice none 0 0] 30)).drew := ((Below.refl _ _).alloc (Nat.le_refl _) _).drew
        have ptD : wr.drew.heap[gt]? = some (.cells #[.int .i64 100, .slice ka m kc, .slice sa sl sc] 30 (0, 0)) := pt
        have gtl : gt < wr.heap.size := (Array.getElem?_eq_some_iff.1 pt).1
        have ptA := (bAA.block gt gtl).trans pt
        have MD := Mt.mono bD
        have MA := Mt.mono bAA
        have kD := hky.mono bD
        have kA := hky.mono bAA
        have hBD := Nat.le_trans bt.size bD.size
        have hBA := Nat.le_trans bt.size bAA.size
        have hnt : gt ≠ wr.heap.size := Nat.ne_of_lt gtl
        have hnb : bl ≠ wr.heap.size := Nat.ne_of_lt (Nat.lt_of_lt_of_le hbl bt.size)
        have gD0 : wr.drew.cell? ⟨gt, 0, none⟩ = some (.int .i64 100) := cell_of_row _ _ 0 _ _ _ ptD
        have gA0 : (wr.alloc (.cells #[.int .i64 0, .slice none 0 0, .slice none 0 0] 30)).drew.cell? ⟨gt, 0, none⟩ = some (.int .i64 100) := cell_of_row _ _ 0 _ _ _ ptA
        have gD1 : wr.drew.cell? ⟨gt, 1, none⟩ = some (.slice ka m kc) := cell_of_row _ _ 1 _ _ _ ptD
        have gA1 : (wr.alloc (.cells #[.int .i64 0, .slice none 0 0, .slice none 0 0] 30)).drew.cell? ⟨gt, 1, none⟩ = some (.slice ka m kc) := cell_of_row _ _ 1 _ _ _ ptA
        have gD2 : wr.drew.cell? ⟨gt, 2, none⟩ = some (.slice sa sl sc) := cell_of_row _ _ 2 _ _ _ ptD
        have gA2 : (wr.alloc (.cells #[.int .i64 0, .slice none 0 0, .slice none 0 0] 30)).drew.cell? ⟨gt, 2, none⟩ = some (.slice sa sl sc) := cell_of_row _ _ 2 _ _ _ ptA
        have yD : wr.drew.cell? ⟨bl, ol + j, none⟩ = some (.slice ya yl yc) := y1
        have yA : (wr.alloc (.cells #[.int .i64 0, .slice none 0 0, .slice none 0 0] 30)).drew.cell? ⟨bl, ol + j, none⟩ = some (.slice ya yl yc) := (bAA.cell (p := ⟨bl, ol + j, none⟩) (Nat.lt_of_lt_of_le hbl bt.size)).trans y1
        have zrowA : (wr.alloc (.cells #[.int .i64 0, .slice none 0 0, .slice none 0 0] 30)).drew.heap[wr.heap.size]? = some (.cells #[.int .i64 0, .slice none 0 0, .slice none 0 0] 30 (0, 0)) := heap_alloc_new wr _
        have hI1 := insert_le wr.drew 100 (by omega) (by omega) w.heap.size ka m kc sa sl sc KS s rs MD hBD ya yl yc key kD (by omega) hnd (by omega)
        have hI2 := insert_le (wr.alloc (.cells #[.int .i64 0, .slice none 0 0, .slice none 0 0] 30)).drew 100 (by omega) (by omega) w.heap.size ka m kc sa sl sc KS s rs MA hBA ya yl yc key kA (by omega) hnd (by omega)
        clear Mt hky pt MD MA kD kA
        go_region_held3 (fun w' => w'.cell? ⟨gt, 0, none⟩ = some (.int .i64 100) ∧ w'.cell? ⟨gt, 1, none⟩ = some (.slice ka m kc) ∧ w'.cell? ⟨gt, 2, none⟩ = some (.slice sa sl sc) ∧ w'.cell? ⟨bl, ol + j, none⟩ = some (.slice ya yl yc))
          (first | (refine ⟨?_, ?_, ?_, ?_⟩ <;> with_reducible assumption) | (refine ⟨?_, ?_, ?_, ?_⟩; with_reducible exact cellAlloc _ _ r0; with_reducible exact cellAlloc _ _ r1; with_reducible exact cellAlloc _ _ r2; with_reducible exact cellAlloc _ _ ry) | (refine ⟨?_, ?_, ?_, ?_⟩; with_reducible exact three_cellU _ _ _ _ _ _ _ hnt r0; with_reducible exact three_cellU _ _ _ _ _ _ _ hnt r1; with_reducible exact three_cellU _ _ _ _ _ _ _ hnt r2; with_reducible exact three_cellU _ _ _ _ _ _ _ hnb ry))
          (first | (go_at_call 14; refine hI1.mono ?_; rintro e ws ⟨ka', n', kc', sa', sl', sc', s', rs', p, rfl, Hx, _, bx, hn', hrec, _, _, hp, hby, hsz, hoth⟩; have HN := Lib.hid hn'; clear hn'; have rt := hrec gt _ _ _ ptD (by decide) (by decide); have r0 : ws.cell? ⟨gt, 0, none⟩ = some (.int .i64 100) := cell_of_row _ _ 0 _ _ _ rt; have r1 : ws.cell? ⟨gt, 1, none⟩ = some (.slice ka m kc) := cell_of_row _ _ 1 _ _ _ rt; have r2 : ws.cell? ⟨gt, 2, none⟩ = some (.slice sa sl sc) := cell_of_row _ _ 2 _ _ _ rt; have ry : ws.cell? ⟨bl, ol + j, none⟩ = some (.slice ya yl yc) := (bx.cell (p := ⟨bl, ol + j, none⟩) hbl).trans yD; have bw : Below w.heap.size w ws := (bt.trans (bD.mono bt.size)).trans bx; have szw : wr.heap.size ≤ ws.heap.size := hsz) | (go_at_call 14; refine hI2.mono ?_; rintro e ws ⟨ka', n', kc', sa', sl', sc', s', rs', p, rfl, Hx, _, bx, hn', hrec, _, _, hp, hby, hsz, hoth⟩; have HN := Lib.hid hn'; clear hn'; have rt := hrec gt _ _ _ ptA (by decide) (by decide); have r0 : ws.cell? ⟨gt, 0, none⟩ = some (.int .i64 100) := cell_of_row _ _ 0 _ _ _ rt; have r1 : ws.cell? ⟨gt, 1, none⟩ = some (.slice ka m kc) := cell_of_row _ _ 1 _ _ _ rt; have r2 : ws.cell? ⟨gt, 2, none⟩ = some (.slice sa sl sc) := cell_of_row _ _ 2 _ _ _ rt; have ry : ws.cell? ⟨bl, ol + j, none⟩ = some (.slice ya yl yc) := (bx.cell (p := ⟨bl, ol + j, none⟩) hbl).trans yA; have bw : Below w.heap.size w ws := (bt.trans (bAA.mono bt.size)).trans bx; have gz := hrec wr.heap.size _ _ _ zrowA (by decide) (by decide); have szw : wr.heap.size ≤ ws.heap.size := Nat.le_trans bAA.size hsz; have v0 : ws.cell? ⟨wr.heap.size, 0, none⟩ = some (.int .i64 0) := cell_of_row _ _ 0 _ _ _ gz; have g0 := frozen_of_row ws wr.heap.size 0 _ _ gz; have v1 : ws.cell? ⟨wr.heap.size, 1, none⟩ = some (.slice none 0 0) := cell_of_row _ _ 1 _ _ _ gz; have g1 := frozen_of_row ws wr.heap.size 1 _ _ gz; have v2 : ws.cell? ⟨wr.heap.size, 2, none⟩ = some (.slice none 0 0) := cell_of_row _ _ 2 _ _ _ gz; have g2 := frozen_of_row ws wr.heap.size 2 _ _ gz))
        all_goals
          go_wp2_with fail
          go_meet
          have al := (Below.refl ws.heap.size ws).alloc (Nat.le_refl _) (.cells #[.int .i64 100, .slice ka' n' kc', .slice sa' sl' sc'] 30)
          have hgw := bt.size
          first
          | exact ⟨ws.heap.size, ka', n', kc', sa', sl', sc', s', rs', p, rfl, rfl, rfl, rfl, by omega, by omega, (al.block gt (Array.getElem?_eq_some_iff.1 rt).1).trans rt, heap_alloc_new _ _, Hx.mono al, bw.trans (al.mono (by omega)), HN.out, hp⟩
          | exact ⟨wr.heap.size, ka', n', kc', sa', sl', sc', s', rs', p, rfl, rfl, rfl, rfl, hnt.symm, hgw, (three_other _ _ _ _ _ _ hnt).trans rt, three_rowU _ _ _ _ _ _ _ _ _ gz, Hx.recd gz (by decide) (by decide) (three_size _ _ _ _ _) (fun b hb => three_other _ _ _ _ _ _ hb), three_below bw hgw _ _ _, HN.out, hp⟩
      case rest =>
        clear Mt pt hky y1
        obtain ⟨gx, ka', n', kc', sa', sl', sc', s', rs', p, rfl, rfl, rfl, rfl, hne, hgx, pt2, px, M2, bt2, hn', _⟩ := hcut
        obtain ⟨F, hF⟩ : ∃ F, (!decide (key ∈ KS)) = F := ⟨_, rfl⟩
        rw [hF] at hn' ⊢
        have hFn : F.toNat ≤ 1 := by cases F <;> simp
        have hnd2 := insK_nodup (key := key) hnd
        have hkl2 : ∀ k ∈ insK KS key, k.length ≤ 1000000 := fun k hk => by
          rcases insK_mem.1 hk with hk | rfl
          · exact hkl k hk
          · omega
        obtain ⟨KS2, hKS2⟩ : ∃ KS2, insK KS key = KS2 := ⟨_, rfl⟩
        rw [hKS2] at M2 hnd2 hkl2
        have HN := Lib.hid hn'
        clear hF hKS2 hnd hkl hn'
        go_wp2_with (first | (refine wpList_load_row rfl 30 _ rfl gx rfl 30 _ _ _ px Try.underlying30 rfl (by kernel_rfl) ?_) | (refine store_rec rfl 30 (.tmp 8) (.tmp 68) rfl gt #[.int .i64 100, .slice ka' n' kc', .slice sa' sl' sc'] rfl rfl 30 _ pt2 (by kernel_rfl) rfl (by simp [Value.oneCell']) ?_; intro w6 g6 z6 o6 b6))
        have hn2 := HN.out
        exact ⟨⟨j + 1, n', ka', kc', sa', sl', sc', KS2, s', rs', by omega, by omega, hnd2, hkl2, by simp, g6, M2.recd pt2 (by decide) (by decide) z6 o6, bt2.trans (b6.mono hB)⟩, by simp [intOf]; omega⟩
    · have f3 : decide (j < n) = false := by simpa using hjn
      clear hA hk200
      have ha' : ∀ w', Below w.heap.size w w' → BytesAt w' aa la ca ka0 := fun w' h => ha.mono h
      have hb' : ∀ w', Below w.heap.size w w' → BytesAt w' ab lb cb kb0 := fun w' h => hb.mono h
      clear ha hb
      have hml : m ≤ 40 := by omega
      go_wp2_with (first | (refine wpList_load_row rfl 30 _ rfl gt rfl 30 _ _ _ pt Try.underlying30 rfl (by kernel_rfl) ?_) | fail)
      refine (keys_any wr 100 ka m kc sa sl sc KS s rs Mt.rd hkl).mono ?_
      rintro e w2 ⟨⟨gK, rfl, hK, hgK⟩, b2⟩
      have hlt := Mt.lt
      have hKa : ∀ x, ka = some x → x.block ≠ gK := fun x hx => by have := (hlt.1 x hx).1; omega
      have hKs : ∀ x, sa = some x → x.block ≠ gK := fun x hx => by have := (hlt.2 x hx).1; omega
      have hKz : gK < w2.heap.size ∨ m = 0 := by
        rcases hK.3 with h0 | ⟨b, off, hb, hlt, _⟩
        · exact .inr h0
        · cases hb
          exact .inl hlt
      replace pt := (b2.block gt (Array.getElem?_eq_some_iff.1 pt).1).trans pt
      replace Mt := Mt.mono b2
      replace bt := below_then bt b2
      clear b2 hlt hgK
      obtain ⟨A, hAd⟩ : ∃ A, decide (ka0 ∈ KS) = A := ⟨_, rfl⟩
      obtain ⟨Q, hQd⟩ : ∃ Q, decide (kb0 ∈ KS) = Q := ⟨_, rfl⟩
      have hi1 := insert_le w2 100 (by decide) (by decide) w.heap.size ka m kc sa sl sc KS s rs Mt bt.size aa la ca ka0 (ha' _ bt) (by omega) hnd (by omega)
      rw [hAd] at hi1
      go_wp2_with (first | (refine wpList_load_row rfl 30 _ rfl gt rfl 30 _ _ _ pt Try.underlying30 rfl (by kernel_rfl) ?_) | fail)
      refine hi1.mono ?_
      rintro e w3 ⟨kx, nx, kcx, sx, slx, scx, sX, rsX, px0, rfl, Mx, Mt3, bx3, hnx, hrec, _, hpl, _, hby, hsz, hoth⟩
      obtain ⟨F1, hF1⟩ : ∃ F1, (!A) = F1 := ⟨_, rfl⟩
      rw [hF1] at hnx ⊢
      have HN1 := Lib.hid hnx
      have pt3 := hrec gt _ _ _ pt (by decide) (by decide)
      have hK3 : RowsK w3 (some ⟨gK, 0, none⟩) m KS := by
        rcases hKz with hz | rfl
        · exact hK.keep (hoth gK hz hKa hKs) hsz hby
        · exact ⟨hK.1, by omega, .inl rfl⟩
      replace hKz : gK < w3.heap.size ∨ m = 0 := hKz.imp (fun h => by omega) id
      replace bt := bt.trans bx3
      have Al := (Below.refl w3.heap.size w3).alloc (Nat.le_refl _) (.cells #[.int .i64 100, .slice kx nx kcx, .slice sx slx scx] 30)
      have px : (w3.alloc (.cells #[.int .i64 100, .slice kx nx kcx, .slice sx slx scx] 30)).heap[w3.heap.size]? = some (.cells #[.int .i64 100, .slice kx nx kcx, .slice sx slx scx] 30 (0, 0)) := heap_alloc_new _ _
      replace pt3 := (Al.block gt (Array.getElem?_eq_some_iff.1 pt3).1).trans pt3
      replace Mx := Mx.mono Al
      replace Mt3 := Mt3.mono Al
      replace hK3 := hK3.mono Al
      replace hKz : gK < (w3.alloc (.cells #[.int .i64 100, .slice kx nx kcx, .slice sx slx scx] 30)).heap.size ∨ m = 0 := hKz.imp (fun h => Nat.lt_of_lt_of_le h Al.size) id
      replace bt := below_then bt Al
      clear hnx pt Mt hK hrec hby hsz hoth bx3 hi1
      go_upto_region 14 with (first | (refine wpList_load_row rfl 30 _ rfl gt rfl 30 _ _ _ pt3 Try.underlying30 rfl (by kernel_rfl) ?_) | fail)
      obtain ⟨v3, hv⟩ : ∃ v, w3.alloc (.cells #[.int .i64 100, .slice kx nx kcx, .slice sx slx scx] 30) = v := ⟨_, rfl⟩
      obtain ⟨gX, hg⟩ : ∃ g, w3.heap.size = g := ⟨_, rfl⟩
      rw [hv] at px pt3 Mx Mt3 hK3 hKz bt ⊢
      rw [hg] at px ⊢
      clear hv hg Al
      have hi2 := insert_le v3 100 (by decide) (by decide) w.heap.size ka m kc sa sl sc KS s rs Mt3 bt.size ab lb cb kb0 (hb' _ bt) (by omega) hnd (by omega)
      rw [hQd] at hi2
      go_wp2_with (first | (refine wpList_load_row rfl 30 _ rfl gt rfl 30 _ _ _ pt3 Try.underlying30 rfl (by kernel_rfl) ?_) | fail)
      refine hi2.mono ?_
      rintro e w4 ⟨ky, ny, kcy, sy, sly, scy, sY, rsY, py0, rfl, My, Mt4, bx4, hny, hrec, hbes, _, _, hby, hsz, hoth⟩
      obtain ⟨F2, hF2⟩ : ∃ F2, (!Q) = F2 := ⟨_, rfl⟩
      rw [hF2] at hny ⊢
      have HN2 := Lib.hid hny
      have Mx4 : TabM w4 w.heap.size kx nx kcx sx slx scx (insK KS ka0) sX rsX := by
        rcases hpl with ⟨e1, e2, e3, e4, e5, e6, e7, e8, e9⟩ | hbs
        · rw [show insK KS ka0 = KS from by unfold insK; rw [if_pos e9], e1, e2, e3, e4, e5, e6, e7, e8]
          exact Mt4
        · exact hbes _ _ _ _ _ _ _ _ _ Mx hbs
      have pt4 := hrec gt _ _ _ pt3 (by decide) (by decide)
      have px4 := hrec gX _ _ _ px (by decide) (by decide)
      have hK4 : RowsK w4 (some ⟨gK, 0, none⟩) m KS := by
        rcases hKz with hz | rfl
        · exact hK3.keep (hoth gK hz hKa hKs) hsz hby
        · exact ⟨hK3.1, by omega, .inl rfl⟩
      replace bt := bt.trans bx4
      have Al := (Below.refl w4.heap.size w4).alloc (Nat.le_refl _) (.cells #[.int .i64 100, .slice ky ny kcy, .slice sy sly scy] 30)
      have py : (w4.alloc (.cells #[.int .i64 100, .slice ky ny kcy, .slice sy sly scy] 30)).heap[w4.heap.size]? = some (.cells #[.int .i64 100, .slice ky ny kcy, .slice sy sly scy] 30 (0, 0)) := heap_alloc_new _ _
      replace pt4 := (Al.block gt (Array.getElem?_eq_some_iff.1 pt4).1).trans pt4
      replace px4 := (Al.block gX (Array.getElem?_eq_some_iff.1 px4).1).trans px4
      replace Mx4 := Mx4.mono Al
      replace Mt4 := Mt4.mono Al
      replace My := My.mono Al
      replace hK4 := hK4.mono Al
      replace bt := below_then bt Al
      clear hny pt3 Mt3 hK3 hrec hby hsz hoth bx4 hi2 px Mx hbes hpl hKz hKa hKs
      go_upto_region 15 with (first | (refine wpList_load_row rfl 30 _ rfl gt rfl 30 _ _ _ pt4 Try.underlying30 rfl (by kernel_rfl) ?_) | fail)
      obtain ⟨v4, hv⟩ : ∃ v, w4.alloc (.cells #[.int .i64 100, .slice ky ny kcy, .slice sy sly scy] 30) = v := ⟨_, rfl⟩
      obtain ⟨gY, hg⟩ : ∃ g, w4.heap.size = g := ⟨_, rfl⟩
      rw [hv] at py px4 pt4 Mx4 Mt4 My hK4 bt ⊢
      rw [hg] at py ⊢
      clear hv hg Al
      go_wp2_with (first | (refine wpList_load_row rfl 30 _ rfl gt rfl 30 _ _ _ pt4 Try.underlying30 rfl (by kernel_rfl) ?_) | (refine wpList_load_row rfl 30 _ rfl gX rfl 30 _ _ _ px4 Try.underlying30 rfl (by kernel_rfl) ?_) | (refine wpList_load_row rfl 30 _ rfl gY rfl 30 _ _ _ py Try.underlying30 rfl (by kernel_rfl) ?_) | fail)
      have hf1 := find_le v4 100 ka m kc sa sl sc KS s rs Mt4.rd aa la ca ka0 (ha' _ bt)
      rw [hAd] at hf1
      refine hf1.mono ?_
      rintro e w5 ⟨⟨p1, rfl, _, _⟩, b⟩
      replace pt4 := (b.block gt (Array.getElem?_eq_some_iff.1 pt4).1).trans pt4
      replace px4 := (b.block gX (Array.getElem?_eq_some_iff.1 px4).1).trans px4
      replace py := (b.block gY (Array.getElem?_eq_some_iff.1 py).1).trans py
      replace Mx4 := Mx4.mono b
      replace Mt4 := Mt4.mono b
      replace My := My.mono b
      replace hK4 := hK4.mono b
      replace bt := below_then bt b
      clear hf1 b
      go_wp2_with (first | (refine wpList_load_row rfl 30 _ rfl gt rfl 30 _ _ _ pt4 Try.underlying30 rfl (by kernel_rfl) ?_) | (refine wpList_load_row rfl 30 _ rfl gX rfl 30 _ _ _ px4 Try.underlying30 rfl (by kernel_rfl) ?_) | (refine wpList_load_row rfl 30 _ rfl gY rfl 30 _ _ _ py Try.underlying30 rfl (by kernel_rfl) ?_) | fail)
      have hf1 := find_le w5 100 ky ny kcy sy sly scy (insK KS kb0) sY rsY My.rd aa la ca ka0 (ha' _ bt)
      obtain ⟨D, hD⟩ : ∃ D, decide (ka0 ∈ insK KS kb0) = D := ⟨_, rfl⟩
      rw [hD] at hf1
      refine hf1.mono ?_
      rintro e w6 ⟨⟨p2, rfl, _, _⟩, b⟩
      replace pt4 := (b.block gt (Array.getElem?_eq_some_iff.1 pt4).1).trans pt4
      replace px4 := (b.block gX (Array.getElem?_eq_some_iff.1 px4).1).trans px4
      replace py := (b.block gY (Array.getElem?_eq_some_iff.1 py).1).trans py
      replace Mx4 := Mx4.mono b
      replace Mt4 := Mt4.mono b
      replace My := My.mono b
      replace hK4 := hK4.mono b
      replace bt := below_then bt b
      clear hf1 b
      go_wp2_with (first | (refine wpList_load_row rfl 30 _ rfl gt rfl 30 _ _ _ pt4 Try.underlying30 rfl (by kernel_rfl) ?_) | (refine wpList_load_row rfl 30 _ rfl gX rfl 30 _ _ _ px4 Try.underlying30 rfl (by kernel_rfl) ?_) | (refine wpList_load_row rfl 30 _ rfl gY rfl 30 _ _ _ py Try.underlying30 rfl (by kernel_rfl) ?_) | fail)
      have hf1 := find_le w6 100 kx nx kcx sx slx scx (insK KS ka0) sX rsX Mx4.rd aa la ca ka0 (ha' _ bt)
      rw [decide_eq_true (insK_mem.2 (.inr rfl))] at hf1
      refine hf1.mono ?_
      rintro e w7 ⟨⟨p3, rfl, _, _⟩, b⟩
      replace pt4 := (b.block gt (Array.getElem?_eq_some_iff.1 pt4).1).trans pt4
      replace px4 := (b.block gX (Array.getElem?_eq_some_iff.1 px4).1).trans px4
      replace py := (b.block gY (Array.getElem?_eq_some_iff.1 py).1).trans py
      replace Mx4 := Mx4.mono b
      replace Mt4 := Mt4.mono b
      replace My := My.mono b
      replace hK4 := hK4.mono b
      replace bt := below_then bt b
      clear hf1 b
      have hDA : D = (A || decide (ka0 = kb0)) := by
        rw [← hD, ← hAd]
        by_cases h1 : ka0 ∈ KS
        · rw [decide_eq_true (insK_mem.2 (.inl h1)), decide_eq_true h1]
          rfl
        · rw [decide_eq_false h1, Bool.false_or]
          exact decide_eq_decide.2 (by rw [insK_mem]; exact ⟨fun h => h.resolve_left h1, .inr⟩)
      have HDA := Lib.hid hDA
      clear hDA
      have gT0 := pt4
      have qt0 := cell_of_row _ gt 0 _ _ _ gT0
      have qt1 := cell_of_row _ gt 1 _ _ _ gT0
      have qt2 := cell_of_row _ gt 2 _ _ _ gT0
      simp only [List.getElem?_toArray, List.getElem?_cons_zero, List.getElem?_cons_succ] at qt0 qt1 qt2
      go_wp2_with fail
      refine (keys_any w7 100 ka m kc sa sl sc KS s rs Mt4.rd hkl).mono ?_
      rintro e w8 ⟨⟨gK2, rfl, hK2, _⟩, b⟩
      replace pt4 := (b.block gt (Array.getElem?_eq_some_iff.1 pt4).1).trans pt4
      replace px4 := (b.block gX (Array.getElem?_eq_some_iff.1 px4).1).trans px4
      replace py := (b.block gY (Array.getElem?_eq_some_iff.1 py).1).trans py
      replace Mx4 := Mx4.mono b
      replace Mt4 := Mt4.mono b
      replace My := My.mono b
      replace hK4 := hK4.mono b
      replace bt := below_then bt b
      clear b
      go_wp2_with fail
      have hr := rows_any w8 _ _ m m m m KS KS hK2 hK4
      rw [decide_eq_true rfl] at hr
      refine hr.mono ?_
      rintro e w9 ⟨rfl, b⟩
      replace pt4 := (b.block gt (Array.getElem?_eq_some_iff.1 pt4).1).trans pt4
      replace px4 := (b.block gX (Array.getElem?_eq_some_iff.1 px4).1).trans px4
      replace py := (b.block gY (Array.getElem?_eq_some_iff.1 py).1).trans py
      replace Mx4 := Mx4.mono b
      replace Mt4 := Mt4.mono b
      replace My := My.mono b
      replace hK4 := hK4.mono b
      replace bt := below_then bt b
      clear b hr hK2 hK4 qt0 qt1 qt2 gT0
      have va := (ha' _ bt).conv 23 5 9 Try.underlying23 Try.underlying5 Try.underlying9
      have vb := (hb' _ bt).conv 23 5 9 Try.underlying23 Try.underlying5 Try.underlying9
      have hss := str_same (ha' _ bt).byte (hb' _ bt).byte
      obtain ⟨S1, hS1⟩ : ∃ S, strOfNums (ka0.map fun (n : Nat) => (n : Int)) = S := ⟨_, rfl⟩
      obtain ⟨S2, hS2⟩ : ∃ S, strOfNums (kb0.map fun (n : Nat) => (n : Int)) = S := ⟨_, rfl⟩
      obtain ⟨E, hE⟩ : ∃ E, decide (ka0 = kb0) = E := ⟨_, rfl⟩
      rw [hS1] at va hss
      rw [hS2] at vb hss
      have hDA := HDA.out
      rw [hE] at hss hDA
      clear HDA
      obtain ⟨z1, hz1⟩ : ∃ z, F1.toNat = z := ⟨_, rfl⟩
      obtain ⟨z2, hz2⟩ : ∃ z, F2.toNat = z := ⟨_, rfl⟩
      have hFl1 := fun w => flag_any w F1
      have hFl2 := fun w => flag_any w F2
      rw [hz1] at hFl1
      rw [hz2] at hFl2
      have hzz1 : z1 ≤ 1 := by rw [← hz1]; cases F1 <;> simp
      have hzz2 : z2 ≤ 1 := by rw [← hz2]; cases F2 <;> simp
      have en1 : (((nx : Nat) : Int) == ((m : Nat) : Int) + ((z1 : Nat) : Int)) = true := by
        have := HN1.out
        rw [hz1] at this
        simp
        omega
      have en2 : (((ny : Nat) : Int) == ((m : Nat) : Int) + ((z2 : Nat) : Int)) = true := by
        have := HN2.out
        rw [hz2] at this
        simp
        omega
      have en0 : (A == !F1) = true := by rw [← hF1]; cases A <;> rfl
      have hnx2 : nx ≤ 1048576 := Mx4.rd.small
      have hny2 : ny ≤ 1048576 := My.rd.small
      have qx0 := cell_of_row _ gX 0 _ _ _ px4
      have qx1 := cell_of_row _ gX 1 _ _ _ px4
      have qx2 := cell_of_row _ gX 2 _ _ _ px4
      simp only [List.getElem?_toArray, List.getElem?_cons_zero, List.getElem?_cons_succ] at qx0 qx1 qx2
      clear hz1 hz2 hS1 hS2 hE hD hAd hQd hF1 hF2
      cases A with
      | true =>
        obtain rfl : D = true := hDA
        go_wp2_with fail
        refine (many_any _ 100 kx nx kcx _ hnx2).mono ?_
        rintro e wA ⟨rfl, b⟩
        replace py := (b.block gY (Array.getElem?_eq_some_iff.1 py).1).trans py
        replace bt := below_then bt b
        clear qx0 qx1 qx2 va vb b
        have qy0 := cell_of_row _ gY 0 _ _ _ py
        have qy1 := cell_of_row _ gY 1 _ _ _ py
        have qy2 := cell_of_row _ gY 2 _ _ _ py
        simp only [List.getElem?_toArray, List.getElem?_cons_zero, List.getElem?_cons_succ] at qy0 qy1 qy2
        go_wp2_with fail
        refine (hFl1 _).mono ?_
        rintro e _ ⟨rfl, rfl⟩
        go_wp2_with fail
        refine (many_any _ 100 ky ny kcy _ hny2).mono ?_
        rintro e wB ⟨rfl, b⟩
        go_wp2_with fail
        refine (hFl2 _).mono ?_
        rintro e _ ⟨rfl, rfl⟩
        go_wp2_with fail
        go_ret
        exact ⟨rfl, below_then bt b⟩
      | false =>
        obtain rfl : D = E := hDA
        go_wp2_with fail
        refine (many_any _ 100 kx nx kcx _ hnx2).mono ?_
        rintro e wA ⟨rfl, b⟩
        replace py := (b.block gY (Array.getElem?_eq_some_iff.1 py).1).trans py
        replace bt := below_then bt b
        clear qx0 qx1 qx2 va vb b
        have qy0 := cell_of_row _ gY 0 _ _ _ py
        have qy1 := cell_of_row _ gY 1 _ _ _ py
        have qy2 := cell_of_row _ gY 2 _ _ _ py
        simp only [List.getElem?_toArray, List.getElem?_cons_zero, List.getElem?_cons_succ] at qy0 qy1 qy2
        go_wp2_with fail
        refine (hFl1 _).mono ?_
        rintro e _ ⟨rfl, rfl⟩
        go_wp2_with fail
        refine (many_any _ 100 ky ny kcy _ hny2).mono ?_
        rintro e wB ⟨rfl, b⟩
        go_wp2_with fail
        refine (hFl2 _).mono ?_
        rintro e _ ⟨rfl, rfl⟩
        go_wp2_with fail
        go_ret
        exact ⟨rfl, below_then bt b⟩
end Go.Proofs.Ytkklciecdhbleaa
