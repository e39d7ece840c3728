/- FlatFull returns true (by gen06f.py). -/
import Derived.Test.YtgfiampcjgdojaaFlatM
namespace Go.Proofs.Ytgfiampcjgdojaa
open Go.RowKit Go.Maps
set_option linter.unusedVariables false
set_option linter.unusedSimpArgs false

theorem flagL_any (w : World) (b : Bool) : Calls Try.prog 20 #[.bool b] w fun e w' => e = .returned (.int .i64 (b.toNat : Nat)) ∧ Below w.heap.size w w' := by
  have b0 := Below.refl w.heap.size w
  cases b with
  | true =>
    go_enter Try.func20, Try.ntmps20
    go_wp2_with fail
    go_ret
    exact ⟨rfl, b0⟩
  | false =>
    go_enter Try.func20, Try.ntmps20
    go_wp2_with fail
    go_ret
    exact ⟨rfl, b0⟩
theorem InMap.same {w w' : World} {b n : Nat} {ks : List (List Nat)} (h : InMap w b n ks) (hb : w'.heap[b]? = w.heap[b]?) : InMap w' b n ks := by
  obtain ⟨es, cl, hm⟩ := h.map
  exact h.block hm (hb.trans hm)
def Z201 : Array Value := Array.replicate 201 (.int .u8 0)
set_option maxRecDepth 20000 in
theorem make201 (w : World) : (Instr.makeSlice 29 (.int .i64 201) (.int .i64 201)).run Try.prog w = .ok (.slice (some ⟨w.heap.size, 0, none⟩) 201 201) (w.alloc (.cells Z201 5)) := by
  unfold Z201
  kernel_rfl
theorem bytes201 {w : World} {b : Nat} (h : w.heap[b]? = some (.cells Z201 5 (0, 0))) : BytesAt w (some ⟨b, 0, none⟩) 201 201 (List.replicate 201 0) := by
  refine ⟨List.length_replicate, by decide, fun n hn => by rw [List.eq_of_mem_replicate hn]; omega, fun h => by simp at h, .inr ⟨b, 0, rfl, (Array.getElem?_eq_some_iff.1 h).1, fun i hi => ?_⟩⟩
  rw [Nat.zero_add, cell_of_row _ _ _ _ _ _ h]
  unfold Z201
  have h1 : (List.replicate 201 0).getD i 0 = 0 := by rw [List.getD_eq_getElem?_getD, List.getElem?_replicate, if_pos hi]; rfl
  rw [h1, Array.getElem?_replicate, if_pos hi]
  rfl
  
set_option maxRecDepth 100000 in
set_option maxHeartbeats 8000000 in
theorem flatfull_any (w : World) (c : Nat) (hc : c < 256) (al : Option Addr) (n cl : Nat) (fA : Nat → ActD) (hA : ActsAt w al n fA) :
    Calls Try.prog 5 #[.int .u8 (c : Nat), .slice al n cl] w fun e w' => e = .returned (.bool true) ∧ Below w.heap.size w w' := by
  have nb := hA.small
  have hmm := @run_makeMap Try.prog
  obtain ⟨N, hN⟩ : ∃ N, c % 21 = N := ⟨_, rfl⟩
  have hN20 : N ≤ 20 := by omega
  have hrem : ((c : Nat) : Int).tmod 21 = (N : Nat) := by
    rw [Int.tmod_eq_emod_of_nonneg (by omega)]
    omega
  have hrem2 : ((c : Nat) : Int) % 21 = (N : Nat) := by omega
  clear hN
  go_enter Try.func5, Try.ntmps5
  go_wp2_with fail
  refine (shown_any _).mono ?_
  rintro e w0 ⟨rfl, bt⟩
  go_wp2_with fail
  refine (few_any _ al n cl fA 40 (hA.mono bt)).mono ?_
  rintro e w00 ⟨⟨fb, rfl, hfew⟩, rfl⟩
  cases fb with
  | false =>
    go_wp2_with fail
    go_ret
    exact ⟨rfl, bt⟩
  | true =>
  obtain ⟨hn40, hkl⟩ := hfew rfl
  have HKL := Lib.hid hkl
  clear hfew hkl
  go_wp2_with fail
  refine (newF_ok _ (N : Nat) (by omega)).mono ?_
  rintro e w1 ⟨rfl, b1⟩
  replace bt := below_then bt b1
  clear b1
  have hB := bt.size
  have A := (Below.refl w1.heap.size w1).alloc (Nat.le_refl _) (.cells #[.int .i64 (N : Nat), .slice none 0 0, .slice none 0 0, .slice none 0 0] 31)
  have pt : (w1.alloc (.cells #[.int .i64 (N : Nat), .slice none 0 0, .slice none 0 0, .slice none 0 0] 31)).heap[w1.heap.size]? = some (.cells #[.int .i64 (N : Nat), .slice none 0 0, .slice none 0 0, .slice none 0 0] 31 (0, 0)) := heap_alloc_new _ _
  replace bt := below_then bt A
  go_upto_region 6 with (first | fail)
  obtain ⟨v1, hv⟩ : ∃ v, w1.alloc (.cells #[.int .i64 (N : Nat), .slice none 0 0, .slice none 0 0, .slice none 0 0] 31) = v := ⟨_, rfl⟩
  obtain ⟨gt, hg⟩ : ∃ g, w1.heap.size = g := ⟨_, rfl⟩
  rw [hv] at pt bt ⊢
  rw [hg] at pt ⊢
  have hB2 := hB
  rw [hg] at hB2
  clear hv hg A hrem hrem2 hB
  have hne : gt ≠ v1.heap.size := Nat.ne_of_lt (Array.getElem?_eq_some_iff.1 pt).1
  have A := (Below.refl v1.heap.size v1).alloc (Nat.le_refl _) (.map #[] 0)
  have hM := InMap.made v1
  have hBm := bt.size
  replace pt := (A.block gt (Array.getElem?_eq_some_iff.1 pt).1).trans pt
  replace bt := below_then bt A
  have Mt := TabM.empty (v1.alloc (.map #[] 0)) w.heap.size
  go_upto_region 7 with fail
  obtain ⟨v2, hv⟩ : ∃ v, v1.alloc (.map #[] 0) = v := ⟨_, rfl⟩
  obtain ⟨gm, hg⟩ : ∃ g, v1.heap.size = g := ⟨_, rfl⟩
  rw [hv] at pt bt Mt hM ⊢
  rw [hg] at hne hM hBm ⊢
  clear hv hg A
  go_wp2_with fail
  go_loopw [10] (fun i w' => ∃ (j m : Nat) (ka : Option Addr) (kc : Nat) (sa : Option Addr) (sl sc : Nat) (KS : List (List Nat)) (s : List Int) (rs : List (Nat × Nat)), j ≤ n ∧ i = .int .i64 (j : Nat) ∧ KS.Nodup ∧ KS.length ≤ j ∧ (∀ k ∈ KS, k.length ≤ 200) ∧ w'.heap[gt]? = some (.cells #[.int .i64 (N : Nat), .slice ka m kc, .slice sa sl sc, .slice none 0 0] 31 (0, 0)) ∧ TabM w' w.heap.size ka m kc sa sl sc KS s rs ∧ InMap w' gm j KS ∧ Below w.heap.size w w') (fun i _ => n - (intOf i).toNat)
  case atStart => exact ⟨0, 0, none, 0, none, 0, 0, [], [], [], Nat.zero_le _, rfl, List.nodup_nil, Nat.le_refl _, (fun k hk => by cases hk), pt, Mt, hM, bt⟩
  case round =>
    clear pt Mt hM bt
    obtain ⟨j, m, ka, kc, sa, sl, sc, KS, s, rs, hj, rfl, hnd, hkj, hk2, pt, Mt, hM, bt⟩ := hrel
    have HK2 := Lib.hid hk2
    clear hk2
    by_cases hjn : j < n
    · have f3 : decide (j < n) = true := by simpa using hjn
      obtain ⟨bl, ol, rfl, hbl, hact⟩ := hA.at_.resolve_left (by omega)
      have hx := hact j hjn
      have hxl := HKL.out j hjn
      obtain ⟨⟨xk0, xa, xl, xc, xk, xf⟩, hu⟩ : ∃ u, fA j = u := ⟨_, rfl⟩
      rw [hu] at hx hxl
      simp only [] at hxl
      have hblr : bl < wr.heap.size := Nat.lt_of_lt_of_le hbl bt.size
      have hkx : BytesAt wr xa xl xc xk := hx.key.mono bt
      have hyl2 := hkx.len_eq
      have hby := hkx.byte
      have HX := Lib.hid hx
      have y0 : wr.cell? ⟨bl, ol + j * 3 + 1, none⟩ = some (.slice xa xl xc) := (bt.cell (p := ⟨bl, ol + j * 3 + 1, none⟩) hbl).trans hx.c1
      have hlook := hM.look xk hby (by omega)
      have hKO := keyOf_k (k := xk) (by omega)
      have hcv := hkx.conv 29 5 9 Try.underlying29 Try.underlying5 Try.underlying9
      obtain ⟨S, hS⟩ : ∃ S, strOfNums (xk.map fun (n : Nat) => (n : Int)) = S := ⟨_, rfl⟩
      rw [hS] at hlook hKO hcv
      have HS := Lib.hid hS
      obtain ⟨W, hW⟩ : ∃ W, decide (xk ∈ KS) = W := ⟨_, rfl⟩
      rw [hW] at hlook
      obtain ⟨es, cl2, mp⟩ := hM.map
      have hml := Mt.rd.len
      have HW := Lib.hid hW
      have HML := Lib.hid hml
      clear hact hu hx hS hW hml hlook
      go_upto_region 11 with fail
      go_cut [12, 13, 14] from 32 to 111 (fun v12 v13 v14 w' => ∃ (gx : Nat) (ka' : Option Addr) (n' kc' : Nat) (sa' : Option Addr) (sl' sc' : Nat) (KS' : List (List Nat)) (s' : List Int) (rs' : List (Nat × Nat)) (p : Nat) (F : Bool) (E : Int), v12 = .pointer (some ⟨gx, 0, none⟩) ∧ v13 = .bool F ∧ v14 = .int .i64 E ∧ wr.heap.size ≤ gx ∧ w'.heap[gx]? = some (.cells #[.int .i64 (N : Nat), .slice ka' n' kc', .slice sa' sl' sc', .slice none 0 0] 31 (0, 0)) ∧ TabM w' w.heap.size ka' n' kc' sa' sl' sc' KS' s' rs' ∧ TabM w' w.heap.size ka m kc sa sl sc KS s rs ∧ Below w.heap.size w w' ∧ KeptT wr w' w.heap.size ka m sa ka' n' sa' ∧ OutP (N : Nat) KS xk p F E KS' ∧ StayT wr w' F (ka' = ka ∧ n' = m ∧ kc' = kc ∧ sa' = sa ∧ sl' = sl ∧ sc' = sc))
      case first =>
        have bD : Below wr.heap.size wr wr.drew := (Below.refl _ _).drew
        have bAA : Below wr.heap.size wr (wr.alloc (.cells #[.int .i64 0, .slice none 0 0, .slice none 0 0, .slice none 0 0] 31)).drew := ((Below.refl _ _).alloc (Nat.le_refl _) _).drew
        have ptD : wr.drew.heap[gt]? = some (.cells #[.int .i64 (N : Nat), .slice ka m kc, .slice sa sl sc, .slice none 0 0] 31 (0, 0)) := pt
        have gtl : gt < wr.heap.size := (Array.getElem?_eq_some_iff.1 pt).1
        have ptA := (bAA.block gt gtl).trans pt
        have MD := Mt.mono bD
        have MA := Mt.mono bAA
        have hBD := Nat.le_trans bt.size bD.size
        have hBA := Nat.le_trans bt.size bAA.size
        have hnt : gt ≠ wr.heap.size := Nat.ne_of_lt gtl
        have hnb : bl ≠ wr.heap.size := Nat.ne_of_lt hblr
        have gD0 : wr.drew.cell? ⟨gt, 0, none⟩ = some (.int .i64 (N : Nat)) := cell_of_row _ _ 0 _ _ _ ptD
        have gA0 : (wr.alloc (.cells #[.int .i64 0, .slice none 0 0, .slice none 0 0, .slice none 0 0] 31)).drew.cell? ⟨gt, 0, none⟩ = some (.int .i64 (N : Nat)) := cell_of_row _ _ 0 _ _ _ ptA
        have gD1 : wr.drew.cell? ⟨gt, 1, none⟩ = some (.slice ka m kc) := cell_of_row _ _ 1 _ _ _ ptD
        have gA1 : (wr.alloc (.cells #[.int .i64 0, .slice none 0 0, .slice none 0 0, .slice none 0 0] 31)).drew.cell? ⟨gt, 1, none⟩ = some (.slice ka m kc) := cell_of_row _ _ 1 _ _ _ ptA
        have gD2 : wr.drew.cell? ⟨gt, 2, none⟩ = some (.slice sa sl sc) := cell_of_row _ _ 2 _ _ _ ptD
        have gA2 : (wr.alloc (.cells #[.int .i64 0, .slice none 0 0, .slice none 0 0, .slice none 0 0] 31)).drew.cell? ⟨gt, 2, none⟩ = some (.slice sa sl sc) := cell_of_row _ _ 2 _ _ _ ptA
        have gD3 : wr.drew.cell? ⟨gt, 3, none⟩ = some (.slice none 0 0) := cell_of_row _ _ 3 _ _ _ ptD
        have gA3 : (wr.alloc (.cells #[.int .i64 0, .slice none 0 0, .slice none 0 0, .slice none 0 0] 31)).drew.cell? ⟨gt, 3, none⟩ = some (.slice none 0 0) := cell_of_row _ _ 3 _ _ _ ptA
        have yD0 : wr.drew.cell? ⟨bl, ol + j * 3 + 1, none⟩ = some (.slice xa xl xc) := y0
        have yA0 : (wr.alloc (.cells #[.int .i64 0, .slice none 0 0, .slice none 0 0, .slice none 0 0] 31)).drew.cell? ⟨bl, ol + j * 3 + 1, none⟩ = some (.slice xa xl xc) := (bAA.cell (p := ⟨bl, ol + j * 3 + 1, none⟩) hblr).trans y0
        have zrowA : (wr.alloc (.cells #[.int .i64 0, .slice none 0 0, .slice none 0 0, .slice none 0 0] 31)).drew.heap[wr.heap.size]? = some (.cells #[.int .i64 0, .slice none 0 0, .slice none 0 0, .slice none 0 0] 31 (0, 0)) := heap_alloc_new wr _
        have hI1 := insertF_all wr.drew (N : Nat) (by omega) (by omega) w.heap.size ka m kc sa sl sc none 0 0 KS s rs MD hBD xa xl xc xk (hkx.mono bD) (by omega) hnd
        have hI2 := insertF_all (wr.alloc (.cells #[.int .i64 0, .slice none 0 0, .slice none 0 0, .slice none 0 0] 31)).drew (N : Nat) (by omega) (by omega) w.heap.size ka m kc sa sl sc none 0 0 KS s rs MA hBA xa xl xc xk (hkx.mono bAA) (by omega) hnd
        clear MD MA pt Mt
        go_region_held3 (fun w' => w'.cell? ⟨gt, 0, none⟩ = some (.int .i64 (N : Nat)) ∧ w'.cell? ⟨gt, 1, none⟩ = some (.slice ka m kc) ∧ w'.cell? ⟨gt, 2, none⟩ = some (.slice sa sl sc) ∧ w'.cell? ⟨gt, 3, none⟩ = some (.slice none 0 0) ∧ w'.cell? ⟨bl, ol + j * 3 + 1, none⟩ = some (.slice xa xl xc))
          (first | (refine ⟨?_, ?_, ?_, ?_, ?_⟩ <;> with_reducible assumption) | (refine ⟨?_, ?_, ?_, ?_, ?_⟩; with_reducible exact cellAlloc _ _ r0; with_reducible exact cellAlloc _ _ r1; with_reducible exact cellAlloc _ _ r2; with_reducible exact cellAlloc _ _ r3; with_reducible exact cellAlloc _ _ ry0) | (refine ⟨?_, ?_, ?_, ?_, ?_⟩; with_reducible exact four_cellU _ _ _ _ _ _ _ _ hnt r0; with_reducible exact four_cellU _ _ _ _ _ _ _ _ hnt r1; with_reducible exact four_cellU _ _ _ _ _ _ _ _ hnt r2; with_reducible exact four_cellU _ _ _ _ _ _ _ _ hnt r3; with_reducible exact four_cellU _ _ _ _ _ _ _ _ hnb ry0))
          (first | (go_at_call 12; (with_reducible refine hI1.mono ?_); rintro e ws ⟨ka', n', kc', sa', sl', sc', KS', s', rs', p, F, E, rfl, Hx, Ho, bx, HT, hout, hst⟩; have HO := Lib.hid hout; clear hout; have rt := HT.recd gt _ _ _ ptD (by decide) (by decide); have r0 : ws.cell? ⟨gt, 0, none⟩ = some (.int .i64 (N : Nat)) := cell_of_row _ _ 0 _ _ _ rt; have r1 : ws.cell? ⟨gt, 1, none⟩ = some (.slice ka m kc) := cell_of_row _ _ 1 _ _ _ rt; have r2 : ws.cell? ⟨gt, 2, none⟩ = some (.slice sa sl sc) := cell_of_row _ _ 2 _ _ _ rt; have r3 : ws.cell? ⟨gt, 3, none⟩ = some (.slice none 0 0) := cell_of_row _ _ 3 _ _ _ rt; have ry0 : ws.cell? ⟨bl, ol + j * 3 + 1, none⟩ = some (.slice xa xl xc) := (bx.cell (p := ⟨bl, ol + j * 3 + 1, none⟩) (by first | assumption | omega)).trans yD0; have HTW := HT.pre bD; have HST := hst.pre bD; clear hst; have bw : Below w.heap.size w ws := (bt.trans (bD.mono bt.size)).trans bx) | (go_at_call 12; (with_reducible refine hI2.mono ?_); rintro e ws ⟨ka', n', kc', sa', sl', sc', KS', s', rs', p, F, E, rfl, Hx, Ho, bx, HT, hout, hst⟩; have HO := Lib.hid hout; clear hout; have rt := HT.recd gt _ _ _ ptA (by decide) (by decide); have r0 : ws.cell? ⟨gt, 0, none⟩ = some (.int .i64 (N : Nat)) := cell_of_row _ _ 0 _ _ _ rt; have r1 : ws.cell? ⟨gt, 1, none⟩ = some (.slice ka m kc) := cell_of_row _ _ 1 _ _ _ rt; have r2 : ws.cell? ⟨gt, 2, none⟩ = some (.slice sa sl sc) := cell_of_row _ _ 2 _ _ _ rt; have r3 : ws.cell? ⟨gt, 3, none⟩ = some (.slice none 0 0) := cell_of_row _ _ 3 _ _ _ rt; have ry0 : ws.cell? ⟨bl, ol + j * 3 + 1, none⟩ = some (.slice xa xl xc) := (bx.cell (p := ⟨bl, ol + j * 3 + 1, none⟩) (by first | assumption | omega)).trans yA0; have HTW := HT.pre bAA; have HST := hst.pre bAA; clear hst; have bw : Below w.heap.size w ws := (bt.trans (bAA.mono bt.size)).trans bx; have gz := HT.recd wr.heap.size _ _ _ zrowA (by decide) (by decide); have v0 : ws.cell? ⟨wr.heap.size, 0, none⟩ = some (.int .i64 0) := cell_of_row _ _ 0 _ _ _ gz; have g0 := frozen_of_row ws wr.heap.size 0 _ _ gz; have v1 : ws.cell? ⟨wr.heap.size, 1, none⟩ = some (.slice none 0 0) := cell_of_row _ _ 1 _ _ _ gz; have g1 := frozen_of_row ws wr.heap.size 1 _ _ gz; have v2 : ws.cell? ⟨wr.heap.size, 2, none⟩ = some (.slice none 0 0) := cell_of_row _ _ 2 _ _ _ gz; have g2 := frozen_of_row ws wr.heap.size 2 _ _ gz; have v3 : ws.cell? ⟨wr.heap.size, 3, none⟩ = some (.slice none 0 0) := cell_of_row _ _ 3 _ _ _ gz; have g3 := frozen_of_row ws wr.heap.size 3 _ _ gz))
        all_goals
          go_wp2_with fail
          go_meet
          have al := (Below.refl ws.heap.size ws).alloc (Nat.le_refl _) (.cells #[.int .i64 (N : Nat), .slice ka' n' kc', .slice sa' sl' sc', .slice none 0 0] 31)
          have hgw := bt.size
          first
          | exact ⟨ws.heap.size, ka', n', kc', sa', sl', sc', KS', s', rs', p, F, E, rfl, rfl, rfl, HTW.size, heap_alloc_new _ _, Hx.mono al, Ho.mono al, bw.trans (al.mono (Nat.le_trans hgw HTW.size)), HTW.next_below al, HO.out, HST.next_below al⟩
          | exact ⟨wr.heap.size, ka', n', kc', sa', sl', sc', KS', s', rs', p, F, E, rfl, rfl, rfl, Nat.le_refl _, four_rowU _ _ _ _ _ _ _ _ _ _ _ gz, Hx.offrec gz (noU8_rec gz fun v hv m => by simp at hv; rcases hv with rfl | rfl | rfl | rfl <;> simp) (by decide) (by decide) (four_size _ _ _ _ _ _) (fun b hb => four_other _ _ _ _ _ _ _ hb), Ho.offrec gz (noU8_rec gz fun v hv m => by simp at hv; rcases hv with rfl | rfl | rfl | rfl <;> simp) (by decide) (by decide) (four_size _ _ _ _ _ _) (fun b hb => four_other _ _ _ _ _ _ _ hb), four_below bw hgw _ _ _ _, HTW.store (Nat.le_refl _) gz (noU8_rec gz fun v hv m => by simp at hv; rcases hv with rfl | rfl | rfl | rfl <;> simp) (by decide) (by decide) (four_size _ _ _ _ _ _) (fun b hb => four_other _ _ _ _ _ _ _ hb), HO.out, HST.next fun h => four_below h (Nat.le_refl _) _ _ _ _⟩
      case rest =>
        obtain ⟨gx, kz, mz, kcz, sz, slz, scz, KZ, sZ, rsZ, p, F, E, rfl, rfl, rfl, hgx, px, Mx, Mo, bx, HT, hout, hst⟩ := hcut
        have gtl : gt < wr.heap.size := (Array.getElem?_eq_some_iff.1 pt).1
        have pt2 := HT.recd gt _ _ _ pt (by decide) (by decide)
        have mp2 := HT.map gm _ _ mp
        have hM2 := hM.block mp mp2
        have hkw := HX.out.key.mono bx
        have hlook2 := hM2.look xk hby (by omega)
        rw [HS.out, HW.out] at hlook2
        have hlen2 := fun ty => hM2.len ty
        rw [HML.out] at hlen2
        have hm40 : m ≤ 40 := by have := HML.out; omega
        have hnd1 := hout.nodup hnd
        have hsub := hout.sub
        have hk3 : ∀ k ∈ KZ, k.length ≤ 200 := fun k hk => by
          rcases hsub k hk with hk | hk
          · exact HK2.out k hk
          · rw [hk]; omega
        have hzl := Mx.rd.len
        have HND := Lib.hid hnd
        have HND1 := Lib.hid hnd1
        have HKJ := Lib.hid hkj
        have HK3 := Lib.hid hk3
        have HZL := Lib.hid hzl
        have HOUT := Lib.hid hout
        clear pt Mt Mo y0 hst HT hM mp hout hnd hnd1 hkj hzl hcv hkx hsub hk3
        rcases HOUT.out with ⟨h1, rfl, rfl, rfl, hp, hpk⟩ | ⟨h1, h2, rfl, rfl, rfl, rfl⟩ | ⟨h1, h2, rfl, rfl, rfl, rfl⟩
        · obtain rfl : W = true := by rw [← HW.out]; exact decide_eq_true h1
          obtain rfl : mz = m := HZL.out.symm.trans HML.out
          have HIN : Hid (decide (xk ∈ KZ) = true) := Lib.hid HW.out
          clear h1 hp hpk
          have wcl := (Array.getElem?_eq_some_iff.1 px).1
          have yL : ∀ z : Later wc.heap.size wc, z.w.cell? ⟨bl, ol + j * 3 + 1, none⟩ = some (.slice xa xl xc) := fun z => ((below_then bx z.below).cell (p := ⟨bl, ol + j * 3 + 1, none⟩) hbl).trans HX.out.c1
          have q0 : ∀ z : Later wc.heap.size wc, z.w.cell? ⟨gx, 0, none⟩ = some (.int .i64 (N : Nat)) := fun z => cell_of_row _ _ 0 _ _ _ ((z.below.block gx wcl).trans px)
          have q1 : ∀ z : Later wc.heap.size wc, z.w.cell? ⟨gx, 1, none⟩ = some (.slice kz mz kcz) := fun z => cell_of_row _ _ 1 _ _ _ ((z.below.block gx wcl).trans px)
          have q2 : ∀ z : Later wc.heap.size wc, z.w.cell? ⟨gx, 2, none⟩ = some (.slice sz slz scz) := fun z => cell_of_row _ _ 2 _ _ _ ((z.below.block gx wcl).trans px)
          have q3 : ∀ z : Later wc.heap.size wc, z.w.cell? ⟨gx, 3, none⟩ = some (.slice none 0 0) := fun z => cell_of_row _ _ 3 _ _ _ ((z.below.block gx wcl).trans px)
          have hmz : mz ≤ 1048576 := Mx.rd.small
          have nM := fun z : Later wc.heap.size wc => manyF_any z.w (N : Nat) kz mz kcz sz slz scz (.slice none 0 0) hmz
          have nB := fun z : Later wc.heap.size wc => memberF_any z.w (N : Nat) kz mz kcz sz slz scz (.slice none 0 0) KZ sZ rsZ (Mx.rd.mono z.below) xa xl xc xk (hkw.mono z.below)
          have nG := fun z : Later wc.heap.size wc => flagL_any z.w false
          rw [HIN.out] at nB
          have lL : ∀ z : Later wc.heap.size wc, (Instr.lookup 56 (.map (some gm)) (.string S) false).run Try.prog z.w = .ok (.bool true) z.w := fun z => by
            have := (hM2.mono z.below).look xk hby (by omega)
            rw [HS.out, HW.out] at this
            exact this
          have nL : ∀ (z : Later wc.heap.size wc) (ty : TypeId), (Builtin.len_ #[56] ty #[.map (some gm)]).run Try.prog z.w = .ok (.int .i64 (mz : Nat)) z.w := fun z ty => by
            have := (hM2.mono z.below).len ty
            rw [HML.out] at this
            exact this
          clear hkw
          go_upto_region 13 with fail
          clear hlook2 hlen2
          refine wp_region_later wc.heap.size wc (by kernel_rfl) (by kernel_rfl) (Below.refl _ _) ?_
          repeat (go_big_quiet_step (first | (go_at_call 11; refine Calls.later0 (nM _)) | (go_at_call 18; refine Calls.later0 (nB _)) | (go_at_call 20; refine Calls.later0 (nG _))))
          refine wpQuiet_nil ?_
          intro _ hlat
          obtain ⟨z, rfl⟩ := hlat
          have pt7 := (z.below.block gt (Array.getElem?_eq_some_iff.1 pt2).1).trans pt2
          have px7 := (z.below.block gx wcl).trans px
          have mp7 := (z.below.block gm (Array.getElem?_eq_some_iff.1 mp2).1).trans mp2
          have Mx7 := Mx.mono z.below
          have hM7 := hM2.mono z.below
          have bt7 := below_then bx z.below
          clear yL q0 q1 q2 q3 nM nB nG lL nL pt2 px mp2 Mx hM2 bx wcl
          go_wp2_with (first | (refine wpList_load_row rfl 31 _ rfl gx rfl 31 _ _ _ px7 Try.underlying31 rfl (by kernel_rfl) ?_) | (refine store_rec rfl 31 (.tmp 7) (.tmp 111) rfl gt #[.int .i64 (N : Nat), .slice kz mz kcz, .slice sz slz scz, .slice none 0 0] rfl rfl 31 _ pt7 (by kernel_rfl) rfl (by simp [Value.oneCell']) ?_; intro w6 g6 z6 o6 b6))
          exact ⟨⟨j + 1, mz, kz, kcz, sz, slz, scz, _, sZ, rsZ, by omega, by simp, HND1.out, Nat.le_succ_of_le HKJ.out, HK3.out, g6, Mx7.offrec pt7 (noU8_rec pt7 fun v hv m => by simp at hv; rcases hv with rfl | rfl | rfl | rfl <;> simp) (by decide) (by decide) z6 (fun b hb => o6 b hb), (hM7.same (o6 gm hne.symm)).more (Nat.le_succ j), bt7.trans (b6.mono hB2)⟩, by simp [intOf]; omega⟩
        · obtain rfl : W = false := by rw [← HW.out]; exact decide_eq_false h1
          have d1 : decide (N ≤ m) = true := by simp; have := HML.out; omega
          obtain rfl : mz = m := HZL.out.symm.trans HML.out
          have HIN : Hid (decide (xk ∈ KZ) = false) := Lib.hid HW.out
          clear h1 h2
          have wcl := (Array.getElem?_eq_some_iff.1 px).1
          have yL : ∀ z : Later wc.heap.size wc, z.w.cell? ⟨bl, ol + j * 3 + 1, none⟩ = some (.slice xa xl xc) := fun z => ((below_then bx z.below).cell (p := ⟨bl, ol + j * 3 + 1, none⟩) hbl).trans HX.out.c1
          have q0 : ∀ z : Later wc.heap.size wc, z.w.cell? ⟨gx, 0, none⟩ = some (.int .i64 (N : Nat)) := fun z => cell_of_row _ _ 0 _ _ _ ((z.below.block gx wcl).trans px)
          have q1 : ∀ z : Later wc.heap.size wc, z.w.cell? ⟨gx, 1, none⟩ = some (.slice kz mz kcz) := fun z => cell_of_row _ _ 1 _ _ _ ((z.below.block gx wcl).trans px)
          have q2 : ∀ z : Later wc.heap.size wc, z.w.cell? ⟨gx, 2, none⟩ = some (.slice sz slz scz) := fun z => cell_of_row _ _ 2 _ _ _ ((z.below.block gx wcl).trans px)
          have q3 : ∀ z : Later wc.heap.size wc, z.w.cell? ⟨gx, 3, none⟩ = some (.slice none 0 0) := fun z => cell_of_row _ _ 3 _ _ _ ((z.below.block gx wcl).trans px)
          have hmz : mz ≤ 1048576 := Mx.rd.small
          have nM := fun z : Later wc.heap.size wc => manyF_any z.w (N : Nat) kz mz kcz sz slz scz (.slice none 0 0) hmz
          have nB := fun z : Later wc.heap.size wc => memberF_any z.w (N : Nat) kz mz kcz sz slz scz (.slice none 0 0) KZ sZ rsZ (Mx.rd.mono z.below) xa xl xc xk (hkw.mono z.below)
          have nG := fun z : Later wc.heap.size wc => flagL_any z.w false
          rw [HIN.out] at nB
          have lL : ∀ z : Later wc.heap.size wc, (Instr.lookup 56 (.map (some gm)) (.string S) false).run Try.prog z.w = .ok (.bool false) z.w := fun z => by
            have := (hM2.mono z.below).look xk hby (by omega)
            rw [HS.out, HW.out] at this
            exact this
          have nL : ∀ (z : Later wc.heap.size wc) (ty : TypeId), (Builtin.len_ #[56] ty #[.map (some gm)]).run Try.prog z.w = .ok (.int .i64 (mz : Nat)) z.w := fun z ty => by
            have := (hM2.mono z.below).len ty
            rw [HML.out] at this
            exact this
          clear hkw
          go_upto_region 13 with fail
          clear hlook2 hlen2
          refine wp_region_later wc.heap.size wc (by kernel_rfl) (by kernel_rfl) (Below.refl _ _) ?_
          repeat (go_big_quiet_step (first | (go_at_call 11; refine Calls.later0 (nM _)) | (go_at_call 18; refine Calls.later0 (nB _)) | (go_at_call 20; refine Calls.later0 (nG _))))
          refine wpQuiet_nil ?_
          intro _ hlat
          obtain ⟨z, rfl⟩ := hlat
          have pt7 := (z.below.block gt (Array.getElem?_eq_some_iff.1 pt2).1).trans pt2
          have px7 := (z.below.block gx wcl).trans px
          have mp7 := (z.below.block gm (Array.getElem?_eq_some_iff.1 mp2).1).trans mp2
          have Mx7 := Mx.mono z.below
          have hM7 := hM2.mono z.below
          have bt7 := below_then bx z.below
          clear yL q0 q1 q2 q3 nM nB nG lL nL pt2 px mp2 Mx hM2 bx wcl
          go_wp2_with (first | (refine wpList_load_row rfl 31 _ rfl gx rfl 31 _ _ _ px7 Try.underlying31 rfl (by kernel_rfl) ?_) | (refine store_rec rfl 31 (.tmp 7) (.tmp 111) rfl gt #[.int .i64 (N : Nat), .slice kz mz kcz, .slice sz slz scz, .slice none 0 0] rfl rfl 31 _ pt7 (by kernel_rfl) rfl (by simp [Value.oneCell']) ?_; intro w6 g6 z6 o6 b6))
          exact ⟨⟨j + 1, mz, kz, kcz, sz, slz, scz, _, sZ, rsZ, by omega, by simp, HND1.out, Nat.le_succ_of_le HKJ.out, HK3.out, g6, Mx7.offrec pt7 (noU8_rec pt7 fun v hv m => by simp at hv; rcases hv with rfl | rfl | rfl | rfl <;> simp) (by decide) (by decide) z6 (fun b hb => o6 b hb), (hM7.same (o6 gm hne.symm)).more (Nat.le_succ j), bt7.trans (b6.mono hB2)⟩, by simp [intOf]; omega⟩
        · obtain rfl : W = false := by rw [← HW.out]; exact decide_eq_false h1
          have d1 : decide (N ≤ m) = false := by simp; have := HML.out; omega
          obtain rfl : mz = m + 1 := by have := HML.out; have := HZL.out; simp at this; omega
          have HIN : Hid (decide (xk ∈ KS ++ [xk]) = true) := Lib.hid (by simp)
          have HNO := Lib.hid h1
          clear h1 h2
          have wcl := (Array.getElem?_eq_some_iff.1 px).1
          have yL : ∀ z : Later wc.heap.size wc, z.w.cell? ⟨bl, ol + j * 3 + 1, none⟩ = some (.slice xa xl xc) := fun z => ((below_then bx z.below).cell (p := ⟨bl, ol + j * 3 + 1, none⟩) hbl).trans HX.out.c1
          have q0 : ∀ z : Later wc.heap.size wc, z.w.cell? ⟨gx, 0, none⟩ = some (.int .i64 (N : Nat)) := fun z => cell_of_row _ _ 0 _ _ _ ((z.below.block gx wcl).trans px)
          have q1 : ∀ z : Later wc.heap.size wc, z.w.cell? ⟨gx, 1, none⟩ = some (.slice kz (m + 1) kcz) := fun z => cell_of_row _ _ 1 _ _ _ ((z.below.block gx wcl).trans px)
          have q2 : ∀ z : Later wc.heap.size wc, z.w.cell? ⟨gx, 2, none⟩ = some (.slice sz slz scz) := fun z => cell_of_row _ _ 2 _ _ _ ((z.below.block gx wcl).trans px)
          have q3 : ∀ z : Later wc.heap.size wc, z.w.cell? ⟨gx, 3, none⟩ = some (.slice none 0 0) := fun z => cell_of_row _ _ 3 _ _ _ ((z.below.block gx wcl).trans px)
          have hmz : (m + 1) ≤ 1048576 := Mx.rd.small
          have nM := fun z : Later wc.heap.size wc => manyF_any z.w (N : Nat) kz (m + 1) kcz sz slz scz (.slice none 0 0) hmz
          have nB := fun z : Later wc.heap.size wc => memberF_any z.w (N : Nat) kz (m + 1) kcz sz slz scz (.slice none 0 0) (KS ++ [xk]) sZ rsZ (Mx.rd.mono z.below) xa xl xc xk (hkw.mono z.below)
          have nG := fun z : Later wc.heap.size wc => flagL_any z.w true
          rw [HIN.out] at nB
          have lL : ∀ z : Later wc.heap.size wc, (Instr.lookup 56 (.map (some gm)) (.string S) false).run Try.prog z.w = .ok (.bool false) z.w := fun z => by
            have := (hM2.mono z.below).look xk hby (by omega)
            rw [HS.out, HW.out] at this
            exact this
          have nL : ∀ (z : Later wc.heap.size wc) (ty : TypeId), (Builtin.len_ #[56] ty #[.map (some gm)]).run Try.prog z.w = .ok (.int .i64 (m : Nat)) z.w := fun z ty => by
            have := (hM2.mono z.below).len ty
            rw [HML.out] at this
            exact this
          clear hkw
          go_upto_region 13 with fail
          clear hlook2 hlen2
          refine wp_region_later wc.heap.size wc (by kernel_rfl) (by kernel_rfl) (Below.refl _ _) ?_
          repeat (go_big_quiet_step (first | (go_at_call 11; refine Calls.later0 (nM _)) | (go_at_call 18; refine Calls.later0 (nB _)) | (go_at_call 20; refine Calls.later0 (nG _))))
          refine wpQuiet_nil ?_
          intro _ hlat
          obtain ⟨z, rfl⟩ := hlat
          have pt7 := (z.below.block gt (Array.getElem?_eq_some_iff.1 pt2).1).trans pt2
          have px7 := (z.below.block gx wcl).trans px
          have mp7 := (z.below.block gm (Array.getElem?_eq_some_iff.1 mp2).1).trans mp2
          have Mx7 := Mx.mono z.below
          have hM7 := hM2.mono z.below
          have bt7 := below_then bx z.below
          clear yL q0 q1 q2 q3 nM nB nG lL nL pt2 px mp2 Mx hM2 bx wcl
          obtain ⟨D, hown, hD⟩ := hM7
          go_wp2_with (first | (at_mapUpdate; refine wpList_mapUpdate_own _ rfl _ _ _ 56 rfl 9 4 strK_law Try.underlying56 _ gm j D rfl hown (by unfold maxLen; omega) _ _ (litK xk) rfl rfl hKO (.lit (.bool true)) [] (plainElem_bool Try.underlying4 true) ?_; intro w9 hown9 hg9; have ho9 : ∀ b, b < z.w.heap.size → b ≠ gm → w9.heap[b]? = z.w.heap[b]? := fun b hb hne => hg9.block b hb (fun he => hne (Option.some.inj he)); have pt9 := cells_off mp7 ho9 pt7; have px9 := cells_off mp7 ho9 px7) | (refine wpList_load_row rfl 31 _ rfl gx rfl 31 _ _ _ px9 Try.underlying31 rfl (by kernel_rfl) ?_) | (refine store_rec rfl 31 (.tmp 7) (.tmp 111) rfl gt #[.int .i64 (N : Nat), .slice kz (m + 1 : Nat) kcz, .slice sz slz scz, .slice none 0 0] rfl rfl 31 _ pt9 (by kernel_rfl) rfl (by simp [Value.oneCell']) ?_; intro w6 g6 z6 o6 b6))
          have hins : insK KS xk = KS ++ [xk] := by unfold insK; rw [if_neg HNO.out]
          have hM6 : InMap w6 gm (j + 1) (KS ++ [xk]) := by
            rw [← hins]
            exact (inMap_put hown hD xk hby hown9).same (o6 gm hne.symm)
          exact ⟨⟨j + 1, m + 1, kz, kcz, sz, slz, scz, _, sZ, rsZ, by omega, by simp, HND1.out, by rw [List.length_append]; have := HKJ.out; simp; omega, HK3.out, g6, (Mx7.offmap mp7 hg9.size ho9).offrec pt9 (noU8_rec pt9 fun v hv m => by simp at hv; rcases hv with rfl | rfl | rfl | rfl <;> simp) (by decide) (by decide) z6 (fun b hb => o6 b hb), hM6, (bt7.grown hg9 bt7.size (fun c hc => by cases hc; exact hBm)).trans (b6.mono hB2)⟩, by simp [intOf]; omega⟩
    · have f3 : decide (j < n) = false := by simpa using hjn
      obtain rfl : n = j := by omega
      go_upto_region 18 with fail
      have hmk := make201
      go_cut [16, 17] from 112 to 117 (fun v16 v17 w' => v17 = .int .i64 10 ∧ Below w.heap.size w w')
      case first =>
        have hno : (List.replicate 201 0 : List Nat) ∉ KS := fun hin => by have := HK2.out _ hin; rw [List.length_replicate] at this; omega
        have gtl : gt < wr.heap.size := (Array.getElem?_eq_some_iff.1 pt).1
        have hnt : gt ≠ wr.heap.size := Nat.ne_of_lt gtl
        have hnt1 : gt ≠ wr.heap.size + 1 := by omega
        have bD : Below wr.heap.size wr wr.drew := (Below.refl _ _).drew
        have ptD := (bD.block gt gtl).trans pt
        have gD0 : wr.drew.cell? ⟨gt, 0, none⟩ = some (.int .i64 (N : Nat)) := cell_of_row _ _ 0 _ _ _ ptD
        have gD1 : wr.drew.cell? ⟨gt, 1, none⟩ = some (.slice ka m kc) := cell_of_row _ _ 1 _ _ _ ptD
        have gD2 : wr.drew.cell? ⟨gt, 2, none⟩ = some (.slice sa sl sc) := cell_of_row _ _ 2 _ _ _ ptD
        have gD3 : wr.drew.cell? ⟨gt, 3, none⟩ = some (.slice none 0 0) := cell_of_row _ _ 3 _ _ _ ptD
        have bA : Below wr.heap.size wr (wr.alloc (.cells Z201 5)).drew := ((Below.refl _ _).alloc (Nat.le_refl _) _).drew
        have ptA := (bA.block gt gtl).trans pt
        have gA0 : (wr.alloc (.cells Z201 5)).drew.cell? ⟨gt, 0, none⟩ = some (.int .i64 (N : Nat)) := cell_of_row _ _ 0 _ _ _ ptA
        have gA1 : (wr.alloc (.cells Z201 5)).drew.cell? ⟨gt, 1, none⟩ = some (.slice ka m kc) := cell_of_row _ _ 1 _ _ _ ptA
        have gA2 : (wr.alloc (.cells Z201 5)).drew.cell? ⟨gt, 2, none⟩ = some (.slice sa sl sc) := cell_of_row _ _ 2 _ _ _ ptA
        have gA3 : (wr.alloc (.cells Z201 5)).drew.cell? ⟨gt, 3, none⟩ = some (.slice none 0 0) := cell_of_row _ _ 3 _ _ _ ptA
        have bB : Below wr.heap.size wr ((wr.alloc (.cells Z201 5)).alloc (.cells #[.int .i64 0, .slice none 0 0, .slice none 0 0, .slice none 0 0] 31)).drew := (((Below.refl _ _).alloc (Nat.le_refl _) _).alloc (by simp) _).drew
        have ptB := (bB.block gt gtl).trans pt
        have gB0 : ((wr.alloc (.cells Z201 5)).alloc (.cells #[.int .i64 0, .slice none 0 0, .slice none 0 0, .slice none 0 0] 31)).drew.cell? ⟨gt, 0, none⟩ = some (.int .i64 (N : Nat)) := cell_of_row _ _ 0 _ _ _ ptB
        have gB1 : ((wr.alloc (.cells Z201 5)).alloc (.cells #[.int .i64 0, .slice none 0 0, .slice none 0 0, .slice none 0 0] 31)).drew.cell? ⟨gt, 1, none⟩ = some (.slice ka m kc) := cell_of_row _ _ 1 _ _ _ ptB
        have gB2 : ((wr.alloc (.cells Z201 5)).alloc (.cells #[.int .i64 0, .slice none 0 0, .slice none 0 0, .slice none 0 0] 31)).drew.cell? ⟨gt, 2, none⟩ = some (.slice sa sl sc) := cell_of_row _ _ 2 _ _ _ ptB
        have gB3 : ((wr.alloc (.cells Z201 5)).alloc (.cells #[.int .i64 0, .slice none 0 0, .slice none 0 0, .slice none 0 0] 31)).drew.cell? ⟨gt, 3, none⟩ = some (.slice none 0 0) := cell_of_row _ _ 3 _ _ _ ptB
        have bC : Below wr.heap.size wr ((wr.alloc (.cells #[.int .i64 0, .slice none 0 0, .slice none 0 0, .slice none 0 0] 31)).alloc (.cells Z201 5)).drew := (((Below.refl _ _).alloc (Nat.le_refl _) _).alloc (by simp) _).drew
        have ptC := (bC.block gt gtl).trans pt
        have gC0 : ((wr.alloc (.cells #[.int .i64 0, .slice none 0 0, .slice none 0 0, .slice none 0 0] 31)).alloc (.cells Z201 5)).drew.cell? ⟨gt, 0, none⟩ = some (.int .i64 (N : Nat)) := cell_of_row _ _ 0 _ _ _ ptC
        have gC1 : ((wr.alloc (.cells #[.int .i64 0, .slice none 0 0, .slice none 0 0, .slice none 0 0] 31)).alloc (.cells Z201 5)).drew.cell? ⟨gt, 1, none⟩ = some (.slice ka m kc) := cell_of_row _ _ 1 _ _ _ ptC
        have gC2 : ((wr.alloc (.cells #[.int .i64 0, .slice none 0 0, .slice none 0 0, .slice none 0 0] 31)).alloc (.cells Z201 5)).drew.cell? ⟨gt, 2, none⟩ = some (.slice sa sl sc) := cell_of_row _ _ 2 _ _ _ ptC
        have gC3 : ((wr.alloc (.cells #[.int .i64 0, .slice none 0 0, .slice none 0 0, .slice none 0 0] 31)).alloc (.cells Z201 5)).drew.cell? ⟨gt, 3, none⟩ = some (.slice none 0 0) := cell_of_row _ _ 3 _ _ _ ptC
        have bE : Below wr.heap.size wr (wr.alloc (.cells #[.int .i64 0, .slice none 0 0, .slice none 0 0, .slice none 0 0] 31)).drew := ((Below.refl _ _).alloc (Nat.le_refl _) _).drew
        have ptE := (bE.block gt gtl).trans pt
        have gE0 : (wr.alloc (.cells #[.int .i64 0, .slice none 0 0, .slice none 0 0, .slice none 0 0] 31)).drew.cell? ⟨gt, 0, none⟩ = some (.int .i64 (N : Nat)) := cell_of_row _ _ 0 _ _ _ ptE
        have gE1 : (wr.alloc (.cells #[.int .i64 0, .slice none 0 0, .slice none 0 0, .slice none 0 0] 31)).drew.cell? ⟨gt, 1, none⟩ = some (.slice ka m kc) := cell_of_row _ _ 1 _ _ _ ptE
        have gE2 : (wr.alloc (.cells #[.int .i64 0, .slice none 0 0, .slice none 0 0, .slice none 0 0] 31)).drew.cell? ⟨gt, 2, none⟩ = some (.slice sa sl sc) := cell_of_row _ _ 2 _ _ _ ptE
        have gE3 : (wr.alloc (.cells #[.int .i64 0, .slice none 0 0, .slice none 0 0, .slice none 0 0] 31)).drew.cell? ⟨gt, 3, none⟩ = some (.slice none 0 0) := cell_of_row _ _ 3 _ _ _ ptE
        have zA : (wr.alloc (.cells Z201 5)).drew.heap[wr.heap.size]? = some (.cells Z201 5 (0, 0)) := heap_alloc_new wr _
        have zB : ((wr.alloc (.cells Z201 5)).alloc (.cells #[.int .i64 0, .slice none 0 0, .slice none 0 0, .slice none 0 0] 31)).drew.heap[wr.heap.size]? = some (.cells Z201 5 (0, 0)) := row_alloc (heap_alloc_new wr _) _
        have zC : ((wr.alloc (.cells #[.int .i64 0, .slice none 0 0, .slice none 0 0, .slice none 0 0] 31)).alloc (.cells Z201 5)).drew.heap[wr.heap.size + 1]? = some (.cells Z201 5 (0, 0)) := by have := heap_alloc_new (wr.alloc (.cells #[.int .i64 0, .slice none 0 0, .slice none 0 0, .slice none 0 0] 31)) (.cells Z201 5); rwa [World.size_alloc] at this
        have vB : ((wr.alloc (.cells Z201 5)).alloc (.cells #[.int .i64 0, .slice none 0 0, .slice none 0 0, .slice none 0 0] 31)).drew.heap[wr.heap.size + 1]? = some (.cells #[.int .i64 0, .slice none 0 0, .slice none 0 0, .slice none 0 0] 31 (0, 0)) := by have := heap_alloc_new (wr.alloc (.cells Z201 5)) (.cells #[.int .i64 0, .slice none 0 0, .slice none 0 0, .slice none 0 0] 31); rwa [World.size_alloc] at this
        have vC : ((wr.alloc (.cells #[.int .i64 0, .slice none 0 0, .slice none 0 0, .slice none 0 0] 31)).alloc (.cells Z201 5)).drew.heap[wr.heap.size]? = some (.cells #[.int .i64 0, .slice none 0 0, .slice none 0 0, .slice none 0 0] 31 (0, 0)) := row_alloc (heap_alloc_new wr _) _
        have hIA := setF_none (wr.alloc (.cells Z201 5)).drew (N : Nat) ka m kc sa sl sc none 0 0 _ _ _ KS s rs (Mt.rd.mono bA) _ (bytes201 zA) 0 (by decide) hno
        have hIB := setF_none ((wr.alloc (.cells Z201 5)).alloc (.cells #[.int .i64 0, .slice none 0 0, .slice none 0 0, .slice none 0 0] 31)).drew (N : Nat) ka m kc sa sl sc none 0 0 _ _ _ KS s rs (Mt.rd.mono bB) _ (bytes201 zB) 0 (by decide) hno
        have hIC := setF_none ((wr.alloc (.cells #[.int .i64 0, .slice none 0 0, .slice none 0 0, .slice none 0 0] 31)).alloc (.cells Z201 5)).drew (N : Nat) ka m kc sa sl sc none 0 0 _ _ _ KS s rs (Mt.rd.mono bC) _ (bytes201 zC) 0 (by decide) hno
        rw [show ((0 : Nat) : Int) = 0 from rfl] at hIA hIB hIC
        clear hno
        go_region_held3 (fun w' => w'.cell? ⟨gt, 0, none⟩ = some (.int .i64 (N : Nat)) ∧ w'.cell? ⟨gt, 1, none⟩ = some (.slice ka m kc) ∧ w'.cell? ⟨gt, 2, none⟩ = some (.slice sa sl sc) ∧ w'.cell? ⟨gt, 3, none⟩ = some (.slice none 0 0))
          (first | (refine ⟨?_, ?_, ?_, ?_⟩ <;> with_reducible assumption) | (refine ⟨?_, ?_, ?_, ?_⟩; with_reducible exact cellAlloc _ _ r0; with_reducible exact cellAlloc _ _ r1; with_reducible exact cellAlloc _ _ r2; with_reducible exact cellAlloc _ _ r3) | (refine ⟨?_, ?_, ?_, ?_⟩; with_reducible exact four_cellU _ _ _ _ _ _ _ _ hnt r0; with_reducible exact four_cellU _ _ _ _ _ _ _ _ hnt r1; with_reducible exact four_cellU _ _ _ _ _ _ _ _ hnt r2; with_reducible exact four_cellU _ _ _ _ _ _ _ _ hnt r3) | (refine ⟨?_, ?_, ?_, ?_⟩; with_reducible exact four_cellU _ _ _ _ _ _ _ _ hnt1 r0; with_reducible exact four_cellU _ _ _ _ _ _ _ _ hnt1 r1; with_reducible exact four_cellU _ _ _ _ _ _ _ _ hnt1 r2; with_reducible exact four_cellU _ _ _ _ _ _ _ _ hnt1 r3))
          (first | (go_at_call 14; ((with_reducible refine hIA.mono ?_); rintro e ws ⟨rfl, bz⟩; have bw : Below wr.heap.size wr ws := below_then bA bz; have rt := (bz.block gt (by show gt < _; have := bA.size; omega)).trans ptA; have r0 : ws.cell? ⟨gt, 0, none⟩ = some (.int .i64 (N : Nat)) := cell_of_row _ _ 0 _ _ _ rt; have r1 : ws.cell? ⟨gt, 1, none⟩ = some (.slice ka m kc) := cell_of_row _ _ 1 _ _ _ rt; have r2 : ws.cell? ⟨gt, 2, none⟩ = some (.slice sa sl sc) := cell_of_row _ _ 2 _ _ _ rt; have r3 : ws.cell? ⟨gt, 3, none⟩ = some (.slice none 0 0) := cell_of_row _ _ 3 _ _ _ rt)) | (go_at_call 14; ((with_reducible refine hIB.mono ?_); rintro e ws ⟨rfl, bz⟩; have bw : Below wr.heap.size wr ws := below_then bB bz; have rt := (bz.block gt (by show gt < _; have := bB.size; omega)).trans ptB; have r0 : ws.cell? ⟨gt, 0, none⟩ = some (.int .i64 (N : Nat)) := cell_of_row _ _ 0 _ _ _ rt; have r1 : ws.cell? ⟨gt, 1, none⟩ = some (.slice ka m kc) := cell_of_row _ _ 1 _ _ _ rt; have r2 : ws.cell? ⟨gt, 2, none⟩ = some (.slice sa sl sc) := cell_of_row _ _ 2 _ _ _ rt; have r3 : ws.cell? ⟨gt, 3, none⟩ = some (.slice none 0 0) := cell_of_row _ _ 3 _ _ _ rt; have gz := (bz.block (wr.heap.size + 1) (by show _ < _; have := (Array.getElem?_eq_some_iff.1 vB).1; omega)).trans vB; have v0 : ws.cell? ⟨(wr.heap.size + 1), 0, none⟩ = some (.int .i64 0) := cell_of_row _ _ 0 _ _ _ gz; have f0 := frozen_of_row ws ((wr.heap.size + 1)) 0 _ _ gz; have v1 : ws.cell? ⟨(wr.heap.size + 1), 1, none⟩ = some (.slice none 0 0) := cell_of_row _ _ 1 _ _ _ gz; have f1 := frozen_of_row ws ((wr.heap.size + 1)) 1 _ _ gz; have v2 : ws.cell? ⟨(wr.heap.size + 1), 2, none⟩ = some (.slice none 0 0) := cell_of_row _ _ 2 _ _ _ gz; have f2 := frozen_of_row ws ((wr.heap.size + 1)) 2 _ _ gz; have v3 : ws.cell? ⟨(wr.heap.size + 1), 3, none⟩ = some (.slice none 0 0) := cell_of_row _ _ 3 _ _ _ gz; have f3 := frozen_of_row ws ((wr.heap.size + 1)) 3 _ _ gz)) | (go_at_call 14; ((with_reducible refine hIC.mono ?_); rintro e ws ⟨rfl, bz⟩; have bw : Below wr.heap.size wr ws := below_then bC bz; have rt := (bz.block gt (by show gt < _; have := bC.size; omega)).trans ptC; have r0 : ws.cell? ⟨gt, 0, none⟩ = some (.int .i64 (N : Nat)) := cell_of_row _ _ 0 _ _ _ rt; have r1 : ws.cell? ⟨gt, 1, none⟩ = some (.slice ka m kc) := cell_of_row _ _ 1 _ _ _ rt; have r2 : ws.cell? ⟨gt, 2, none⟩ = some (.slice sa sl sc) := cell_of_row _ _ 2 _ _ _ rt; have r3 : ws.cell? ⟨gt, 3, none⟩ = some (.slice none 0 0) := cell_of_row _ _ 3 _ _ _ rt; have gz := (bz.block wr.heap.size (by show _ < _; have := (Array.getElem?_eq_some_iff.1 vC).1; omega)).trans vC; have v0 : ws.cell? ⟨wr.heap.size, 0, none⟩ = some (.int .i64 0) := cell_of_row _ _ 0 _ _ _ gz; have f0 := frozen_of_row ws (wr.heap.size) 0 _ _ gz; have v1 : ws.cell? ⟨wr.heap.size, 1, none⟩ = some (.slice none 0 0) := cell_of_row _ _ 1 _ _ _ gz; have f1 := frozen_of_row ws (wr.heap.size) 1 _ _ gz; have v2 : ws.cell? ⟨wr.heap.size, 2, none⟩ = some (.slice none 0 0) := cell_of_row _ _ 2 _ _ _ gz; have f2 := frozen_of_row ws (wr.heap.size) 2 _ _ gz; have v3 : ws.cell? ⟨wr.heap.size, 3, none⟩ = some (.slice none 0 0) := cell_of_row _ _ 3 _ _ _ gz; have f3 := frozen_of_row ws (wr.heap.size) 3 _ _ gz)))
        all_goals
          go_wp2_with fail
          go_meet
          first
          | exact ⟨rfl, bt.trans ((bw.alloc bw.size _).mono bt.size)⟩
          | exact ⟨rfl, bt.trans ((four_below bw (Nat.le_refl _) _ _ _ _).mono bt.size)⟩
          | exact ⟨rfl, bt.trans ((four_below bw (Nat.le_succ _) _ _ _ _).mono bt.size)⟩
      case rest =>
        obtain ⟨rfl, bx⟩ := hcut
        go_wp2_with fail
        go_ret
        exact ⟨rfl, bx⟩
end Go.Proofs.Ytgfiampcjgdojaa
