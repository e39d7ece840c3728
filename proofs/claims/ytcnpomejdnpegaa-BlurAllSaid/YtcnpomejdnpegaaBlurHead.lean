/- The head of all statements of layer 10: the document's example holds (by gen10s.py). -/
import Derived.Test.YtcnpomejdnpegaaBlurA
import Derived.Lib.SlBytesConst
import Derived.Outline
namespace Go.Proofs.Ytcnpomejdnpegaa
open Go.RowKit
set_option linter.unusedVariables false

theorem bytesOne (w : World) (c : Nat) (fr : Nat × Nat) (hc : c < 256) : BytesAt (w.alloc (.cells #[.int .u8 (c : Int)] 5 fr)) (some ⟨w.heap.size, 0, none⟩) 1 1 [c] := by
  refine ⟨rfl, by omega, by simpa using hc, nofun, .inr ⟨_, 0, rfl, by simp, fun i hi => ?_⟩⟩
  obtain rfl : i = 0 := by omega
  rw [World.cell?_alloc_mark]; rfl
theorem bytesAtN (w : World) (c g : Nat) (hg : w.heap.size = g) (hc : c < 256) : BytesAt (w.alloc (.cells #[.int .u8 (c : Int)] 5 (1, 2))) (some ⟨g, 0, none⟩) 1 1 [c] := by
  subst hg
  exact bytesOne w c (1, 2) hc
theorem placesN_one (l : List Nat) (seed : Nat) : placesN l seed 1 1 = [0] := by
  unfold placesN placesS placeAt
  simp
  unfold placeS
  rw [if_neg (by decide)]
  omega
theorem f01 (l : List Nat) : allV [0] (placesN l 7 1 1) = false := by rw [placesN_one]; decide
theorem f11 (l : List Nat) : allV [1] (placesN l 7 1 1) = true := by rw [placesN_one]; decide
theorem s01 (l : List Nat) : setV [0] (placesN l 7 1 1) = [1] := by rw [placesN_one]; decide
theorem ones0 : onesV [0] = 0 := by decide
theorem ones1 : onesV [1] = 1 := by decide
set_option maxRecDepth 100000 in
set_option maxHeartbeats 8000000 in
theorem shown_any (w : World) : Calls Try.prog 7 #[] w fun e w' => e = .returned (.bool true) ∧ Below w.heap.size w w' := by
  have kc := fun (w : World) (C : Array Value) (n c : Nat) => Lib.run_convert_bytes_const (P := Try.prog) w 28 5 C n c Try.underlying28 Try.underlying5
  go_enter Try.func7, Try.ntmps7
  go_wp2_with (first | fail)
  refine (new_at _ 1 1 7 1 1 7 1 rfl rfl rfl rfl (by decide) (by decide) (by decide) (by decide) (by decide)).mono ?_
  rintro e w1 ⟨ab_0, ab_1, ab_2, bc0, bc1, bc2, rfl, Hb, b1⟩
  have bt := b1
  have Hb : BlurAt w1 1 1 7 (.agg #[.int .i64 1, .int .i64 1, .int .u64 7, .slice ab_0 1 bc0, .slice ab_1 1 bc1, .slice ab_2 1 bc2]) [0] [0] [0] := Hb
  have A1b := (Below.refl w1.heap.size w1).alloc (Nat.le_refl _) (.cells #[.int .i64 1, .int .i64 1, .int .u64 7, .slice ab_0 1 bc0, .slice ab_1 1 bc1, .slice ab_2 1 bc2] 31)
  replace bt := below_then bt A1b
  have pb : (w1.alloc (.cells #[.int .i64 1, .int .i64 1, .int .u64 7, .slice ab_0 1 bc0, .slice ab_1 1 bc1, .slice ab_2 1 bc2] 31)).heap[w1.heap.size]? = some (.cells #[.int .i64 1, .int .i64 1, .int .u64 7, .slice ab_0 1 bc0, .slice ab_1 1 bc1, .slice ab_2 1 bc2] 31 (0, 0)) := heap_alloc_new _ _
  have zb : w1.heap.size < (w1.alloc (.cells #[.int .i64 1, .int .i64 1, .int .u64 7, .slice ab_0 1 bc0, .slice ab_1 1 bc1, .slice ab_2 1 bc2] 31)).heap.size := by simp
  have hb := Hb.mono A1b
  have k1 := kc (w1.alloc (.cells #[.int .i64 1, .int .i64 1, .int .u64 7, .slice ab_0 1 bc0, .slice ab_1 1 bc1, .slice ab_2 1 bc2] 31)) #[.int .u8 97] 1 1
  rw [World.size_alloc] at k1
  go_wp2_with (first | (refine wpList_load_row rfl 31 _ rfl (w1.heap.size) rfl 31 #[.int .i64 1, .int .i64 1, .int .u64 7, .slice ab_0 1 bc0, .slice ab_1 1 bc1, .slice ab_2 1 bc2] (0, 0) _ pb Try.underlying31 rfl (by kernel_rfl) ?_) | fail)
  refine (insert_at _ 1 1 7 1 1 7 1 rfl rfl rfl rfl _ [0] [0] [0] (some ⟨w1.heap.size + 1, 0, none⟩) 1 1 [97] (hb.mono ((Below.refl _ _).alloc (Nat.le_refl _) (.cells #[.int .u8 97] 5 (1, 2)))) (bytesAtN (w1.alloc (.cells #[.int .i64 1, .int .i64 1, .int .u64 7, .slice ab_0 1 bc0, .slice ab_1 1 bc1, .slice ab_2 1 bc2] 31)) 97 (w1.heap.size + 1) (by simp) (by decide))).mono ?_
  rintro e w2 ⟨aa_0, aa_1, aa_2, ac0, ac1, ac2, rfl, Ha, b2⟩
  have C2 := ((Below.refl (w1.alloc (.cells #[.int .i64 1, .int .i64 1, .int .u64 7, .slice ab_0 1 bc0, .slice ab_1 1 bc1, .slice ab_2 1 bc2] 31)).heap.size (w1.alloc (.cells #[.int .i64 1, .int .i64 1, .int .u64 7, .slice ab_0 1 bc0, .slice ab_1 1 bc1, .slice ab_2 1 bc2] 31))).alloc (Nat.le_refl _) (.cells #[.int .u8 97] 5 (1, 2))).trans (b2.mono (by simp))
  replace hb := hb.mono C2
  replace pb := (C2.block _ zb).trans pb
  replace zb := Nat.lt_of_lt_of_le zb C2.size
  replace bt := below_then bt C2
  rw [f01] at Ha ⊢
  rw [if_neg (by decide), s01] at Ha
  have A2a := (Below.refl w2.heap.size w2).alloc (Nat.le_refl _) (.cells #[.int .i64 1, .int .i64 1, .int .u64 7, .slice aa_0 1 ac0, .slice aa_1 1 ac1, .slice aa_2 1 ac2] 31)
  replace hb := hb.mono A2a
  replace pb := (A2a.block _ zb).trans pb
  replace zb := Nat.lt_of_lt_of_le zb A2a.size
  replace bt := below_then bt A2a
  have pa : (w2.alloc (.cells #[.int .i64 1, .int .i64 1, .int .u64 7, .slice aa_0 1 ac0, .slice aa_1 1 ac1, .slice aa_2 1 ac2] 31)).heap[w2.heap.size]? = some (.cells #[.int .i64 1, .int .i64 1, .int .u64 7, .slice aa_0 1 ac0, .slice aa_1 1 ac1, .slice aa_2 1 ac2] 31 (0, 0)) := heap_alloc_new _ _
  have za : w2.heap.size < (w2.alloc (.cells #[.int .i64 1, .int .i64 1, .int .u64 7, .slice aa_0 1 ac0, .slice aa_1 1 ac1, .slice aa_2 1 ac2] 31)).heap.size := by simp
  have ha := Ha.mono A2a
  have k2 := kc (w2.alloc (.cells #[.int .i64 1, .int .i64 1, .int .u64 7, .slice aa_0 1 ac0, .slice aa_1 1 ac1, .slice aa_2 1 ac2] 31)) #[.int .u8 98] 1 1
  rw [World.size_alloc] at k2
  go_wp2_with (first | (refine wpList_load_row rfl 31 _ rfl (w1.heap.size) rfl 31 #[.int .i64 1, .int .i64 1, .int .u64 7, .slice ab_0 1 bc0, .slice ab_1 1 bc1, .slice ab_2 1 bc2] (0, 0) _ pb Try.underlying31 rfl (by kernel_rfl) ?_) | (refine wpList_load_row rfl 31 _ rfl (w2.heap.size) rfl 31 #[.int .i64 1, .int .i64 1, .int .u64 7, .slice aa_0 1 ac0, .slice aa_1 1 ac1, .slice aa_2 1 ac2] (0, 0) _ pa Try.underlying31 rfl (by kernel_rfl) ?_) | fail)
  refine (insert_at _ 1 1 7 1 1 7 1 rfl rfl rfl rfl _ [1] [0] [0] (some ⟨w2.heap.size + 1, 0, none⟩) 1 1 [98] (ha.mono ((Below.refl _ _).alloc (Nat.le_refl _) (.cells #[.int .u8 98] 5 (1, 2)))) (bytesAtN (w2.alloc (.cells #[.int .i64 1, .int .i64 1, .int .u64 7, .slice aa_0 1 ac0, .slice aa_1 1 ac1, .slice aa_2 1 ac2] 31)) 98 (w2.heap.size + 1) (by simp) (by decide))).mono ?_
  rintro e w3 ⟨ac_0, ac_1, ac_2, cc0, cc1, cc2, rfl, Hc, b3⟩
  have C3 := ((Below.refl (w2.alloc (.cells #[.int .i64 1, .int .i64 1, .int .u64 7, .slice aa_0 1 ac0, .slice aa_1 1 ac1, .slice aa_2 1 ac2] 31)).heap.size (w2.alloc (.cells #[.int .i64 1, .int .i64 1, .int .u64 7, .slice aa_0 1 ac0, .slice aa_1 1 ac1, .slice aa_2 1 ac2] 31))).alloc (Nat.le_refl _) (.cells #[.int .u8 98] 5 (1, 2))).trans (b3.mono (by simp))
  replace hb := hb.mono C3
  replace pb := (C3.block _ zb).trans pb
  replace zb := Nat.lt_of_lt_of_le zb C3.size
  replace ha := ha.mono C3
  replace pa := (C3.block _ za).trans pa
  replace za := Nat.lt_of_lt_of_le za C3.size
  replace bt := below_then bt C3
  rw [f11] at Hc ⊢
  rw [if_pos rfl] at Hc
  have A3c := (Below.refl w3.heap.size w3).alloc (Nat.le_refl _) (.cells #[.int .i64 1, .int .i64 1, .int .u64 7, .slice ac_0 1 cc0, .slice ac_1 1 cc1, .slice ac_2 1 cc2] 31)
  replace hb := hb.mono A3c
  replace pb := (A3c.block _ zb).trans pb
  replace zb := Nat.lt_of_lt_of_le zb A3c.size
  replace ha := ha.mono A3c
  replace pa := (A3c.block _ za).trans pa
  replace za := Nat.lt_of_lt_of_le za A3c.size
  replace bt := below_then bt A3c
  have pc : (w3.alloc (.cells #[.int .i64 1, .int .i64 1, .int .u64 7, .slice ac_0 1 cc0, .slice ac_1 1 cc1, .slice ac_2 1 cc2] 31)).heap[w3.heap.size]? = some (.cells #[.int .i64 1, .int .i64 1, .int .u64 7, .slice ac_0 1 cc0, .slice ac_1 1 cc1, .slice ac_2 1 cc2] 31 (0, 0)) := heap_alloc_new _ _
  have zc : w3.heap.size < (w3.alloc (.cells #[.int .i64 1, .int .i64 1, .int .u64 7, .slice ac_0 1 cc0, .slice ac_1 1 cc1, .slice ac_2 1 cc2] 31)).heap.size := by simp
  have hc := Hc.mono A3c
  have k3 := kc (w3.alloc (.cells #[.int .i64 1, .int .i64 1, .int .u64 7, .slice ac_0 1 cc0, .slice ac_1 1 cc1, .slice ac_2 1 cc2] 31)) #[.int .u8 98] 1 1
  rw [World.size_alloc] at k3
  go_wp2_with (first | (refine wpList_load_row rfl 31 _ rfl (w1.heap.size) rfl 31 #[.int .i64 1, .int .i64 1, .int .u64 7, .slice ab_0 1 bc0, .slice ab_1 1 bc1, .slice ab_2 1 bc2] (0, 0) _ pb Try.underlying31 rfl (by kernel_rfl) ?_) | (refine wpList_load_row rfl 31 _ rfl (w2.heap.size) rfl 31 #[.int .i64 1, .int .i64 1, .int .u64 7, .slice aa_0 1 ac0, .slice aa_1 1 ac1, .slice aa_2 1 ac2] (0, 0) _ pa Try.underlying31 rfl (by kernel_rfl) ?_) | (refine wpList_load_row rfl 31 _ rfl (w3.heap.size) rfl 31 #[.int .i64 1, .int .i64 1, .int .u64 7, .slice ac_0 1 cc0, .slice ac_1 1 cc1, .slice ac_2 1 cc2] (0, 0) _ pc Try.underlying31 rfl (by kernel_rfl) ?_) | fail)
  refine (set1_at _ 1 1 7 1 1 7 1 rfl rfl rfl rfl _ [1] [0] [0] (some ⟨w3.heap.size + 1, 0, none⟩) 1 1 [98] (hc.mono ((Below.refl _ _).alloc (Nat.le_refl _) (.cells #[.int .u8 98] 5 (1, 2)))) (bytesAtN (w3.alloc (.cells #[.int .i64 1, .int .i64 1, .int .u64 7, .slice ac_0 1 cc0, .slice ac_1 1 cc1, .slice ac_2 1 cc2] 31)) 98 (w3.heap.size + 1) (by simp) (by decide)) (f11 _)).mono ?_
  rintro e w4 ⟨ad_0, ad_1, ad_2, dc0, dc1, dc2, rfl, Hd, b4⟩
  have C4 := ((Below.refl (w3.alloc (.cells #[.int .i64 1, .int .i64 1, .int .u64 7, .slice ac_0 1 cc0, .slice ac_1 1 cc1, .slice ac_2 1 cc2] 31)).heap.size (w3.alloc (.cells #[.int .i64 1, .int .i64 1, .int .u64 7, .slice ac_0 1 cc0, .slice ac_1 1 cc1, .slice ac_2 1 cc2] 31))).alloc (Nat.le_refl _) (.cells #[.int .u8 98] 5 (1, 2))).trans (b4.mono (by simp))
  replace hb := hb.mono C4
  replace pb := (C4.block _ zb).trans pb
  replace zb := Nat.lt_of_lt_of_le zb C4.size
  replace ha := ha.mono C4
  replace pa := (C4.block _ za).trans pa
  replace za := Nat.lt_of_lt_of_le za C4.size
  replace hc := hc.mono C4
  replace pc := (C4.block _ zc).trans pc
  replace zc := Nat.lt_of_lt_of_le zc C4.size
  replace bt := below_then bt C4
  rw [f01, if_neg (by decide), s01] at Hd
  have A4d := (Below.refl w4.heap.size w4).alloc (Nat.le_refl _) (.cells #[.int .i64 1, .int .i64 1, .int .u64 7, .slice ad_0 1 dc0, .slice ad_1 1 dc1, .slice ad_2 1 dc2] 31)
  replace hb := hb.mono A4d
  replace pb := (A4d.block _ zb).trans pb
  replace zb := Nat.lt_of_lt_of_le zb A4d.size
  replace ha := ha.mono A4d
  replace pa := (A4d.block _ za).trans pa
  replace za := Nat.lt_of_lt_of_le za A4d.size
  replace hc := hc.mono A4d
  replace pc := (A4d.block _ zc).trans pc
  replace zc := Nat.lt_of_lt_of_le zc A4d.size
  replace bt := below_then bt A4d
  have pd : (w4.alloc (.cells #[.int .i64 1, .int .i64 1, .int .u64 7, .slice ad_0 1 dc0, .slice ad_1 1 dc1, .slice ad_2 1 dc2] 31)).heap[w4.heap.size]? = some (.cells #[.int .i64 1, .int .i64 1, .int .u64 7, .slice ad_0 1 dc0, .slice ad_1 1 dc1, .slice ad_2 1 dc2] 31 (0, 0)) := heap_alloc_new _ _
  have zd : w4.heap.size < (w4.alloc (.cells #[.int .i64 1, .int .i64 1, .int .u64 7, .slice ad_0 1 dc0, .slice ad_1 1 dc1, .slice ad_2 1 dc2] 31)).heap.size := by simp
  have hd := Hd.mono A4d
  have k4 := kc (w4.alloc (.cells #[.int .i64 1, .int .i64 1, .int .u64 7, .slice ad_0 1 dc0, .slice ad_1 1 dc1, .slice ad_2 1 dc2] 31)) #[.int .u8 97] 1 1
  rw [World.size_alloc] at k4
  go_wp2_with (first | (refine wpList_load_row rfl 31 _ rfl (w1.heap.size) rfl 31 #[.int .i64 1, .int .i64 1, .int .u64 7, .slice ab_0 1 bc0, .slice ab_1 1 bc1, .slice ab_2 1 bc2] (0, 0) _ pb Try.underlying31 rfl (by kernel_rfl) ?_) | (refine wpList_load_row rfl 31 _ rfl (w2.heap.size) rfl 31 #[.int .i64 1, .int .i64 1, .int .u64 7, .slice aa_0 1 ac0, .slice aa_1 1 ac1, .slice aa_2 1 ac2] (0, 0) _ pa Try.underlying31 rfl (by kernel_rfl) ?_) | (refine wpList_load_row rfl 31 _ rfl (w3.heap.size) rfl 31 #[.int .i64 1, .int .i64 1, .int .u64 7, .slice ac_0 1 cc0, .slice ac_1 1 cc1, .slice ac_2 1 cc2] (0, 0) _ pc Try.underlying31 rfl (by kernel_rfl) ?_) | (refine wpList_load_row rfl 31 _ rfl (w4.heap.size) rfl 31 #[.int .i64 1, .int .i64 1, .int .u64 7, .slice ad_0 1 dc0, .slice ad_1 1 dc1, .slice ad_2 1 dc2] (0, 0) _ pd Try.underlying31 rfl (by kernel_rfl) ?_) | fail)
  refine (get1_ok _ 1 1 7 _ [1] [0] [1] (some ⟨w4.heap.size + 1, 0, none⟩) 1 1 [97] (hd.mono ((Below.refl _ _).alloc (Nat.le_refl _) (.cells #[.int .u8 97] 5 (1, 2)))) (bytesAtN (w4.alloc (.cells #[.int .i64 1, .int .i64 1, .int .u64 7, .slice ad_0 1 dc0, .slice ad_1 1 dc1, .slice ad_2 1 dc2] 31)) 97 (w4.heap.size + 1) (by simp) (by decide)) (f11 _)).mono ?_
  rintro e w5 ⟨rfl, b5⟩
  have C5 := ((Below.refl (w4.alloc (.cells #[.int .i64 1, .int .i64 1, .int .u64 7, .slice ad_0 1 dc0, .slice ad_1 1 dc1, .slice ad_2 1 dc2] 31)).heap.size (w4.alloc (.cells #[.int .i64 1, .int .i64 1, .int .u64 7, .slice ad_0 1 dc0, .slice ad_1 1 dc1, .slice ad_2 1 dc2] 31))).alloc (Nat.le_refl _) (.cells #[.int .u8 97] 5 (1, 2))).trans (b5.mono (by simp))
  replace hb := hb.mono C5
  replace pb := (C5.block _ zb).trans pb
  replace zb := Nat.lt_of_lt_of_le zb C5.size
  replace ha := ha.mono C5
  replace pa := (C5.block _ za).trans pa
  replace za := Nat.lt_of_lt_of_le za C5.size
  replace hc := hc.mono C5
  replace pc := (C5.block _ zc).trans pc
  replace zc := Nat.lt_of_lt_of_le zc C5.size
  replace hd := hd.mono C5
  replace pd := (C5.block _ zd).trans pd
  replace zd := Nat.lt_of_lt_of_le zd C5.size
  replace bt := below_then bt C5
  rw [f11]
  go_wp2_with (first | (refine wpList_load_row rfl 31 _ rfl (w1.heap.size) rfl 31 #[.int .i64 1, .int .i64 1, .int .u64 7, .slice ab_0 1 bc0, .slice ab_1 1 bc1, .slice ab_2 1 bc2] (0, 0) _ pb Try.underlying31 rfl (by kernel_rfl) ?_) | (refine wpList_load_row rfl 31 _ rfl (w2.heap.size) rfl 31 #[.int .i64 1, .int .i64 1, .int .u64 7, .slice aa_0 1 ac0, .slice aa_1 1 ac1, .slice aa_2 1 ac2] (0, 0) _ pa Try.underlying31 rfl (by kernel_rfl) ?_) | (refine wpList_load_row rfl 31 _ rfl (w3.heap.size) rfl 31 #[.int .i64 1, .int .i64 1, .int .u64 7, .slice ac_0 1 cc0, .slice ac_1 1 cc1, .slice ac_2 1 cc2] (0, 0) _ pc Try.underlying31 rfl (by kernel_rfl) ?_) | (refine wpList_load_row rfl 31 _ rfl (w4.heap.size) rfl 31 #[.int .i64 1, .int .i64 1, .int .u64 7, .slice ad_0 1 dc0, .slice ad_1 1 dc1, .slice ad_2 1 dc2] (0, 0) _ pd Try.underlying31 rfl (by kernel_rfl) ?_) | fail)
  refine (get0_ok _ 1 1 7 _ [1] [0] [1] (some ⟨w5.heap.size, 0, none⟩) 1 1 [97] (hd.mono ((Below.refl _ _).alloc (Nat.le_refl _) (.cells #[.int .u8 97] 5 (1, 2)))) (bytesAtN w5 97 (w5.heap.size) (by simp) (by decide)) (f11 _)).mono ?_
  rintro e w6 ⟨rfl, b6⟩
  have C6 := ((Below.refl w5.heap.size w5).alloc (Nat.le_refl _) (.cells #[.int .u8 97] 5 (1, 2))).trans (b6.mono (by simp))
  replace hb := hb.mono C6
  replace pb := (C6.block _ zb).trans pb
  replace zb := Nat.lt_of_lt_of_le zb C6.size
  replace ha := ha.mono C6
  replace pa := (C6.block _ za).trans pa
  replace za := Nat.lt_of_lt_of_le za C6.size
  replace hc := hc.mono C6
  replace pc := (C6.block _ zc).trans pc
  replace zc := Nat.lt_of_lt_of_le zc C6.size
  replace hd := hd.mono C6
  replace pd := (C6.block _ zd).trans pd
  replace zd := Nat.lt_of_lt_of_le zd C6.size
  replace bt := below_then bt C6
  rw [f01]
  go_wp2_with (first | (refine wpList_load_row rfl 31 _ rfl (w1.heap.size) rfl 31 #[.int .i64 1, .int .i64 1, .int .u64 7, .slice ab_0 1 bc0, .slice ab_1 1 bc1, .slice ab_2 1 bc2] (0, 0) _ pb Try.underlying31 rfl (by kernel_rfl) ?_) | (refine wpList_load_row rfl 31 _ rfl (w2.heap.size) rfl 31 #[.int .i64 1, .int .i64 1, .int .u64 7, .slice aa_0 1 ac0, .slice aa_1 1 ac1, .slice aa_2 1 ac2] (0, 0) _ pa Try.underlying31 rfl (by kernel_rfl) ?_) | (refine wpList_load_row rfl 31 _ rfl (w3.heap.size) rfl 31 #[.int .i64 1, .int .i64 1, .int .u64 7, .slice ac_0 1 cc0, .slice ac_1 1 cc1, .slice ac_2 1 cc2] (0, 0) _ pc Try.underlying31 rfl (by kernel_rfl) ?_) | (refine wpList_load_row rfl 31 _ rfl (w4.heap.size) rfl 31 #[.int .i64 1, .int .i64 1, .int .u64 7, .slice ad_0 1 dc0, .slice ad_1 1 dc1, .slice ad_2 1 dc2] (0, 0) _ pd Try.underlying31 rfl (by kernel_rfl) ?_) | fail)
  refine (get_none _ 1 1 7 _ [0] [0] [0] (some ⟨w6.heap.size, 0, none⟩) 1 1 [97] (hb.mono ((Below.refl _ _).alloc (Nat.le_refl _) (.cells #[.int .u8 97] 5 (1, 2)))) (bytesAtN w6 97 (w6.heap.size) (by simp) (by decide)) 0 (by decide) (f01 _)).mono ?_
  rintro e w7 ⟨rfl, b7⟩
  have C7 := ((Below.refl w6.heap.size w6).alloc (Nat.le_refl _) (.cells #[.int .u8 97] 5 (1, 2))).trans (b7.mono (by simp))
  replace hb := hb.mono C7
  replace pb := (C7.block _ zb).trans pb
  replace zb := Nat.lt_of_lt_of_le zb C7.size
  replace ha := ha.mono C7
  replace pa := (C7.block _ za).trans pa
  replace za := Nat.lt_of_lt_of_le za C7.size
  replace hc := hc.mono C7
  replace pc := (C7.block _ zc).trans pc
  replace zc := Nat.lt_of_lt_of_le zc C7.size
  replace hd := hd.mono C7
  replace pd := (C7.block _ zd).trans pd
  replace zd := Nat.lt_of_lt_of_le zd C7.size
  replace bt := below_then bt C7
  go_wp2_with (first | (refine wpList_load_row rfl 31 _ rfl (w1.heap.size) rfl 31 #[.int .i64 1, .int .i64 1, .int .u64 7, .slice ab_0 1 bc0, .slice ab_1 1 bc1, .slice ab_2 1 bc2] (0, 0) _ pb Try.underlying31 rfl (by kernel_rfl) ?_) | (refine wpList_load_row rfl 31 _ rfl (w2.heap.size) rfl 31 #[.int .i64 1, .int .i64 1, .int .u64 7, .slice aa_0 1 ac0, .slice aa_1 1 ac1, .slice aa_2 1 ac2] (0, 0) _ pa Try.underlying31 rfl (by kernel_rfl) ?_) | (refine wpList_load_row rfl 31 _ rfl (w3.heap.size) rfl 31 #[.int .i64 1, .int .i64 1, .int .u64 7, .slice ac_0 1 cc0, .slice ac_1 1 cc1, .slice ac_2 1 cc2] (0, 0) _ pc Try.underlying31 rfl (by kernel_rfl) ?_) | (refine wpList_load_row rfl 31 _ rfl (w4.heap.size) rfl 31 #[.int .i64 1, .int .i64 1, .int .u64 7, .slice ad_0 1 dc0, .slice ad_1 1 dc1, .slice ad_2 1 dc2] (0, 0) _ pd Try.underlying31 rfl (by kernel_rfl) ?_) | fail)
  refine (set_bad_at _ 1 1 7 1 1 7 1 rfl rfl rfl rfl _ [1] [0] [1] (some ⟨w7.heap.size, 0, none⟩) 1 1 [97] (hd.mono ((Below.refl _ _).alloc (Nat.le_refl _) (.cells #[.int .u8 97] 5 (1, 2)))) (bytesAtN w7 97 (w7.heap.size) (by simp) (by decide)) 2 (.inr (by decide))).mono ?_
  rintro e w8 ⟨ax_0, ax_1, ax_2, xc0, xc1, xc2, rfl, Hx, b8⟩
  have C8 := ((Below.refl w7.heap.size w7).alloc (Nat.le_refl _) (.cells #[.int .u8 97] 5 (1, 2))).trans (b8.mono (by simp))
  replace hb := hb.mono C8
  replace pb := (C8.block _ zb).trans pb
  replace zb := Nat.lt_of_lt_of_le zb C8.size
  replace ha := ha.mono C8
  replace pa := (C8.block _ za).trans pa
  replace za := Nat.lt_of_lt_of_le za C8.size
  replace hc := hc.mono C8
  replace pc := (C8.block _ zc).trans pc
  replace zc := Nat.lt_of_lt_of_le zc C8.size
  replace hd := hd.mono C8
  replace pd := (C8.block _ zd).trans pd
  replace zd := Nat.lt_of_lt_of_le zd C8.size
  replace bt := below_then bt C8
  have A8x := (Below.refl w8.heap.size w8).alloc (Nat.le_refl _) (.cells #[.int .i64 1, .int .i64 1, .int .u64 7, .slice ax_0 1 xc0, .slice ax_1 1 xc1, .slice ax_2 1 xc2] 31)
  replace hb := hb.mono A8x
  replace pb := (A8x.block _ zb).trans pb
  replace zb := Nat.lt_of_lt_of_le zb A8x.size
  replace ha := ha.mono A8x
  replace pa := (A8x.block _ za).trans pa
  replace za := Nat.lt_of_lt_of_le za A8x.size
  replace hc := hc.mono A8x
  replace pc := (A8x.block _ zc).trans pc
  replace zc := Nat.lt_of_lt_of_le zc A8x.size
  replace hd := hd.mono A8x
  replace pd := (A8x.block _ zd).trans pd
  replace zd := Nat.lt_of_lt_of_le zd A8x.size
  replace bt := below_then bt A8x
  have px : (w8.alloc (.cells #[.int .i64 1, .int .i64 1, .int .u64 7, .slice ax_0 1 xc0, .slice ax_1 1 xc1, .slice ax_2 1 xc2] 31)).heap[w8.heap.size]? = some (.cells #[.int .i64 1, .int .i64 1, .int .u64 7, .slice ax_0 1 xc0, .slice ax_1 1 xc1, .slice ax_2 1 xc2] 31 (0, 0)) := heap_alloc_new _ _
  have zx : w8.heap.size < (w8.alloc (.cells #[.int .i64 1, .int .i64 1, .int .u64 7, .slice ax_0 1 xc0, .slice ax_1 1 xc1, .slice ax_2 1 xc2] 31)).heap.size := by simp
  go_wp2_with (first | (refine wpList_load_row rfl 31 _ rfl (w1.heap.size) rfl 31 #[.int .i64 1, .int .i64 1, .int .u64 7, .slice ab_0 1 bc0, .slice ab_1 1 bc1, .slice ab_2 1 bc2] (0, 0) _ pb Try.underlying31 rfl (by kernel_rfl) ?_) | (refine wpList_load_row rfl 31 _ rfl (w2.heap.size) rfl 31 #[.int .i64 1, .int .i64 1, .int .u64 7, .slice aa_0 1 ac0, .slice aa_1 1 ac1, .slice aa_2 1 ac2] (0, 0) _ pa Try.underlying31 rfl (by kernel_rfl) ?_) | (refine wpList_load_row rfl 31 _ rfl (w3.heap.size) rfl 31 #[.int .i64 1, .int .i64 1, .int .u64 7, .slice ac_0 1 cc0, .slice ac_1 1 cc1, .slice ac_2 1 cc2] (0, 0) _ pc Try.underlying31 rfl (by kernel_rfl) ?_) | (refine wpList_load_row rfl 31 _ rfl (w4.heap.size) rfl 31 #[.int .i64 1, .int .i64 1, .int .u64 7, .slice ad_0 1 dc0, .slice ad_1 1 dc1, .slice ad_2 1 dc2] (0, 0) _ pd Try.underlying31 rfl (by kernel_rfl) ?_) | (refine wpList_load_row rfl 31 _ rfl (w8.heap.size) rfl 31 #[.int .i64 1, .int .i64 1, .int .u64 7, .slice ax_0 1 xc0, .slice ax_1 1 xc1, .slice ax_2 1 xc2] (0, 0) _ px Try.underlying31 rfl (by kernel_rfl) ?_) | fail)
  refine (new_bad _ 0 1 7 (by decide)).mono ?_
  rintro e w9 ⟨rfl, b9⟩
  replace hb := hb.mono b9
  replace pb := (b9.block _ zb).trans pb
  replace zb := Nat.lt_of_lt_of_le zb b9.size
  replace ha := ha.mono b9
  replace pa := (b9.block _ za).trans pa
  replace za := Nat.lt_of_lt_of_le za b9.size
  replace hc := hc.mono b9
  replace pc := (b9.block _ zc).trans pc
  replace zc := Nat.lt_of_lt_of_le zc b9.size
  replace hd := hd.mono b9
  replace pd := (b9.block _ zd).trans pd
  replace zd := Nat.lt_of_lt_of_le zd b9.size
  replace px := (b9.block _ zx).trans px
  replace zx := Nat.lt_of_lt_of_le zx b9.size
  replace bt := below_then bt b9
  have A9y := (Below.refl w9.heap.size w9).alloc (Nat.le_refl _) (.cells #[.int .i64 0, .int .i64 0, .int .u64 0, .slice none 0 0, .slice none 0 0, .slice none 0 0] 31)
  replace hb := hb.mono A9y
  replace pb := (A9y.block _ zb).trans pb
  replace zb := Nat.lt_of_lt_of_le zb A9y.size
  replace ha := ha.mono A9y
  replace pa := (A9y.block _ za).trans pa
  replace za := Nat.lt_of_lt_of_le za A9y.size
  replace hc := hc.mono A9y
  replace pc := (A9y.block _ zc).trans pc
  replace zc := Nat.lt_of_lt_of_le zc A9y.size
  replace hd := hd.mono A9y
  replace pd := (A9y.block _ zd).trans pd
  replace zd := Nat.lt_of_lt_of_le zd A9y.size
  replace px := (A9y.block _ zx).trans px
  replace zx := Nat.lt_of_lt_of_le zx A9y.size
  replace bt := below_then bt A9y
  have py : (w9.alloc (.cells #[.int .i64 0, .int .i64 0, .int .u64 0, .slice none 0 0, .slice none 0 0, .slice none 0 0] 31)).heap[w9.heap.size]? = some (.cells #[.int .i64 0, .int .i64 0, .int .u64 0, .slice none 0 0, .slice none 0 0, .slice none 0 0] 31 (0, 0)) := heap_alloc_new _ _
  have zy : w9.heap.size < (w9.alloc (.cells #[.int .i64 0, .int .i64 0, .int .u64 0, .slice none 0 0, .slice none 0 0, .slice none 0 0] 31)).heap.size := by simp
  have qd_0 : ((w9.alloc (.cells #[.int .i64 0, .int .i64 0, .int .u64 0, .slice none 0 0, .slice none 0 0, .slice none 0 0] 31))).cell? ⟨w4.heap.size, 0, none⟩ = some (.int .i64 1) := cell_of_row _ _ 0 _ _ _ pd
  have qd_1 : ((w9.alloc (.cells #[.int .i64 0, .int .i64 0, .int .u64 0, .slice none 0 0, .slice none 0 0, .slice none 0 0] 31))).cell? ⟨w4.heap.size, 1, none⟩ = some (.int .i64 1) := cell_of_row _ _ 1 _ _ _ pd
  have qd_2 : ((w9.alloc (.cells #[.int .i64 0, .int .i64 0, .int .u64 0, .slice none 0 0, .slice none 0 0, .slice none 0 0] 31))).cell? ⟨w4.heap.size, 2, none⟩ = some (.int .u64 7) := cell_of_row _ _ 2 _ _ _ pd
  have qd_3 : ((w9.alloc (.cells #[.int .i64 0, .int .i64 0, .int .u64 0, .slice none 0 0, .slice none 0 0, .slice none 0 0] 31))).cell? ⟨w4.heap.size, 3, none⟩ = some (.slice ad_0 1 dc0) := cell_of_row _ _ 3 _ _ _ pd
  have qd_4 : ((w9.alloc (.cells #[.int .i64 0, .int .i64 0, .int .u64 0, .slice none 0 0, .slice none 0 0, .slice none 0 0] 31))).cell? ⟨w4.heap.size, 4, none⟩ = some (.slice ad_1 1 dc1) := cell_of_row _ _ 4 _ _ _ pd
  have qd_5 : ((w9.alloc (.cells #[.int .i64 0, .int .i64 0, .int .u64 0, .slice none 0 0, .slice none 0 0, .slice none 0 0] 31))).cell? ⟨w4.heap.size, 5, none⟩ = some (.slice ad_2 1 dc2) := cell_of_row _ _ 5 _ _ _ pd
  go_wp2_with (first | (refine wpList_load_row rfl 31 _ rfl (w1.heap.size) rfl 31 #[.int .i64 1, .int .i64 1, .int .u64 7, .slice ab_0 1 bc0, .slice ab_1 1 bc1, .slice ab_2 1 bc2] (0, 0) _ pb Try.underlying31 rfl (by kernel_rfl) ?_) | (refine wpList_load_row rfl 31 _ rfl (w2.heap.size) rfl 31 #[.int .i64 1, .int .i64 1, .int .u64 7, .slice aa_0 1 ac0, .slice aa_1 1 ac1, .slice aa_2 1 ac2] (0, 0) _ pa Try.underlying31 rfl (by kernel_rfl) ?_) | (refine wpList_load_row rfl 31 _ rfl (w3.heap.size) rfl 31 #[.int .i64 1, .int .i64 1, .int .u64 7, .slice ac_0 1 cc0, .slice ac_1 1 cc1, .slice ac_2 1 cc2] (0, 0) _ pc Try.underlying31 rfl (by kernel_rfl) ?_) | (refine wpList_load_row rfl 31 _ rfl (w4.heap.size) rfl 31 #[.int .i64 1, .int .i64 1, .int .u64 7, .slice ad_0 1 dc0, .slice ad_1 1 dc1, .slice ad_2 1 dc2] (0, 0) _ pd Try.underlying31 rfl (by kernel_rfl) ?_) | (refine wpList_load_row rfl 31 _ rfl (w8.heap.size) rfl 31 #[.int .i64 1, .int .i64 1, .int .u64 7, .slice ax_0 1 xc0, .slice ax_1 1 xc1, .slice ax_2 1 xc2] (0, 0) _ px Try.underlying31 rfl (by kernel_rfl) ?_) | (refine wpList_load_row rfl 31 _ rfl (w9.heap.size) rfl 31 #[.int .i64 0, .int .i64 0, .int .u64 0, .slice none 0 0, .slice none 0 0, .slice none 0 0] (0, 0) _ py Try.underlying31 rfl (by kernel_rfl) ?_) | fail)
  refine (ones_any _ 1 1 7 _ [1] [0] [1] hd).mono ?_
  rintro e w10 ⟨rfl, b10⟩
  replace hb := hb.mono b10
  replace pb := (b10.block _ zb).trans pb
  replace zb := Nat.lt_of_lt_of_le zb b10.size
  replace ha := ha.mono b10
  replace pa := (b10.block _ za).trans pa
  replace za := Nat.lt_of_lt_of_le za b10.size
  replace hc := hc.mono b10
  replace pc := (b10.block _ zc).trans pc
  replace zc := Nat.lt_of_lt_of_le zc b10.size
  replace hd := hd.mono b10
  replace pd := (b10.block _ zd).trans pd
  replace zd := Nat.lt_of_lt_of_le zd b10.size
  replace px := (b10.block _ zx).trans px
  replace zx := Nat.lt_of_lt_of_le zx b10.size
  replace py := (b10.block _ zy).trans py
  replace zy := Nat.lt_of_lt_of_le zy b10.size
  replace bt := below_then bt b10
  rw [ones1]
  have qxb_0 : (w10).cell? ⟨w1.heap.size, 0, none⟩ = some (.int .i64 1) := cell_of_row _ _ 0 _ _ _ pb
  have qxb_1 : (w10).cell? ⟨w1.heap.size, 1, none⟩ = some (.int .i64 1) := cell_of_row _ _ 1 _ _ _ pb
  have qxb_2 : (w10).cell? ⟨w1.heap.size, 2, none⟩ = some (.int .u64 7) := cell_of_row _ _ 2 _ _ _ pb
  have qxb_3 : (w10).cell? ⟨w1.heap.size, 3, none⟩ = some (.slice ab_0 1 bc0) := cell_of_row _ _ 3 _ _ _ pb
  have qxb_4 : (w10).cell? ⟨w1.heap.size, 4, none⟩ = some (.slice ab_1 1 bc1) := cell_of_row _ _ 4 _ _ _ pb
  have qxb_5 : (w10).cell? ⟨w1.heap.size, 5, none⟩ = some (.slice ab_2 1 bc2) := cell_of_row _ _ 5 _ _ _ pb
  go_wp2_with (first | (refine wpList_load_row rfl 31 _ rfl (w1.heap.size) rfl 31 #[.int .i64 1, .int .i64 1, .int .u64 7, .slice ab_0 1 bc0, .slice ab_1 1 bc1, .slice ab_2 1 bc2] (0, 0) _ pb Try.underlying31 rfl (by kernel_rfl) ?_) | (refine wpList_load_row rfl 31 _ rfl (w2.heap.size) rfl 31 #[.int .i64 1, .int .i64 1, .int .u64 7, .slice aa_0 1 ac0, .slice aa_1 1 ac1, .slice aa_2 1 ac2] (0, 0) _ pa Try.underlying31 rfl (by kernel_rfl) ?_) | (refine wpList_load_row rfl 31 _ rfl (w3.heap.size) rfl 31 #[.int .i64 1, .int .i64 1, .int .u64 7, .slice ac_0 1 cc0, .slice ac_1 1 cc1, .slice ac_2 1 cc2] (0, 0) _ pc Try.underlying31 rfl (by kernel_rfl) ?_) | (refine wpList_load_row rfl 31 _ rfl (w4.heap.size) rfl 31 #[.int .i64 1, .int .i64 1, .int .u64 7, .slice ad_0 1 dc0, .slice ad_1 1 dc1, .slice ad_2 1 dc2] (0, 0) _ pd Try.underlying31 rfl (by kernel_rfl) ?_) | (refine wpList_load_row rfl 31 _ rfl (w8.heap.size) rfl 31 #[.int .i64 1, .int .i64 1, .int .u64 7, .slice ax_0 1 xc0, .slice ax_1 1 xc1, .slice ax_2 1 xc2] (0, 0) _ px Try.underlying31 rfl (by kernel_rfl) ?_) | (refine wpList_load_row rfl 31 _ rfl (w9.heap.size) rfl 31 #[.int .i64 0, .int .i64 0, .int .u64 0, .slice none 0 0, .slice none 0 0, .slice none 0 0] (0, 0) _ py Try.underlying31 rfl (by kernel_rfl) ?_) | fail)
  refine (ones_any _ 1 1 7 _ [0] [0] [0] hb).mono ?_
  rintro e w11 ⟨rfl, b11⟩
  replace hb := hb.mono b11
  replace pb := (b11.block _ zb).trans pb
  replace zb := Nat.lt_of_lt_of_le zb b11.size
  replace ha := ha.mono b11
  replace pa := (b11.block _ za).trans pa
  replace za := Nat.lt_of_lt_of_le za b11.size
  replace hc := hc.mono b11
  replace pc := (b11.block _ zc).trans pc
  replace zc := Nat.lt_of_lt_of_le zc b11.size
  replace hd := hd.mono b11
  replace pd := (b11.block _ zd).trans pd
  replace zd := Nat.lt_of_lt_of_le zd b11.size
  replace px := (b11.block _ zx).trans px
  replace zx := Nat.lt_of_lt_of_le zx b11.size
  replace py := (b11.block _ zy).trans py
  replace zy := Nat.lt_of_lt_of_le zy b11.size
  replace bt := below_then bt b11
  rw [ones0]
  have qc_0 : (w11).cell? ⟨w3.heap.size, 0, none⟩ = some (.int .i64 1) := cell_of_row _ _ 0 _ _ _ pc
  have qc_1 : (w11).cell? ⟨w3.heap.size, 1, none⟩ = some (.int .i64 1) := cell_of_row _ _ 1 _ _ _ pc
  have qc_2 : (w11).cell? ⟨w3.heap.size, 2, none⟩ = some (.int .u64 7) := cell_of_row _ _ 2 _ _ _ pc
  have qc_3 : (w11).cell? ⟨w3.heap.size, 3, none⟩ = some (.slice ac_0 1 cc0) := cell_of_row _ _ 3 _ _ _ pc
  have qc_4 : (w11).cell? ⟨w3.heap.size, 4, none⟩ = some (.slice ac_1 1 cc1) := cell_of_row _ _ 4 _ _ _ pc
  have qc_5 : (w11).cell? ⟨w3.heap.size, 5, none⟩ = some (.slice ac_2 1 cc2) := cell_of_row _ _ 5 _ _ _ pc
  go_wp2_with (first | (refine wpList_load_row rfl 31 _ rfl (w1.heap.size) rfl 31 #[.int .i64 1, .int .i64 1, .int .u64 7, .slice ab_0 1 bc0, .slice ab_1 1 bc1, .slice ab_2 1 bc2] (0, 0) _ pb Try.underlying31 rfl (by kernel_rfl) ?_) | (refine wpList_load_row rfl 31 _ rfl (w2.heap.size) rfl 31 #[.int .i64 1, .int .i64 1, .int .u64 7, .slice aa_0 1 ac0, .slice aa_1 1 ac1, .slice aa_2 1 ac2] (0, 0) _ pa Try.underlying31 rfl (by kernel_rfl) ?_) | (refine wpList_load_row rfl 31 _ rfl (w3.heap.size) rfl 31 #[.int .i64 1, .int .i64 1, .int .u64 7, .slice ac_0 1 cc0, .slice ac_1 1 cc1, .slice ac_2 1 cc2] (0, 0) _ pc Try.underlying31 rfl (by kernel_rfl) ?_) | (refine wpList_load_row rfl 31 _ rfl (w4.heap.size) rfl 31 #[.int .i64 1, .int .i64 1, .int .u64 7, .slice ad_0 1 dc0, .slice ad_1 1 dc1, .slice ad_2 1 dc2] (0, 0) _ pd Try.underlying31 rfl (by kernel_rfl) ?_) | (refine wpList_load_row rfl 31 _ rfl (w8.heap.size) rfl 31 #[.int .i64 1, .int .i64 1, .int .u64 7, .slice ax_0 1 xc0, .slice ax_1 1 xc1, .slice ax_2 1 xc2] (0, 0) _ px Try.underlying31 rfl (by kernel_rfl) ?_) | (refine wpList_load_row rfl 31 _ rfl (w9.heap.size) rfl 31 #[.int .i64 0, .int .i64 0, .int .u64 0, .slice none 0 0, .slice none 0 0, .slice none 0 0] (0, 0) _ py Try.underlying31 rfl (by kernel_rfl) ?_) | fail)
  refine (member_any _ 1 1 7 _ [1] [0] [0] (some ⟨w11.heap.size, 0, none⟩) 1 1 [122] (hc.mono ((Below.refl _ _).alloc (Nat.le_refl _) (.cells #[.int .u8 122] 5 (1, 2)))) (bytesAtN w11 122 (w11.heap.size) (by simp) (by decide))).mono ?_
  rintro e w12 ⟨rfl, b12⟩
  have C12 := ((Below.refl w11.heap.size w11).alloc (Nat.le_refl _) (.cells #[.int .u8 122] 5 (1, 2))).trans (b12.mono (by simp))
  replace hb := hb.mono C12
  replace pb := (C12.block _ zb).trans pb
  replace zb := Nat.lt_of_lt_of_le zb C12.size
  replace ha := ha.mono C12
  replace pa := (C12.block _ za).trans pa
  replace za := Nat.lt_of_lt_of_le za C12.size
  replace hc := hc.mono C12
  replace pc := (C12.block _ zc).trans pc
  replace zc := Nat.lt_of_lt_of_le zc C12.size
  replace hd := hd.mono C12
  replace pd := (C12.block _ zd).trans pd
  replace zd := Nat.lt_of_lt_of_le zd C12.size
  replace px := (C12.block _ zx).trans px
  replace zx := Nat.lt_of_lt_of_le zx C12.size
  replace py := (C12.block _ zy).trans py
  replace zy := Nat.lt_of_lt_of_le zy C12.size
  replace bt := below_then bt C12
  rw [f11]
  have qyb_0 : (w12).cell? ⟨w1.heap.size, 0, none⟩ = some (.int .i64 1) := cell_of_row _ _ 0 _ _ _ pb
  have qyb_1 : (w12).cell? ⟨w1.heap.size, 1, none⟩ = some (.int .i64 1) := cell_of_row _ _ 1 _ _ _ pb
  have qyb_2 : (w12).cell? ⟨w1.heap.size, 2, none⟩ = some (.int .u64 7) := cell_of_row _ _ 2 _ _ _ pb
  have qyb_3 : (w12).cell? ⟨w1.heap.size, 3, none⟩ = some (.slice ab_0 1 bc0) := cell_of_row _ _ 3 _ _ _ pb
  have qyb_4 : (w12).cell? ⟨w1.heap.size, 4, none⟩ = some (.slice ab_1 1 bc1) := cell_of_row _ _ 4 _ _ _ pb
  have qyb_5 : (w12).cell? ⟨w1.heap.size, 5, none⟩ = some (.slice ab_2 1 bc2) := cell_of_row _ _ 5 _ _ _ pb
  go_wp2_with (first | (refine wpList_load_row rfl 31 _ rfl (w1.heap.size) rfl 31 #[.int .i64 1, .int .i64 1, .int .u64 7, .slice ab_0 1 bc0, .slice ab_1 1 bc1, .slice ab_2 1 bc2] (0, 0) _ pb Try.underlying31 rfl (by kernel_rfl) ?_) | (refine wpList_load_row rfl 31 _ rfl (w2.heap.size) rfl 31 #[.int .i64 1, .int .i64 1, .int .u64 7, .slice aa_0 1 ac0, .slice aa_1 1 ac1, .slice aa_2 1 ac2] (0, 0) _ pa Try.underlying31 rfl (by kernel_rfl) ?_) | (refine wpList_load_row rfl 31 _ rfl (w3.heap.size) rfl 31 #[.int .i64 1, .int .i64 1, .int .u64 7, .slice ac_0 1 cc0, .slice ac_1 1 cc1, .slice ac_2 1 cc2] (0, 0) _ pc Try.underlying31 rfl (by kernel_rfl) ?_) | (refine wpList_load_row rfl 31 _ rfl (w4.heap.size) rfl 31 #[.int .i64 1, .int .i64 1, .int .u64 7, .slice ad_0 1 dc0, .slice ad_1 1 dc1, .slice ad_2 1 dc2] (0, 0) _ pd Try.underlying31 rfl (by kernel_rfl) ?_) | (refine wpList_load_row rfl 31 _ rfl (w8.heap.size) rfl 31 #[.int .i64 1, .int .i64 1, .int .u64 7, .slice ax_0 1 xc0, .slice ax_1 1 xc1, .slice ax_2 1 xc2] (0, 0) _ px Try.underlying31 rfl (by kernel_rfl) ?_) | (refine wpList_load_row rfl 31 _ rfl (w9.heap.size) rfl 31 #[.int .i64 0, .int .i64 0, .int .u64 0, .slice none 0 0, .slice none 0 0, .slice none 0 0] (0, 0) _ py Try.underlying31 rfl (by kernel_rfl) ?_) | fail)
  refine (member_any _ 1 1 7 _ [0] [0] [0] (some ⟨w12.heap.size, 0, none⟩) 1 1 [122] (hb.mono ((Below.refl _ _).alloc (Nat.le_refl _) (.cells #[.int .u8 122] 5 (1, 2)))) (bytesAtN w12 122 (w12.heap.size) (by simp) (by decide))).mono ?_
  rintro e w13 ⟨rfl, b13⟩
  have C13 := ((Below.refl w12.heap.size w12).alloc (Nat.le_refl _) (.cells #[.int .u8 122] 5 (1, 2))).trans (b13.mono (by simp))
  replace hb := hb.mono C13
  replace pb := (C13.block _ zb).trans pb
  replace zb := Nat.lt_of_lt_of_le zb C13.size
  replace ha := ha.mono C13
  replace pa := (C13.block _ za).trans pa
  replace za := Nat.lt_of_lt_of_le za C13.size
  replace hc := hc.mono C13
  replace pc := (C13.block _ zc).trans pc
  replace zc := Nat.lt_of_lt_of_le zc C13.size
  replace hd := hd.mono C13
  replace pd := (C13.block _ zd).trans pd
  replace zd := Nat.lt_of_lt_of_le zd C13.size
  replace px := (C13.block _ zx).trans px
  replace zx := Nat.lt_of_lt_of_le zx C13.size
  replace py := (C13.block _ zy).trans py
  replace zy := Nat.lt_of_lt_of_le zy C13.size
  replace bt := below_then bt C13
  rw [f01]
  go_wp2_with (first | (refine wpList_load_row rfl 31 _ rfl (w1.heap.size) rfl 31 #[.int .i64 1, .int .i64 1, .int .u64 7, .slice ab_0 1 bc0, .slice ab_1 1 bc1, .slice ab_2 1 bc2] (0, 0) _ pb Try.underlying31 rfl (by kernel_rfl) ?_) | (refine wpList_load_row rfl 31 _ rfl (w2.heap.size) rfl 31 #[.int .i64 1, .int .i64 1, .int .u64 7, .slice aa_0 1 ac0, .slice aa_1 1 ac1, .slice aa_2 1 ac2] (0, 0) _ pa Try.underlying31 rfl (by kernel_rfl) ?_) | (refine wpList_load_row rfl 31 _ rfl (w3.heap.size) rfl 31 #[.int .i64 1, .int .i64 1, .int .u64 7, .slice ac_0 1 cc0, .slice ac_1 1 cc1, .slice ac_2 1 cc2] (0, 0) _ pc Try.underlying31 rfl (by kernel_rfl) ?_) | (refine wpList_load_row rfl 31 _ rfl (w4.heap.size) rfl 31 #[.int .i64 1, .int .i64 1, .int .u64 7, .slice ad_0 1 dc0, .slice ad_1 1 dc1, .slice ad_2 1 dc2] (0, 0) _ pd Try.underlying31 rfl (by kernel_rfl) ?_) | (refine wpList_load_row rfl 31 _ rfl (w8.heap.size) rfl 31 #[.int .i64 1, .int .i64 1, .int .u64 7, .slice ax_0 1 xc0, .slice ax_1 1 xc1, .slice ax_2 1 xc2] (0, 0) _ px Try.underlying31 rfl (by kernel_rfl) ?_) | (refine wpList_load_row rfl 31 _ rfl (w9.heap.size) rfl 31 #[.int .i64 0, .int .i64 0, .int .u64 0, .slice none 0 0, .slice none 0 0, .slice none 0 0] (0, 0) _ py Try.underlying31 rfl (by kernel_rfl) ?_) | fail)
  go_ret
  exact ⟨rfl, bt⟩
end Go.Proofs.Ytcnpomejdnpegaa
