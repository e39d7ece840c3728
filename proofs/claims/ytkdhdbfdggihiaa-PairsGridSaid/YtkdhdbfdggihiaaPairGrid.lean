/- PairsGrid returns true (by gen05g.py). -/
import Derived.Test.YtkdhdbfdggihiaaPairD
namespace Go.Proofs.Ytkdhdbfdggihiaa
open Go.RowKit
set_option linter.unusedVariables false
set_option linter.unusedSimpArgs false

/-- The pair of a place of the grid. -/
def gA (fr K t : Nat) : Nat := (fr + t / K) % 4294967296
def gB (fr K t : Nat) : Nat := (fr + 4294967296 - t % K) % 4294967296
def gridL (fr K m : Nat) : List (List Nat) := (List.range m).map fun t => pk (gA fr K t) (gB fr K t)
theorem gridL_len (fr K m : Nat) : (gridL fr K m).length = m := by simp [gridL]
theorem gridL_succ (fr K m : Nat) : gridL fr K (m + 1) = gridL fr K m ++ [pk (gA fr K m) (gB fr K m)] := by simp [gridL, List.range_succ]
theorem gA_lt (fr K t : Nat) : gA fr K t < 4294967296 := Nat.mod_lt _ (by decide)
theorem gB_lt (fr K t : Nat) : gB fr K t < 4294967296 := Nat.mod_lt _ (by decide)
theorem grid_inj {fr K s t : Nat} (hf : fr < 4294967296) (hK : 0 < K) (hK2 : K ≤ 12) (hs : s < 200) (ht : t < 200) (h : pk (gA fr K s) (gB fr K s) = pk (gA fr K t) (gB fr K t)) : s = t := by
  obtain ⟨h1, h2⟩ := pk_inj (gA_lt _ _ _) (gB_lt _ _ _) (gA_lt _ _ _) (gB_lt _ _ _) h
  unfold gA at h1
  unfold gB at h2
  have m1 := Nat.mod_lt s hK
  have m2 := Nat.mod_lt t hK
  have d1 : s / K ≤ s := Nat.div_le_self _ _
  have d2 : t / K ≤ t := Nat.div_le_self _ _
  have e1 : s / K = t / K := by
    generalize s / K = x at *
    generalize t / K = y at *
    omega
  have e2 : s % K = t % K := by
    generalize s % K = x at *
    generalize t % K = y at *
    omega
  rw [← Nat.div_add_mod s K, ← Nat.div_add_mod t K, e1, e2]
theorem gridL_new {fr K m t : Nat} (hf : fr < 4294967296) (hK : 0 < K) (hK2 : K ≤ 12) (hm : m ≤ t) (ht : t < 200) : pk (gA fr K t) (gB fr K t) ∉ gridL fr K m := by
  intro h
  obtain ⟨s, hs, he⟩ := List.mem_map.1 h
  have hs := List.mem_range.1 hs
  have := grid_inj hf hK hK2 (by omega) ht he
  omega
theorem gridL_nodup {fr K m : Nat} (hf : fr < 4294967296) (hK : 0 < K) (hK2 : K ≤ 12) (hm : m ≤ 200) : (gridL fr K m).Nodup := by
  induction m with
  | zero => exact List.nodup_nil
  | succ m ih =>
    rw [gridL_succ, List.nodup_append]
    exact ⟨ih (by omega), by simp, fun a ha b hb e => gridL_new hf hK hK2 (Nat.le_refl m) (by omega) (by rw [← List.mem_singleton.1 hb, ← e]; exact ha)⟩
theorem gridL_get {fr K m t : Nat} (ht : t < m) : (gridL fr K m).getD t [] = pk (gA fr K t) (gB fr K t) := by
  rw [List.getD_eq_getElem?_getD, gridL, List.getElem?_map, List.getElem?_range ht]
  rfl
theorem gridL_short (fr K m : Nat) : ∀ k ∈ gridL fr K m, k.length ≤ 1000000 := by
  intro k hk
  obtain ⟨t, _, rfl⟩ := List.mem_map.1 hk
  rw [pk_len]
  decide
theorem gA_int (fr K t i : Nat) (h : t / K = i) : (((fr : Nat) : Int) + (i : Nat)) % 4294967296 = ((gA fr K t : Nat) : Int) := by
  unfold gA
  rw [h]
  omega
theorem gB_int (fr K t j : Nat) (h : t % K = j) (hj : j < 4294967296) : (((fr : Nat) : Int) - (j : Nat)) % 4294967296 = ((gB fr K t : Nat) : Int) := by
  unfold gB
  rw [h]
  omega
set_option maxRecDepth 100000 in
set_option maxHeartbeats 8000000 in
theorem pairsgrid_any (w : World) (n fr le : Nat) (hn : n < 256) (hf : fr < 4294967296) (hle : le < 256) :
    Calls Try.prog 5 #[.int .u8 (n : Nat), .int .u32 (fr : Nat), .int .u8 (le : Nat)] w fun e w' => e = .returned (.bool true) ∧ Below w.heap.size w w' := by
  obtain ⟨K, hK⟩ : ∃ K, n % 13 = K := ⟨_, rfl⟩
  have hK12 : K ≤ 12 := by omega
  have k1 : ((n : Nat) : Int).tmod 13 = (K : Nat) := by rw [Int.tmod_eq_emod_of_nonneg (by omega)]; omega
  have k2 : ((n : Nat) : Int) % 13 = (K : Nat) := by omega
  obtain ⟨L, hL⟩ : ∃ L, le % 9 = L := ⟨_, rfl⟩
  have hL8 : L ≤ 8 := by omega
  have l1 : ((le : Nat) : Int).tmod 9 = (L : Nat) := by rw [Int.tmod_eq_emod_of_nonneg (by omega)]; omega
  have l2 : ((le : Nat) : Int) % 9 = (L : Nat) := by omega
  clear hK hL
  obtain ⟨Q, hQ⟩ : ∃ Q, K * K = Q := ⟨_, rfl⟩
  have q1 : ((K : Nat) : Int) * (K : Nat) = (Q : Nat) := by rw [← hQ]; simp
  have hQ2 : Q ≤ 144 := by rw [← hQ]; exact Nat.mul_le_mul hK12 hK12
  have HQ := Lib.hid hQ
  clear hQ
  obtain ⟨R, hR⟩ : ∃ R, Q - L = R := ⟨_, rfl⟩
  have hRQ : R ≤ Q := by omega
  have HR := Lib.hid hR
  go_enter Try.func5, Try.ntmps5
  go_wp2_with fail
  refine (shown_any _).mono ?_
  rintro e w0 ⟨rfl, bt⟩
  go_upto_if 35 with fail
  go_cut [9] from 27 to 35 (fun v9 w' => v9 = .int .i64 (R : Nat) ∧ w0 = w')
  case first =>
    by_cases hQL : Q < L
    · have f0 : decide ((Q : Int) < (L : Int)) = true := by simp; omega
      go_wp2_with fail
      go_meet
      exact ⟨by rw [show R = 0 by omega]; rfl, rfl⟩
    · have f0 : decide ((Q : Int) < (L : Int)) = false := by simp; omega
      go_wp2_with fail
      go_meet
      exact ⟨by rw [show (R : Int) = (Q : Int) - (L : Int) by omega], rfl⟩
  case rest =>
  obtain ⟨rfl, rfl⟩ := hcut
  clear hR l1 l2 k1 k2
  have hR144 : R ≤ 144 := by omega
  go_wp2_with fail
  refine (newP_ok _ (R : Nat) (by omega)).mono ?_
  rintro e w1 ⟨rfl, b1⟩
  replace bt := below_then bt b1
  clear b1
  have hB := bt.size
  have A := (Below.refl w1.heap.size w1).alloc (Nat.le_refl _) (.cells #[.int .i64 (R : Nat), .slice none 0 0, .slice none 0 0] 32)
  have pt : (w1.alloc (.cells #[.int .i64 (R : Nat), .slice none 0 0, .slice none 0 0] 32)).heap[w1.heap.size]? = some (.cells #[.int .i64 (R : Nat), .slice none 0 0, .slice none 0 0] 32 (0, 0)) := heap_alloc_new _ _
  replace bt := below_then bt A
  go_upto_region 7 with (first | fail)
  obtain ⟨v1, hv⟩ : ∃ v, w1.alloc (.cells #[.int .i64 (R : Nat), .slice none 0 0, .slice none 0 0] 32) = v := ⟨_, rfl⟩
  obtain ⟨gt, hg⟩ : ∃ g, w1.heap.size = g := ⟨_, rfl⟩
  rw [hv] at pt bt ⊢
  rw [hg] at pt ⊢
  rw [hg] at hB
  clear hv hg A
  have Mt := TabM.empty v1 w.heap.size
  go_wp2_with fail
  go_loopw [12] (fun i w' => ∃ (i0 m : Nat) (ka : Option Addr) (kc : Nat) (sa : Option Addr) (sl sc : Nat) (s : List Int) (rs : List (Nat × Nat)), i0 ≤ K ∧ m = min (i0 * K) R ∧ i = .int .i64 (i0 : Nat) ∧ w'.heap[gt]? = some (.cells #[.int .i64 (R : Nat), .slice ka m kc, .slice sa sl sc] 32 (0, 0)) ∧ TabM w' w.heap.size ka m kc sa sl sc (gridL fr K m) s rs ∧ Below w.heap.size w w') (fun i _ => K - (intOf i).toNat)
  case atStart => exact ⟨0, 0, none, 0, none, 0, 0, [], [], Nat.zero_le _, by simp, rfl, pt, Mt, bt⟩
  case round =>
    clear pt Mt bt
    obtain ⟨i0, m, ka, kc, sa, sl, sc, s, rs, hi, hm, rfl, pt, Mt, bt⟩ := hrel
    by_cases hiK : i0 < K
    · have f3 : decide (i0 < K) = true := by simpa using hiK
      obtain ⟨C, hC⟩ : ∃ C, i0 * K = C := ⟨_, rfl⟩
      have hC1 : ((i0 : Nat) : Int) * (K : Nat) = (C : Nat) := by rw [← hC]; simp
      have hCQ : C + K ≤ Q := by
        have h1 : (i0 + 1) * K ≤ K * K := Nat.mul_le_mul_right K hiK
        rw [Nat.add_mul, hC, HQ.out] at h1
        omega
      have hdiv : ∀ j, j < K → (C + j) / K = i0 ∧ (C + j) % K = j := fun j hj => by
        rw [← hC, Nat.mul_comm]
        exact ⟨by rw [Nat.mul_add_div (by omega), Nat.div_eq_of_lt hj]; omega, by rw [Nat.mul_add_mod, Nat.mod_eq_of_lt hj]⟩
      have hnext : (i0 + 1) * K = C + K := by rw [Nat.add_mul, hC]; omega
      rw [hC] at hm
      have HNX := Lib.hid hnext
      have HDV := Lib.hid hdiv
      have HM := Lib.hid hm
      clear hC hnext hdiv hm
      go_wp2_with fail
      go_loopw [13] (fun jj w' => ∃ (j m : Nat) (ka : Option Addr) (kc : Nat) (sa : Option Addr) (sl sc : Nat) (s : List Int) (rs : List (Nat × Nat)), j ≤ K ∧ m = min (C + j) R ∧ jj = .int .i64 (j : Nat) ∧ w'.heap[gt]? = some (.cells #[.int .i64 (R : Nat), .slice ka m kc, .slice sa sl sc] 32 (0, 0)) ∧ TabM w' w.heap.size ka m kc sa sl sc (gridL fr K m) s rs ∧ Below w.heap.size w w') (fun jj _ => K - (intOf jj).toNat)
      case atStart => exact ⟨0, m, ka, kc, sa, sl, sc, s, rs, Nat.zero_le _, HM.out, rfl, pt, Mt, bt⟩
      case round =>
        clear pt Mt bt HM
        obtain ⟨j, m, ka, kc, sa, sl, sc, s, rs, hj, hm, rfl, pt, Mt, bt⟩ := hrel
        by_cases hjK : j < K
        · have f4 : decide (j < K) = true := by simpa using hjK
          obtain ⟨d1, d2⟩ := HDV.out j hjK
          have u1 := gA_int fr K (C + j) i0 d1
          have u2 := gB_int fr K (C + j) j d2 (by omega)
          have hmr : m ≤ R := by omega
          have hnd : (gridL fr K m).Nodup := gridL_nodup hf (by omega) hK12 (by omega)
          have hnew : pk (gA fr K (C + j)) (gB fr K (C + j)) ∉ gridL fr K m := gridL_new hf (by omega) hK12 (by omega) (by omega)
          have hlen := gridL_len fr K m
          have hal := gA_lt fr K (C + j)
          have hbl := gB_lt fr K (C + j)
          have hsucc : m = C + j → gridL fr K (C + j + 1) = gridL fr K m ++ [pk (gA fr K (C + j)) (gB fr K (C + j))] := fun h => by rw [h]; exact gridL_succ fr K (C + j)
          obtain ⟨a, ha⟩ : ∃ a, gA fr K (C + j) = a := ⟨_, rfl⟩
          obtain ⟨b, hb⟩ : ∃ b, gB fr K (C + j) = b := ⟨_, rfl⟩
          rw [ha] at u1 hnew hal hsucc
          rw [hb] at u2 hnew hbl hsucc
          have HL := Lib.hid hlen
          have HS := Lib.hid hsucc
          have HM := Lib.hid hm
          clear ha hb d1 d2 hlen hsucc hm
          go_wp2_with (first | (refine wpList_load_row rfl 32 _ rfl gt rfl 32 _ _ _ pt Try.underlying32 rfl (by kernel_rfl) ?_) | fail)
          refine (insertP_all _ (R : Nat) (by omega) (by omega) w.heap.size ka m kc sa sl sc (gridL fr K m) s rs Mt bt.size a b hal hbl hnd).mono ?_
          rintro e w5 ⟨kz, mz, kcz, sz, slz, scz, KZ, sZ, rsZ, p, F, E, rfl, Mx, Mo, bx, HT, hout, hst⟩
          have gtl := (Array.getElem?_eq_some_iff.1 pt).1
          have pt5 := HT.recd gt _ _ _ pt (by decide) (by decide)
          have bt5 := bt.trans bx
          have hgt5 : gt ≠ w5.heap.size := Nat.ne_of_lt (Array.getElem?_eq_some_iff.1 pt5).1
          have al := (Below.refl w5.heap.size w5).alloc (Nat.le_refl _) (.cells #[.int .i64 (R : Nat), .slice kz mz kcz, .slice sz slz scz] 32)
          have px6 : (w5.alloc (.cells #[.int .i64 (R : Nat), .slice kz mz kcz, .slice sz slz scz] 32)).heap[w5.heap.size]? = some (.cells #[.int .i64 (R : Nat), .slice kz mz kcz, .slice sz slz scz] 32 (0, 0)) := heap_alloc_new _ _
          have pt6 := (al.block gt (Array.getElem?_eq_some_iff.1 pt5).1).trans pt5
          have bt6 := below_then bt5 al
          have Mx6 := Mx.mono al
          have hm1 := HM.out
          have hl1 := HL.out
          by_cases hin : C + j < R
          · obtain ⟨rfl, rfl, rfl, rfl⟩ := hout.new hnew (by omega)
            have hmj : m = C + j := by omega
            have h3 := Mx.rd.len
            rw [List.length_append, hl1] at h3
            have hK2 := HS.out hmj
            rw [← hK2] at Mx6
            have f5 : decide (C + j < R) = true := by simpa using hin
            have hp0 : (gridL fr K m).length = C + j := by omega
            have hmz : mz = C + j + 1 := by simp at h3; omega
            have HMZ := Lib.hid hmz
            have HH3 := Lib.hid h3
            have f6 : (((C + j : Nat) : Int) != ((C : Int) + (j : Int))) = false := by simp
            rw [hp0]
            clear hout hst HT Mo bx Mx hK2 hmj hp0 hmz h3 hm1 hl1 hnew
            obtain rfl : mz = C + j + 1 := HMZ.out
            clear HMZ
            go_wp2_with (first | (refine wpList_load_row rfl 32 _ rfl w5.heap.size rfl 32 _ _ _ px6 Try.underlying32 rfl (by kernel_rfl) ?_) | (refine store_rec rfl 32 (.tmp 10) (.tmp 94) rfl gt #[.int .i64 (R : Nat), .slice kz (C + j + 1) kcz, .slice sz slz scz] rfl rfl 32 _ pt6 (by kernel_rfl) rfl (by simp [Value.oneCell']) ?_; intro w6 g6 z6 o6 b6))
            exact ⟨⟨j + 1, C + j + 1, kz, kcz, sz, slz, scz, sZ, rsZ, by omega, by omega, by simp, g6, Mx6.recd pt6 (by decide) (by decide) z6 (fun b hb => o6 b hb), bt6.trans (b6.mono hB)⟩, by simp [intOf]; omega⟩
          · obtain ⟨rfl, rfl, rfl, rfl⟩ := hout.full hnew (by omega)
            have h3 := Mx.rd.len
            have f5 : decide (C + j < R) = false := by simp; omega
            obtain rfl : m = mz := by omega
            clear hout hst HT Mo bx Mx h3 hm1 hl1 hnew
            go_wp2_with (first | (refine wpList_load_row rfl 32 _ rfl w5.heap.size rfl 32 _ _ _ px6 Try.underlying32 rfl (by kernel_rfl) ?_) | (refine store_rec rfl 32 (.tmp 10) (.tmp 94) rfl gt #[.int .i64 (R : Nat), .slice kz m kcz, .slice sz slz scz] rfl rfl 32 _ pt6 (by kernel_rfl) rfl (by simp [Value.oneCell']) ?_; intro w6 g6 z6 o6 b6))
            exact ⟨⟨j + 1, m, kz, kcz, sz, slz, scz, sZ, rsZ, by omega, by have := HM.out; omega, by simp, g6, Mx6.recd pt6 (by decide) (by decide) z6 (fun b hb => o6 b hb), bt6.trans (b6.mono hB)⟩, by simp [intOf]; omega⟩
        · have f4 : decide (j < K) = false := by simpa using hjK
          obtain rfl : j = K := by omega
          have HM := Lib.hid hm
          clear hm
          go_wp2_with fail
          exact ⟨⟨i0 + 1, m, ka, kc, sa, sl, sc, s, rs, by omega, by rw [HNX.out]; exact HM.out, by simp, pt, Mt, bt⟩, by simp [intOf]; omega⟩
    · have f3 : decide (i0 < K) = false := by simpa using hiK
      obtain rfl : i0 = K := by omega
      rw [HQ.out] at hm
      obtain rfl : R = m := by omega
      clear hm
      have hnR := Mt.rd.small
      go_wp2_with fail
      clear f3
      go_loopw [19] (fun i w' => ∃ (t : Nat), t ≤ R ∧ i = .int .i64 (t : Nat) ∧ w'.heap[gt]? = some (.cells #[.int .i64 (R : Nat), .slice ka R kc, .slice sa sl sc] 32 (0, 0)) ∧ TabM w' w.heap.size ka R kc sa sl sc (gridL fr i0 R) s rs ∧ Below w.heap.size w w') (fun i _ => R - (intOf i).toNat)
      case atStart => exact ⟨0, Nat.zero_le _, rfl, pt, Mt, bt⟩
      case round =>
        clear pt Mt bt
        obtain ⟨t, ht, rfl, pt, Mt, bt⟩ := hrel
        by_cases htR : t < R
        · have f4 : decide (t < R) = true := by simpa using htR
          have hK0 : 0 < i0 := by
            rcases Nat.eq_zero_or_pos i0 with h | h
            · have := HQ.out
              rw [h] at this
              omega
            · exact h
          have v1 : ((t : Nat) : Int).tdiv (i0 : Nat) = ((t / i0 : Nat) : Int) := by rw [Int.tdiv_eq_ediv_of_nonneg (by omega)]; simp
          have v2 : ((t : Nat) : Int).tmod (i0 : Nat) = ((t % i0 : Nat) : Int) := by rw [Int.tmod_eq_emod_of_nonneg (by omega)]; simp
          have v3 : ((t : Nat) : Int) / (i0 : Nat) = ((t / i0 : Nat) : Int) := by simp
          have v4 : ((t : Nat) : Int) % (i0 : Nat) = ((t % i0 : Nat) : Int) := by simp
          have hx1 : t / i0 ≤ t := Nat.div_le_self _ _
          have hy1 : t % i0 < i0 := Nat.mod_lt _ hK0
          have u1 := gA_int fr i0 t (t / i0) rfl
          have u2 := gB_int fr i0 t (t % i0) rfl (by omega)
          have hget := gridL_get (fr := fr) (K := i0) htR
          have hal := gA_lt fr i0 t
          have hbl := gB_lt fr i0 t
          obtain ⟨x, hx⟩ : ∃ x, t / i0 = x := ⟨_, rfl⟩
          obtain ⟨y, hy⟩ : ∃ y, t % i0 = y := ⟨_, rfl⟩
          obtain ⟨a, ha⟩ : ∃ a, gA fr i0 t = a := ⟨_, rfl⟩
          obtain ⟨b, hb⟩ : ∃ b, gB fr i0 t = b := ⟨_, rfl⟩
          rw [hx] at v1 v3 hx1 u1
          rw [hy] at v2 v4 hy1 u2
          rw [ha] at u1 hal hget
          rw [hb] at u2 hbl hget
          have HG := Lib.hid hget
          have hz : decide (((i0 : Nat) : Int) = 0) = false := by simp; omega
          have hz2 : ¬ i0 = 0 := by omega
          clear hx hy ha hb hget
          go_wp2_with (first | (refine wpList_load_row rfl 32 _ rfl gt rfl 32 _ _ _ pt Try.underlying32 rfl (by kernel_rfl) ?_) | fail)
          refine (pairP_ok _ (R : Nat) ka R kc sa sl sc (gridL fr i0 R) s rs Mt.rd (gridL_short fr i0 R) t htR a b hal hbl HG.out).mono ?_
          rintro e w5 ⟨rfl, b5⟩
          have pt5 := (b5.block gt (Array.getElem?_eq_some_iff.1 pt).1).trans pt
          have Mt5 := Mt.mono b5
          have bt5 := below_then bt b5
          clear pt Mt bt b5
          go_wp2_with fail
          exact ⟨⟨t + 1, by omega, by simp, pt5, Mt5, bt5⟩, by simp [intOf]; omega⟩
        · have f4 : decide (t < R) = false := by simpa using htR
          have q0 := cell_of_row _ _ 0 _ _ _ pt
          have q1 := cell_of_row _ _ 1 _ _ _ pt
          have q2 := cell_of_row _ _ 2 _ _ _ pt
          simp only [List.getElem?_toArray, List.getElem?_cons_zero, List.getElem?_cons_succ] at q0 q1 q2
          go_wp2_with fail
          refine (manyP_any _ (R : Nat) ka R kc sa sl sc hnR).mono ?_
          rintro e w5 ⟨rfl, b5⟩
          clear q0 q1 q2
          go_wp2_with fail
          go_ret
          exact ⟨rfl, below_then bt b5⟩
end Go.Proofs.Ytkdhdbfdggihiaa
