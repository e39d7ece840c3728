/- Contract of scrutinyref01.Put. -/
import Derived.Test.YtblipgmllpniaaaBitsRef5
import Derived.OwnWalk
namespace Go.Proofs.Ytblipgmllpniaaa
open Go.RowKit
set_option linter.unusedVariables false

theorem digs_cons (n k : Nat) : digs n (k + 1) = (n / 2 ^ k % 2) :: digs n k := by
  unfold digs
  rw [List.range_succ_eq_map, List.map_cons, List.map_map]
  congr 1
  apply List.map_congr_left
  intro i hi
  show n / 2 ^ (k + 1 - 1 - (i + 1)) % 2 = _
  rw [show k + 1 - 1 - (i + 1) = k - 1 - i from by omega]
theorem own_news {w : World} {base g n cap : Nat} {e : TypeId} {xs : List Value} (h : w.ownsRow base e 1 (.slice (some ⟨g, 0, none⟩) n cap) n xs) : ∀ ad, some (⟨g, 0, none⟩ : Addr) = some ad → ∀ j u, xs[j]? = some u → w.cell? (ad.add j) = some u := by
  intro ad ha j u hu
  obtain rfl := Option.some.inj ha
  rcases h.2 with ⟨hv, _⟩ | ⟨g', cp, cur, hv, _, hh, _, _, _, ht⟩
  · simp at hv
  · simp at hv
    obtain ⟨rfl, rfl⟩ := hv
    rw [Addr.add_lit, Nat.zero_add, cur_cell hh, ← Array.getElem?_toList]
    rw [Nat.mul_one] at ht
    rw [← ht, List.getElem?_take] at hu
    split at hu
    · exact hu
    · simp at hu
/-- What lies in the tail when j of K digits are set. -/
def tailL (num K j : Nat) : List Nat := List.replicate (K - j) 0 ++ digs num j
theorem tailL_length (num K j : Nat) (h : j ≤ K) : (tailL num K j).length = K := by simp [tailL, digs_length]; omega
theorem tailL_set (num K j : Nat) (h : j < K) : tailL num K (j + 1) = (tailL num K j).set (K - 1 - j) (num / 2 ^ j % 2) := by
  unfold tailL
  obtain ⟨d, hd⟩ : ∃ d, K - j = d + 1 := ⟨K - j - 1, by omega⟩
  rw [hd, show K - (j + 1) = d from by omega, show K - 1 - j = d from by omega, digs_cons, List.replicate_succ', List.append_assoc]
  rw [List.set_append_right _ _ (by simp)]
  simp
theorem refput_keep (w : World) (a : Option Addr) (len cap : Nat) (bs : List Nat) (N : Int) (num : Nat) (hnum : num < 18446744073709551616) (wide : Int) (h0 : -9223372036854775808 ≤ wide) (h1 : wide ≤ 9223372036854775807) (hl : BytesAt w a len cap (pack bs)) (hN : N = (bs.length : Int)) (c : Int)
    (hc : ((wide < 0 ∨ 64 < wide) ∧ c = 1) ∨ (0 ≤ wide ∧ wide ≤ 64 ∧ wide < (Lib.bitLen num : Int) ∧ c = 5)) :
    Calls Try.prog 30 #[.agg #[.slice a len cap, .int .i64 N], .int .u64 (num : Int), .int .i64 wide] w (BitsOut bs c w) := by
  have bb : ∀ o o' : Obj, Below w.heap.size w ((w.alloc o).alloc o') := fun o o' => ((Below.refl _ _).alloc (Nat.le_refl _) _).alloc (by simp) _
  have HN := Lib.hid hN
  clear hN
  rcases hc with ⟨h, rfl⟩ | ⟨hw0, hw64, hlt, rfl⟩
  · by_cases hneg : wide < 0
    · have d1 : decide (wide < 0) = true := by simpa using hneg
      clear h
      go_enter Try.func30, Try.ntmps30
      go_wp2
      exact bodyPost_ret (v := .tuple #[.agg #[.slice a len cap, .int .i64 N], .int .i64 1]) (by simp [results, Try.results30, go_sem]) rfl ⟨a, len, cap, by rw [HN.out], hl.mono (bb _ _), bb _ _⟩
    · have d1 : decide (wide < 0) = false := by simpa using hneg
      have d2 : decide (64 < wide) = true := by simp; omega
      clear h
      go_enter Try.func30, Try.ntmps30
      go_wp2
      exact bodyPost_ret (v := .tuple #[.agg #[.slice a len cap, .int .i64 N], .int .i64 1]) (by simp [results, Try.results30, go_sem]) rfl ⟨a, len, cap, by rw [HN.out], hl.mono (bb _ _), bb _ _⟩
  · have d1 : decide (wide < 0) = false := by simp; omega
    have d2 : decide (64 < wide) = false := by simp; omega
    have d3 : decide (wide < (Lib.bitLen num : Int)) = true := by simpa using hlt
    go_enter Try.func30, Try.ntmps30
    go_wp2_with fail
    refine (refwide_any _ num hnum).mono ?_
    rintro e w2 ⟨rfl, rfl⟩
    go_wp2
    exact bodyPost_ret (v := .tuple #[.agg #[.slice a len cap, .int .i64 N], .int .i64 5]) (by simp [results, Try.results30, go_sem]) rfl ⟨a, len, cap, by rw [HN.out], hl.mono (bb _ _), bb _ _⟩
set_option maxHeartbeats 8000000 in
theorem refput_ok (w : World) (a : Option Addr) (len cap : Nat) (bs : List Nat) (hbs : IsBits bs) (hsm : bs.length ≤ 137438953472) (N : Int) (num K : Nat) (hnum : num < 18446744073709551616) (hK : K ≤ 64) (hlt : Lib.bitLen num ≤ K) (hl : BytesAt w a len cap (pack bs)) (hN : N = (bs.length : Int)) :
    Calls Try.prog 30 #[.agg #[.slice a len cap, .int .i64 N], .int .u64 (num : Int), .int .i64 (K : Int)] w (BitsOut (bs ++ digs num K) 0 w) := by
  have HN := Lib.hid hN
  clear hN
  have d1 : decide ((K : Int) < 0) = false := by simp
  have d2 : decide ((64 : Int) < (K : Int)) = false := by simp; omega
  have d3 : decide ((K : Int) < (Lib.bitLen num : Int)) = false := by simp; omega
  have d3' : decide (K < Lib.bitLen num) = false := by simp; omega
  have hdl : (bs ++ digs num K).length ≤ 549755813888 := by rw [List.length_append, digs_length]; omega
  obtain ⟨i0, hi, hz0, hz1, hz2⟩ := info_parts Try.info_int
  obtain ⟨W2, hW2⟩ : ∃ W2, W2 = (w.alloc (.cells #[.slice a len cap, .int .i64 N] 53)).alloc (.cells #[.slice none 0 0, .int .i64 0] 53) := ⟨_, rfl⟩
  have hb2 : Below w.heap.size w W2 := by rw [hW2]; exact ((Below.refl _ _).alloc (Nat.le_refl _) _).alloc (by simp) _
  have hs2 : Hid (W2.heap.size = w.heap.size + 2) := by show W2.heap.size = _; rw [hW2]; simp
  have x1 : BitsBox W2 w.heap.size a len cap N := by rw [hW2]; exact (Below.heap_alloc _ _ _ (by simp)).trans (World.alloc_heap_new _ _)
  have x2 : BitsBox W2 (w.heap.size + 1) none 0 0 0 := by
    rw [hW2]
    have := World.alloc_heap_new (w.alloc (.cells #[.slice a len cap, .int .i64 N] 53)) (.cells #[.slice none 0 0, .int .i64 0] 53)
    rw [show (w.alloc (.cells #[.slice a len cap, .int .i64 N] 53)).heap.size = w.heap.size + 1 from by simp] at this
    exact this
  go_enter Try.func30, Try.ntmps30
  go_wp2_with fail
  refine (refwide_any _ num hnum).mono ?_
  rintro e w2 ⟨rfl, rfl⟩
  rw [← hW2]
  clear hW2
  go_wp2_with ((at_make; refine wpList_make_full _ rfl _ _ 23 rfl W2.heap.size 3 i0 (.int .i64 0) 1 Try.underlying23 hi hz0 hz1 .i64 .i64 _ _ K rfl rfl rfl rfl (by rw [hz2]; omega) (by unfold maxLen; omega) (Nat.le_refl _) ?_; intro w3 hown0 hgrow0))
  have gb : Below W2.heap.size W2 w3 := (Below.refl _ _).grown hgrow0 (Nat.le_refl _) (by intro k hk; simp at hk)
  have own0 : w3.ownsRow W2.heap.size 3 1 (.slice (some ⟨W2.heap.size, 0, none⟩) K K) K (i64s (tailL num K 0)) := by
    have e : i64s (tailL num K 0) = (madeCells (Value.int .i64 0).cells (K * 1)).toList := by
      show _ = (madeCells #[Value.int .i64 0] (K * 1)).toList
      rw [toList_madeCells_one, Nat.mul_one]
      simp [tailL, i64s, digs_zero]
    rw [e]; exact hown0
  clear hown0 hgrow0
  go_loopw [1, 9] (fun nn i wr => ∃ (j x : Nat) (q : Int), j ≤ K ∧ x < 18446744073709551616 ∧ -1 ≤ q ∧ q < 64 ∧ nn = .int .u64 (x : Int) ∧ i = .int .i64 q ∧ Hid (x = num / 2 ^ j) ∧ Hid (q = (K : Int) - 1 - j) ∧ wr.ownsRow W2.heap.size 3 1 (.slice (some ⟨W2.heap.size, 0, none⟩) K K) K (i64s (tailL num K j)) ∧ Below W2.heap.size W2 wr) (fun _ i _ => (intOf i + 1).toNat)
  case atStart => exact ⟨0, num, (K : Int) - 1, by omega, hnum, by omega, by omega, rfl, rfl, by simp [Hid], by show (K : Int) - 1 = _; simp, own0, gb⟩
  case round =>
    obtain ⟨j, x, q, hj, hx, hq0, hq1, rfl, rfl, hxe, hqe, hown, hbel⟩ := hrel
    clear own0 gb
    have hsz := hbel.size
    by_cases hpos : 0 ≤ q
    · obtain ⟨q, rfl⟩ := Int.eq_ofNat_of_zero_le hpos
      have hqv := hqe.out
      have hjK : j < K := by omega
      have hqK : (q : Int) < (K : Int) := by omega
      obtain ⟨g, cp, cur, hv, hbg, hh, hnc, hcm, hcs, htk⟩ := own_head hown (by omega)
      simp at hv
      obtain ⟨rfl, rfl⟩ := hv
      have ce : wr.cell? ⟨W2.heap.size, q, none⟩ = some (.int .i64 ((tailL num K j).getD q 0 : Nat)) := by
        rw [cur_cell hh, take_getElem? htk q (by omega), i64s, List.getElem?_map]
        have : q < (tailL num K j).length := by rw [tailL_length num K j hj]; omega
        simp [this]
      have fe : wr.frozen? ⟨W2.heap.size, q, none⟩ = false := by simp [World.frozen?, hh]
      generalize (tailL num K j).getD q 0 = y0 at ce
      have HH := Lib.hid hh
      have HT := Lib.hid htk
      have HS := Lib.hid hcs
      clear hh htk hcs hown hqv hbg
      have hx2 : (x : Int) / 2 < 18446744073709551616 := by omega
      go_wp2
      go_roundw
      case rel =>
        refine ⟨j + 1, x / 2, (q : Int) - 1, by omega, by omega, by omega, by omega, by go_num, by go_num, ?_, ?_, ?_, ?_⟩
        · show x / 2 = num / 2 ^ (j + 1)
          rw [hxe.out, Nat.div_div_eq_div_mul, Nat.pow_succ]
        · have := hqe.out
          show (q : Int) - 1 = _
          push_cast; omega
        · have ho := own_set (q := q) (y := .int .i64 ((x : Int) % 2)) (by rw [i64s_length, tailL_length num K j hj]) (Nat.le_refl _) HH.out hnc hcm HS.out HT.out
          rw [tailL_set num K j hjK, ← hxe.out, show K - 1 - j = q from by have := hqe.out; omega]
          have e : i64s ((tailL num K j).set q (x % 2)) = (i64s (tailL num K j)).set q (.int .i64 ((x : Int) % 2)) := by simp [i64s]
          rw [e]
          exact ho
        · exact hbel.setCell (by simp) _
      case measure => simp [intOf]
    · have hjK : j = K := by have := hqe.out; omega
      subst hjK
      have x1' := x1.below hbel
      have x2' := x2.below hbel
      have c0 := x1'.cell0
      have c1 := x1'.cell1
      have hl' := (hl.mono hb2).mono hbel
      have e1 : tailL num j j = digs num j := by simp [tailL]
      rw [e1] at hown
      go_wp2_with fail
      refine (list_at _ _ _ _ bs hbs (by omega) hl' _ HN.out).mono ?_
      rintro e w4 ⟨p2, k2, rfl, own2, bl2, it2, nn2⟩
      have own1 := own_below hown bl2
      have x2'' := x2'.below bl2
      have hlen1 : (digs num j).length = j := digs_length _ _
      obtain ⟨dd, hdd⟩ : ∃ dd, dd = digs num j := ⟨_, rfl⟩
      have hdb : IsBits dd := by rw [hdd]; exact digs_bits _ _
      rw [← hdd] at own1 hlen1 hdl ⊢
      have HD := Lib.hid hdd
      clear hown e1 hdd
      have HL := Lib.hid hlen1
      clear hlen1
      have hsz4 := bl2.size
      go_wp2_with ((at_builtin; refine append_any rfl (.tmp 39) (.tmp 40) 23 rfl wr.heap.size 3 (.int .i64 0) 8 Try.underlying23 Try.info_int rfl _ bs.length (i64s bs) rfl own2 (some ⟨W2.heap.size, 0, none⟩) j j (i64s dd) rfl nofun (by rw [i64s_length]; exact HL.out) (own_news own1) (i64s_one _) (by unfold maxLen; omega) (by omega) hsz4 ?_; intro v5 w5 own5 bl5))
      have own5' : w5.ownsRow wr.heap.size 3 1 v5 (bs ++ dd).length (i64s (bs ++ dd)) := by
        rw [List.length_append, HL.out, ← i64s_append]; exact own5
      have x5 := x2''.keep bl5 (by have := (Array.getElem?_eq_some_iff.1 x2').1; omega)
      refine (row_at _ _ _ (bs ++ dd) (hbs.append hdb) hdl own5').mono ?_
      rintro e w6 ⟨p6, l6, k6, rfl, y6, bl6⟩
      have x6 := x5.below bl6
      have z0 := x6.cell0
      have z1 := x6.cell1
      have z2 := x6.frozen 0
      have z3 := x6.frozen 1
      have b6 : Below w.heap.size w w6 := below_then (hb2.trans ((hbel.mono hb2.size).trans ((bl2.mono (Nat.le_trans hb2.size hsz)).trans (bl5.mono (Nat.le_trans hb2.size hsz))))) bl6
      clear own5 own5' own2 own1
      generalize hL : ((bs ++ dd).length : Int) = L at *
      go_wp2
      refine bodyPost_ret (v := .tuple #[.agg #[.slice p6 l6 k6, .int .i64 L], .int .i64 0]) (by simp [results, Try.results30, go_sem, z0, z1]) rfl ⟨p6, l6, k6, by rw [← HD.out, hL], by rw [← HD.out]; exact (y6.setBits x6 0 _).setBits (x6.set0 _ _ _) 1 _, ?_⟩
      exact (b6.setCell (by simp) _).setCell (by simp) _
theorem refput_any (w : World) (a : Option Addr) (len cap : Nat) (bs : List Nat) (hbs : IsBits bs) (hsm : bs.length ≤ 137438953472) (num : Nat) (hnum : num < 18446744073709551616) (wide : Int) (h0 : -9223372036854775808 ≤ wide) (h1 : wide ≤ 9223372036854775807) (hl : BytesAt w a len cap (pack bs)) (bs' : List Nat) (c : Int) (hp : putS bs num wide = (bs', c)) (n : Int) (hn : n = (bs.length : Int)) :
    Calls Try.prog 30 #[.agg #[.slice a len cap, .int .i64 n], .int .u64 (num : Int), .int .i64 wide] w (BitsOut bs' c w) := by
  unfold putS at hp
  by_cases g1 : wide < 0 ∨ 64 < wide
  · rw [if_pos g1] at hp
    simp at hp
    obtain ⟨rfl, rfl⟩ := hp
    exact refput_keep w a len cap bs n num hnum wide h0 h1 hl hn 1 (.inl ⟨g1, rfl⟩)
  · rw [if_neg g1] at hp
    by_cases g2 : wide < (Lib.bitLen num : Int)
    · rw [if_pos g2] at hp
      simp at hp
      obtain ⟨rfl, rfl⟩ := hp
      exact refput_keep w a len cap bs n num hnum wide h0 h1 hl hn 5 (.inr ⟨by omega, by omega, g2, rfl⟩)
    · rw [if_neg g2] at hp
      simp at hp
      obtain ⟨rfl, rfl⟩ := hp
      obtain ⟨k, rfl⟩ := Int.eq_ofNat_of_zero_le (show 0 ≤ wide by omega)
      rw [Int.toNat_natCast]
      exact refput_ok w a len cap bs hbs hsm n num k hnum (by omega) (by omega) hl hn
end Go.Proofs.Ytblipgmllpniaaa
