/- Contract of scrutinyref01.row. -/
import Derived.Test.YtblipgmllpniaaaBitsRef3
import Derived.BigRegion
namespace Go.Proofs.Ytblipgmllpniaaa
open Go.RowKit
set_option linter.unusedVariables false

def zeroBits : Obj := .cells #[.slice none 0 0, .int .i64 0] 53
theorem u8s_snoc (l : List Nat) (b : Nat) : u8s l ++ [.int .u8 (b : Int)] = u8s (l ++ [b]) := by simp [u8s]
theorem u8s_set (l : List Nat) (q b : Nat) : (u8s l).set q (.int .u8 (b : Int)) = u8s (l.set q b) := by simp [u8s]
theorem u8s_getD {cur : Array Value} {n : Nat} {l : List Nat} (h : cur.toList.take n = u8s l) (q : Nat) (hq : q < n) (hl : l.length = n) : cur[q]? = some (.int .u8 (l.getD q 0 : Nat)) := by
  rw [take_getElem? h q hq, u8s, List.getElem?_map, List.getElem?_eq_getElem (by omega)]
  simp [List.getD, List.getElem?_eq_getElem (show q < l.length by omega)]
/-- The bytes with room for a bit more. -/
theorem row_mid (bs : List Nat) (b : Nat) (hbs : IsBits bs) (hb : b < 2) : ∃ M : List Nat, (M = if bs.length % 8 = 0 then pack bs ++ [0] else pack bs) ∧ M.length = bs.length / 8 + 1 ∧ M.getD (bs.length / 8) 0 + b * 2 ^ (7 - bs.length % 8) < 256 ∧ pack (bs ++ [b]) = M.set (bs.length / 8) (M.getD (bs.length / 8) 0 + b * 2 ^ (7 - bs.length % 8)) := by
  refine ⟨_, rfl, ?_⟩
  have hp : 2 ^ (7 - bs.length % 8) ≤ 2 ^ 7 := Nat.pow_le_pow_right (by omega) (by omega)
  by_cases h0 : bs.length % 8 = 0
  · rw [if_pos h0]
    have hl : (pack bs).length = bs.length / 8 := by rw [pack_length]; omega
    have hg : (pack bs ++ [0]).getD (bs.length / 8) 0 = 0 := by rw [← hl]; simp
    refine ⟨by rw [List.length_append, hl]; rfl, ?_, ?_⟩
    · rw [hg]
      have h2 : b = 0 ∨ b = 1 := by omega
      rcases h2 with rfl | rfl <;> omega
    · rw [hg, pack_snoc_new bs b h0, h0, ← hl]; simp
  · rw [if_neg h0]
    have hl : (pack bs).length = bs.length / 8 + 1 := by rw [pack_length]; omega
    have hg : (pack bs).getD (bs.length / 8) 0 = byteOf bs (bs.length / 8) := pack_getD bs _ (by omega)
    refine ⟨hl, ?_, ?_⟩
    · rw [hg, ← byteOf_snoc_here]
      exact byteOf_lt (hbs.append (IsBits.one hb)) _
    · rw [hg, pack_snoc_within bs b h0]
set_option maxHeartbeats 8000000 in
theorem row_any (w : World) (a : Option Addr) (n cap : Nat) (bs : List Nat) (hbs : IsBits bs) (hsm : bs.length ≤ 549755813888) (hl : IntsAt w a n (bs.map fun (b : Nat) => (b : Int))) :
    Calls Try.prog 41 #[.slice a n cap] w (BitsOut1 bs w) := by
  have hn : n = bs.length := by rw [← hl.len_eq, List.length_map]
  have hns : n ≤ 549755813888 := by omega
  have b2 : Below w.heap.size w ((w.alloc zeroBits).alloc zeroBits) := ((Below.refl _ _).alloc (Nat.le_refl _) _).alloc (by simp) _
  have z2 : ((w.alloc zeroBits).alloc zeroBits).heap[w.heap.size]? = some zeroBits := (Below.heap_alloc _ _ _ (by simp)).trans (World.alloc_heap_new _ _)
  have z3 : ((w.alloc zeroBits).alloc zeroBits).heap[w.heap.size + 1]? = some zeroBits := by
    have := World.alloc_heap_new (w.alloc zeroBits) zeroBits
    simpa using this
  unfold zeroBits at b2 z2 z3
  have HN := Lib.hid hn
  clear hn
  go_enter Try.func41, Try.ntmps41
  go_wp2
  go_loopw [4] (fun i wr => ∃ (j : Nat) (v : Value), j ≤ n ∧ i = .int .i64 (j : Int) ∧ wr.heap[w.heap.size]? = some (.cells #[.slice none 0 0, .int .i64 0] 53 (0, 0)) ∧ wr.heap[w.heap.size + 1]? = some (.cells #[v, .int .i64 0] 53 (0, 0)) ∧ wr.ownsRow (w.heap.size + 2) 5 1 v ((j + 7) / 8) (u8s (pack (bs.take j))) ∧ Below w.heap.size w wr) (fun i _ => n - (intOf i).toNat)
  case atStart => exact ⟨0, _, Nat.zero_le _, rfl, z2, z3, by rw [List.take_zero]; exact World.ownsRow_nil _ _ _ _, b2⟩
  case round =>
    obtain ⟨j, v, hj, rfl, y2, y3, hown, hbel⟩ := hrel
    clear z2 z3 b2
    have hsz3 : w.heap.size + 1 < wr.heap.size := (Array.getElem?_eq_some_iff.1 y3).1
    by_cases hlt : j < n
    case neg =>
      obtain rfl : j = n := by omega
      have e1 : bs.take j = bs := by rw [HN.out, List.take_length]
      rw [e1] at hown
      obtain ⟨av, cv, rfl, hlc⟩ := own_slice hown
      have hlen : ((j + 7) / 8 : Nat) ≤ 549755813888 := by omega
      obtain ⟨q, hq⟩ : ∃ q, q = (j + 7) / 8 := ⟨_, rfl⟩
      rw [← hq] at y3 hlc hlen hown
      have OWN := Lib.hid hown
      have HQ := Lib.hid hq
      clear hown hq e1
      have c0 : wr.cell? ⟨w.heap.size + 1, 0, none⟩ = some (.slice av q cv) := by simp [World.cell?, y3]
      have c1 : wr.cell? ⟨w.heap.size + 1, 1, none⟩ = some (.int .i64 0) := by simp [World.cell?, y3]
      have c2 : wr.cell? ⟨w.heap.size, 0, none⟩ = some (.slice none 0 0) := by simp [World.cell?, y2]
      have c3 : wr.cell? ⟨w.heap.size, 1, none⟩ = some (.int .i64 0) := by simp [World.cell?, y2]
      have f0 : wr.frozen? ⟨w.heap.size + 1, 0, none⟩ = false := by simp [World.frozen?, y3]
      have f1 : wr.frozen? ⟨w.heap.size + 1, 1, none⟩ = false := by simp [World.frozen?, y3]
      have f2 : wr.frozen? ⟨w.heap.size, 0, none⟩ = false := by simp [World.frozen?, y2]
      have f3 : wr.frozen? ⟨w.heap.size, 1, none⟩ = false := by simp [World.frozen?, y2]
      go_wp2
      have hne : ∀ k, k < w.heap.size + 2 → some k ≠ (Value.slice av q cv).ownBlock := fun k hk e => by have := (OWN.out.lt k e.symm).1; omega
      have o1 := own_setOther (q := 1) (y := .int .i64 (j : Int)) OWN.out (hne (w.heap.size + 1) (by omega))
      have o2 := own_setOther (q := 0) (y := .slice av q cv) o1 (hne w.heap.size (by omega))
      have o3 := own_setOther (q := 1) (y := .int .i64 (j : Int)) o2 (hne w.heap.size (by omega))
      refine bodyPost_ret (v := .agg #[.slice av q cv, .int .i64 (j : Int)]) (by simp [results, Try.results41, go_sem, c2, c3]) rfl ⟨av, q, cv, ?_, ?_, ?_⟩
      · rw [← HN.out]
      · exact own_bits hbs (by rw [HQ.out, HN.out]) o3 (by omega)
      · exact ((hbel.setCell (by simp) _).setCell (by simp) _).setCell (by simp) _
    have hjl : (bs.take j).length = j := by rw [List.length_take]; have := HN.out; omega
    obtain ⟨b, hb⟩ : ∃ b, b = bs.getD j 0 := ⟨_, rfl⟩
    have hb2 : b < 2 := by rw [hb]; exact hbs.getD _
    obtain ⟨M, hM, hMl, hMs, hMp⟩ := row_mid (bs.take j) b (fun x hx => hbs x (List.mem_of_mem_take hx)) hb2
    rw [hb, take_bit bs j (by have := HN.out; omega), ← hb] at hMp
    rw [hjl] at hM hMl hMs hMp
    obtain ⟨r, hr⟩ : ∃ r : Nat, (j : Int) % 8 = (r : Int) := ⟨j % 8, by omega⟩
    obtain ⟨q, hq⟩ : ∃ q : Nat, (j : Int) / 8 = (q : Int) := ⟨j / 8, by omega⟩
    rw [show j / 8 = q from by omega, show j % 8 = r from by omega] at hMs hMp
    rw [show j / 8 = q from by omega] at hMl
    rw [show j % 8 = r from by omega] at hM
    have hr7 : r ≤ 7 := by omega
    obtain ⟨x, hx⟩ : ∃ x, x = M.getD q 0 := ⟨_, rfl⟩
    rw [← hx] at hMs hMp
    have hxb : x < 256 := by omega
    have hcI : ∀ W, Below w.heap.size w W → ∃ ab off, a = some ⟨ab, off, none⟩ ∧ W.cell? ⟨ab, off + j, none⟩ = some (.int .i64 (b : Int)) := by
      intro W hW
      obtain ⟨ab, off, ha, hlt', hc⟩ := (hl.mono hW).at_.resolve_left (by omega)
      refine ⟨ab, off, ha, ?_⟩
      rw [hc j hlt, hb]
      have : j < bs.length := by have := HN.out; omega
      simp [this]
    by_cases hr0 : r = 0
    · rw [if_pos hr0] at hM
      have hne : ((r : Int) == 0) = true := by simp; omega
      have hown0 : wr.ownsRow (w.heap.size + 2) 5 1 v q (u8s (pack (bs.take j))) := by rw [show q = (j + 7) / 8 from by omega]; exact hown
      obtain ⟨av, cv, rfl, hlc⟩ := own_slice hown0
      have c0 : wr.cell? ⟨w.heap.size + 1, 0, none⟩ = some (.slice av q cv) := by simp [World.cell?, y3]
      have f0 : wr.frozen? ⟨w.heap.size + 1, 0, none⟩ = false := by simp [World.frozen?, y3]
      have hqs : q ≤ 549755813888 := by omega
      have HX := Lib.hid hx
      have HM := Lib.hid hM
      have HMp := Lib.hid hMp
      have hsum := Lib.hid hMs
      have HB := Lib.hid hb
      have HJL := Lib.hid hjl
      have HML := Lib.hid hMl
      have OWN := Lib.hid hown0
      clear hx hM hMp hMs hb hown hown0 hjl hMl
      go_wp2_with (first
        | (at_builtin; refine append_any rfl (.tmp 17) (.tmp 18) 24 rfl (w.heap.size + 2) 5 (.int .u8 0) 1 Try.underlying24 Try.info_u8 rfl _ q (u8s (pack (bs.take j))) rfl ?_ (some ⟨wr.heap.size, 0, none⟩) 1 1 [.int .u8 0] rfl ?_ ?_ ?_ ?_ ?_ ?_ ?_ ?_; exact OWN.out.alloc _; exact nofun; exact rfl; exact (fun ad ha => by obtain rfl := Option.some.inj ha; exact cell_one_new _ _ _); exact oneCell_u8 _; (unfold maxLen; omega); omega; (simp; try omega); intro v3 w3 own3 bel3; obtain ⟨h, cap3, cur, rfl, hbh, hh, hnc, hcm, hsz, htake⟩ := own_head own3 (by omega); have t2 := (((Below.refl (w.heap.size + 2) wr).alloc (by omega) (.cells #[.int .u8 0] 5)).trans bel3); have k2 := (t2.block w.heap.size (by omega)).trans y2; have k3 := (t2.block (w.heap.size + 1) (by omega)).trans y3; have k0 : w3.cell? ⟨w.heap.size + 1, 0, none⟩ = some (.slice av q cv) := (by simp [World.cell?, k3]); have kf : w3.frozen? ⟨w.heap.size + 1, 0, none⟩ = false := (by simp [World.frozen?, k3]); have HH := Lib.hid hh; have HT := Lib.hid htake; have HS := Lib.hid hsz; clear hh htake hsz own3))
      generalize hW3 : w3.setCell ⟨w.heap.size + 1, 0, none⟩ (.slice (some ⟨h, 0, none⟩) (q + 1) cap3) = W3
      have hhg : h ≠ w.heap.size + 1 := by omega
      have G2 : W3.heap[w.heap.size]? = some (.cells #[.slice none 0 0, .int .i64 0] 53 (0, 0)) := by rw [← hW3, Below.heap_setCell _ _ _ _ (by simp)]; exact k2
      have G3 : W3.heap[w.heap.size + 1]? = some (.cells #[.slice (some ⟨h, 0, none⟩) (q + 1) cap3, .int .i64 0] 53 (0, 0)) := by rw [← hW3]; exact (Joins.block_setCell (i := 0) k3 _).trans (by simp)
      have GH : W3.heap[h]? = some (.cells cur 5 (0, 0)) := by rw [← hW3, Below.heap_setCell _ _ _ _ hhg]; exact HH.out
      have GB : Below w.heap.size w W3 := by rw [← hW3]; exact (hbel.trans (t2.mono (by omega))).setCell (Nat.le_succ _) _
      have GT : cur.toList.take (q + 1) = u8s M := by have := HT.out; rw [this, HM.out, ← u8s_snoc]; rfl
      clear hW3 k0 kf k3 k2 t2 bel3 c0 f0 y2 y3 OWN HH HT HM
      obtain ⟨ab, off, rfl, hci⟩ := hcI W3 GB
      have d0 : W3.cell? ⟨w.heap.size + 1, 0, none⟩ = some (.slice (some ⟨h, 0, none⟩) (q + 1) cap3) := by simp [World.cell?, G3]
      have dh : W3.cell? ⟨h, q, none⟩ = some (.int .u8 (x : Int)) := by rw [cur_cell GH, u8s_getD GT q (by omega) HML.out, ← HX.out]
      have df : W3.frozen? ⟨h, q, none⟩ = false := by simp [World.frozen?, GH]
      have KH := Lib.hid GH
      have KG := Lib.hid G2
      have KG3 := Lib.hid G3
      have KT := Lib.hid GT
      clear GH G2 G3 GT hcI
      go_loop [5, 6] (fun p k => ∃ m P : Nat, (m : Int) ≤ 7 - r ∧ P ≤ 128 ∧ k = .int .i64 (m : Int) ∧ p = .int .i64 (P : Int) ∧ Hid (P = 2 ^ m)) (fun _ k => 7 - (intOf k).toNat)
      case atStart => exact ⟨0, 1, by omega, by omega, rfl, rfl, rfl⟩
      case round =>
        obtain ⟨m, P, hm, hP, rfl, rfl, hPm⟩ := hrel
        by_cases hmr : (m : Int) < 7 - r
        · have hP64 : P ≤ 64 := by
            rw [hPm.out]
            exact Nat.pow_le_pow_right (n := 2) (by omega) (show m ≤ 6 by omega)
          go_wp2
          go_round
          case rel => exact ⟨m + 1, 2 * P, by omega, by omega, by go_num, by go_num, by show 2 * P = 2 ^ (m + 1); rw [hPm.out, Nat.pow_succ, Nat.mul_comm]⟩
          case measure => simp [intOf]; omega
        · have hmv : m = 7 - r := by omega
          have hbP : b * P ≤ 128 := by
            have h2 : b = 0 ∨ b = 1 := by omega
            rcases h2 with rfl | rfl <;> omega
          obtain ⟨y, hy⟩ : ∃ y : Nat, (b : Int) * (P : Int) = (y : Int) := ⟨b * P, by push_cast; rfl⟩
          have hyb : y ≤ 128 := by rw [← Int.natCast_mul] at hy; omega
          have hPv := hPm.out
          have hval : x + y = x + b * 2 ^ (7 - r) := by
            rw [← Int.natCast_mul, hPv, hmv] at hy
            omega
          have hxy := hsum.out
          rw [← hval] at hxy
          have HVAL := Lib.hid hval
          clear hval hPv
          go_wp2
          go_region
          go_wp2
          go_roundw
          case rel =>
            refine ⟨j + 1, .slice (some ⟨h, 0, none⟩) (q + 1) cap3, by omega, by go_num, ?_, ?_, ?_, ?_⟩
            · exact (Below.heap_setCell W3 ⟨h, q, none⟩ (.int .u8 ((x : Int) + (y : Int))) w.heap.size (by simp; omega)).trans KG.out
            · exact (Below.heap_setCell W3 ⟨h, q, none⟩ (.int .u8 ((x : Int) + (y : Int))) (w.heap.size + 1) (by simp; omega)).trans KG3.out
            · have hv : (x : Int) + (y : Int) = ((x + b * 2 ^ (7 - r) : Nat) : Int) := by have := HVAL.out; omega
              have ho := own_set (q := q) (y := .int .u8 ((x : Int) + (y : Int))) (by rw [u8s_length, HML.out]) hbh KH.out hnc hcm HS.out KT.out
              rw [hv, u8s_set, ← HMp.out] at ho
              rw [show (j + 1 + 7) / 8 = q + 1 from by omega, hv]
              exact ho
            · exact (GB.setCell (by simp; omega) _).drew
          case measure => simp [intOf]; omega
    · rw [if_neg hr0] at hM
      have hq1 : (j + 7) / 8 = q + 1 := by omega
      rw [hq1] at hown
      obtain ⟨h, cap3, cur, rfl, hbh, hh, hnc, hcm, hsz, htake⟩ := own_head hown (by omega)
      have hqs : q ≤ 549755813888 := by omega
      have hhg : h ≠ w.heap.size + 1 := by omega
      have HX := Lib.hid hx
      have HMp := Lib.hid hMp
      have hsum := Lib.hid hMs
      have HB := Lib.hid hb
      have HJL := Lib.hid hjl
      have HML := Lib.hid hMl
      have GH := hh
      have G2 := y2
      have G3 := y3
      have GB := hbel
      have GT : cur.toList.take (q + 1) = u8s M := by rw [hM]; exact htake
      have HS := Lib.hid hsz
      have hne : ((r : Int) == 0) = false := by simp; omega
      clear hx hM hMp hMs hb hown hjl hMl hh y2 y3 hbel htake hsz hq1
      go_wp2
      obtain ⟨W3, hW3⟩ : ∃ W3, W3 = wr := ⟨_, rfl⟩
      rw [← hW3] at GH G2 G3 GB ⊢
      clear hW3
      obtain ⟨ab, off, rfl, hci⟩ := hcI W3 GB
      have d0 : W3.cell? ⟨w.heap.size + 1, 0, none⟩ = some (.slice (some ⟨h, 0, none⟩) (q + 1) cap3) := by simp [World.cell?, G3]
      have dh : W3.cell? ⟨h, q, none⟩ = some (.int .u8 (x : Int)) := by rw [cur_cell GH, u8s_getD GT q (by omega) HML.out, ← HX.out]
      have df : W3.frozen? ⟨h, q, none⟩ = false := by simp [World.frozen?, GH]
      have KH := Lib.hid GH
      have KG := Lib.hid G2
      have KG3 := Lib.hid G3
      have KT := Lib.hid GT
      clear GH G2 G3 GT hcI
      go_loop [5, 6] (fun p k => ∃ m P : Nat, (m : Int) ≤ 7 - r ∧ P ≤ 128 ∧ k = .int .i64 (m : Int) ∧ p = .int .i64 (P : Int) ∧ Hid (P = 2 ^ m)) (fun _ k => 7 - (intOf k).toNat)
      case atStart => exact ⟨0, 1, by omega, by omega, rfl, rfl, rfl⟩
      case round =>
        obtain ⟨m, P, hm, hP, rfl, rfl, hPm⟩ := hrel
        by_cases hmr : (m : Int) < 7 - r
        · have hP64 : P ≤ 64 := by
            rw [hPm.out]
            exact Nat.pow_le_pow_right (n := 2) (by omega) (show m ≤ 6 by omega)
          go_wp2
          go_round
          case rel => exact ⟨m + 1, 2 * P, by omega, by omega, by go_num, by go_num, by show 2 * P = 2 ^ (m + 1); rw [hPm.out, Nat.pow_succ, Nat.mul_comm]⟩
          case measure => simp [intOf]; omega
        · have hmv : m = 7 - r := by omega
          have hbP : b * P ≤ 128 := by
            have h2 : b = 0 ∨ b = 1 := by omega
            rcases h2 with rfl | rfl <;> omega
          obtain ⟨y, hy⟩ : ∃ y : Nat, (b : Int) * (P : Int) = (y : Int) := ⟨b * P, by push_cast; rfl⟩
          have hyb : y ≤ 128 := by rw [← Int.natCast_mul] at hy; omega
          have hPv := hPm.out
          have hval : x + y = x + b * 2 ^ (7 - r) := by
            rw [← Int.natCast_mul, hPv, hmv] at hy
            omega
          have hxy := hsum.out
          rw [← hval] at hxy
          have HVAL := Lib.hid hval
          clear hval hPv
          go_wp2
          go_region
          go_wp2
          go_roundw
          case rel =>
            refine ⟨j + 1, .slice (some ⟨h, 0, none⟩) (q + 1) cap3, by omega, by go_num, ?_, ?_, ?_, ?_⟩
            · exact (Below.heap_setCell W3 ⟨h, q, none⟩ (.int .u8 ((x : Int) + (y : Int))) w.heap.size (by simp; omega)).trans KG.out
            · exact (Below.heap_setCell W3 ⟨h, q, none⟩ (.int .u8 ((x : Int) + (y : Int))) (w.heap.size + 1) (by simp; omega)).trans KG3.out
            · have hv : (x : Int) + (y : Int) = ((x + b * 2 ^ (7 - r) : Nat) : Int) := by have := HVAL.out; omega
              have ho := own_set (q := q) (y := .int .u8 ((x : Int) + (y : Int))) (by rw [u8s_length, HML.out]) hbh KH.out hnc hcm HS.out KT.out
              rw [hv, u8s_set, ← HMp.out] at ho
              rw [show (j + 1 + 7) / 8 = q + 1 from by omega, hv]
              exact ho
            · exact (GB.setCell (by simp; omega) _).drew
          case measure => simp [intOf]; omega
end Go.Proofs.Ytblipgmllpniaaa
