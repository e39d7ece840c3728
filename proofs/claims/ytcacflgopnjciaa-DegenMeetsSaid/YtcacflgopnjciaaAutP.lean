/- DegenMeets (by gen19r.py). -/
import Derived.Test.YtcacflgopnjciaaAutM
import Derived.Test.YtcacflgopnjciaaAutN
import Derived.Test.YtcacflgopnjciaaAutEB
import Derived.Test.YtcacflgopnjciaaAutEF
import Derived.Test.YtcacflgopnjciaaAutO
namespace Go.Proofs.Ytcacflgopnjciaa
open Go.RowKit
set_option linter.unusedVariables false
set_option linter.unusedSimpArgs false

theorem nums_st {K s n : Nat} {l : List Int} (hl : StP l n) (hs : s < K) : StP (numsO K s l) (n * K : Nat) := by
  intro z hz
  unfold numsO at hz
  obtain ⟨y, hy, rfl⟩ := List.mem_map.1 hz
  obtain ⟨h0, h1⟩ := hl y hy
  obtain ⟨m, rfl⟩ : ∃ m : Nat, y = (m : Int) := ⟨y.toNat, by omega⟩
  have hm : m < n := by omega
  have h2 : m * K + s < n * K := by
    have : m * K + K ≤ n * K := by rw [← Nat.succ_mul]; exact Nat.mul_le_mul_right K hm
    omega
  have e : (m : Int) * (K : Int) + (s : Int) = ((m * K + s : Nat) : Int) := by push_cast; rfl
  rw [e]
  omega
theorem acc_st {K n : Nat} {f : Nat → Nat → Bool} (hK : 0 < K) : StP (accO K f n) (n * K : Nat) := by
  intro z hz
  unfold accO at hz
  obtain ⟨q, hq, rfl⟩ := List.mem_map.1 hz
  have hq1 : q < n := List.mem_range.1 (List.mem_filter.1 hq).1
  have h2 : q * K < n * K := Nat.mul_lt_mul_of_pos_right hq1 hK
  have e : (q : Int) * (K : Int) = ((q * K : Nat) : Int) := by push_cast; rfl
  rw [e]
  omega
theorem acc_mem {K n q i : Nat} {f : Nat → Nat → Bool} (hi : i < K) (hq : q < n) : decide (((q * K + i : Nat) : Int) ∈ accO K f n) = (if i = 0 then f 0 q else false) := by
  by_cases h0 : i = 0
  · subst h0
    rw [if_pos rfl, Nat.add_zero, Bool.eq_iff_iff, decide_eq_true_iff]
    unfold accO
    rw [List.mem_map]
    constructor
    · rintro ⟨p, hp, he⟩
      have e : (p : Int) * (K : Int) = ((p * K : Nat) : Int) := by push_cast; rfl
      rw [e] at he
      have he2 : p * K = q * K := by omega
      have : p = q := Nat.eq_of_mul_eq_mul_right (by omega) he2
      subst this
      exact (List.mem_filter.1 hp).2
    · intro hf
      exact ⟨q, List.mem_filter.2 ⟨List.mem_range.2 hq, hf⟩, by push_cast; rfl⟩
  · rw [if_neg h0]
    refine decide_eq_false fun hm => ?_
    unfold accO at hm
    obtain ⟨p, hp, he⟩ := List.mem_map.1 hm
    have e : (p : Int) * (K : Int) = ((p * K : Nat) : Int) := by push_cast; rfl
    rw [e] at he
    have he2 : p * K = q * K + i := by omega
    have h1 : (p * K) % K = 0 := Nat.mul_mod_left p K
    rw [he2, Nat.add_comm, Nat.add_mul_mod_self_right, Nat.mod_eq_of_lt hi] at h1
    exact h0 h1
theorem right_deg {n : Nat} {ln : Nat → Nat} {lit : Nat → Nat → T} {next : Nat → List Int} {init : List Int} {cn : Nat} {acc : Nat → List Int} {K : Nat} {f : Nat → Nat → Bool} (hK : 0 < K) (h : RightP n ln lit n next init cn acc) :
    RightP (n * K) (fun x => ln (x / K)) (fun x => lit (x / K)) (n * K) (nextO K f next) (numsO K 0 init) 1 (fun _ => accO K f n) := by
  obtain ⟨h1, _, h3, h4⟩ := h
  refine ⟨nums_st h1 hK, rfl, fun x hx => ?_, fun i hi => acc_st hK⟩
  have hq : x / K < n := Nat.div_lt_of_lt_mul (by rw [Nat.mul_comm]; exact hx)
  refine ⟨?_, fun i hi => (h3 (x / K) hq).2 i hi⟩
  unfold nextO
  exact nums_st (h3 (x / K) hq).1 (setO_lt (Nat.mod_lt _ hK))
theorem take_mem (l : List Int) (p : Int) (j : Nat) (hj : j < l.length) : decide (p ∈ l.take (j + 1)) = (decide (p ∈ l.take j) || decide (l.getD j 0 = p)) := by
  rw [take_snocZ l j hj, Bool.eq_iff_iff]
  simp only [decide_eq_true_iff, Bool.or_eq_true, List.mem_append, List.mem_singleton]
  constructor
  · rintro (h | h)
    · exact .inl h
    · exact .inr h.symm
  · rintro (h | h)
    · exact .inl h
    · exact .inr h.symm
set_option maxRecDepth 100000 in
set_option maxHeartbeats 8000000 in
theorem degenmeets_any (w : World) (la na ia ca : Option Addr) (n lc nn nc il ic cn cc : Nat) (ln : Nat → Nat) (lit : Nat → Nat → T) (next : Nat → List Int) (init : List Int) (acc : Nat → List Int) (h : AutAt w la na ia ca n nn il cn ln lit next init acc) (hR : RoomP n nn il cn ln next acc) :
    Calls Try.prog 4 #[.agg #[.slice la n lc, .slice na nn nc, .slice ia il ic, .slice ca cn cc]] w fun e w' => e = .returned (.bool true) ∧ Below w.heap.size w w' := by
  have hcn := hR.r2
  have HR := Lib.hid hR
  clear hR
  have A0 := (Below.refl w.heap.size w).alloc (Nat.le_refl _) (.cells #[.slice la n lc, .slice na nn nc, .slice ia il ic, .slice ca cn cc] 26)
  have pt : (w.alloc (.cells #[.slice la n lc, .slice na nn nc, .slice ia il ic, .slice ca cn cc] 26)).heap[w.heap.size]? = some (.cells #[.slice la n lc, .slice na nn nc, .slice ia il ic, .slice ca cn cc] 26 (0, 0)) := heap_alloc_new _ _
  go_enter Try.func4, Try.ntmps4
  go_upto_region 1 with fail
  obtain ⟨v1, hv⟩ : ∃ v, w.alloc (.cells #[.slice la n lc, .slice na nn nc, .slice ia il ic, .slice ca cn cc] 26) = v := ⟨_, rfl⟩
  obtain ⟨g, hg⟩ : ∃ g, w.heap.size = g := ⟨_, rfl⟩
  rw [hv] at pt A0 ⊢
  rw [hg] at pt ⊢
  have bt := A0
  have hgw : w.heap.size ≤ g := Nat.le_of_eq hg
  clear hv hg A0
  have c0 : v1.cell? ⟨g, 0, none⟩ = some (.slice la n lc) := cell_of_row _ _ 0 _ _ _ pt
  have c1 : v1.cell? ⟨g, 1, none⟩ = some (.slice na nn nc) := cell_of_row _ _ 1 _ _ _ pt
  have c2 : v1.cell? ⟨g, 2, none⟩ = some (.slice ia il ic) := cell_of_row _ _ 2 _ _ _ pt
  have c3 : v1.cell? ⟨g, 3, none⟩ = some (.slice ca cn cc) := cell_of_row _ _ 3 _ _ _ pt
  go_wp2_with fail
  refine (shown_any v1).mono ?_
  rintro e w2 ⟨rfl, b2⟩
  replace pt := (b2.block g (Array.getElem?_eq_some_iff.1 pt).1).trans pt
  replace bt := below_then bt b2
  clear c0 c1 c2 c3
  have c0 : w2.cell? ⟨g, 0, none⟩ = some (.slice la n lc) := cell_of_row _ _ 0 _ _ _ pt
  have c1 : w2.cell? ⟨g, 1, none⟩ = some (.slice na nn nc) := cell_of_row _ _ 1 _ _ _ pt
  have c2 : w2.cell? ⟨g, 2, none⟩ = some (.slice ia il ic) := cell_of_row _ _ 2 _ _ _ pt
  have c3 : w2.cell? ⟨g, 3, none⟩ = some (.slice ca cn cc) := cell_of_row _ _ 3 _ _ _ pt
  go_wp2_with fail
  refine (few_any18 w2 la na ia ca n lc nn nc il ic cn cc ln lit next init acc 20 (by decide) (h.mono bt) HR.out).mono ?_
  rintro e w3 ⟨⟨G1, rfl, hG1⟩, b3⟩
  replace pt := (b3.block g (Array.getElem?_eq_some_iff.1 pt).1).trans pt
  replace bt := below_then bt b3
  clear c0 c1 c2 c3
  have c0 : w3.cell? ⟨g, 0, none⟩ = some (.slice la n lc) := cell_of_row _ _ 0 _ _ _ pt
  have c1 : w3.cell? ⟨g, 1, none⟩ = some (.slice na nn nc) := cell_of_row _ _ 1 _ _ _ pt
  have c2 : w3.cell? ⟨g, 2, none⟩ = some (.slice ia il ic) := cell_of_row _ _ 2 _ _ _ pt
  have c3 : w3.cell? ⟨g, 3, none⟩ = some (.slice ca cn cc) := cell_of_row _ _ 3 _ _ _ pt
  have H1 := Lib.hid hG1
  clear hG1
  cases G1 with
  | false =>
    go_wp2_with fail
    go_ret
    exact ⟨rfl, bt⟩
  | true =>
  by_cases hc1 : cn < 1
  · have f1 : decide (cn < 1) = true := by simpa using hc1
    have f2 : decide ((cn : Int) < (1 : Int)) = true := by simp; omega
    clear hc1
    go_wp2_with fail
    go_ret
    exact ⟨rfl, bt⟩
  have f0 : decide (cn < 1) = false := by simpa using hc1
  have f00 : decide ((cn : Int) < (1 : Int)) = false := by simp; omega
  by_cases hc : 20 < cn
  · have f1 : decide (20 < cn) = true := by simpa using hc
    have f2 : decide ((20 : Int) < (cn : Int)) = true := by simp; omega
    clear hc hc1
    go_wp2_with fail
    go_ret
    exact ⟨rfl, bt⟩
  have f1 : decide (20 < cn) = false := by simpa using hc
  have f2 : decide ((20 : Int) < (cn : Int)) = false := by simp; omega
  have HC := Lib.hid hc
  have HC1 := Lib.hid hc1
  clear hc hc1
  go_wp2_with fail
  refine (may_any18 w3 la na ia ca n lc nn nc il ic cn cc ln lit next init acc 1073741824 (by decide) (h.mono bt)).mono ?_
  rintro e w4 ⟨⟨G2, rfl, hG2⟩, b4⟩
  replace pt := (b4.block g (Array.getElem?_eq_some_iff.1 pt).1).trans pt
  replace bt := below_then bt b4
  clear c0 c1 c2 c3
  have c0 : w4.cell? ⟨g, 0, none⟩ = some (.slice la n lc) := cell_of_row _ _ 0 _ _ _ pt
  have c1 : w4.cell? ⟨g, 1, none⟩ = some (.slice na nn nc) := cell_of_row _ _ 1 _ _ _ pt
  have c2 : w4.cell? ⟨g, 2, none⟩ = some (.slice ia il ic) := cell_of_row _ _ 2 _ _ _ pt
  have c3 : w4.cell? ⟨g, 3, none⟩ = some (.slice ca cn cc) := cell_of_row _ _ 3 _ _ _ pt
  have H2 := Lib.hid hG2
  clear hG2
  cases G2 with
  | false =>
    go_wp2_with fail
    go_ret
    exact ⟨rfl, bt⟩
  | true =>
  go_wp2_with fail
  refine (right_any18 w4 la na ia ca n lc nn nc il ic cn cc ln lit next init acc (h.mono bt)).mono ?_
  rintro e w5 ⟨⟨G3, rfl, hG3⟩, b5⟩
  replace pt := (b5.block g (Array.getElem?_eq_some_iff.1 pt).1).trans pt
  replace bt := below_then bt b5
  clear c0 c1 c2 c3
  have c0 : w5.cell? ⟨g, 0, none⟩ = some (.slice la n lc) := cell_of_row _ _ 0 _ _ _ pt
  have c1 : w5.cell? ⟨g, 1, none⟩ = some (.slice na nn nc) := cell_of_row _ _ 1 _ _ _ pt
  have c2 : w5.cell? ⟨g, 2, none⟩ = some (.slice ia il ic) := cell_of_row _ _ 2 _ _ _ pt
  have c3 : w5.cell? ⟨g, 3, none⟩ = some (.slice ca cn cc) := cell_of_row _ _ 3 _ _ _ pt
  have H3 := Lib.hid hG3
  clear hG3
  cases G3 with
  | false =>
    go_wp2_with fail
    go_ret
    exact ⟨rfl, bt⟩
  | true =>
  have t1 : FewP 20 n nn il cn ln next acc := H1.out (by first | exact rfl | exact trivial)
  have t2 : ∀ q, q < n → ∀ i, i < ln q → MayP (lit q i) := H2.out (by first | exact rfl | exact trivial)
  have t3 : RightP n ln lit nn next init cn acc := H3.out.1 (by first | exact rfl | exact trivial)
  have hc30 : cn ≤ 20 ∧ 1 ≤ cn := by have := HC.out; have := HC1.out; omega
  obtain ⟨u1, u2, u3, u4, u5, u6, u7⟩ := t1
  obtain rfl : n = nn := t3.2.1.symm
  have kO := of_any w5 la na ia ca n lc n nc il ic cn cc ln lit next init acc (h.mono bt) cn (by rw [if_neg (by omega)]) t3 t2 (by omega) (by omega) (by omega) (fun q hq => by have := u5 q (by omega); omega) (fun q hq => by have := u7 q hq; omega)
  have HKO := Lib.hid kO
  have hRD := Lib.hid (right_deg (f := inB cn acc) (by omega : 0 < cn) t3)
  have HT3 := Lib.hid t3
  have hn20 : n ≤ 20 := by omega
  have HLN := Lib.hid u7
  clear kO t2 t3 u1 u2 u3 u4 u5 u6 u7 H1 H2 H3 HC HC1 f0 f00 f1 f2
  go_wp2_with fail
  refine (HKO.out).mono ?_
  rintro e w6 ⟨⟨la2, na2, ia2, ca2, lc2, nc2, ic2, cc2, rfl, hA⟩, b6⟩
  obtain ⟨f, hf⟩ : ∃ f, inB cn acc = f := ⟨_, rfl⟩
  obtain ⟨NK, hNK⟩ : ∃ m, n * cn = m := ⟨_, rfl⟩
  rw [hf, hNK] at hA hRD
  rw [hNK]
  have HFF := Lib.hid hf
  have HNK := Lib.hid hNK
  have hNK1 : NK ≤ 400 := by
    have : n * cn ≤ 20 * 20 := Nat.mul_le_mul hn20 hc30.1
    omega
  have m0 : (cn : Int) * (n : Int) = (NK : Nat) := by rw [← hNK, Int.mul_comm]; push_cast; rfl
  have q1 : (0 : Int) ≤ ((NK : Nat) : Int) := Int.natCast_nonneg _
  have q2 : ((NK : Nat) : Int) ≤ 1000000000000 := by omega
  have M1 := Lib.hid (show RowKit.wrap64 ((cn : Int) * (n : Int)) = ((NK : Nat) : Int) from (congrArg RowKit.wrap64 m0).trans (wrapR_ok _ q1 q2))
  have M2 := Lib.hid (show IntKind.i64.wrap ((cn : Int) * (n : Int)) = ((NK : Nat) : Int) from (congrArg IntKind.i64.wrap m0).trans (wrapI_ok _ q1 q2))
  clear hf hNK m0 q1 q2
  replace pt := (b6.block g (Array.getElem?_eq_some_iff.1 pt).1).trans pt
  replace bt := below_then bt b6
  clear c0 c1 c2 c3
  have c0 : w6.cell? ⟨g, 0, none⟩ = some (.slice la n lc) := cell_of_row _ _ 0 _ _ _ pt
  have c1 : w6.cell? ⟨g, 1, none⟩ = some (.slice na n nc) := cell_of_row _ _ 1 _ _ _ pt
  have c2 : w6.cell? ⟨g, 2, none⟩ = some (.slice ia il ic) := cell_of_row _ _ 2 _ _ _ pt
  have c3 : w6.cell? ⟨g, 3, none⟩ = some (.slice ca cn cc) := cell_of_row _ _ 3 _ _ _ pt
  have bA : Below w6.heap.size w6 (w6.alloc (.cells #[.slice la2 NK lc2, .slice na2 NK nc2, .slice ia2 il ic2, .slice ca2 1 cc2] 26)) := (Below.refl _ _).alloc (Nat.le_refl _) _
  have pB := heap_alloc_new w6 (.cells #[.slice la2 NK lc2, .slice na2 NK nc2, .slice ia2 il ic2, .slice ca2 1 cc2] 26)
  have ptA := (bA.block g (Array.getElem?_eq_some_iff.1 pt).1).trans pt
  have btA := below_then bt bA
  have hAA := hA.mono bA
  have HAA := Lib.hid hAA
  clear c0 c1 c2 c3 hA hAA
  go_upto_region 6 with fail
  obtain ⟨W3, hW⟩ : ∃ W, w6.alloc (.cells #[.slice la2 NK lc2, .slice na2 NK nc2, .slice ia2 il ic2, .slice ca2 1 cc2] 26) = W := ⟨_, rfl⟩
  rw [hW] at pB ptA btA HAA ⊢
  obtain ⟨gB, hg⟩ : ∃ g, w6.heap.size = g := ⟨_, rfl⟩
  rw [hg] at pB ⊢
  clear hW hg bA pt bt b2 b3 b4 b5 b6
  have c0 := cell_of_row _ _ 0 _ _ _ pB
  have c1 := cell_of_row _ _ 1 _ _ _ pB
  have c2 := cell_of_row _ _ 2 _ _ _ pB
  have c3 := cell_of_row _ _ 3 _ _ _ pB
  simp only [List.getElem?_toArray, List.getElem?_cons_zero, List.getElem?_cons_succ] at c0 c1 c2 c3
  go_wp2_with fail
  refine (right_any18 W3 la2 na2 ia2 ca2 NK lc2 NK nc2 il ic2 1 cc2 _ _ _ _ _ HAA.out).mono ?_
  rintro e w7 ⟨⟨G4, rfl, hG4⟩, b7⟩
  obtain rfl : G4 = true := hG4.2 hRD.out
  have pt := (b7.block g (Array.getElem?_eq_some_iff.1 ptA).1).trans ptA
  have pu := (b7.block gB (Array.getElem?_eq_some_iff.1 pB).1).trans pB
  have bt := below_then btA b7
  have hA7 := HAA.out.mono b7
  clear hG4 c0 c1 c2 c3 ptA pB btA HAA hRD HKO b7
  have c0 : w7.cell? ⟨g, 0, none⟩ = some (.slice la n lc) := cell_of_row _ _ 0 _ _ _ pt
  have c1 : w7.cell? ⟨g, 1, none⟩ = some (.slice na n nc) := cell_of_row _ _ 1 _ _ _ pt
  have c2 : w7.cell? ⟨g, 2, none⟩ = some (.slice ia il ic) := cell_of_row _ _ 2 _ _ _ pt
  have c3 : w7.cell? ⟨g, 3, none⟩ = some (.slice ca cn cc) := cell_of_row _ _ 3 _ _ _ pt
  have d0 := cell_of_row _ _ 0 _ _ _ pu
  have d1 := cell_of_row _ _ 1 _ _ _ pu
  have d2 := cell_of_row _ _ 2 _ _ _ pu
  have d3 := cell_of_row _ _ 3 _ _ _ pu
  simp only [List.getElem?_toArray, List.getElem?_cons_zero, List.getElem?_cons_succ] at d0 d1 d2 d3
  have HA7 := Lib.hid hA7
  have HH7 := Lib.hid (h.mono bt)
  have m1 := M1.out
  have m2 := M2.out
  have e1 : (((NK : Nat) : Int) != ((NK : Nat) : Int)) = false := by simp
  clear hA7
  go_wp2_with fail
  clear m1 m2
  have lg := (Array.getElem?_eq_some_iff.1 pt).1
  have lgB := (Array.getElem?_eq_some_iff.1 pu).1
  clear c0 c1 c2 c3 d0 d1 d2 d3
  go_loopw [6] (fun i w' => ∃ x : Nat, x ≤ NK ∧ i = .int .i64 (x : Nat) ∧ Below w7.heap.size w7 w') (fun i _ => NK - (intOf i).toNat)
  case atStart => exact ⟨0, Nat.zero_le _, rfl, Below.refl _ _⟩
  case round =>
    obtain ⟨x, hx, rfl, b7⟩ := hrel
    have puR := (b7.block gB lgB).trans pu
    have d1 : wr.cell? ⟨gB, 1, none⟩ = some (.slice na2 NK nc2) := cell_of_row _ _ 1 _ _ _ puR
    by_cases hxl : x < NK
    · have f1 : decide (x < NK) = true := by simpa using hxl
      obtain ⟨q, hq⟩ : ∃ q, x / cn = q := ⟨_, rfl⟩
      obtain ⟨i, hi⟩ : ∃ i, x % cn = i := ⟨_, rfl⟩
      have hiK : i < cn := by rw [← hi]; exact Nat.mod_lt _ (by omega)
      have hqn : q < n := by rw [← hq]; exact Nat.div_lt_of_lt_mul (by rw [Nat.mul_comm, HNK.out]; exact hxl)
      have hxe : x = q * cn + i := by rw [← hq, ← hi, Nat.mul_comm]; exact (Nat.div_add_mod x cn).symm
      have kz : (cn : Int) ≠ 0 := by omega
      have t1 : ((x : Nat) : Int).tdiv ((cn : Nat) : Int) = (q : Nat) := by rw [Int.tdiv_eq_ediv_of_nonneg (by omega), ← hq]; push_cast; rfl
      have t2 : ((x : Nat) : Int) / ((cn : Nat) : Int) = (q : Nat) := by rw [← hq]; push_cast; rfl
      have t3 : ((x : Nat) : Int).tmod ((cn : Nat) : Int) = (i : Nat) := by rw [Int.tmod_eq_emod_of_nonneg (by omega), ← hi]; push_cast; rfl
      have t4 : ((x : Nat) : Int) % ((cn : Nat) : Int) = (i : Nat) := by rw [← hi]; push_cast; rfl
      have HQ := Lib.hid hq
      have HI := Lib.hid hi
      have HXE := Lib.hid hxe
      clear hq hi hxe
      obtain ⟨b3, o3, rfl, hb3, xa, l3, k3, eA, rA⟩ := HH7.out.acc.cell hiK
      have hl3 := Lib.hid rA.len_eq
      have hs3 := rA.small
      have HRA := Lib.hid rA
      clear rA
      go_wp2_with fail
      clear t1 t2 t3 t4 d1 puR
      go_loopw [9, 10] (fun v j w' => ∃ p : Nat, p ≤ l3 ∧ j = .int .i64 (p : Nat) ∧ v = .bool (decide ((q : Int) ∈ (acc i).take p)) ∧ Below w7.heap.size w7 w') (fun v j _ => l3 - (intOf j).toNat)
      case atStart => exact ⟨0, Nat.zero_le _, rfl, by simp, b7⟩
      case round =>
        clear b7
        obtain ⟨p, hp, rfl, rfl, b7⟩ := hrel
        have ptR := (b7.block g lg).trans pt
        have c3 : wr.cell? ⟨g, 3, none⟩ = some (.slice (some ⟨b3, o3, none⟩) cn cc) := cell_of_row _ _ 3 _ _ _ ptR
        have cA := (b7.cell (p := ⟨b3, o3 + i, none⟩) hb3).trans eA
        obtain ⟨B, hB⟩ : ∃ B, decide ((q : Int) ∈ (acc i).take p) = B := ⟨_, rfl⟩
        by_cases hpl : p < l3
        · have f2 : decide (p < l3) = true := by simpa using hpl
          have htm := take_mem (acc i) (q : Int) p (by rw [hl3.out]; exact hpl)
          obtain ⟨b5, o5, rfl, hb5, hat⟩ := (HRA.out.mono b7).at_.resolve_left (by omega)
          have hx5 := hat p hpl
          obtain ⟨y, hy⟩ : ∃ y, (acc i).getD p 0 = y := ⟨_, rfl⟩
          obtain ⟨E, hE⟩ : ∃ E, decide (y = (q : Int)) = E := ⟨_, rfl⟩
          rw [hy] at hx5 htm
          rw [hB, hE] at htm
          have eE : (y == (q : Int)) = E := by rw [← hE, Bool.eq_iff_iff]; simp
          rw [hB]
          have HT := Lib.hid htm
          clear hat hy htm hB
          cases B with
          | true =>
            clear eE hE
            go_wp2_with fail
            exact ⟨⟨p + 1, by omega, by simp, by rw [HT.out]; rfl, b7⟩, by simp [intOf]; omega⟩
          | false =>
            go_wp2_with fail
            exact ⟨⟨p + 1, by omega, by simp, by rw [HT.out]; rfl, b7⟩, by simp [intOf]; omega⟩
        · have f2 : decide (p < l3) = false := by simpa using hpl
          obtain rfl : l3 = p := by omega
          have hFe : B = f i q := by
            rw [← hB, List.take_of_length_le (by rw [hl3.out]; exact Nat.le_refl _), ← HFF.out]
            unfold inB
            rw [if_neg (by omega)]
          rw [hB]
          obtain ⟨s, hs⟩ : ∃ s, setO cn f i q = s := ⟨_, rfl⟩
          have hsK : s < cn := by rw [← hs]; exact setO_lt hiK
          have HS1 := Lib.hid hs
          have hs9 : (if B = true then (i + 1) % cn else i) = s := by rw [← hs, hFe]; rfl
          have HS9 := Lib.hid hs9
          have HFE := Lib.hid hFe
          have kz : (cn : Int) ≠ 0 := by omega
          obtain ⟨s1, hs1⟩ : ∃ s1, (i + 1) % cn = s1 := ⟨_, rfl⟩
          have r1 : ((i : Int) + 1).tmod (cn : Int) = ((s1 : Nat) : Int) := by rw [Int.tmod_eq_emod_of_nonneg (by omega), ← hs1]; push_cast; rfl
          have r2 : ((i : Int) + 1) % (cn : Int) = ((s1 : Nat) : Int) := by rw [← hs1]; push_cast; rfl
          have HS2 := Lib.hid hs1
          clear hs hs9 hFe hB hs1
          go_upto_if 100 with fail
          clear c3 cA
          go_cut [11] from 101 to 104 (fun v11 w' => v11 = .int .i64 (s : Nat) ∧ wr = w')
          case first =>
            cases B with
            | false =>
              have e9 := HS9.out
              rw [if_neg (by simp)] at e9
              subst e9
              clear r1 r2
              go_wp2_with fail
              go_meet
              exact ⟨rfl, rfl⟩
            | true =>
              have e9 := HS9.out
              first | rw [if_pos rfl] at e9 | rw [if_pos trivial] at e9
              rw [HS2.out] at e9
              subst e9
              go_wp2_with fail
              go_meet
              exact ⟨rfl, rfl⟩
          case rest =>
          obtain ⟨rfl, rfl⟩ := hcut
          clear r1 r2 HS9 ptR
          have hnx : nextO cn f next x = numsO cn s (next q) := by unfold nextO; rw [HQ.out, HI.out, HS1.out]
          obtain ⟨b4, o4, rfl, hb4, xn, ln1, kn, eN, rN⟩ := HH7.out.next.cell hqn
          obtain ⟨b5, o5, rfl, hb5, xm, lm1, km, eM, rM⟩ := HA7.out.next.cell hxl
          have hlm : lm1 = ln1 := by rw [← rM.len_eq, ← rN.len_eq, hnx]; unfold numsO; rw [List.length_map]
          subst hlm
          obtain ⟨b6, o6, rfl, hb6, xl, kl, eL, sL, _⟩ := HH7.out.lits.cell hqn
          obtain ⟨b8, o8, rfl, hb8, xp, kp, eP, sP, _⟩ := HA7.out.lits.cell hxl
          try dsimp only at eP sP
          rw [HQ.out] at eP
          have hsN := rN.small
          have z1 : ((lm1 : Int) != (lm1 : Int)) = false := by simp
          have z2 : ((ln q : Int) != (ln q : Int)) = false := by simp
          have j0 : ∀ z : Later w7.heap.size w7, z.w.cell? ⟨g, 0, none⟩ = some (.slice (some ⟨b6, o6, none⟩) n lc) := fun z => (z.below.cell (p := ⟨g, 0, none⟩) lg).trans (cell_of_row _ _ 0 _ _ _ pt)
          have j1 : ∀ z : Later w7.heap.size w7, z.w.cell? ⟨g, 1, none⟩ = some (.slice (some ⟨b4, o4, none⟩) n nc) := fun z => (z.below.cell (p := ⟨g, 1, none⟩) lg).trans (cell_of_row _ _ 1 _ _ _ pt)
          have j2 : ∀ z : Later w7.heap.size w7, z.w.cell? ⟨gB, 0, none⟩ = some (.slice (some ⟨b8, o8, none⟩) NK lc2) := fun z => (z.below.cell (p := ⟨gB, 0, none⟩) lgB).trans (cell_of_row _ _ 0 _ _ _ pu)
          have j3 : ∀ z : Later w7.heap.size w7, z.w.cell? ⟨gB, 1, none⟩ = some (.slice (some ⟨b5, o5, none⟩) NK nc2) := fun z => (z.below.cell (p := ⟨gB, 1, none⟩) lgB).trans (cell_of_row _ _ 1 _ _ _ pu)
          have j4 : ∀ z : Later w7.heap.size w7, z.w.cell? ⟨b4, o4 + q, none⟩ = some (.slice xn lm1 kn) := fun z => (z.below.cell (p := ⟨b4, o4 + q, none⟩) hb4).trans eN
          have j5 : ∀ z : Later w7.heap.size w7, z.w.cell? ⟨b5, o5 + x, none⟩ = some (.slice xm lm1 km) := fun z => (z.below.cell (p := ⟨b5, o5 + x, none⟩) hb5).trans eM
          have j6 : ∀ z : Later w7.heap.size w7, z.w.cell? ⟨b6, o6 + q, none⟩ = some (.slice xl (ln q) kl) := fun z => (z.below.cell (p := ⟨b6, o6 + q, none⟩) hb6).trans eL
          have j7 : ∀ z : Later w7.heap.size w7, z.w.cell? ⟨b8, o8 + x, none⟩ = some (.slice xp (ln q) kp) := fun z => (z.below.cell (p := ⟨b8, o8 + x, none⟩) hb8).trans eP
          have HNX := Lib.hid hnx
          have HRN := Lib.hid rN
          have HRM := Lib.hid rM
          clear hnx rN rM
          go_upto_region 21 with fail
          refine wp_region_later w7.heap.size w7 (by kernel_rfl) (by kernel_rfl) b7 ?_
          repeat (go_big_quiet_step (fail))
          refine wpQuiet_nil ?_
          intro _ hlat
          obtain ⟨zx, rfl⟩ := hlat
          have b7 := zx.below
          have k5 := j5 zx
          have k3 := j3 zx
          clear j0 j2 j6 j7 z2
          go_wp2_with fail
          clear k5 k3
          go_loopw [12] (fun j w' => ∃ p : Nat, p ≤ lm1 ∧ j = .int .i64 (p : Nat) ∧ Below w7.heap.size w7 w') (fun j _ => lm1 - (intOf j).toNat)
          case atStart => exact ⟨0, Nat.zero_le _, rfl, b7⟩
          case round =>
            clear b7
            obtain ⟨p, hp, rfl, b7⟩ := hrel
            have k3 := j3 ⟨wr, b7⟩
            have k5 := j5 ⟨wr, b7⟩
            dsimp only at k3 k5
            by_cases hpl : p < lm1
            · have f3 : decide (p < lm1) = true := by simpa using hpl
              obtain ⟨b9, o9, rfl, hb9, hat⟩ := HRN.out.at_.resolve_left (by omega)
              obtain ⟨bb, ob, rfl, hbb, hbt⟩ := HRM.out.at_.resolve_left (by omega)
              have hx9 := hat p hpl
              have hxb := hbt p hpl
              have hy := (HT3.out.2.2.1 q hqn).1 ((next q).getD p 0) ((memD_iff _ _).2 ⟨p, by rw [HRN.out.len_eq]; exact hpl, rfl⟩)
              have hgd : (nextO cn f next x).getD p 0 = (next q).getD p 0 * (cn : Int) + (s : Int) := by
                have hjq : p < (next q).length := by rw [HRN.out.len_eq]; exact hpl
                rw [HNX.out]
                unfold numsO
                simp [hjq]
              rw [hgd] at hxb
              obtain ⟨y, hye⟩ : ∃ y, (next q).getD p 0 = y := ⟨_, rfl⟩
              rw [hye] at hx9 hxb hy
              obtain ⟨Y, hY⟩ : ∃ Y, y * (cn : Int) = Y := ⟨_, rfl⟩
              rw [hY] at hxb
              have hY0 : 0 ≤ Y := by rw [← hY]; exact Int.mul_nonneg hy.1 (by omega)
              have h9 : y * (cn : Int) ≤ 1000 * 1000 := Int.mul_le_mul (by omega) (by omega) (by omega) (by decide)
              have hY1 : Y ≤ 1000000 := by rw [hY] at h9; omega
              have m1 : RowKit.wrap64 (y * (cn : Int)) = Y := (congrArg RowKit.wrap64 hY).trans (wrapR_ok _ hY0 (by omega))
              have m2 : IntKind.i64.wrap (y * (cn : Int)) = Y := (congrArg IntKind.i64.wrap hY).trans (wrapI_ok _ hY0 (by omega))
              have z3 : ((Y + (s : Int)) != (Y + (s : Int))) = false := by simp
              have j8 : ∀ z : Later w7.heap.size w7, z.w.cell? ⟨b9, o9 + p, none⟩ = some (.int .i64 y) := fun z => (z.below.cell (p := ⟨b9, o9 + p, none⟩) hb9).trans hx9
              have j9 : ∀ z : Later w7.heap.size w7, z.w.cell? ⟨bb, ob + p, none⟩ = some (.int .i64 (Y + (s : Int))) := fun z => (z.below.cell (p := ⟨bb, ob + p, none⟩) hbb).trans hxb
              clear hat hbt hx9 hxb hy hgd hye hY h9
              go_upto_region 26 with fail
              clear k3 k5
              refine wp_region_later w7.heap.size w7 (by kernel_rfl) (by kernel_rfl) b7 ?_
              repeat (go_big_quiet_step (fail))
              refine wpQuiet_nil ?_
              intro _ hlat
              obtain ⟨zy, rfl⟩ := hlat
              have b7 := zy.below
              clear m1 m2 z3 j8 j9
              go_wp2_with fail
              exact ⟨⟨p + 1, by omega, by simp, b7⟩, by simp [intOf]; omega⟩
            · have f3 : decide (p < lm1) = false := by simpa using hpl
              obtain rfl : lm1 = p := by omega
              obtain ⟨bc, oc, rfl, hbc, xc, l0, kc, eC, rC⟩ := HA7.out.acc.cell (j := 0) (by decide)
              rw [Nat.add_zero] at eC
              have hlC := Lib.hid rC.len_eq
              have hsC := rC.small
              have HRC := Lib.hid rC
              clear rC
              go_wp2_with fail
              clear k3 k5 j1 j3 j4 j5
              go_loopw [13, 14] (fun v j w' => ∃ p : Nat, p ≤ l0 ∧ j = .int .i64 (p : Nat) ∧ v = .bool (decide ((x : Int) ∈ (accO cn f n).take p)) ∧ Below w7.heap.size w7 w') (fun v j _ => l0 - (intOf j).toNat)
              case atStart => exact ⟨0, Nat.zero_le _, rfl, by simp, b7⟩
              case round =>
                clear b7
                obtain ⟨p, hp, rfl, rfl, b7⟩ := hrel
                have puR := (b7.block gB lgB).trans pu
                have d3 : wr.cell? ⟨gB, 3, none⟩ = some (.slice (some ⟨bc, oc, none⟩) 1 cc2) := cell_of_row _ _ 3 _ _ _ puR
                have cC := (b7.cell (p := ⟨bc, oc, none⟩) hbc).trans eC
                obtain ⟨M, hM⟩ : ∃ M, decide ((x : Int) ∈ (accO cn f n).take p) = M := ⟨_, rfl⟩
                by_cases hpl : p < l0
                · have f4 : decide (p < l0) = true := by simpa using hpl
                  have htm := take_mem (accO cn f n) (x : Int) p (by rw [hlC.out]; exact hpl)
                  obtain ⟨b9, o9, rfl, hb9, hat⟩ := (HRC.out.mono b7).at_.resolve_left (by omega)
                  have hx9 := hat p hpl
                  obtain ⟨y, hy⟩ : ∃ y, (accO cn f n).getD p 0 = y := ⟨_, rfl⟩
                  obtain ⟨E, hE⟩ : ∃ E, decide (y = (x : Int)) = E := ⟨_, rfl⟩
                  rw [hy] at hx9 htm
                  rw [hM, hE] at htm
                  have eE : (y == (x : Int)) = E := by rw [← hE, Bool.eq_iff_iff]; simp
                  rw [hM]
                  have HT := Lib.hid htm
                  clear hat hy htm hM
                  cases M with
                  | true =>
                    clear eE hE
                    go_wp2_with fail
                    exact ⟨⟨p + 1, by omega, by simp, by rw [HT.out]; rfl, b7⟩, by simp [intOf]; omega⟩
                  | false =>
                    go_wp2_with fail
                    exact ⟨⟨p + 1, by omega, by simp, by rw [HT.out]; rfl, b7⟩, by simp [intOf]; omega⟩
                · have f4 : decide (p < l0) = false := by simpa using hpl
                  obtain rfl : l0 = p := by omega
                  have hMe : M = (if i = 0 then f 0 q else false) := by
                    rw [← hM, List.take_of_length_le (by rw [hlC.out]; exact Nat.le_refl _), ← acc_mem hiK hqn]
                    have := HXE.out
                    subst this
                    rfl
                  rw [hM]
                  have HM := Lib.hid hMe
                  clear hM hMe
                  by_cases hi0 : i = 0
                  · have eZ : ((i : Int) == 0) = true := by rw [hi0]; rfl
                    have eZ2 : decide (i = 0) = true := by simpa using hi0
                    have hMB : M = B := by
                      have h1 := HM.out
                      have h2 := HFE.out
                      rw [if_pos hi0] at h1
                      rw [hi0] at h2
                      rw [h1, h2]
                    subst hMB
                    clear hi0
                    cases M with
                    | true =>
                      go_wp2_with fail
                      exact ⟨⟨x + 1, by omega, by simp, b7⟩, by simp [intOf]; omega⟩
                    | false =>
                      go_wp2_with fail
                      exact ⟨⟨x + 1, by omega, by simp, b7⟩, by simp [intOf]; omega⟩
                  · have eZ : ((i : Int) == 0) = false := by simp; omega
                    have eZ2 : decide (i = 0) = false := by simpa using hi0
                    have hM0 : M = false := by have h1 := HM.out; rw [if_neg hi0] at h1; exact h1
                    subst hM0
                    clear hi0
                    go_wp2_with fail
                    exact ⟨⟨x + 1, by omega, by simp, b7⟩, by simp [intOf]; omega⟩
    · have f1 : decide (x < NK) = false := by simpa using hxl
      go_wp2_with fail
      go_ret
      exact ⟨rfl, below_then bt b7⟩
end Go.Proofs.Ytcacflgopnjciaa
