/- The document's Of: its walk (by gen19n.py). -/
import Derived.Test.YtcacflgopnjciaaAutL
import Derived.Deep.CutBlock
namespace Go.Proofs.Ytcacflgopnjciaa
open Go.RowKit
set_option linter.unusedVariables false
set_option linter.unusedSimpArgs false

theorem wrapI_ok (z : Int) (h0 : 0 ≤ z) (h1 : z ≤ 1000000000000) : IntKind.i64.wrap z = z := by simp [IntKind.wrap, IntKind.bits, IntKind.signed]; omega
theorem wrapR_ok (z : Int) (h0 : 0 ≤ z) (h1 : z ≤ 1000000000000) : RowKit.wrap64 z = z := by unfold RowKit.wrap64; omega
set_option maxRecDepth 100000 in
set_option maxHeartbeats 8000000 in
theorem refof_any (w : World) (la na ia ca : Option Addr) (n lc nn nc il ic cn cc : Nat) (ln : Nat → Nat) (lit : Nat → Nat → T) (next : Nat → List Int) (init : List Int) (acc : Nat → List Int) (h : AutAt w la na ia ca n nn il cn ln lit next init acc) (K : Nat) (hK : K = if cn = 0 then 1 else cn) (hR : RightP n ln lit nn next init cn acc) (hn : n ≤ 1000) (hcn : cn ≤ 1000) (hil : il ≤ 1000000) (hnx : ∀ q, q < n → (next q).length ≤ 1000000) (hln : ∀ q, q < n → ln q ≤ 1000000) :
    Calls Try.prog 11 #[.agg #[.slice la n lc, .slice na nn nc, .slice ia il ic, .slice ca cn cc]] w fun e w' => OfR K n il cn ln lit next init acc e w' ∧ Below w.heap.size w w' := by
  have hK1 : 1 ≤ K ∧ K ≤ 1000 := by rw [hK]; split <;> omega
  obtain ⟨r1, r2, r3, r4⟩ := hR
  obtain rfl : n = nn := r2.symm
  clear r2
  have HF := Lib.hid (And.intro r1 (And.intro r3 r4))
  have HK := Lib.hid hK
  have HX := Lib.hid hnx
  have HLn := Lib.hid hln
  clear r1 r3 r4 hnx hln hK
  obtain ⟨pt, pu, A⟩ := two_new w #[.slice la n lc, .slice na n nc, .slice ia il ic, .slice ca cn cc] #[.slice none 0 0, .slice none 0 0, .slice none 0 0, .slice none 0 0] (26) (26)
  go_enter Try.func11, Try.ntmps11
  go_upto_region 1 with fail
  obtain ⟨v1, hv⟩ : ∃ v, (w.alloc (.cells #[.slice la n lc, .slice na n nc, .slice ia il ic, .slice ca cn cc] 26)).alloc (.cells #[.slice none 0 0, .slice none 0 0, .slice none 0 0, .slice none 0 0] 26) = v := ⟨_, rfl⟩
  rw [hv] at pt pu A ⊢
  obtain ⟨gR, hgu⟩ : ∃ g, w.heap.size + 1 = g := ⟨_, rfl⟩
  rw [hgu] at pu ⊢
  obtain ⟨ga, hgt⟩ : ∃ g, w.heap.size = g := ⟨_, rfl⟩
  have hga : w.heap.size ≤ ga := Nat.le_of_eq hgt
  have hgR : ga < gR := by omega
  rw [hgt] at pt ⊢
  have bt := A
  clear hv hgu hgt A
  have c0 : v1.cell? ⟨ga, 0, none⟩ = some (.slice la n lc) := cell_of_row _ _ 0 _ _ _ pt
  have c1 : v1.cell? ⟨ga, 1, none⟩ = some (.slice na n nc) := cell_of_row _ _ 1 _ _ _ pt
  have c2 : v1.cell? ⟨ga, 2, none⟩ = some (.slice ia il ic) := cell_of_row _ _ 2 _ _ _ pt
  have c3 : v1.cell? ⟨ga, 3, none⟩ = some (.slice ca cn cc) := cell_of_row _ _ 3 _ _ _ pt
  go_wp2_with fail
  refine (refsets_any v1 la na ia ca n lc n nc il ic cn cc ln lit next init acc (h.mono bt) K HK.out hn).mono ?_
  rintro e w2 ⟨⟨aS, cS, rfl, hrows⟩, b2⟩
  obtain ⟨f, hf⟩ : ∃ f, inB cn acc = f := ⟨_, rfl⟩
  have HFF := Lib.hid hf
  have hfq : ∀ i q, q < n → decide ((q : Int) ∈ setRow n cn acc i) = f i q := fun i q hq => by rw [← hf]; exact setRow_in hq
  have HFQ := Lib.hid hfq
  clear hf hfq c0 c1 c2 c3
  replace pt := (b2.block ga (Array.getElem?_eq_some_iff.1 pt).1).trans pt
  replace pu := (b2.block gR (Array.getElem?_eq_some_iff.1 pu).1).trans pu
  replace bt := below_then bt b2
  have lga := (Array.getElem?_eq_some_iff.1 pt).1
  have lgR := (Array.getElem?_eq_some_iff.1 pu).1
  have HRW := Lib.hid hrows
  clear hrows
  obtain ⟨ph, pg, A⟩ := two_new w2 #[.slice none 0 0] #[.slice none 0 0, .slice none 0 0, .slice none 0 0, .slice (some ⟨w2.heap.size, 0, none⟩) 1 1] (24) (26)
  go_upto_region 4 with fail
  obtain ⟨w3, hv⟩ : ∃ v, (w2.alloc (.cells #[.slice none 0 0] 24)).alloc (.cells #[.slice none 0 0, .slice none 0 0, .slice none 0 0, .slice (some ⟨w2.heap.size, 0, none⟩) 1 1] 26) = v := ⟨_, rfl⟩
  have hs3 : w3.heap.size = w2.heap.size + 2 := by rw [← hv, World.size_alloc, World.size_alloc]
  rw [hv] at ph pg A ⊢
  obtain ⟨g, hgu⟩ : ∃ g, w2.heap.size + 1 = g := ⟨_, rfl⟩
  rw [hgu] at pg ⊢
  obtain ⟨hh, hgt⟩ : ∃ g, w2.heap.size = g := ⟨_, rfl⟩
  have lhh : hh = w2.heap.size := hgt.symm
  have lgg : g = w2.heap.size + 1 := hgu.symm
  rw [hgt] at ph pg ⊢
  have hs2 := bt.size
  have hS : RefS w w2 gR g hh K f ln lit next (numsO K 0 init) 0 0 w3 := by
    have hz : (0 + K - 1) / K = 0 := by rw [Nat.zero_add]; exact Nat.div_eq_of_lt (by omega)
    unfold RefS
    rw [hz]
    refine ⟨fun b => b < w2.heap.size ∧ b ≠ gR, .slice none 0 0, .slice none 0 0, .slice none 0 0, .slice none 0 0, [], [], ⟨(A.block gR lgR).trans pu, pg, ph, World.ownsRow_nil _ _ _ _, World.ownsRow_nil _ _ _ _, World.ownsRow_nil _ _ _ _, World.ownsRow_nil _ _ _ _, (fun b hb => by cases hb), by omega, by omega, by omega, fun hs => hs.2 rfl, fun hs => by have := hs.1; omega, fun hs => by have := hs.1; omega, (fun b hb => by cases hb), (fun b hb => by cases hb), (fun b hb => by cases hb), (fun b hb => by cases hb), fun b hs => by have := hs.1; omega, fun b hb => ⟨by omega, by omega⟩⟩, (fun x hx => by omega), (fun x hx => by omega), fun b h1 h2 => ⟨h1, h2⟩, A⟩
  have HS := Lib.hid hS
  have hrg : gR < hh := by omega
  have hwh : w2.heap.size ≤ hh := by omega
  have hhg : hh < g := by omega
  clear lhh lgg hs3 hS hv hgu hgt ph pg A pu b2
  obtain ⟨NK, hNK⟩ : ∃ m, n * K = m := ⟨_, rfl⟩
  have hNK1 : NK ≤ 1000000 := by
    have : n * K ≤ 1000 * 1000 := Nat.mul_le_mul hn hK1.2
    omega
  have m0 : (K : Int) * (n : Int) = (NK : Nat) := by rw [← hNK, Int.mul_comm]; push_cast; rfl
  have q1 : (0 : Int) ≤ ((NK : Nat) : Int) := Int.natCast_nonneg _
  have q2 : ((NK : Nat) : Int) ≤ 1000000000000 := by omega
  have M1 := Lib.hid (show RowKit.wrap64 ((K : Int) * (n : Int)) = ((NK : Nat) : Int) from (congrArg RowKit.wrap64 m0).trans (wrapR_ok _ q1 q2))
  have M2 := Lib.hid (show IntKind.i64.wrap ((K : Int) * (n : Int)) = ((NK : Nat) : Int) from (congrArg IntKind.i64.wrap m0).trans (wrapI_ok _ q1 q2))
  have HNK := Lib.hid hNK
  clear hNK m0 q1 q2
  go_wp2_with fail
  go_loopw [6] (fun i w' => ∃ x : Nat, x ≤ NK ∧ i = .int .i64 (x : Nat) ∧ Hid (RefS w w2 gR g hh K f ln lit next (numsO K 0 init) x 0 w')) (fun i _ => NK - (intOf i).toNat)
  case atStart => exact ⟨0, Nat.zero_le _, rfl, HS⟩
  case round =>
    clear HS
    obtain ⟨x, hx, rfl, HS⟩ := hrel
    have b2r : Below w2.heap.size w2 wr := by obtain ⟨_, _, _, _, _, _, _, _, _, _, _, b⟩ := HS.out; exact b
    have hga2 := (b2r.block ga lga).trans pt
    have btr : Below w.heap.size w wr := bt.trans (b2r.mono hs2)
    have c0 : wr.cell? ⟨ga, 0, none⟩ = some (.slice la n lc) := cell_of_row _ _ 0 _ _ _ hga2
    by_cases hxl : x < NK
    · have f1 : decide (x < NK) = true := by simpa using hxl
      obtain ⟨q, hq⟩ : ∃ q, x / K = q := ⟨_, rfl⟩
      obtain ⟨i, hi⟩ : ∃ i, x % K = i := ⟨_, rfl⟩
      have hiK : i < K := by rw [← hi]; exact Nat.mod_lt _ (by omega)
      have hqn : q < n := by rw [← hq]; exact Nat.div_lt_of_lt_mul (by rw [Nat.mul_comm, HNK.out]; exact hxl)
      have hxe : x = q * K + i := by rw [← hq, ← hi, Nat.mul_comm]; exact (Nat.div_add_mod x K).symm
      have kz : (K : Int) ≠ 0 := by omega
      have t1 : ((x : Nat) : Int).tdiv ((K : Nat) : Int) = (q : Nat) := by rw [Int.tdiv_eq_ediv_of_nonneg (by omega), ← hq]; push_cast; rfl
      have t2 : ((x : Nat) : Int) / ((K : Nat) : Int) = (q : Nat) := by rw [← hq]; push_cast; rfl
      have t3 : ((x : Nat) : Int).tmod ((K : Nat) : Int) = (i : Nat) := by rw [Int.tmod_eq_emod_of_nonneg (by omega), ← hi]; push_cast; rfl
      have t4 : ((x : Nat) : Int) % ((K : Nat) : Int) = (i : Nat) := by rw [← hi]; push_cast; rfl
      have HQ := Lib.hid hq
      have HI := Lib.hid hi
      have HXE := Lib.hid hxe
      clear hq hi hxe
      obtain ⟨bS, oS, rfl, hbS, x9, l9, k9, cS0, rS⟩ := HRW.out.cell hiK
      have cS := (b2r.cell (p := ⟨bS, oS + i, none⟩) hbS).trans cS0
      have m1 := M1.out
      have m2 := M2.out
      go_upto_region 7 with fail
      clear m1 m2
      go_wp2_with fail
      refine (in19_any _ x9 l9 k9 (setRow n cn acc i) (q : Int) (rS.mono b2r)).mono ?_
      rintro e w4 ⟨rfl, b4⟩
      rw [HFQ.out i q hqn]
      have HS4 := Lib.hid (HS.out.mem b4)
      obtain ⟨s, hs⟩ : ∃ s, setO K f i q = s := ⟨_, rfl⟩
      have hsK : s < K := by rw [← hs]; exact setO_lt hiK
      have HS1 := Lib.hid hs
      clear HS b2r hga2 btr c0 cS cS0 rS t1 t2
      go_upto_if 41 with fail
      unfold setO at hs
      obtain ⟨B, hB⟩ : ∃ B, f i q = B := ⟨_, rfl⟩
      rw [hB] at hs ⊢
      obtain ⟨s9, hs9⟩ : ∃ s9 : Nat, (if B = true then i + 1 else i) = s9 := ⟨_, rfl⟩
      have hse : (if s9 = K then 0 else s9) = s := by
        rw [← hs, ← hs9]
        cases B with
        | false => simp; omega
        | true =>
          simp
          by_cases he : i + 1 = K
          · rw [if_pos he, he, Nat.mod_self]
          · rw [if_neg he, Nat.mod_eq_of_lt (by omega)]
      have hs9K : s9 ≤ K := by rw [← hs9]; split <;> omega
      have HS9 := Lib.hid hs9
      have HSE := Lib.hid hse
      clear hB hs hs9 hse
      go_cut [8] from 42 to 43 (fun v8 w' => v8 = .int .i64 (s9 : Nat) ∧ w4 = w')
      case first =>
        cases B with
        | false =>
          have e9 := HS9.out
          rw [if_neg (by simp)] at e9
          subst e9
          go_wp2_with fail
          go_meet
          exact ⟨rfl, rfl⟩
        | true =>
          have e9 := HS9.out
          first | rw [if_pos rfl] at e9 | rw [if_pos trivial] at e9
          subst e9
          go_wp2_with fail
          go_meet
          exact ⟨by first | rfl | simp, rfl⟩
      case rest =>
      obtain ⟨rfl, rfl⟩ := hcut
      obtain ⟨E, hE⟩ : ∃ E, decide (s9 = K) = E := ⟨_, rfl⟩
      have eE : ((s9 : Int) == (K : Int)) = E := by rw [← hE, Bool.eq_iff_iff]; simp; omega
      have eE2 : decide (s9 = K) = E := hE
      have HE := Lib.hid hE
      clear hE HS9
      go_upto_if 46 with fail
      go_cut [8] from 46 to 46 (fun v8 w' => v8 = .int .i64 (s : Nat) ∧ w4 = w')
      case first =>
        cases E with
        | false =>
          have e9 := HSE.out
          rw [if_neg (of_decide_eq_false HE.out)] at e9
          subst e9
          clear eE eE2
          go_wp2_with fail
          go_meet
          exact ⟨rfl, rfl⟩
        | true =>
          have e9 := HSE.out
          rw [if_pos (of_decide_eq_true HE.out)] at e9
          subst e9
          clear eE eE2
          go_wp2_with fail
          go_meet
          exact ⟨rfl, rfl⟩
      case rest =>
      obtain ⟨rfl, rfl⟩ := hcut
      clear eE eE2 HE HSE hs9K
      have hnx : nextO K f next x = numsO K s (next q) := by unfold nextO; rw [HQ.out, HI.out, HS1.out]
      obtain ⟨S, vL, vN, vI, vA, xL, xN, Q4, HL4, HN4, hS4, b24⟩ := HS4.out
      have HHL4 := Lib.hid HL4
      have HHN4 := Lib.hid HN4
      have HHS4 := Lib.hid hS4
      have btr : Below w.heap.size w w4 := bt.trans (b24.mono hs2)
      have hga4 := (b24.block ga lga).trans pt
      have lga4 := (Array.getElem?_eq_some_iff.1 hga4).1
      obtain ⟨b6, o6, rfl, hb6, x1, l1, k1, cN0, r1⟩ := h.next.cell hqn
      have hl1 := HX.out q hqn
      rw [r1.len_eq] at hl1
      have hnl : (nextO K f next x).length = l1 := by rw [hnx]; unfold numsO; rw [List.length_map]; exact r1.len_eq
      have hst := (HF.out.2.1 q hqn).1
      have HST := Lib.hid hst
      have HNX := Lib.hid hnx
      have HNL := Lib.hid hnl
      have HR1 := Lib.hid r1
      have hlen := Lib.hid r1.len_eq
      clear HL4 HN4 hS4 hst hnx hnl r1 HS4
      go_wp2_with fail
      go_loopw [10, 11] (fun v i w' => ∃ j : Nat, j ≤ l1 ∧ i = .int .i64 (j : Nat) ∧ w'.ownsRow w4.heap.size 3 1 v j (((nextO K f next x).take j).map (Value.int .i64)) ∧ Below w4.heap.size w4 w') (fun v i _ => l1 - (intOf i).toNat)
      case atStart => exact ⟨0, Nat.zero_le _, rfl, World.ownsRow_nil _ _ _ _, Below.refl _ _⟩
      case round =>
        obtain ⟨j, hj, rfl, own, b5⟩ := hrel
        have bt5 := btr.trans (b5.mono btr.size)
        have hga5 := (b5.block ga lga4).trans hga4
        have c1 : wr.cell? ⟨ga, 1, none⟩ = some (.slice (some ⟨b6, o6, none⟩) n nc) := cell_of_row _ _ 1 _ _ _ hga5
        have cN := (bt5.cell (p := ⟨b6, o6 + q, none⟩) hb6).trans cN0
        have hs5 := b5.size
        by_cases hjl : j < l1
        · have f2 : decide (j < l1) = true := by simpa using hjl
          obtain ⟨b7, o7, rfl, hb7, hat⟩ := (HR1.out.mono bt5).at_.resolve_left (by omega)
          have hx7 := hat j hjl
          have hy := HST.out ((next q).getD j 0) ((memD_iff _ _).2 ⟨j, by rw [hlen.out]; exact hjl, rfl⟩)
          have htk := take_snocZ (nextO K f next x) j (by rw [HNL.out]; exact hjl)
          have hgd : (nextO K f next x).getD j 0 = (next q).getD j 0 * (K : Int) + (s : Int) := by
            have hjq : j < (next q).length := by rw [hlen.out]; exact hjl
            rw [HNX.out]
            unfold numsO
            simp [hjq]
          obtain ⟨y, hye⟩ : ∃ y, (next q).getD j 0 = y := ⟨_, rfl⟩
          rw [hye] at hx7 hy hgd
          obtain ⟨Y, hY⟩ : ∃ Y, y * (K : Int) = Y := ⟨_, rfl⟩
          have hY0 : 0 ≤ Y := by rw [← hY]; exact Int.mul_nonneg hy.1 (by omega)
          have h9 : y * (K : Int) ≤ 1000 * 1000 := Int.mul_le_mul (by omega) (by omega) (by omega) (by decide)
          have hY1 : Y ≤ 1000000 := by rw [hY] at h9; omega
          rw [hgd, hY] at htk
          have HT := Lib.hid htk
          have m1 : RowKit.wrap64 (y * (K : Int)) = Y := (congrArg RowKit.wrap64 hY).trans (wrapR_ok _ hY0 (by omega))
          have m2 : IntKind.i64.wrap (y * (K : Int)) = Y := (congrArg IntKind.i64.wrap hY).trans (wrapI_ok _ hY0 (by omega))
          have bA : Below wr.heap.size wr (wr.alloc (.cells #[.int .i64 (Y + (s : Int))] 3)) := (Below.refl _ _).alloc (Nat.le_refl _) _
          have own2 := ownR_bel own bA
          have hlow := Lib.hid own.lt
          clear hat hye hy hgd htk hY own h9
          go_wp2_with (first | (at_builtin; refine append_at rfl (.tmp 57) (.tmp 70) 24 rfl w4.heap.size 3 (.int .i64 0) 1 8 Try.underlying24 Try.info_int rfl (by decide) _ j _ rfl own2 ⟨_, 0, none⟩ 1 1 [.int .i64 (Y + (s : Int))] rfl rfl (cell_one_new _ _ _) (fun u hu => by rw [List.mem_singleton.1 hu]; rfl) (by unfold maxLen; omega) (by omega) (by simp; omega) ?_; intro v5 w5 own5 gr5 at5))
          have b6' : Below w4.heap.size w4 w5 := (below_then b5 bA).grown gr5 (by simp; omega) (fun k hk => (hlow.out k hk).1)
          refine ⟨⟨j + 1, by omega, by simp, ?_, b6'⟩, by simp [intOf]; omega⟩
          rw [HT.out, List.map_append]
          exact own5
        · have f2 : decide (j < l1) = false := by simpa using hjl
          obtain rfl : l1 = j := by omega
          obtain ⟨a10, c10, e10⟩ := own_sl own
          subst e10
          have hown := own.lt
          have hG : IntsOn (fun b => (Value.slice a10 l1 c10).ownBlock = some b) wr a10 (nextO K f next x) := by
            rcases own_rowAt own with ⟨e1, e2⟩ | ⟨g9, c9, e1, _, _, hc9⟩
            · exact .inl (by rw [HNL.out]; exact e2)
            · injection e1 with e2 e3 e4
              subst e2
              refine .inr ⟨g9, rfl, rfl, fun i hi => hc9 i _ ?_⟩
              rw [List.take_of_length_le (by rw [HNL.out]; exact Nat.le_refl _)]
              exact map_getD _ i hi
          have lR4 := (Array.getElem?_eq_some_iff.1 Q4.r).1
          have lG4 := (Array.getElem?_eq_some_iff.1 Q4.b).1
          have lH4 := (Array.getElem?_eq_some_iff.1 Q4.o).1
          have QI := (Q4.mem b5).seal (S1 := fun b => (Value.slice a10 l1 c10).ownBlock = some b) (fun b hb => by
            have h1 := hown b hb
            refine ⟨h1.2, by omega, by omega, by omega, fun he => ?_, fun he => ?_, fun he => ?_, fun he => ?_⟩
            · have := (Q4.L.lt b he).2; omega
            · have := (Q4.N.lt b he).2; omega
            · have := (Q4.I.lt b he).2; omega
            · have := (Q4.A.lt b he).2; omega)
          have hG2 := hG.to (S' := fun b => S b ∨ (Value.slice a10 l1 c10).ownBlock = some b) (fun b hb => .inr hb) (fun _ _ => rfl)
          have HN5 := HHN4.out.to (S' := fun b => S b ∨ (Value.slice a10 l1 c10).ownBlock = some b) (fun b hb => .inl hb) (fun b hb => b5.block b (Q4.lt b hb))
          have hS5 : ∀ b, b < w2.heap.size → b ≠ gR → (fun b => S b ∨ (Value.slice a10 l1 c10).ownBlock = some b) b := fun b h1 h2 => .inl (HHS4.out b h1 h2)
          have b25 := b24.trans (b5.mono b24.size)
          obtain ⟨S5, hS5e⟩ : ∃ S5 : Nat → Prop, (fun b => S b ∨ (Value.slice a10 l1 c10).ownBlock = some b) = S5 := ⟨_, rfl⟩
          rw [hS5e] at QI hG2 HN5 hS5
          have HG := Lib.hid hG2
          have HHN := Lib.hid HN5
          have HHS := Lib.hid hS5
          obtain ⟨W4, rfl⟩ : ∃ W4, W4 = wr := ⟨_, rfl⟩
          clear hS5e hG hG2 HN5 hS5 hown own lR4 lG4 lH4 Q4 HHN4 HHS4 b24 hga4 lga4 btr
          obtain ⟨b4, o4, rfl, hb4, ra, rc, cB0, _, hpa⟩ := h.lits.cell hqn
          have hbw := bt5.size
          have lG := (Array.getElem?_eq_some_iff.1 QI.b).1
          have lH := (Array.getElem?_eq_some_iff.1 QI.o).1
          have lA := (Array.getElem?_eq_some_iff.1 hga5).1
          have nG : some g ≠ vL.ownBlock := fun he => own_off1 QI.L QI.b (by decide) g he.symm rfl
          have nA : some ga ≠ vL.ownBlock := fun he => QI.sL ga he.symm (HHS.out ga lga (by omega))
          have nB : some b4 ≠ vL.ownBlock := fun he => QI.sL b4 he.symm (QI.low b4 hb4)
          have lB : b4 < W4.heap.size := Nat.lt_of_lt_of_le hb4 bt5.size
          have cB := (bt5.cell (p := ⟨b4, o4 + q, none⟩) hb4).trans cB0
          have cG0 : W4.cell? ⟨g, 0, none⟩ = some vL := cell_of_row _ _ 0 _ _ _ QI.b
          have c0 : W4.cell? ⟨ga, 0, none⟩ = some (.slice (some ⟨b4, o4, none⟩) n lc) := cell_of_row _ _ 0 _ _ _ hga5
          go_upto_region 19 with fail
          refine wp_region_vals 130 (by kernel_rfl) (by kernel_rfl) (fun s => Nat.blt s 72 || (Nat.ble 82 s && Nat.blt s 130)) [some (.pointer (some ⟨g, 0, none⟩)), some (vL), some (.pointer (some ⟨ga, 0, none⟩)), some (.slice (some ⟨b4, o4, none⟩) n lc), some (.int .i64 (q : Nat)), some (.pointer (some ⟨b4, o4 + q, none⟩)), some (.slice ra (ln q) rc), none, none, some (.pointer (some ⟨g, 0, none⟩)), none] (PX 6 7 8 10 78 79 80 32 W4 w.heap.size x (vL) (xL) g 0 (#[vL, vN, vI, .slice (some ⟨hh, 0, none⟩) 1 1]) 26 (GoodV (.slice ra (ln q) rc))) (by kernel_rfl) (PX.start _ (fun _ => rfl) ⟨rfl, rfl, rfl, rfl⟩) ?_ ?_
          · skip
            refine stepv_cons (sv_read rfl (fun L u z v h => h.same' rfl rfl rfl rfl rfl rfl rfl) (fun L u z hC hLi hd => ⟨trivial, .pointer (some ⟨g, 0, none⟩), by simp only [execOp]; rw [show evU 130 u (.tmp 5) = .pointer (some ⟨g, 0, none⟩) from hC.keep 5 rfl]; (try simp only [evU]); go_simp, fun x hx => by cases hx; rfl⟩)) ?_
            refine stepv_cons (sv_read rfl (fun L u z v h => h.same' rfl rfl rfl rfl rfl rfl rfl) (fun L u z hC hLi hd => ?_)) ?_
            · have n10 : L 10 = false := by cases hh : L 10 with | false => rfl | true => exact Bool.noConfusion (hLi.symm.trans (hC.closed 8 1 (hC.closed 10 8 hh rfl) rfl))
              have cq9 := hC.x.cell n10 lG nG cG0
              exact ⟨trivial, vL, by simp only [execOp]; rw [show evU 130 u (.tmp 72) = .pointer (some ⟨g, 0, none⟩) from hC.val 0 _ (hd 0 rfl) rfl rfl]; (try simp only [evU]); go_simp, fun x hx => by cases hx; rfl⟩
            refine stepv_cons (sv_read rfl (fun L u z v h => h.same' rfl rfl rfl rfl rfl rfl rfl) (fun L u z hC hLi hd => ⟨trivial, .pointer (some ⟨ga, 0, none⟩), by simp only [execOp]; rw [show evU 130 u (.tmp 1) = .pointer (some ⟨ga, 0, none⟩) from hC.keep 1 rfl]; (try simp only [evU]); go_simp, fun x hx => by cases hx; rfl⟩)) ?_
            refine stepv_cons (sv_read rfl (fun L u z v h => h.same' rfl rfl rfl rfl rfl rfl rfl) (fun L u z hC hLi hd => ?_)) ?_
            · have n10 : L 10 = false := by cases hh : L 10 with | false => rfl | true => exact Bool.noConfusion (hLi.symm.trans (hC.closed 5 3 (hC.closed 6 5 (hC.closed 7 6 (hC.closed 8 7 (hC.closed 10 8 hh rfl) rfl) rfl) rfl) rfl))
              have cq9 := hC.x.cell n10 lA nA c0
              exact ⟨trivial, .slice (some ⟨b4, o4, none⟩) n lc, by simp only [execOp]; rw [show evU 130 u (.tmp 74) = .pointer (some ⟨ga, 0, none⟩) from hC.val 2 _ (hd 2 rfl) rfl rfl]; (try simp only [evU]); go_simp, fun x hx => by cases hx; rfl⟩
            refine stepv_cons (sv_read rfl (fun L u z v h => h.same' rfl rfl rfl rfl rfl rfl rfl) (fun L u z hC hLi hd => ⟨trivial, .int .i64 (q : Nat), by simp only [execOp]; rw [show evU 130 u (.tmp 7) = .int .i64 (q : Nat) from hC.keep 7 rfl]; (try simp only [evU]); go_simp, fun x hx => by cases hx; rfl⟩)) ?_
            refine stepv_cons (sv_read rfl (fun L u z v h => h.same' rfl rfl rfl rfl rfl rfl rfl) (fun L u z hC hLi hd => ⟨trivial, .pointer (some ⟨b4, o4 + q, none⟩), by simp only [execOp]; rw [show evU 130 u (.tmp 75) = .slice (some ⟨b4, o4, none⟩) n lc from hC.val 3 _ (hd 3 rfl) rfl rfl]; rw [show evU 130 u (.tmp 76) = .int .i64 (q : Nat) from hC.val 4 _ (hd 4 rfl) rfl rfl]; (try simp only [evU]); go_simp, fun x hx => by cases hx; rfl⟩)) ?_
            refine stepv_cons (sv_make rfl (fun L u z hC hLi hd => ?_)) ?_
            · have n10 : L 10 = false := by cases hh : L 10 with | false => rfl | true => exact Bool.noConfusion (hLi.symm.trans (hC.closed 7 6 (hC.closed 8 7 (hC.closed 10 8 hh rfl) rfl) rfl))
              have n7 : L 7 = false := by cases hh : L 7 with | false => rfl | true => exact Bool.noConfusion (hLi.symm.trans (hC.closed 7 6 hh rfl))
              have n8 : L 8 = false := by cases hh : L 8 with | false => rfl | true => exact Bool.noConfusion (hLi.symm.trans (hC.closed 7 6 (hC.closed 8 7 hh rfl) rfl))
              have cq9 := hC.x.cell n10 lB nB cB
              exact ⟨trivial, .slice ra (ln q) rc, z, .inl (by simp only [execOp]; rw [show evU 130 u (.tmp 77) = .pointer (some ⟨b4, o4 + q, none⟩) from hC.val 5 _ (hd 5 rfl) rfl rfl]; (try simp only [evU]); go_simp), (fun x hx => by cases hx; rfl), hC.x.elem (by decide) n7 n8 _ rfl⟩
            refine stepv_cons (sv_make rfl (fun L u z hC hLi hd => ?_)) ?_
            · have n8 : L 8 = false := by cases hh : L 8 with | false => rfl | true => exact Bool.noConfusion (hLi.symm.trans (hC.closed 8 7 hh rfl))
              have n10 : L 10 = false := by cases hh : L 10 with | false => rfl | true => exact Bool.noConfusion (hLi.symm.trans (hC.closed 8 7 (hC.closed 10 8 hh rfl) rfl))
              have y6 : L 6 = true := (hd 6 rfl)
              obtain ⟨S1, s1, s2, s3⟩ := hC.x.el y6
              have e0 := s3
              refine ⟨trivial, .slice (some ⟨z.heap.size, 0, none⟩) 1 1, z.alloc (.cells #[u 78] 32), .inl ?_, (fun x hx => by cases hx), hC.x.build (by decide) n8 n10 GoodV.frame⟩
              simp only [execOp, List.map_toArray, List.map_cons, List.map_nil]
              rw [show evU 130 u (.tmp 78) = u 78 from rfl, e0]
              go_simp
            refine stepv_cons (sv_make rfl (fun L u z hC hLi hd => ?_)) ?_
            · have n10 : L 10 = false := by cases hh : L 10 with | false => rfl | true => exact Bool.noConfusion (hLi.symm.trans (hC.closed 10 8 hh rfl))
              have y6 : L 6 = true := (hC.closed 7 6 (hd 7 rfl) rfl)
              have y7 : L 7 = true := (hd 7 rfl)
              obtain ⟨v', w', hr, hx⟩ := hC.x.app (P := Try.prog) (by decide) y6 y7 hLi n10 GoodV.frame (fun S x w hv => by rw [show x = _ from hv]; rfl) QI.L hbw 22 _ Try.underlying22 (.slice none 0 0) 24 Try.info_exprs rfl (by unfold maxLen; omega) (by omega)
              exact ⟨trivial, v', w', .inl (run_append_call (hC.val 1 _ (hd 1 rfl) rfl rfl) rfl hr), (fun x hx => by cases hx), hx⟩
            refine stepv_cons (sv_read rfl (fun L u z v h => h.same' rfl rfl rfl rfl rfl rfl rfl) (fun L u z hC hLi hd => ⟨trivial, .pointer (some ⟨g, 0, none⟩), by simp only [execOp]; rw [show evU 130 u (.tmp 5) = .pointer (some ⟨g, 0, none⟩) from hC.keep 5 rfl]; (try simp only [evU]); go_simp, fun x hx => by cases hx; rfl⟩)) ?_
            refine stepv_cons (sv_make rfl (fun L u z hC hLi hd => ?_)) ?_
            · have y8 : L 8 = true := (hd 8 rfl)
              have y6 : L 6 = true := (hC.closed 7 6 (hC.closed 8 7 (hd 8 rfl) rfl) rfl)
              obtain ⟨ow, ob⟩ := hC.x.ap y8
              have hsx := hC.x.store (by decide) y8 hLi GoodV.frame QI.b nG (d := 1000010) (by decide) undef y6
              obtain ⟨a1, c1, e1⟩ := own_sl ow
              have gz := (hC.x.keep g (Array.getElem?_eq_some_iff.1 QI.b).1 (fun _ => nG) (fun hh => by rw [hLi] at hh; cases hh)).trans QI.b
              have k0 := cell_of_row _ _ 0 _ _ _ gz
              simp only [List.getElem?_toArray, List.getElem?_cons_zero, List.getElem?_cons_succ] at k0
              have f0 := frozen_of_row z _ 0 _ _ gz
              refine ⟨trivial, undef, _, .inr ⟨?_, rfl⟩, (fun x hx => by cases hx), hsx⟩
              simp only [execOp]
              rw [show evU 130 u (.tmp 81) = .pointer (some ⟨g, 0, none⟩) from hC.val 9 _ (hd 9 rfl) rfl rfl, show evU 130 u (.tmp 80) = u 80 from rfl, e1]
              go_simp
            exact stepv_nil rfl
          · intro L u z hall hC
            obtain ⟨S1, s1, s2, s3⟩ := hC.x.el (hall 6 rfl)
            obtain ⟨ow, ob⟩ := hC.x.ap (hall 8 rfl)
            have st := hC.x.st (hall 10 rfl)
            have kp : ∀ b, b < W4.heap.size → some b ≠ (vL).ownBlock → b ≠ g → z.heap[b]? = W4.heap[b]? := fun b hb h1 h2 => hC.x.keep b hb (fun _ => h1) (fun _ => h2)
            have hsz := hC.x.size
            have hout := hC.x.same
            replace s2 := s2 (hall 8 rfl)
            rw [frame_kept2 (n := 130) (lim := 72) (hi := 82) rfl (by decide) (by decide) hC.keep]
            simp only [List.take_succ_cons, List.take_zero, List.nil_append, List.cons_append, List.drop_succ_cons, List.drop_zero, show List.range' 72 (82 - 72) = [72, 73, 74, 75, 76, 77, 78, 79, 80, 81] from rfl, List.map_cons, List.map_nil]
            generalize u 80 = vX at *
            generalize u 78 = xE at *
            obtain ⟨Q1, k1⟩ := QI.pushL hsz kp s1 s2 ow ob st
            have hxE : xE = .slice ra (ln q) rc := s3
            subst hxE
            have HL1 : LitsR w (x + 1) (fun x => ln (x / K)) (fun x => lit (x / K)) (xL ++ [.slice ra (ln q) rc]) := by
              have t := HHL4.out.snoc (by have := QI.L.1; omega) (a := ra) (c := rc) (show PartsAt w ra (ln (x / K)) (lit (x / K)) by rw [HQ.out]; exact hpa)
              try dsimp only at t
              rw [HQ.out] at t
              exact t
            have HN1 := HHN.out.to (S' := fun b => S5 b ∨ S1 b) (fun b hb => .inl hb) k1
            have HG1 := HG.out.to (S' := fun b => S5 b ∨ S1 b) (fun b hb => .inl hb) k1
            have hS1 : ∀ b, b < w2.heap.size → b ≠ gR → (fun b => S5 b ∨ S1 b) b := fun b h1 h2 => .inl (HHS.out b h1 h2)
            have b26 := below_of2 b25 hsz hout HHS.out k1 (Q1.r.trans QI.r.symm)
            obtain ⟨S6, hS6⟩ : ∃ S6 : Nat → Prop, (fun b => S5 b ∨ S1 b) = S6 := ⟨_, rfl⟩
            rw [hS6] at Q1 HN1 HG1 hS1
            have HHL1 := Lib.hid HL1
            have HHN1 := Lib.hid HN1
            have HHG1 := Lib.hid HG1
            have HHS1 := Lib.hid hS1
            obtain ⟨W5, rfl⟩ : ∃ W5, W5 = z := ⟨_, rfl⟩
            obtain ⟨vL1, rfl⟩ : ∃ y, y = vX := ⟨_, rfl⟩
            obtain ⟨xL1, hxL1⟩ : ∃ y, xL ++ [Value.slice ra (ln q) rc] = y := ⟨_, rfl⟩
            rw [hxL1] at Q1 HHL1
            clear hS6 hxL1 HL1 HN1 HG1 hS1 QI HHN HG HHS HHL4 k1 kp s1 s2 s3 ow ob st hC hall nG nA nB lB cB cG0 c0 cB0 hpa lG lH lA hbw hsz hout hga5 bt5 b5 b25 c1 cN cN0 hs5
            have lR5 := (Array.getElem?_eq_some_iff.1 Q1.r).1
            have lG5 := (Array.getElem?_eq_some_iff.1 Q1.b).1
            have lH5 := (Array.getElem?_eq_some_iff.1 Q1.o).1
            have cG1 : W5.cell? ⟨g, 1, none⟩ = some vN := cell_of_row _ _ 1 _ _ _ Q1.b
            have bA : Below W5.heap.size W5 (W5.alloc (.cells #[.slice a10 l1 c10] 24)) := (Below.refl _ _).alloc (Nat.le_refl _) _
            have ownA := ownR_bel Q1.N bA
            have pgA := (bA.block g lG5).trans Q1.b
            have hx1m : x + 1 ≤ 1000000 := by omega
            go_upto_region 21 with (first | (at_builtin; refine append_at rfl (.tmp 83) (.tmp 85) 23 rfl (hh + 1) 24 (.slice none 0 0) 1 24 Try.underlying23 Try.info_ints rfl (by decide) _ x _ rfl ownA ⟨_, 0, none⟩ 1 1 [.slice a10 l1 c10] rfl rfl (cell_one_new _ _ _) (fun u hu => by rw [List.mem_singleton.1 hu]; rfl) (by unfold maxLen; omega) (by omega) (by simp; omega) ?_; intro v5 w5 own5 gr5 at5; obtain ⟨a5, c5, rfl⟩ := own_sl own5; have g5 := (gr5.block g (by simp; omega) (fun he => own_off1 ownA pgA (by decide) g he.symm rfl)).trans pgA; have q5 := cell_of_row w5 g 1 _ _ _ g5; have f5 := frozen_of_row w5 g 1 _ _ g5; simp only [List.getElem?_toArray, List.getElem?_cons_zero, List.getElem?_cons_succ] at q5))
            obtain ⟨W6, hW6⟩ : ∃ W6, w5.setCell ⟨g, 1, none⟩ (.slice a5 (x + 1) c5) = W6 := ⟨_, rfl⟩
            have e6 : ∀ b, b ≠ g → W6.heap[b]? = w5.heap[b]? := fun b hb => by rw [← hW6]; exact Below.heap_setCell _ _ _ _ (by show b ≠ g; exact hb)
            have st6 : W6.heap[g]? = some (.cells #[vL1, .slice a5 (x + 1) c5, vI, .slice (some ⟨hh, 0, none⟩) 1 1] 26 (0, 0)) := by rw [← hW6]; exact heap_setCell_same w5 g 1 _ _ _ g5
            have z6 : W6.heap.size = w5.heap.size := by rw [← hW6]; simp [World.setCell]
            have hout6 : W6.os = W5.os ∧ W6.tape = W5.tape ∧ W6.output = W5.output := by rw [← hW6]; exact ⟨gr5.os.trans bA.os, gr5.tape.trans bA.tape, gr5.output.trans bA.output⟩
            have hz6 : W5.heap.size ≤ W6.heap.size := by rw [z6]; exact Nat.le_trans bA.size gr5.size
            rw [hW6]
            obtain ⟨Q2, k2⟩ := Q1.pushN (S1 := fun _ => False) hz6 (fun b hb h1 h2 => (e6 b h2).trans ((gr5.block b (Nat.lt_of_lt_of_le hb bA.size) h1).trans (bA.block b hb))) (fun b hb => hb.elim) (fun b hb => hb.elim) (own_keep own5 fun b hb => e6 b (own_off1 own5 g5 (by decide) b hb)) (at5.elim .inl fun h5 => .inr fun b hb => by rw [h5] at hb; have := Option.some.inj hb; rw [World.size_alloc] at this; omega) st6
            have HN2 := (HHN1.out.to (S' := fun b => S6 b ∨ False) (fun b hb => .inl hb) k2).snoc (by have := Q1.N.1; omega) (a := a10) (c := c10) (HHG1.out.to (S' := fun b => S6 b ∨ False) (fun b hb => .inl hb) k2)
            rw [HNL.out] at HN2
            have hS2 : ∀ b, b < w2.heap.size → b ≠ gR → (fun b => S6 b ∨ False) b := fun b h1 h2 => .inl (HHS1.out b h1 h2)
            have b27 := below_of2 b26 hz6 hout6 HHS1.out k2 (Q2.r.trans Q1.r.symm)
            obtain ⟨S7, hS7⟩ : ∃ S7 : Nat → Prop, (fun b => S6 b ∨ False) = S7 := ⟨_, rfl⟩
            rw [hS7] at Q2 HN2 hS2
            obtain ⟨xN1, hxN1⟩ : ∃ y, xN ++ [Value.slice a10 l1 c10] = y := ⟨_, rfl⟩
            rw [hxN1] at Q2 HN2
            have HHN2 := Lib.hid HN2
            have HHS2 := Lib.hid hS2
            clear hS7 hxN1 HN2 hS2 k2 Q1 HHN1 HHG1 HHS1 b26 e6 st6 z6 hout6 hz6 hW6 q5 f5 g5 own5 gr5 at5 pgA ownA bA cG1 lR5 lG5 lH5
            obtain ⟨b8, o8, he8, hb8, x8, l8, k8, cS8, r8⟩ := HRW.out.cell (j := 0) (by omega)
            cases he8
            have cS9 := (b27.cell (p := ⟨bS, oS + 0, none⟩) hb8).trans cS8
            rw [Nat.add_zero] at cS9
            go_wp2_with fail
            refine (in19_any _ x8 l8 k8 (setRow n cn acc 0) (q : Int) (r8.mono b27)).mono ?_
            rintro e w7 ⟨rfl, b7⟩
            rw [HFQ.out 0 q hqn]
            have QI := Q2.mem b7
            have HN3 := HHN2.out.to (S' := S7) (fun _ h => h) (fun b hb => b7.block b (Q2.lt b hb))
            have HHN := Lib.hid HN3
            have b28 := b27.trans (b7.mono b27.size)
            obtain ⟨B0, hB0⟩ : ∃ B0, f 0 q = B0 := ⟨_, rfl⟩
            rw [hB0]
            have HB0 := Lib.hid hB0
            obtain ⟨W7, rfl⟩ : ∃ W7, W7 = w7 := ⟨_, rfl⟩
            clear HN3 hB0 Q2 HHN2 b27 cS9 cS8 r8 b7
            have hc1 : (x + 1 + K - 1) / K = q + 1 := by
              rw [HXE.out]
              exact ceil1 q (i + 1) K (by omega) (by omega)
            by_cases hi0 : i = 0
            · have eZ : ((i : Int) == 0) = true := by rw [hi0]; rfl
              have hc0 : (x + K - 1) / K = q := by rw [HXE.out, hi0, Nat.add_zero]; exact ceil0 q K (by omega)
              have hac := accO_succ K f q
              have hal := accO_len K f q
              rw [HB0.out] at hac
              have HC1 := Lib.hid hc1
              have HC0 := Lib.hid hc0
              have HAC := Lib.hid hac
              have HI0 := Lib.hid hi0
              clear hc1 hc0 hac hi0
              cases B0 with
              | false =>
                have HE := Lib.hid (show RefS w w2 gR g hh K f ln lit next (numsO K 0 init) (x + 1) 0 W7 from by
                  have hac := HAC.out
                  rw [if_neg (by simp), List.append_nil] at hac
                  rw [HC0.out] at QI
                  unfold RefS
                  rw [HC1.out, hac]
                  exact ⟨_, _, _, _, _, _, _, QI, HHL1.out, HHN.out, HHS2.out, b28⟩)
                clear QI HHL1 HHN HHS2 b28
                go_wp2_with fail
                exact ⟨⟨x + 1, by omega, by simp, HE⟩, by simp [intOf]; omega⟩
              | true =>
                have nG : some g ≠ vA.ownBlock := fun he => own_off1 QI.A QI.b (by decide) g he.symm rfl
                have nH : some hh ≠ vA.ownBlock := fun he => own_off1 QI.A QI.o (by decide) hh he.symm rfl
                have lG := (Array.getElem?_eq_some_iff.1 QI.b).1
                have lH := (Array.getElem?_eq_some_iff.1 QI.o).1
                have hbw : w.heap.size ≤ W7.heap.size := by have := QI.hb; omega
                have cG3 : W7.cell? ⟨g, 3, none⟩ = some (.slice (some ⟨hh, 0, none⟩) 1 1) := cell_of_row _ _ 3 _ _ _ QI.b
                have cH : W7.cell? ⟨hh, 0, none⟩ = some vA := cell_of_row _ _ 0 _ _ _ QI.o
                have hal2 : (accO K f ((x + K - 1) / K)).length ≤ 1000 := by rw [HC0.out]; omega
                go_upto_region 23 with fail
                refine wp_region_vals 130 (by kernel_rfl) (by kernel_rfl) (fun s => Nat.blt s 100 || (Nat.ble 110 s && Nat.blt s 130)) [some (.pointer (some ⟨g, 3, none⟩)), some (.slice (some ⟨hh, 0, none⟩) 1 1), some (.pointer (some ⟨g, 3, none⟩)), some (.slice (some ⟨hh, 0, none⟩) 1 1), some (.pointer (some ⟨hh, 0, none⟩)), some (vA), some (.int .i64 (x : Nat)), none, none, some (.pointer (some ⟨hh, 0, none⟩)), none] (PX 6 7 8 10 106 107 108 3 W7 w.heap.size (accO K f ((x + K - 1) / K)).length (vA) (((accO K f ((x + K - 1) / K)).map (Value.int .i64))) hh 0 (#[vA]) 24 (GoodV (.int .i64 (x : Nat)))) (by kernel_rfl) (PX.start _ (fun _ => rfl) ⟨rfl, rfl, rfl, rfl⟩) ?_ ?_
                · skip
                  refine stepv_cons (sv_read rfl (fun L u z v h => h.same' rfl rfl rfl rfl rfl rfl rfl) (fun L u z hC hLi hd => ⟨trivial, .pointer (some ⟨g, 3, none⟩), by simp only [execOp]; rw [show evU 130 u (.tmp 5) = .pointer (some ⟨g, 0, none⟩) from hC.keep 5 rfl]; (try simp only [evU]); go_simp, fun x hx => by cases hx; rfl⟩)) ?_
                  refine stepv_cons (sv_read rfl (fun L u z v h => h.same' rfl rfl rfl rfl rfl rfl rfl) (fun L u z hC hLi hd => ?_)) ?_
                  · have n10 : L 10 = false := by cases hh : L 10 with | false => rfl | true => exact Bool.noConfusion (hLi.symm.trans (hC.closed 9 1 (hC.closed 10 9 hh rfl) rfl))
                    have cq9 := hC.x.cell n10 lG nG cG3
                    exact ⟨trivial, .slice (some ⟨hh, 0, none⟩) 1 1, by simp only [execOp]; rw [show evU 130 u (.tmp 100) = .pointer (some ⟨g, 3, none⟩) from hC.val 0 _ (hd 0 rfl) rfl rfl]; (try simp only [evU]); go_simp, fun x hx => by cases hx; rfl⟩
                  refine stepv_cons (sv_read rfl (fun L u z v h => h.same' rfl rfl rfl rfl rfl rfl rfl) (fun L u z hC hLi hd => ⟨trivial, .pointer (some ⟨g, 3, none⟩), by simp only [execOp]; rw [show evU 130 u (.tmp 5) = .pointer (some ⟨g, 0, none⟩) from hC.keep 5 rfl]; (try simp only [evU]); go_simp, fun x hx => by cases hx; rfl⟩)) ?_
                  refine stepv_cons (sv_read rfl (fun L u z v h => h.same' rfl rfl rfl rfl rfl rfl rfl) (fun L u z hC hLi hd => ?_)) ?_
                  · have n10 : L 10 = false := by cases hh : L 10 with | false => rfl | true => exact Bool.noConfusion (hLi.symm.trans (hC.closed 4 3 (hC.closed 5 4 (hC.closed 8 5 (hC.closed 10 8 hh rfl) rfl) rfl) rfl))
                    have cq9 := hC.x.cell n10 lG nG cG3
                    exact ⟨trivial, .slice (some ⟨hh, 0, none⟩) 1 1, by simp only [execOp]; rw [show evU 130 u (.tmp 102) = .pointer (some ⟨g, 3, none⟩) from hC.val 2 _ (hd 2 rfl) rfl rfl]; (try simp only [evU]); go_simp, fun x hx => by cases hx; rfl⟩
                  refine stepv_cons (sv_read rfl (fun L u z v h => h.same' rfl rfl rfl rfl rfl rfl rfl) (fun L u z hC hLi hd => ⟨trivial, .pointer (some ⟨hh, 0, none⟩), by simp only [execOp]; rw [show evU 130 u (.tmp 103) = .slice (some ⟨hh, 0, none⟩) 1 1 from hC.val 3 _ (hd 3 rfl) rfl rfl]; (try simp only [evU]); go_simp, fun x hx => by cases hx; rfl⟩)) ?_
                  refine stepv_cons (sv_read rfl (fun L u z v h => h.same' rfl rfl rfl rfl rfl rfl rfl) (fun L u z hC hLi hd => ?_)) ?_
                  · have n10 : L 10 = false := by cases hh : L 10 with | false => rfl | true => exact Bool.noConfusion (hLi.symm.trans (hC.closed 8 5 (hC.closed 10 8 hh rfl) rfl))
                    have cq9 := hC.x.cell n10 lH nH cH
                    exact ⟨trivial, vA, by simp only [execOp]; rw [show evU 130 u (.tmp 104) = .pointer (some ⟨hh, 0, none⟩) from hC.val 4 _ (hd 4 rfl) rfl rfl]; (try simp only [evU]); go_simp, fun x hx => by cases hx; rfl⟩
                  refine stepv_cons (sv_make rfl (fun L u z hC hLi hd => ?_)) ?_
                  · have n7 : L 7 = false := by cases hh : L 7 with | false => rfl | true => exact Bool.noConfusion (hLi.symm.trans (hC.closed 7 6 hh rfl))
                    have n8 : L 8 = false := by cases hh : L 8 with | false => rfl | true => exact Bool.noConfusion (hLi.symm.trans (hC.closed 7 6 (hC.closed 8 7 hh rfl) rfl))
                    exact ⟨trivial, .int .i64 (x : Nat), z, .inl (by simp only [execOp]; rw [show evU 130 u (.tmp 6) = .int .i64 (x : Nat) from hC.keep 6 rfl]; (try simp only [evU]); go_simp), (fun x hx => by cases hx; rfl), hC.x.elem (by decide) n7 n8 _ rfl⟩
                  refine stepv_cons (sv_make rfl (fun L u z hC hLi hd => ?_)) ?_
                  · have n8 : L 8 = false := by cases hh : L 8 with | false => rfl | true => exact Bool.noConfusion (hLi.symm.trans (hC.closed 8 7 hh rfl))
                    have n10 : L 10 = false := by cases hh : L 10 with | false => rfl | true => exact Bool.noConfusion (hLi.symm.trans (hC.closed 8 7 (hC.closed 10 8 hh rfl) rfl))
                    have y6 : L 6 = true := (hd 6 rfl)
                    obtain ⟨S1, s1, s2, s3⟩ := hC.x.el y6
                    have e0 := s3
                    refine ⟨trivial, .slice (some ⟨z.heap.size, 0, none⟩) 1 1, z.alloc (.cells #[u 106] 3), .inl ?_, (fun x hx => by cases hx), hC.x.build (by decide) n8 n10 GoodV.frame⟩
                    simp only [execOp, List.map_toArray, List.map_cons, List.map_nil]
                    rw [show evU 130 u (.tmp 106) = u 106 from rfl, e0]
                    go_simp
                  refine stepv_cons (sv_make rfl (fun L u z hC hLi hd => ?_)) ?_
                  · have n10 : L 10 = false := by cases hh : L 10 with | false => rfl | true => exact Bool.noConfusion (hLi.symm.trans (hC.closed 10 8 hh rfl))
                    have y6 : L 6 = true := (hC.closed 7 6 (hd 7 rfl) rfl)
                    have y7 : L 7 = true := (hd 7 rfl)
                    obtain ⟨v', w', hr, hx⟩ := hC.x.app (P := Try.prog) (by decide) y6 y7 hLi n10 GoodV.frame (fun S x w hv => by rw [show x = _ from hv]; rfl) QI.A hbw 24 _ Try.underlying24 (.int .i64 0) 8 Try.info_int rfl (by unfold maxLen; omega) (by omega)
                    exact ⟨trivial, v', w', .inl (run_append_call (hC.val 5 _ (hd 5 rfl) rfl rfl) rfl hr), (fun x hx => by cases hx), hx⟩
                  refine stepv_cons (sv_read rfl (fun L u z v h => h.same' rfl rfl rfl rfl rfl rfl rfl) (fun L u z hC hLi hd => ⟨trivial, .pointer (some ⟨hh, 0, none⟩), by simp only [execOp]; rw [show evU 130 u (.tmp 101) = .slice (some ⟨hh, 0, none⟩) 1 1 from hC.val 1 _ (hd 1 rfl) rfl rfl]; (try simp only [evU]); go_simp, fun x hx => by cases hx; rfl⟩)) ?_
                  refine stepv_cons (sv_make rfl (fun L u z hC hLi hd => ?_)) ?_
                  · have y8 : L 8 = true := (hd 8 rfl)
                    have y6 : L 6 = true := (hC.closed 7 6 (hC.closed 8 7 (hd 8 rfl) rfl) rfl)
                    obtain ⟨ow, ob⟩ := hC.x.ap y8
                    have hsx := hC.x.store (by decide) y8 hLi GoodV.frame QI.o nH (d := 1000010) (by decide) undef y6
                    obtain ⟨a1, c1, e1⟩ := own_sl ow
                    have gz := (hC.x.keep hh (Array.getElem?_eq_some_iff.1 QI.o).1 (fun _ => nH) (fun hh => by rw [hLi] at hh; cases hh)).trans QI.o
                    have k0 := cell_of_row _ _ 0 _ _ _ gz
                    simp only [List.getElem?_toArray, List.getElem?_cons_zero, List.getElem?_cons_succ] at k0
                    have f0 := frozen_of_row z _ 0 _ _ gz
                    refine ⟨trivial, undef, _, .inr ⟨?_, rfl⟩, (fun x hx => by cases hx), hsx⟩
                    simp only [execOp]
                    rw [show evU 130 u (.tmp 109) = .pointer (some ⟨hh, 0, none⟩) from hC.val 9 _ (hd 9 rfl) rfl rfl, show evU 130 u (.tmp 108) = u 108 from rfl, e1]
                    go_simp
                  exact stepv_nil rfl
                · intro L u z hall hC
                  obtain ⟨S1, s1, s2, s3⟩ := hC.x.el (hall 6 rfl)
                  obtain ⟨ow, ob⟩ := hC.x.ap (hall 8 rfl)
                  have st := hC.x.st (hall 10 rfl)
                  have kp : ∀ b, b < W7.heap.size → some b ≠ (vA).ownBlock → b ≠ hh → z.heap[b]? = W7.heap[b]? := fun b hb h1 h2 => hC.x.keep b hb (fun _ => h1) (fun _ => h2)
                  have hsz := hC.x.size
                  have hout := hC.x.same
                  replace s2 := s2 (hall 8 rfl)
                  rw [frame_kept2 (n := 130) (lim := 100) (hi := 110) rfl (by decide) (by decide) hC.keep]
                  simp only [List.take_succ_cons, List.take_zero, List.nil_append, List.cons_append, List.drop_succ_cons, List.drop_zero, show List.range' 100 (110 - 100) = [100, 101, 102, 103, 104, 105, 106, 107, 108, 109] from rfl, List.map_cons, List.map_nil]
                  generalize u 108 = vX at *
                  generalize u 106 = xE at *
                  obtain ⟨Q3, k3⟩ := QI.pushA hsz kp s1 s2 ow ob st
                  have hxE : xE = .int .i64 ((q : Int) * (K : Int)) := by
                    rw [show xE = _ from s3, HXE.out, HI0.out]
                    congr 1
                  have HN4 := HHN.out.to (S' := fun b => S7 b ∨ S1 b) (fun b hb => .inl hb) k3
                  have b29 := below_of2 b28 hsz hout HHS2.out k3 (Q3.r.trans QI.r.symm)
                  have HE := Lib.hid (show RefS w w2 gR g hh K f ln lit next (numsO K 0 init) (x + 1) 0 z from by
                    have hac := HAC.out
                    first | rw [if_pos rfl] at hac | rw [if_pos trivial] at hac
                    have hl : (accO K f (q + 1)).length = (accO K f q).length + 1 := by rw [hac, List.length_append]; rfl
                    rw [HC0.out, hxE] at Q3
                    unfold RefS
                    rw [HC1.out, hl, hac, List.map_append]
                    exact ⟨_, _, _, _, _, _, _, Q3, HHL1.out, HN4, fun b h1 h2 => .inl (HHS2.out b h1 h2), b29⟩)
                  clear Q3 k3 hxE HN4 b29 QI HHL1 HHN HHS2 b28 kp s1 s2 s3 ow ob st hC hall nG nH cG3 cH lG lH hbw hsz hout
                  go_wp2_with fail
                  exact ⟨⟨x + 1, by omega, by simp, HE⟩, by simp [intOf]; omega⟩
            · have eZ : ((i : Int) == 0) = false := by simp; omega
              have eZ2 : decide (i = 0) = false := by simpa using hi0
              have hc0 : (x + K - 1) / K = q + 1 := by rw [HXE.out]; exact ceil1 q i K (by omega) (by omega)
              have HE := Lib.hid (show RefS w w2 gR g hh K f ln lit next (numsO K 0 init) (x + 1) 0 W7 from by
                rw [hc0] at QI
                unfold RefS
                rw [hc1]
                exact ⟨_, _, _, _, _, _, _, QI, HHL1.out, HHN.out, HHS2.out, b28⟩)
              clear QI HHL1 HHN HHS2 b28 hc0 hc1
              go_wp2_with fail
              exact ⟨⟨x + 1, by omega, by simp, HE⟩, by simp [intOf]; omega⟩
    · have f1 : decide (x < NK) = false := by simpa using hxl
      obtain rfl : NK = x := by omega
      have m1 := M1.out
      have m2 := M2.out
      go_wp2_with fail
      clear m1 m2 c0
      go_loopw [13] (fun i w' => ∃ j : Nat, j ≤ il ∧ i = .int .i64 (j : Nat) ∧ Hid (RefS w w2 gR g hh K f ln lit next (numsO K 0 init) NK j w')) (fun i _ => il - (intOf i).toNat)
      case atStart => exact ⟨0, Nat.zero_le _, rfl, HS⟩
      case round =>
        clear HS b2r hga2 btr
        obtain ⟨j, hj, rfl, HS⟩ := hrel
        obtain ⟨S, vL, vN, vI, vA, xL, xN, QI, HL, HN, hS, b2r⟩ := HS.out
        have hga2 := (b2r.block ga lga).trans pt
        have bt4 : Below w.heap.size w wr := bt.trans (b2r.mono hs2)
        have c2 : wr.cell? ⟨ga, 2, none⟩ = some (.slice ia il ic) := cell_of_row _ _ 2 _ _ _ hga2
        have HHL := Lib.hid HL
        have HHN := Lib.hid HN
        have HHS := Lib.hid hS
        clear HL HN hS HS
        by_cases hjl : j < il
        · have f2 : decide (j < il) = true := by simpa using hjl
          have hil2 := Lib.hid h.init.len_eq
          obtain ⟨b4, o4, rfl, hb4, hat⟩ := h.init.at_.resolve_left (by omega)
          have cB0 := hat j hjl
          have hy := HF.out.1 (init.getD j 0) ((memD_iff _ _).2 ⟨j, by rw [hil2.out]; exact hjl, rfl⟩)
          have hnl : (numsO K 0 init).length = il := by unfold numsO; rw [List.length_map]; exact hil2.out
          have htk := take_snocZ (numsO K 0 init) j (by rw [hnl]; exact hjl)
          have hgd : (numsO K 0 init).getD j 0 = init.getD j 0 * (K : Int) := by
            have hjq : j < init.length := by rw [hil2.out]; exact hjl
            unfold numsO
            simp [hjq]
          obtain ⟨y, hye⟩ : ∃ y, init.getD j 0 = y := ⟨_, rfl⟩
          rw [hye] at cB0 hy hgd
          rw [hgd] at htk
          have HT := Lib.hid htk
          have hY0 : 0 ≤ y * (K : Int) := Int.mul_nonneg hy.1 (by omega)
          have hY1 : y * (K : Int) ≤ 1000 * 1000 := Int.mul_le_mul (by omega) (by omega) (by omega) (by decide)
          have m1 : RowKit.wrap64 (y * (K : Int)) = y * (K : Int) := wrapR_ok _ hY0 (by omega)
          have m2 : IntKind.i64.wrap (y * (K : Int)) = y * (K : Int) := wrapI_ok _ hY0 (Int.le_trans hY1 (by decide))
          clear hat hye hy hgd htk hnl hY0 hY1
          have hbw := bt4.size
          have lG := (Array.getElem?_eq_some_iff.1 QI.b).1
          have lA := (Array.getElem?_eq_some_iff.1 hga2).1
          have nG : some g ≠ vI.ownBlock := fun he => own_off1 QI.I QI.b (by decide) g he.symm rfl
          have nA : some ga ≠ vI.ownBlock := fun he => QI.sI ga he.symm (HHS.out ga lga (by omega))
          have nB : some b4 ≠ vI.ownBlock := fun he => QI.sI b4 he.symm (QI.low b4 hb4)
          have lB : b4 < wr.heap.size := Nat.lt_of_lt_of_le hb4 bt4.size
          have cB := (bt4.cell (p := ⟨b4, o4 + j, none⟩) hb4).trans cB0
          have cG2 : wr.cell? ⟨g, 2, none⟩ = some vI := cell_of_row _ _ 2 _ _ _ QI.b
          go_upto_region 27 with fail
          refine wp_region_vals 130 (by kernel_rfl) (by kernel_rfl) (fun s => Nat.blt s 117 || (Nat.ble 129 s && Nat.blt s 130)) [some (.pointer (some ⟨g, 2, none⟩)), some (vI), some (.pointer (some ⟨ga, 2, none⟩)), some (.slice (some ⟨b4, o4, none⟩) il ic), some (.int .i64 (j : Nat)), some (.pointer (some ⟨b4, o4 + j, none⟩)), some (.int .i64 y), some (.int .i64 (K : Nat)), some (.int .i64 (y * (K : Int))), none, none, some (.pointer (some ⟨g, 2, none⟩)), none] (PX 8 9 10 12 125 126 127 3 wr w.heap.size j (vI) ((((numsO K 0 init).take j).map (Value.int .i64))) g 2 (#[vL, vN, vI, .slice (some ⟨hh, 0, none⟩) 1 1]) 26 (GoodV (.int .i64 (y * (K : Int))))) (by kernel_rfl) (PX.start _ (fun _ => rfl) ⟨rfl, rfl, rfl, rfl⟩) ?_ ?_
          · skip
            refine stepv_cons (sv_read rfl (fun L u z v h => h.same' rfl rfl rfl rfl rfl rfl rfl) (fun L u z hC hLi hd => ⟨trivial, .pointer (some ⟨g, 2, none⟩), by simp only [execOp]; rw [show evU 130 u (.tmp 5) = .pointer (some ⟨g, 0, none⟩) from hC.keep 5 rfl]; (try simp only [evU]); go_simp, fun x hx => by cases hx; rfl⟩)) ?_
            refine stepv_cons (sv_read rfl (fun L u z v h => h.same' rfl rfl rfl rfl rfl rfl rfl) (fun L u z hC hLi hd => ?_)) ?_
            · have n12 : L 12 = false := by cases hh : L 12 with | false => rfl | true => exact Bool.noConfusion (hLi.symm.trans (hC.closed 10 1 (hC.closed 12 10 hh rfl) rfl))
              have cq9 := hC.x.cell n12 lG nG cG2
              exact ⟨trivial, vI, by simp only [execOp]; rw [show evU 130 u (.tmp 117) = .pointer (some ⟨g, 2, none⟩) from hC.val 0 _ (hd 0 rfl) rfl rfl]; (try simp only [evU]); go_simp, fun x hx => by cases hx; rfl⟩
            refine stepv_cons (sv_read rfl (fun L u z v h => h.same' rfl rfl rfl rfl rfl rfl rfl) (fun L u z hC hLi hd => ⟨trivial, .pointer (some ⟨ga, 2, none⟩), by simp only [execOp]; rw [show evU 130 u (.tmp 1) = .pointer (some ⟨ga, 0, none⟩) from hC.keep 1 rfl]; (try simp only [evU]); go_simp, fun x hx => by cases hx; rfl⟩)) ?_
            refine stepv_cons (sv_read rfl (fun L u z v h => h.same' rfl rfl rfl rfl rfl rfl rfl) (fun L u z hC hLi hd => ?_)) ?_
            · have n12 : L 12 = false := by cases hh : L 12 with | false => rfl | true => exact Bool.noConfusion (hLi.symm.trans (hC.closed 5 3 (hC.closed 6 5 (hC.closed 8 6 (hC.closed 9 8 (hC.closed 10 9 (hC.closed 12 10 hh rfl) rfl) rfl) rfl) rfl) rfl))
              have cq9 := hC.x.cell n12 lA nA c2
              exact ⟨trivial, .slice (some ⟨b4, o4, none⟩) il ic, by simp only [execOp]; rw [show evU 130 u (.tmp 119) = .pointer (some ⟨ga, 2, none⟩) from hC.val 2 _ (hd 2 rfl) rfl rfl]; (try simp only [evU]); go_simp, fun x hx => by cases hx; rfl⟩
            refine stepv_cons (sv_read rfl (fun L u z v h => h.same' rfl rfl rfl rfl rfl rfl rfl) (fun L u z hC hLi hd => ⟨trivial, .int .i64 (j : Nat), by simp only [execOp]; rw [show evU 130 u (.tmp 13) = .int .i64 (j : Nat) from hC.keep 13 rfl]; (try simp only [evU]); go_simp, fun x hx => by cases hx; rfl⟩)) ?_
            refine stepv_cons (sv_read rfl (fun L u z v h => h.same' rfl rfl rfl rfl rfl rfl rfl) (fun L u z hC hLi hd => ⟨trivial, .pointer (some ⟨b4, o4 + j, none⟩), by simp only [execOp]; rw [show evU 130 u (.tmp 120) = .slice (some ⟨b4, o4, none⟩) il ic from hC.val 3 _ (hd 3 rfl) rfl rfl]; rw [show evU 130 u (.tmp 121) = .int .i64 (j : Nat) from hC.val 4 _ (hd 4 rfl) rfl rfl]; (try simp only [evU]); go_simp, fun x hx => by cases hx; rfl⟩)) ?_
            refine stepv_cons (sv_read rfl (fun L u z v h => h.same' rfl rfl rfl rfl rfl rfl rfl) (fun L u z hC hLi hd => ?_)) ?_
            · have n12 : L 12 = false := by cases hh : L 12 with | false => rfl | true => exact Bool.noConfusion (hLi.symm.trans (hC.closed 8 6 (hC.closed 9 8 (hC.closed 10 9 (hC.closed 12 10 hh rfl) rfl) rfl) rfl))
              have cq9 := hC.x.cell n12 lB nB cB
              exact ⟨trivial, .int .i64 y, by simp only [execOp]; rw [show evU 130 u (.tmp 122) = .pointer (some ⟨b4, o4 + j, none⟩) from hC.val 5 _ (hd 5 rfl) rfl rfl]; (try simp only [evU]); go_simp, fun x hx => by cases hx; rfl⟩
            refine stepv_cons (sv_read rfl (fun L u z v h => h.same' rfl rfl rfl rfl rfl rfl rfl) (fun L u z hC hLi hd => ⟨trivial, .int .i64 (K : Nat), by simp only [execOp]; rw [show evU 130 u (.tmp 4) = .int .i64 (K : Nat) from hC.keep 4 rfl]; (try simp only [evU]); go_simp, fun x hx => by cases hx; rfl⟩)) ?_
            refine stepv_cons (sv_make rfl (fun L u z hC hLi hd => ?_)) ?_
            · have n9 : L 9 = false := by cases hh : L 9 with | false => rfl | true => exact Bool.noConfusion (hLi.symm.trans (hC.closed 9 8 hh rfl))
              have n10 : L 10 = false := by cases hh : L 10 with | false => rfl | true => exact Bool.noConfusion (hLi.symm.trans (hC.closed 9 8 (hC.closed 10 9 hh rfl) rfl))
              exact ⟨trivial, .int .i64 (y * (K : Int)), z, .inl (by simp only [execOp]; rw [show evU 130 u (.tmp 123) = .int .i64 y from hC.val 6 _ (hd 6 rfl) rfl rfl]; rw [show evU 130 u (.tmp 124) = .int .i64 (K : Nat) from hC.val 7 _ (hd 7 rfl) rfl rfl]; (try simp only [evU]); go_simp), (fun x hx => by cases hx; rfl), hC.x.elem (by decide) n9 n10 _ rfl⟩
            refine stepv_cons (sv_make rfl (fun L u z hC hLi hd => ?_)) ?_
            · have n10 : L 10 = false := by cases hh : L 10 with | false => rfl | true => exact Bool.noConfusion (hLi.symm.trans (hC.closed 10 9 hh rfl))
              have n12 : L 12 = false := by cases hh : L 12 with | false => rfl | true => exact Bool.noConfusion (hLi.symm.trans (hC.closed 10 9 (hC.closed 12 10 hh rfl) rfl))
              have y8 : L 8 = true := (hd 8 rfl)
              obtain ⟨S1, s1, s2, s3⟩ := hC.x.el y8
              have e0 := s3
              refine ⟨trivial, .slice (some ⟨z.heap.size, 0, none⟩) 1 1, z.alloc (.cells #[u 125] 3), .inl ?_, (fun x hx => by cases hx), hC.x.build (by decide) n10 n12 GoodV.frame⟩
              simp only [execOp, List.map_toArray, List.map_cons, List.map_nil]
              rw [show evU 130 u (.tmp 125) = u 125 from rfl, e0]
              go_simp
            refine stepv_cons (sv_make rfl (fun L u z hC hLi hd => ?_)) ?_
            · have n12 : L 12 = false := by cases hh : L 12 with | false => rfl | true => exact Bool.noConfusion (hLi.symm.trans (hC.closed 12 10 hh rfl))
              have y8 : L 8 = true := (hC.closed 9 8 (hd 9 rfl) rfl)
              have y9 : L 9 = true := (hd 9 rfl)
              obtain ⟨v', w', hr, hx⟩ := hC.x.app (P := Try.prog) (by decide) y8 y9 hLi n12 GoodV.frame (fun S x w hv => by rw [show x = _ from hv]; rfl) QI.I hbw 24 _ Try.underlying24 (.int .i64 0) 8 Try.info_int rfl (by unfold maxLen; omega) (by omega)
              exact ⟨trivial, v', w', .inl (run_append_call (hC.val 1 _ (hd 1 rfl) rfl rfl) rfl hr), (fun x hx => by cases hx), hx⟩
            refine stepv_cons (sv_read rfl (fun L u z v h => h.same' rfl rfl rfl rfl rfl rfl rfl) (fun L u z hC hLi hd => ⟨trivial, .pointer (some ⟨g, 2, none⟩), by simp only [execOp]; rw [show evU 130 u (.tmp 5) = .pointer (some ⟨g, 0, none⟩) from hC.keep 5 rfl]; (try simp only [evU]); go_simp, fun x hx => by cases hx; rfl⟩)) ?_
            refine stepv_cons (sv_make rfl (fun L u z hC hLi hd => ?_)) ?_
            · have y10 : L 10 = true := (hd 10 rfl)
              have y8 : L 8 = true := (hC.closed 9 8 (hC.closed 10 9 (hd 10 rfl) rfl) rfl)
              obtain ⟨ow, ob⟩ := hC.x.ap y10
              have hsx := hC.x.store (by decide) y10 hLi GoodV.frame QI.b nG (d := 1000012) (by decide) undef y8
              obtain ⟨a1, c1, e1⟩ := own_sl ow
              have gz := (hC.x.keep g (Array.getElem?_eq_some_iff.1 QI.b).1 (fun _ => nG) (fun hh => by rw [hLi] at hh; cases hh)).trans QI.b
              have k0 := cell_of_row _ _ 2 _ _ _ gz
              simp only [List.getElem?_toArray, List.getElem?_cons_zero, List.getElem?_cons_succ] at k0
              have f0 := frozen_of_row z _ 2 _ _ gz
              refine ⟨trivial, undef, _, .inr ⟨?_, rfl⟩, (fun x hx => by cases hx), hsx⟩
              simp only [execOp]
              rw [show evU 130 u (.tmp 128) = .pointer (some ⟨g, 2, none⟩) from hC.val 11 _ (hd 11 rfl) rfl rfl, show evU 130 u (.tmp 127) = u 127 from rfl, e1]
              go_simp
            exact stepv_nil rfl
          · intro L u z hall hC
            obtain ⟨S1, s1, s2, s3⟩ := hC.x.el (hall 8 rfl)
            obtain ⟨ow, ob⟩ := hC.x.ap (hall 10 rfl)
            have st := hC.x.st (hall 12 rfl)
            have kp : ∀ b, b < wr.heap.size → some b ≠ (vI).ownBlock → b ≠ g → z.heap[b]? = wr.heap[b]? := fun b hb h1 h2 => hC.x.keep b hb (fun _ => h1) (fun _ => h2)
            have hsz := hC.x.size
            have hout := hC.x.same
            replace s2 := s2 (hall 10 rfl)
            rw [frame_kept2 (n := 130) (lim := 117) (hi := 129) rfl (by decide) (by decide) hC.keep]
            simp only [List.take_succ_cons, List.take_zero, List.nil_append, List.cons_append, List.drop_succ_cons, List.drop_zero, show List.range' 117 (129 - 117) = [117, 118, 119, 120, 121, 122, 123, 124, 125, 126, 127, 128] from rfl, List.map_cons, List.map_nil]
            generalize u 127 = vX at *
            generalize u 125 = xE at *
            obtain ⟨Q3, k3⟩ := QI.pushI hsz kp s1 s2 ow ob st
            have hxE : xE = .int .i64 (y * (K : Int)) := s3
            have HN4 := HHN.out.to (S' := fun b => S b ∨ S1 b) (fun b hb => .inl hb) k3
            have b29 := below_of2 b2r hsz hout HHS.out k3 (Q3.r.trans QI.r.symm)
            have HE := Lib.hid (show RefS w w2 gR g hh K f ln lit next (numsO K 0 init) NK (j + 1) z from by
              rw [hxE] at Q3
              unfold RefS
              rw [HT.out, List.map_append]
              exact ⟨_, _, _, _, _, _, _, Q3, HHL.out, HN4, fun b h1 h2 => .inl (HHS.out b h1 h2), b29⟩)
            clear Q3 k3 hxE HN4 b29 QI HHL HHN HHS b2r kp s1 s2 s3 ow ob st hC hall nG nA nB lB cB cG2 c2 lG lA hbw hsz hout m1 m2 hga2 bt4
            go_wp2_with fail
            exact ⟨⟨j + 1, by omega, by simp, HE⟩, by simp [intOf]; omega⟩
        · have f2 : decide (j < il) = false := by simpa using hjl
          obtain rfl : il = j := by omega
          have hNK2 := HNK.out
          have hcc : (NK + K - 1) / K = n := by rw [← hNK2]; exact ceil0 n K (by omega)
          rw [hcc] at QI
          have hnl : (numsO K 0 init).length = il := by unfold numsO; rw [List.length_map]; exact h.init.len_eq
          rw [List.take_of_length_le (by rw [hnl]; exact Nat.le_refl _)] at QI
          obtain ⟨aL, cL, eL⟩ := own_sl QI.L
          obtain ⟨aN, cN, eN⟩ := own_sl QI.N
          obtain ⟨aI, cI, eI⟩ := own_sl QI.I
          have e4s := four_set wr gR vL vN vI (.slice (some ⟨hh, 0, none⟩) 1 1)
          have r4s := four_rowU wr gR vL vN vI (.slice (some ⟨hh, 0, none⟩) 1 1) _ _ _ _ _ QI.r
          have z4s : ((((wr.setCell ⟨gR, 0, none⟩ vL).setCell ⟨gR, 1, none⟩ vN).setCell ⟨gR, 2, none⟩ vI).setCell ⟨gR, 3, none⟩ (.slice (some ⟨hh, 0, none⟩) 1 1)).heap.size = wr.heap.size := by simp [World.setCell]
          have B4 : Below w.heap.size w ((((wr.setCell ⟨gR, 0, none⟩ vL).setCell ⟨gR, 1, none⟩ vN).setCell ⟨gR, 2, none⟩ vI).setCell ⟨gR, 3, none⟩ (.slice (some ⟨hh, 0, none⟩) 1 1)) := (((bt4.setCell (by show _ ≤ gR; omega) _).setCell (by show _ ≤ gR; omega) _).setCell (by show _ ≤ gR; omega) _).setCell (by show _ ≤ gR; omega) _
          have k0 := cell_of_row _ _ 0 _ _ _ QI.b
          have k1 := cell_of_row _ _ 1 _ _ _ QI.b
          have k2 := cell_of_row _ _ 2 _ _ _ QI.b
          have k3 := cell_of_row _ _ 3 _ _ _ QI.b
          have s0 := cell_of_row _ _ 0 _ _ _ QI.r
          have s1 := cell_of_row _ _ 1 _ _ _ QI.r
          have s2 := cell_of_row _ _ 2 _ _ _ QI.r
          have s3 := cell_of_row _ _ 3 _ _ _ QI.r
          simp only [List.getElem?_toArray, List.getElem?_cons_zero, List.getElem?_cons_succ] at k0 k1 k2 k3 s0 s1 s2 s3
          have f10 := frozen_of_row wr gR 0 _ _ QI.r
          have f11 := frozen_of_row wr gR 1 _ _ QI.r
          have f12 := frozen_of_row wr gR 2 _ _ QI.r
          have f13 := frozen_of_row wr gR 3 _ _ QI.r
          have HE : ∃ (la2 na2 ia2 ca2 : Option Addr) (lc2 nc2 ic2 cc2 : Nat), vL = .slice la2 NK lc2 ∧ vN = .slice na2 NK nc2 ∧ vI = .slice ia2 il ic2 ∧ Value.slice (some ⟨hh, 0, none⟩) 1 1 = .slice ca2 1 cc2 ∧ AutAt ((((wr.setCell ⟨gR, 0, none⟩ vL).setCell ⟨gR, 1, none⟩ vN).setCell ⟨gR, 2, none⟩ vI).setCell ⟨gR, 3, none⟩ (.slice (some ⟨hh, 0, none⟩) 1 1)) la2 na2 ia2 ca2 NK NK il 1 (fun x => ln (x / K)) (fun x => lit (x / K)) (nextO K f next) (numsO K 0 init) (fun _ => accO K f n) := by
            have hS4 : ∀ b, S b → ((((wr.setCell ⟨gR, 0, none⟩ vL).setCell ⟨gR, 1, none⟩ vN).setCell ⟨gR, 2, none⟩ vI).setCell ⟨gR, 3, none⟩ (.slice (some ⟨hh, 0, none⟩) 1 1)).heap[b]? = wr.heap[b]? := fun b hb => e4s b (fun he => QI.sR (he ▸ hb))
            have hlt4 : ∀ b, S b → b < ((((wr.setCell ⟨gR, 0, none⟩ vL).setCell ⟨gR, 1, none⟩ vN).setCell ⟨gR, 2, none⟩ vI).setCell ⟨gR, 3, none⟩ (.slice (some ⟨hh, 0, none⟩) 1 1)).heap.size := fun b hb => by rw [z4s]; exact QI.lt b hb
            have hdiv : ∀ x, x < NK → x / K < n := fun x hx => Nat.div_lt_of_lt_mul (by rw [Nat.mul_comm, hNK2]; exact hx)
            obtain ⟨a1, d1, g1, A1⟩ := litsR_of (own_keep QI.L fun b hb => e4s b (own_off1 QI.L QI.r (by decide) b hb)) HHL.out B4 (fun x hx => by have := HLn.out (x / K) (hdiv x hx); omega)
            obtain ⟨a2, d2, g2, A2⟩ := nextR_of (own_keep QI.N fun b hb => e4s b (own_off1 QI.N QI.r (by decide) b hb)) (HHN.out.to (S' := S) (fun b hb => hb) hS4) hlt4 (fun x hx => by
              have := HX.out (x / K) (hdiv x hx)
              unfold nextO numsO
              rw [List.length_map]
              omega)
            obtain ⟨a3, d3, g3, A3⟩ := ints_of (own_keep QI.I fun b hb => e4s b (own_off1 QI.I QI.r (by decide) b hb)) (fun i hi => map_getD (numsO K 0 init) i (by omega)) hnl (by omega)
            obtain ⟨a4, d4, g4, A4⟩ := ints_of (own_keep QI.A fun b hb => e4s b (own_off1 QI.A QI.r (by decide) b hb)) (map_getD (accO K f n)) rfl (by have := accO_len K f n; omega)
            refine ⟨a1, a2, a3, some ⟨hh, 0, none⟩, d1, d2, d3, 1, g1, g2, g3, rfl, A1, A2, A3, .inr ⟨hh, 0, rfl, by rw [z4s]; exact (Array.getElem?_eq_some_iff.1 QI.o).1, fun i hi => ?_⟩, by omega, by omega, by omega⟩
            obtain rfl : i = 0 := by omega
            refine ⟨a4, _, d4, ?_, A4⟩
            have := cell_of_row _ _ 0 _ _ _ ((e4s hh QI.hr).trans QI.o)
            rw [← g4]
            exact this
          subst eL
          subst eN
          subst eI
          have HEE := Lib.hid HE
          clear HE QI HHL HHN HHS hga2 hcc hNK2
          go_wp2_with fail
          obtain ⟨w5, hw5⟩ : ∃ w5, ((((wr.setCell ⟨gR, 0, none⟩ (.slice aL NK cL)).setCell ⟨gR, 1, none⟩ (.slice aN NK cN)).setCell ⟨gR, 2, none⟩ (.slice aI il cI)).setCell ⟨gR, 3, none⟩ (.slice (some ⟨hh, 0, none⟩) 1 1)) = w5 := ⟨_, rfl⟩
          rw [hw5] at r4s B4 HEE ⊢
          have q0 := cell_of_row w5 gR 0 _ _ _ r4s
          have q1 := cell_of_row w5 gR 1 _ _ _ r4s
          have q2 := cell_of_row w5 gR 2 _ _ _ r4s
          have q3 := cell_of_row w5 gR 3 _ _ _ r4s
          simp only [List.getElem?_toArray, List.getElem?_cons_zero, List.getElem?_cons_succ] at q0 q1 q2 q3
          refine bodyPost_ret (v := .agg #[.slice aL NK cL, .slice aN NK cN, .slice aI il cI, .slice (some ⟨hh, 0, none⟩) 1 1]) (by simp [results, Try.results11, go_sem, q0, q1, q2, q3]) rfl ⟨?_, B4⟩
          obtain ⟨la2, na2, ia2, ca2, lc2, nc2, ic2, cc2, g1, g2, g3, g4, hA⟩ := HEE.out
          rw [g1, g2, g3, g4]
          rw [← HFF.out] at hA
          unfold OfR
          rw [HNK.out]
          exact ⟨la2, na2, ia2, ca2, lc2, nc2, ic2, cc2, rfl, hA⟩
end Go.Proofs.Ytcacflgopnjciaa
