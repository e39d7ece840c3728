/- DegenTells (by gen19p.py). -/
import Derived.Test.YtcacflgopnjciaaAutM
import Derived.Test.YtcacflgopnjciaaAutN
import Derived.Test.YtcacflgopnjciaaAutEB
import Derived.Test.YtcacflgopnjciaaAutEF
namespace Go.Proofs.Ytcacflgopnjciaa
open Go.RowKit
set_option linter.unusedVariables false
set_option linter.unusedSimpArgs false

def MRel.aut (n nn il cn : Nat) (ln : Nat → Nat) (lit : Nat → Nat → T) (next : Nat → List Int) (init : List Int) (acc : Nat → List Int) : MRel := ⟨fun v w => ∃ (la na ia ca : Option Addr) (lc nc ic cc : Nat), v = .agg #[.slice la n lc, .slice na nn nc, .slice ia il ic, .slice ca cn cc] ∧ AutAt w la na ia ca n nn il cn ln lit next init acc, fun _ _ _ ⟨la, na, ia, ca, lc, nc, ic, cc, h1, h2⟩ hb => ⟨la, na, ia, ca, lc, nc, ic, cc, h1, h2.mono hb⟩⟩
theorem same_rel18 (w : World) (x y : Value) (n nn il cn : Nat) (ln : Nat → Nat) (lit : Nat → Nat → T) (next : Nat → List Int) (init : List Int) (acc : Nat → List Int) (hx : (MRel.aut n nn il cn ln lit next init acc).r x w) (hy : (MRel.aut n nn il cn ln lit next init acc).r y w) :
    Calls Try.prog 9 #[x, y] w fun e w' => (∃ v', e = .returned v' ∧ (MRel.val (.bool true)).r v' w') ∧ Below w.heap.size w w' := by
  obtain ⟨la, na, ia, ca, lc, nc, ic, cc, rfl, h1⟩ := hx
  obtain ⟨la2, na2, ia2, ca2, lc2, nc2, ic2, cc2, rfl, h2⟩ := hy
  exact (same_any18 w la na ia ca la2 na2 ia2 ca2 n lc nn nc il ic cn cc lc2 nc2 ic2 cc2 ln lit next init acc h1 h2).mono fun e w' ⟨he, hb⟩ => ⟨⟨_, he, rfl⟩, hb⟩
theorem cellN {w z : World} {g o : Nat} {v : Value} (hb : Below w.heap.size w z) (h : w.cell? ⟨g, o, none⟩ = some v) : z.cell? ⟨g, o, none⟩ = some v := (hb.cell (p := ⟨g, o, none⟩) (World.block_lt_of_cell? w _ h)).trans h
set_option maxRecDepth 100000 in
set_option maxHeartbeats 4000000 in
theorem degentells_any (w : World) (la na ia ca : Option Addr) (n lc nn nc il ic cn cc : Nat) (ln : Nat → Nat) (lit : Nat → Nat → T) (next : Nat → List Int) (init : List Int) (acc : Nat → List Int) (h : AutAt w la na ia ca n nn il cn ln lit next init acc) (hR : RoomP n nn il cn ln next acc) :
    Calls Try.prog 3 #[.agg #[.slice la n lc, .slice na nn nc, .slice ia il ic, .slice ca cn cc]] w fun e w' => e = .returned (.bool true) ∧ Below w.heap.size w w' := by
  have hcn := hR.r2
  have HR := Lib.hid hR
  clear hR
  have A0 := (Below.refl w.heap.size w).alloc (Nat.le_refl _) (.cells #[.slice la n lc, .slice na nn nc, .slice ia il ic, .slice ca cn cc] 26)
  have pt : (w.alloc (.cells #[.slice la n lc, .slice na nn nc, .slice ia il ic, .slice ca cn cc] 26)).heap[w.heap.size]? = some (.cells #[.slice la n lc, .slice na nn nc, .slice ia il ic, .slice ca cn cc] 26 (0, 0)) := heap_alloc_new _ _
  go_enter Try.func3, Try.ntmps3
  go_upto_region 1 with fail
  obtain ⟨v1, hv⟩ : ∃ v, w.alloc (.cells #[.slice la n lc, .slice na nn nc, .slice ia il ic, .slice ca cn cc] 26) = v := ⟨_, rfl⟩
  obtain ⟨g, hg⟩ : ∃ g, w.heap.size = g := ⟨_, rfl⟩
  rw [hv] at pt A0 ⊢
  rw [hg] at pt ⊢
  have bt := A0
  have hgw : w.heap.size ≤ g := Nat.le_of_eq hg
  clear hv hg A0
  have c0 : v1.cell? ⟨g, 0, none⟩ = some (.slice la n lc) := cell_of_row _ _ 0 _ _ _ pt
  have c1 : v1.cell? ⟨g, 1, none⟩ = some (.slice na nn nc) := cell_of_row _ _ 1 _ _ _ pt
  have c2 : v1.cell? ⟨g, 2, none⟩ = some (.slice ia il ic) := cell_of_row _ _ 2 _ _ _ pt
  have c3 : v1.cell? ⟨g, 3, none⟩ = some (.slice ca cn cc) := cell_of_row _ _ 3 _ _ _ pt
  go_wp2_with fail
  refine (shown_any v1).mono ?_
  rintro e w2 ⟨rfl, b2⟩
  replace pt := (b2.block g (Array.getElem?_eq_some_iff.1 pt).1).trans pt
  replace bt := below_then bt b2
  clear c0 c1 c2 c3
  have c0 : w2.cell? ⟨g, 0, none⟩ = some (.slice la n lc) := cell_of_row _ _ 0 _ _ _ pt
  have c1 : w2.cell? ⟨g, 1, none⟩ = some (.slice na nn nc) := cell_of_row _ _ 1 _ _ _ pt
  have c2 : w2.cell? ⟨g, 2, none⟩ = some (.slice ia il ic) := cell_of_row _ _ 2 _ _ _ pt
  have c3 : w2.cell? ⟨g, 3, none⟩ = some (.slice ca cn cc) := cell_of_row _ _ 3 _ _ _ pt
  go_wp2_with fail
  refine (few_any18 w2 la na ia ca n lc nn nc il ic cn cc ln lit next init acc 20 (by decide) (h.mono bt) HR.out).mono ?_
  rintro e w3 ⟨⟨G1, rfl, hG1⟩, b3⟩
  replace pt := (b3.block g (Array.getElem?_eq_some_iff.1 pt).1).trans pt
  replace bt := below_then bt b3
  clear c0 c1 c2 c3
  have c0 : w3.cell? ⟨g, 0, none⟩ = some (.slice la n lc) := cell_of_row _ _ 0 _ _ _ pt
  have c1 : w3.cell? ⟨g, 1, none⟩ = some (.slice na nn nc) := cell_of_row _ _ 1 _ _ _ pt
  have c2 : w3.cell? ⟨g, 2, none⟩ = some (.slice ia il ic) := cell_of_row _ _ 2 _ _ _ pt
  have c3 : w3.cell? ⟨g, 3, none⟩ = some (.slice ca cn cc) := cell_of_row _ _ 3 _ _ _ pt
  have H1 := Lib.hid hG1
  clear hG1
  cases G1 with
  | false =>
    go_wp2_with fail
    go_ret
    exact ⟨rfl, bt⟩
  | true =>
  by_cases hc : 30 < cn
  · have f1 : decide (30 < cn) = true := by simpa using hc
    have f2 : decide ((30 : Int) < (cn : Int)) = true := by simp; omega
    clear hc
    go_wp2_with fail
    go_ret
    exact ⟨rfl, bt⟩
  have f1 : decide (30 < cn) = false := by simpa using hc
  have f2 : decide ((30 : Int) < (cn : Int)) = false := by simp; omega
  have HC := Lib.hid hc
  clear hc
  go_wp2_with fail
  refine (may_any18 w3 la na ia ca n lc nn nc il ic cn cc ln lit next init acc 1073741824 (by decide) (h.mono bt)).mono ?_
  rintro e w4 ⟨⟨G2, rfl, hG2⟩, b4⟩
  replace pt := (b4.block g (Array.getElem?_eq_some_iff.1 pt).1).trans pt
  replace bt := below_then bt b4
  clear c0 c1 c2 c3
  have c0 : w4.cell? ⟨g, 0, none⟩ = some (.slice la n lc) := cell_of_row _ _ 0 _ _ _ pt
  have c1 : w4.cell? ⟨g, 1, none⟩ = some (.slice na nn nc) := cell_of_row _ _ 1 _ _ _ pt
  have c2 : w4.cell? ⟨g, 2, none⟩ = some (.slice ia il ic) := cell_of_row _ _ 2 _ _ _ pt
  have c3 : w4.cell? ⟨g, 3, none⟩ = some (.slice ca cn cc) := cell_of_row _ _ 3 _ _ _ pt
  have H2 := Lib.hid hG2
  clear hG2
  cases G2 with
  | false =>
    go_wp2_with fail
    go_ret
    exact ⟨rfl, bt⟩
  | true =>
  go_wp2_with fail
  refine (right_any18 w4 la na ia ca n lc nn nc il ic cn cc ln lit next init acc (h.mono bt)).mono ?_
  rintro e w5 ⟨⟨G3, rfl, hG3⟩, b5⟩
  replace pt := (b5.block g (Array.getElem?_eq_some_iff.1 pt).1).trans pt
  replace bt := below_then bt b5
  clear c0 c1 c2 c3
  have c0 : w5.cell? ⟨g, 0, none⟩ = some (.slice la n lc) := cell_of_row _ _ 0 _ _ _ pt
  have c1 : w5.cell? ⟨g, 1, none⟩ = some (.slice na nn nc) := cell_of_row _ _ 1 _ _ _ pt
  have c2 : w5.cell? ⟨g, 2, none⟩ = some (.slice ia il ic) := cell_of_row _ _ 2 _ _ _ pt
  have c3 : w5.cell? ⟨g, 3, none⟩ = some (.slice ca cn cc) := cell_of_row _ _ 3 _ _ _ pt
  have H3 := Lib.hid hG3
  clear hG3
  cases G3 with
  | false =>
    go_wp2_with fail
    go_ret
    exact ⟨rfl, bt⟩
  | true =>
  have t1 : FewP 20 n nn il cn ln next acc := H1.out (by first | exact rfl | exact trivial)
  have t2 : ∀ q, q < n → ∀ i, i < ln q → MayP (lit q i) := H2.out (by first | exact rfl | exact trivial)
  have t3 : RightP n ln lit nn next init cn acc := H3.out.1 (by first | exact rfl | exact trivial)
  have hc30 := HC.out
  obtain ⟨K, hK⟩ : ∃ K, K = if cn = 0 then 1 else cn := ⟨_, rfl⟩
  obtain ⟨u1, u2, u3, u4, u5, u6, u7⟩ := t1
  have e3 : nn = n := t3.2.1
  have KO : ∀ z, Below w5.heap.size w5 z → Calls Try.prog 10 #[.agg #[.slice la n lc, .slice na nn nc, .slice ia il ic, .slice ca cn cc]] z fun e w' => (∃ v', e = .returned v' ∧ (MRel.aut (n * K) (n * K) il 1 (fun x => ln (x / K)) (fun x => lit (x / K)) (nextO K (inB cn acc) next) (numsO K 0 init) (fun _ => accO K (inB cn acc) n)).r v' w') ∧ Below z.heap.size z w' := fun z hz =>
    (of_any z la na ia ca n lc nn nc il ic cn cc ln lit next init acc ((h.mono bt).mono hz) K hK t3 t2 (by omega) (by omega) (by omega) (fun q hq => by have := u5 q (by omega); omega) (fun q hq => by have := u7 q hq; omega)).mono fun e w' ⟨⟨la2, na2, ia2, ca2, lc2, nc2, ic2, cc2, he, hA⟩, hb⟩ => ⟨⟨_, he, la2, na2, ia2, ca2, lc2, nc2, ic2, cc2, rfl, hA⟩, hb⟩
  have KR : ∀ z, Below w5.heap.size w5 z → Calls Try.prog 11 #[.agg #[.slice la n lc, .slice na nn nc, .slice ia il ic, .slice ca cn cc]] z fun e w' => (∃ v', e = .returned v' ∧ (MRel.aut (n * K) (n * K) il 1 (fun x => ln (x / K)) (fun x => lit (x / K)) (nextO K (inB cn acc) next) (numsO K 0 init) (fun _ => accO K (inB cn acc) n)).r v' w') ∧ Below z.heap.size z w' := fun z hz =>
    (refof_any z la na ia ca n lc nn nc il ic cn cc ln lit next init acc ((h.mono bt).mono hz) K hK t3 (by omega) (by omega) (by omega) (fun q hq => by have := u5 q (by omega); omega) (fun q hq => by have := u7 q hq; omega)).mono fun e w' ⟨⟨la2, na2, ia2, ca2, lc2, nc2, ic2, cc2, he, hA⟩, hb⟩ => ⟨⟨_, he, la2, na2, ia2, ca2, lc2, nc2, ic2, cc2, rfl, hA⟩, hb⟩
  have HKO := Lib.hid KO
  have HKR := Lib.hid KR
  have La : ∀ z, Below w5.heap.size w5 z → (Instr.loadAt 26 (.pointer (some ⟨g, 0, none⟩))).run Try.prog z = .ok (.agg #[.slice la n lc, .slice na nn nc, .slice ia il ic, .slice ca cn cc]) z := fun z hz => by
    have j0 := cellN hz c0
    have j1 := cellN hz c1
    have j2 := cellN hz c2
    have j3 := cellN hz c3
    go_simp
  have HLa := Lib.hid La
  clear La KO KR t2 t3 u1 u2 u3 u4 u5 u6 u7 hc30 H1 H2 H3 HC
  go_upto_region 4 with fail
  refine wp_region_rel 33 (by kernel_rfl) (by kernel_rfl) (fun s => Nat.blt s 25 && !Nat.beq s 2) [.val (.bool true), .val (.bool true), .val (.agg #[.slice la n lc, .slice na nn nc, .slice ia il ic, .slice ca cn cc]), (MRel.aut (n * K) (n * K) il 1 (fun x => ln (x / K)) (fun x => lit (x / K)) (nextO K (inB cn acc) next) (numsO K 0 init) (fun _ => accO K (inB cn acc) n)), .val (.agg #[.slice la n lc, .slice na nn nc, .slice ia il ic, .slice ca cn cc]), (MRel.aut (n * K) (n * K) il 1 (fun x => ln (x / K)) (fun x => lit (x / K)) (nextO K (inB cn acc) next) (numsO K 0 init) (fun _ => accO K (inB cn acc) n)), .val (.bool true), .val (.bool true), .val (.bool true)] (by kernel_rfl) ?_ ?_
  · refine steps_cons (st_move rfl (fun u z hk hb hd => ⟨trivial, hk 3 rfl⟩)) ?_
    refine steps_cons (st_move rfl (fun u z hk hb hd => ⟨trivial, hd 0 rfl⟩)) ?_
    refine steps_cons (st_load rfl (fun u z hk hb hd => ⟨⟨rfl, hd 1 rfl⟩, _, (congrArg (fun x => (Instr.loadAt 26 x).run Try.prog z) (hk 1 rfl)).trans (HLa.out z hb), rfl⟩)) ?_
    refine steps_cons (st_call rfl 10 (enters_of Try.func10 (by kernel_rfl) rfl) (fun u z hk hb hd => ⟨⟨rfl, hd 1 rfl⟩, rfl, by
      have e2 : u 27 = .agg #[.slice la n lc, .slice na nn nc, .slice ia il ic, .slice ca cn cc] := hd 2 rfl
      show Calls _ _ #[u 27] z _
      rw [e2]
      exact HKO.out z hb⟩)) ?_
    refine steps_cons (st_load rfl (fun u z hk hb hd => ⟨⟨rfl, hd 1 rfl⟩, _, (congrArg (fun x => (Instr.loadAt 26 x).run Try.prog z) (hk 1 rfl)).trans (HLa.out z hb), rfl⟩)) ?_
    refine steps_cons (st_call rfl 11 (enters_of Try.func11 (by kernel_rfl) rfl) (fun u z hk hb hd => ⟨⟨rfl, hd 1 rfl⟩, rfl, by
      have e2 : u 29 = .agg #[.slice la n lc, .slice na nn nc, .slice ia il ic, .slice ca cn cc] := hd 4 rfl
      show Calls _ _ #[u 29] z _
      rw [e2]
      exact HKR.out z hb⟩)) ?_
    refine steps_cons (st_call rfl 9 (enters_of Try.func9 (by kernel_rfl) rfl) (fun u z hk hb hd => ⟨⟨rfl, hd 1 rfl⟩, rfl, same_rel18 z _ _ _ _ _ _ _ _ _ _ _ (hd 3 rfl) (hd 5 rfl)⟩)) ?_
    refine steps_cons (st_pick rfl (fun u z hk hb hd => ⟨trivial, true, hd 1 rfl, hd 6 rfl⟩)) ?_
    refine steps_cons (st_assign rfl (fun u z hk hb hd => ⟨trivial, hd 7 rfl⟩)) ?_
    exact steps_nil rfl
  · intro u z hk hb hr
    have h2 : u 2 = .bool true := hr 8 rfl
    have hfr : frameOf 33 [] u = ⟨#[u 0, u 1, u 2, u 3, u 4, u 5, u 6, u 7, u 8, u 9, u 10, u 11, u 12, u 13, u 14, u 15, u 16, u 17, u 18, u 19, u 20, u 21, u 22, u 23, u 24, u 25, u 26, u 27, u 28, u 29, u 30, u 31, u 32], []⟩ := rfl
    rw [hfr, h2]
    go_wp2_with fail
    go_ret
    exact ⟨rfl, below_then bt hb⟩
end Go.Proofs.Ytcacflgopnjciaa
