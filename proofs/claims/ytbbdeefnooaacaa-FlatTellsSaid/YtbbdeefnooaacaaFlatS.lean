/- The document's Set of the flat store (by gen06v.py). -/
import Derived.Test.YtbbdeefnooaacaaFlatG
namespace Go.Proofs.Ytbbdeefnooaacaa
open Go.RowKit
set_option linter.unusedVariables false
set_option linter.unusedSimpArgs false
def setB (FL : List (Bool × Bool)) (q f : Nat) : List (Bool × Bool) := FL.set q (if f = 0 then (true, (FL.getD q (false, false)).2) else ((FL.getD q (false, false)).1, true))
theorem fv_set : ∀ (FL : List (Bool × Bool)) (q f : Nat), q < FL.length → f < 2 → fv (setB FL q f) = (fv FL).set (q * 2 + f) (.bool true)
  | [], q, f, h, _ => by simp at h
  | p :: FL, 0, f, _, hf => by
    rcases (by omega : f = 0 ∨ f = 1) with rfl | rfl <;> rfl
  | p :: FL, q + 1, f, h, hf => by
    have ih := fv_set FL q f (by simpa using h) hf
    have e : fv (p :: FL) = .bool p.1 :: .bool p.2 :: fv FL := rfl
    have e2 : setB (p :: FL) (q + 1) f = p :: setB FL q f := by
      unfold setB
      simp
    rw [e2, e, show (q + 1) * 2 + f = (q * 2 + f) + 1 + 1 by omega]
    show .bool p.1 :: .bool p.2 :: fv (setB FL q f) = _
    rw [ih]
    simp
theorem setB_len (FL : List (Bool × Bool)) (q f : Nat) : (setB FL q f).length = FL.length := by unfold setB; simp
theorem wpList_append_fact {P : Program} {ops : Array Oper} {rest : List Oper} {o : Oper} {a : Act} {w : World} {Q : Exit → Act → World → Prop} (hgd : o.guard = none) (s x : Operand) (t : TypeId)
    (ho : o.op = .call { callee := .builtin .append, args := #[s, x], argTypes := #[t, t] }) (vs vx v' : Value) (w' : World) (hs : a.eval s = vs) (hx : a.eval x = vx) (hr : (Builtin.append_ #[t, t] o.type #[vs, vx]).run P w = .ok v' w')
    (h : wpList P ops Q rest (a.put o.dst v') w') : wpList P ops Q (o :: rest) a w := by
  refine wpList_plain hgd fun K hK => ?_
  unfold Oper.wp execOp
  simp only [ho, resolve, invoke, builtin, Sem.run_bind, Sem.run_pure, Result.andThen_ok, List.map_toArray, List.map_cons, List.map_nil, hs, hx, hr]
  exact hK _ _ h
def SetF (w : World) (cap : Int) (dk : Option Addr) (n ck : Nat) (ks : List (List Nat)) (FL : List (Bool × Bool)) (key : List Nat) (f : Int) (e : Ending) (w' : World) : Prop := ∃ (df' : Option Addr) (cf' : Nat) (FL' : List (Bool × Bool)) (E : Int), e = .returned (.tuple #[.agg #[.int .i64 cap, .slice dk n ck, .slice df' n cf'], .int .i64 E]) ∧ DocF w' dk n (.slice df' n cf') ks FL' ∧ Below w.heap.size w w' ∧
  (((f < 0 ∨ 1 < f) ∧ E = 1 ∧ FL' = FL) ∨ (0 ≤ f ∧ f ≤ 1 ∧ key ∉ ks ∧ E = 10 ∧ FL' = FL) ∨ (0 ≤ f ∧ f ≤ 1 ∧ ∃ q, q < ks.length ∧ ks.getD q [] = key ∧ E = 0 ∧ FL' = setB FL q f.toNat))
set_option maxRecDepth 20000 in
set_option maxHeartbeats 4000000 in
theorem refsetF_ev (w : World) (cap : Int) (dk df : Option Addr) (n ck cf : Nat) (ks : List (List Nat)) (FL : List (Bool × Bool)) (h : DocF w dk n (.slice df n cf) ks FL) (hsm : n ≤ 1048576) (ya : Option Addr) (yl yc : Nat) (key : List Nat) (hk : BytesAt w ya yl yc key) (f : Int) :
    Calls Try.prog 12 #[.agg #[.int .i64 cap, .slice dk n ck, .slice df n cf], .slice ya yl yc, .int .i64 f] w fun e w' => SetF w cap dk n ck ks FL key f e w' := by
  obtain ⟨p3, p6, bt⟩ := heap2 w #[.int .i64 cap, .slice dk n ck, .slice df n cf] #[.int .i64 0, .slice none 0 0, .slice none 0 0] 37 37
  have hln := h.keys.len
  go_enter Try.func12, Try.ntmps12
  go_upto_region 1 with fail
  obtain ⟨v2, hv⟩ : ∃ v, (w.alloc (.cells #[.int .i64 cap, .slice dk n ck, .slice df n cf] 37)).alloc (.cells #[.int .i64 0, .slice none 0 0, .slice none 0 0] 37) = v := ⟨_, rfl⟩
  rw [hv] at p3 p6 bt ⊢
  obtain ⟨g6, hg6⟩ : ∃ g, w.heap.size + 1 = g := ⟨_, rfl⟩
  rw [hg6] at p6 ⊢
  obtain ⟨g3, hg3⟩ : ∃ g, w.heap.size = g := ⟨_, rfl⟩
  have h36 : g3 < g6 := by omega
  have hw6 : w.heap.size ≤ g6 := by omega
  rw [hg3] at p3 ⊢
  clear hv hg3 hg6
  have back : ∀ w1 : World, Below w.heap.size w w1 → w1.heap[g6]? = some (.cells #[.int .i64 0, .slice none 0 0, .slice none 0 0] 37 (0, 0)) → ∃ w' : World, w' = ((w1.setCell ⟨g6, 0, none⟩ (.int .i64 cap)).setCell ⟨g6, 1, none⟩ (.slice dk n ck)).setCell ⟨g6, 2, none⟩ (.slice df n cf) ∧ w'.heap[g6]? = some (.cells #[.int .i64 cap, .slice dk n ck, .slice df n cf] 37 (0, 0)) ∧ DocF w' dk n (.slice df n cf) ks FL ∧ Below w.heap.size w w' := fun w1 b p => by
    have bw := three_below b hw6 (.int .i64 cap) (.slice dk n ck) (.slice df n cf)
    exact ⟨_, rfl, three_rowU _ _ _ _ _ _ _ _ _ p, h.mono bw, bw⟩
  have c0 : v2.cell? ⟨g3, 0, none⟩ = some (.int .i64 cap) := cell_of_row _ _ 0 _ _ _ p3
  have c1 : v2.cell? ⟨g3, 1, none⟩ = some (.slice dk n ck) := cell_of_row _ _ 1 _ _ _ p3
  have c2 : v2.cell? ⟨g3, 2, none⟩ = some (.slice df n cf) := cell_of_row _ _ 2 _ _ _ p3
  have HH := Lib.hid h
  have HK := Lib.hid hk
  clear h hk
  by_cases hf : f < 0 ∨ 1 < f
  · obtain ⟨w5, hw5, g5, D5, B5⟩ := back v2 bt p6
    have k0 := cell_of_row _ _ 0 _ _ _ p6
    have k1 := cell_of_row _ _ 1 _ _ _ p6
    have k2 := cell_of_row _ _ 2 _ _ _ p6
    simp only [List.getElem?_toArray, List.getElem?_cons_zero, List.getElem?_cons_succ] at k0 k1 k2
    have f0 := frozen_of_row v2 _ 0 _ _ p6
    have f1 := frozen_of_row v2 _ 1 _ _ p6
    have f2 := frozen_of_row v2 _ 2 _ _ p6
    have q0 := cell_of_row _ _ 0 _ _ _ g5
    have q1 := cell_of_row _ _ 1 _ _ _ g5
    have q2 := cell_of_row _ _ 2 _ _ _ g5
    simp only [List.getElem?_toArray, List.getElem?_cons_zero, List.getElem?_cons_succ] at q0 q1 q2
    have HF := Lib.hid hf
    by_cases h0 : f < 0
    · have d1 : decide (f < 0) = true := by simpa using h0
      clear hf back
      go_wp2_with fail
      rw [← hw5]
      exact bodyPost_ret (v := .tuple #[.agg #[.int .i64 cap, .slice dk n ck, .slice df n cf], .int .i64 1]) (by simp [results, Try.results12, go_sem, q0, q1, q2]) rfl (by unfold SetF; exact ⟨_, _, FL, 1, rfl, D5, B5, .inl ⟨HF.out, rfl, rfl⟩⟩)
    · have d1 : decide (f < 0) = false := by simpa using h0
      have d2 : decide (1 < f) = true := by simp; omega
      clear hf back
      go_wp2_with fail
      rw [← hw5]
      exact bodyPost_ret (v := .tuple #[.agg #[.int .i64 cap, .slice dk n ck, .slice df n cf], .int .i64 1]) (by simp [results, Try.results12, go_sem, q0, q1, q2]) rfl (by unfold SetF; exact ⟨_, _, FL, 1, rfl, D5, B5, .inl ⟨HF.out, rfl, rfl⟩⟩)
  obtain ⟨f, rfl⟩ := Int.eq_ofNat_of_zero_le (show 0 ≤ f by omega)
  have hf2 : f < 2 := by omega
  have d1 : decide ((f : Int) < 0) = false := by simp
  have d2 : decide ((1 : Int) < (f : Int)) = false := by simp; omega
  clear hf
  go_wp2_with fail
  refine (refplace_any v2 cap dk n ck df n cf ks (HH.out.keys.mono bt) ya yl yc key (HK.out.mono bt)).mono ?_
  rintro e w1 ⟨⟨p, rfl, hp⟩, b1⟩
  clear c0 c1 c2
  replace p3 := (b1.block g3 (Array.getElem?_eq_some_iff.1 p3).1).trans p3
  replace p6 := (b1.block g6 (Array.getElem?_eq_some_iff.1 p6).1).trans p6
  replace bt := below_then bt b1
  have c0 : w1.cell? ⟨g3, 0, none⟩ = some (.int .i64 cap) := cell_of_row _ _ 0 _ _ _ p3
  have c1 : w1.cell? ⟨g3, 1, none⟩ = some (.slice dk n ck) := cell_of_row _ _ 1 _ _ _ p3
  have c2 : w1.cell? ⟨g3, 2, none⟩ = some (.slice df n cf) := cell_of_row _ _ 2 _ _ _ p3
  rcases hp with ⟨hm, q, rfl, hq, hqk⟩ | ⟨hm, rfl⟩
  case inr =>
    obtain ⟨w5, hw5, g5, D5, B5⟩ := back w1 bt p6
    have k0 := cell_of_row _ _ 0 _ _ _ p6
    have k1 := cell_of_row _ _ 1 _ _ _ p6
    have k2 := cell_of_row _ _ 2 _ _ _ p6
    simp only [List.getElem?_toArray, List.getElem?_cons_zero, List.getElem?_cons_succ] at k0 k1 k2
    have f0 := frozen_of_row w1 _ 0 _ _ p6
    have f1 := frozen_of_row w1 _ 1 _ _ p6
    have f2 := frozen_of_row w1 _ 2 _ _ p6
    have q0 := cell_of_row _ _ 0 _ _ _ g5
    have q1 := cell_of_row _ _ 1 _ _ _ g5
    have q2 := cell_of_row _ _ 2 _ _ _ g5
    simp only [List.getElem?_toArray, List.getElem?_cons_zero, List.getElem?_cons_succ] at q0 q1 q2
    have HM := Lib.hid hm
    clear hm back
    go_wp2_with fail
    rw [← hw5]
    exact bodyPost_ret (v := .tuple #[.agg #[.int .i64 cap, .slice dk n ck, .slice df n cf], .int .i64 10]) (by simp [results, Try.results12, go_sem, q0, q1, q2]) rfl (by unfold SetF; exact ⟨_, _, FL, 10, rfl, D5, B5, .inr (.inl ⟨by omega, by omega, HM.out, rfl, rfl⟩)⟩)
  have hqn : q < n := by omega
  have e1 : decide (((q : Nat) : Int) < 0) = false := by simp
  have i1 : (q : Int) < (n : Int) := by omega
  have HQ := Lib.hid hqk
  have HQ2 := Lib.hid hq
  have l6 : g6 < w1.heap.size := (Array.getElem?_eq_some_iff.1 p6).1
  have hfl := (HH.out.mono bt).flag
  have hFL := HH.out.len
  obtain ⟨gF, rfl, hgF, hcell⟩ := own_at hfl (by omega)
  -- the copy
  have bA : Below w1.heap.size w1 (w1.alloc (.cells #[] 62)) := (Below.refl _ _).alloc (Nat.le_refl _) _
  have hown := World.ownsRow_made (base := w1.heap.size) (e := 62) (size := 2) w1 #[] 0 (Nat.le_refl _) (by unfold maxLen; omega) rfl
  have hcell2 : ∀ j x, (fv FL)[j]? = some x → (w1.alloc (.cells #[] 62)).cell? ((⟨gF, 0, none⟩ : Addr).add j) = some x := fun j x hj => by
    have := hcell j x hj
    rw [Addr.add_lit] at this ⊢
    exact (bA.cell (p := ⟨gF, 0 + j, none⟩) hgF).trans this
  obtain ⟨v', w5, hrun, o1, o2, o3⟩ := run_append_more2 (P := Try.prog) (w := w1.alloc (.cells #[] 62)) w1.heap.size 35 35 62 Try.underlying35 (.agg #[.bool false, .bool false]) 2 2 Try.info_b2 rfl (by decide) (.slice (some ⟨w1.heap.size, 0, none⟩) 0 0) 0 [] hown ⟨gF, 0, none⟩ n cf (fv FL) (by rw [fv_len, hFL]) hcell2 (fv_one FL) (by unfold maxLen; omega) (by omega) (by simp)
  rw [Nat.zero_add, List.nil_append] at o1
  have b5 : Below w1.heap.size w1 w5 := bA.grown o2 (by simp) fun k hk => by
    simp [Value.ownBlock] at hk
    omega
  obtain ⟨gC, cC, cur, rfl, hgC, hrow, hnc, hmx, hcs, htk⟩ : ∃ g cap cur, v' = .slice (some ⟨g, 0, none⟩) n cap ∧ w1.heap.size ≤ g ∧ w5.heap[g]? = some (.cells cur 62 (0, 0)) ∧ n ≤ cap ∧ cap ≤ maxLen ∧ cur.size = cap * 2 ∧ cur.toList.take (n * 2) = fv FL := by
    rcases o1.2 with ⟨_, e0⟩ | ⟨g, cp, cur, e1, e2, e3, e4, e5, e6, e7⟩
    · omega
    · exact ⟨g, cp, cur, e1, e2, e3, e4, e5, e6, e7⟩
  obtain ⟨v0, v1⟩ := fv_get FL q (by omega)
  have get : ∀ j x, (fv FL)[j]? = some x → w5.cell? ⟨gC, j, none⟩ = some x := fun j x hj => by
    rw [← htk, List.getElem?_take] at hj
    split at hj
    · exact cell_of_row _ _ j _ _ _ hrow |>.trans (by simpa using hj)
    · cases hj
  have j0 := get _ _ v0
  have j1 := get _ _ v1
  have z0 := frozen_of_row w5 gC (q * 2) _ _ hrow
  have z1 := frozen_of_row w5 gC (q * 2 + 1) _ _ hrow
  have l3 : g3 < w1.heap.size := (Array.getElem?_eq_some_iff.1 p3).1
  have c0' := (bA.cell (p := ⟨g3, 0, none⟩) l3).trans c0
  have c1' := (bA.cell (p := ⟨g3, 1, none⟩) l3).trans c1
  have c2' := (bA.cell (p := ⟨g3, 2, none⟩) l3).trans c2
  go_upto_region 7 with (first | (at_builtin; refine wpList_append_fact rfl (.tmp 23) (.tmp 25) 35 rfl _ _ _ _ rfl rfl hrun ?_) | fail)
  have bt5 := below_then bt b5
  have hC0 : w.heap.size ≤ gC := by have := bt.size; omega
  have hC3 : g3 ≠ gC := by omega
  have hC6 : g6 ≠ gC := by omega
  have P3 : ∀ o, (w5.setCell ⟨gC, o, none⟩ (.bool true)).heap[g3]? = _ := fun o => (Below.heap_setCell _ _ _ _ hC3).trans ((b5.block g3 l3).trans p3)
  have P6 : ∀ o, (w5.setCell ⟨gC, o, none⟩ (.bool true)).heap[g6]? = _ := fun o => (Below.heap_setCell _ _ _ _ hC6).trans ((b5.block g6 l6).trans p6)
  have hq2 : q < FL.length := by omega
  have B8 : ∀ o, Below w.heap.size w ((((w5.setCell ⟨gC, o, none⟩ (.bool true)).setCell ⟨g6, 0, none⟩ (.int .i64 cap)).setCell ⟨g6, 1, none⟩ (.slice dk n ck)).setCell ⟨g6, 2, none⟩ (.slice (some ⟨gC, 0, none⟩) n cC)) := fun o => three_below (bt5.setCell hC0 _) hw6 _ _ _
  have D8 : ∀ f', f' < 2 → DocF ((((w5.setCell ⟨gC, q * 2 + f', none⟩ (.bool true)).setCell ⟨g6, 0, none⟩ (.int .i64 cap)).setCell ⟨g6, 1, none⟩ (.slice dk n ck)).setCell ⟨g6, 2, none⟩ (.slice (some ⟨gC, 0, none⟩) n cC)) dk n (.slice (some ⟨gC, 0, none⟩) n cC) ks (setB FL q f') := fun f' hf' => by
    refine ⟨HH.out.keys.mono (B8 _), ⟨(by rw [fv_len, setB_len, hFL]), .inr ⟨gC, cC, cur.setIfInBounds (q * 2 + f') (.bool true), rfl, Nat.zero_le _, ?_, hnc, hmx, by simpa using hcs, ?_⟩⟩, by rw [setB_len, hFL]⟩
    · exact (three_other _ _ _ _ _ _ (Ne.symm hC6)).trans (Joins.block_setCell (i := q * 2 + f') hrow _)
    · rw [fv_set FL q f' hq2 hf', ← htk]
      simp [List.take_set]
  have g8 : ∀ o, ((((w5.setCell ⟨gC, o, none⟩ (.bool true)).setCell ⟨g6, 0, none⟩ (.int .i64 cap)).setCell ⟨g6, 1, none⟩ (.slice dk n ck)).setCell ⟨g6, 2, none⟩ (.slice (some ⟨gC, 0, none⟩) n cC)).heap[g6]? = _ := fun o => three_rowU _ _ _ _ _ _ _ _ _ (P6 o)
  have HP3 := Lib.hid P3
  have HP6 := Lib.hid P6
  have HB8 := Lib.hid B8
  have HD8 := Lib.hid D8
  have Hg8 := Lib.hid g8
  clear P3 P6 B8 D8 g8 c0 c1 c2 c0' c1' c2' hrun hcell hcell2 hown o1 o2 o3 get hfl back hrow htk v0 v1 bA b5 p3 p6 hm hq hqk
  rcases (by omega : f = 0 ∨ f = 1) with rfl | rfl
  · have P3 := HP3.out (q * 2)
    have P6 := HP6.out (q * 2)
    have g8 := Hg8.out (q * 2)
    have c0 := cell_of_row _ _ 0 _ _ _ P3
    have c1 := cell_of_row _ _ 1 _ _ _ P3
    have k0 := cell_of_row _ _ 0 _ _ _ P6
    have k1 := cell_of_row _ _ 1 _ _ _ P6
    have k2 := cell_of_row _ _ 2 _ _ _ P6
    simp only [List.getElem?_toArray, List.getElem?_cons_zero, List.getElem?_cons_succ] at c0 c1 k0 k1 k2
    have f0 := frozen_of_row _ g6 0 _ _ P6
    have f1 := frozen_of_row _ g6 1 _ _ P6
    have f2 := frozen_of_row _ g6 2 _ _ P6
    have q0 := cell_of_row _ _ 0 _ _ _ g8
    have q1 := cell_of_row _ _ 1 _ _ _ g8
    have q2 := cell_of_row _ _ 2 _ _ _ g8
    simp only [List.getElem?_toArray, List.getElem?_cons_zero, List.getElem?_cons_succ] at q0 q1 q2
    clear P3 P6 g8
    go_wp2_with fail
    exact bodyPost_ret (v := .tuple #[.agg #[.int .i64 cap, .slice dk n ck, .slice (some ⟨gC, 0, none⟩) n cC], .int .i64 0]) (by simp [results, Try.results12, go_sem, q0, q1, q2]) rfl (by unfold SetF; exact ⟨_, _, setB FL q 0, 0, rfl, HD8.out 0 (by omega), HB8.out _, .inr (.inr ⟨by omega, by omega, q, HQ2.out, HQ.out, rfl, rfl⟩)⟩)
  · have P3 := HP3.out (q * 2 + 1)
    have P6 := HP6.out (q * 2 + 1)
    have g8 := Hg8.out (q * 2 + 1)
    have c0 := cell_of_row _ _ 0 _ _ _ P3
    have c1 := cell_of_row _ _ 1 _ _ _ P3
    have k0 := cell_of_row _ _ 0 _ _ _ P6
    have k1 := cell_of_row _ _ 1 _ _ _ P6
    have k2 := cell_of_row _ _ 2 _ _ _ P6
    simp only [List.getElem?_toArray, List.getElem?_cons_zero, List.getElem?_cons_succ] at c0 c1 k0 k1 k2
    have f0 := frozen_of_row _ g6 0 _ _ P6
    have f1 := frozen_of_row _ g6 1 _ _ P6
    have f2 := frozen_of_row _ g6 2 _ _ P6
    have q0 := cell_of_row _ _ 0 _ _ _ g8
    have q1 := cell_of_row _ _ 1 _ _ _ g8
    have q2 := cell_of_row _ _ 2 _ _ _ g8
    simp only [List.getElem?_toArray, List.getElem?_cons_zero, List.getElem?_cons_succ] at q0 q1 q2
    clear P3 P6 g8
    go_wp2_with fail
    exact bodyPost_ret (v := .tuple #[.agg #[.int .i64 cap, .slice dk n ck, .slice (some ⟨gC, 0, none⟩) n cC], .int .i64 0]) (by simp [results, Try.results12, go_sem, q0, q1, q2]) rfl (by unfold SetF; exact ⟨_, _, setB FL q 1, 0, rfl, HD8.out 1 (by omega), HB8.out _, .inr (.inr ⟨by omega, by omega, q, HQ2.out, HQ.out, rfl, rfl⟩)⟩)
end Go.Proofs.Ytbbdeefnooaacaa
