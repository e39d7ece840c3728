/- The document's Insert (by gen05x.py). -/
import Derived.Test.YtoffcpfebghdnaaPairI
namespace Go.Proofs.Ytoffcpfebghdnaa
open Go.RowKit
set_option linter.unusedVariables false
set_option linter.unusedSimpArgs false
theorem Try.info_u32 : (Try.prog.info? 23).map (fun i => (i.zero, i.size, i.bytes)) = some (some (.int .u32 0), 1, 4) := by kernel_rfl
theorem heap2 (w : World) (A B : Array Value) (t u : TypeId) : ((w.alloc (.cells A t)).alloc (.cells B u)).heap[w.heap.size]? = some (.cells A t (0, 0)) ∧ ((w.alloc (.cells A t)).alloc (.cells B u)).heap[w.heap.size + 1]? = some (.cells B u (0, 0)) ∧ Below w.heap.size w ((w.alloc (.cells A t)).alloc (.cells B u)) := by
  refine ⟨(Below.heap_alloc _ _ _ (by simp)).trans (heap_alloc_new _ _), ?_, ((Below.refl _ _).alloc (Nat.le_refl _) _).alloc (by simp) _⟩
  have h := heap_alloc_new (w.alloc (.cells A t)) (.cells B u)
  rw [World.size_alloc] at h
  exact h
theorem own_shape0 {w : World} {base n : Nat} {e : TypeId} {v : Value} {xs : List Value} (h : w.ownsRow base e 1 v n xs) : ∃ a c, v = .slice a n c := by
  rcases h.2 with ⟨rfl, rfl⟩ | ⟨g, cp, cur, rfl, _⟩
  · exact ⟨_, _, rfl⟩
  · exact ⟨_, _, rfl⟩
theorem own_at {w : World} {base n : Nat} {e : TypeId} {a : Option Addr} {c : Nat} {xs : List Value} (h : w.ownsRow base e 1 (.slice a n c) n xs) (h0 : 0 < n) : ∃ g, a = some ⟨g, 0, none⟩ ∧ g < w.heap.size ∧ ∀ j x, xs[j]? = some x → w.cell? ((⟨g, 0, none⟩ : Addr).add j) = some x := by
  rcases h.2 with ⟨_, h1⟩ | ⟨g, cp, cur, he, h1, h3, h4, h5, h6, h7⟩
  · omega
  · cases he
    refine ⟨g, rfl, (Array.getElem?_eq_some_iff.1 h3).1, fun j x hx => ?_⟩
    rw [Addr.add_lit, Nat.zero_add]
    rw [← h7, List.getElem?_take] at hx
    split at hx
    · exact cell_of_row _ _ j _ _ _ h3 |>.trans (by simpa using hx)
    · cases hx
theorem one_at {w : World} {g : Nat} {v : Value} (h : w.cell? ⟨g, 0, none⟩ = some v) : ∀ (j : Nat) (u : Value), [v][j]? = some u → w.cell? ((⟨g, 0, none⟩ : Addr).add j) = some u := fun j u hj => by
  match j, hj with
  | 0, hj => rw [Addr.add_lit]; simp at hj; rw [← hj]; exact h
  | j + 1, hj => simp at hj
theorem vA_one (ps : List (Nat × Nat)) : ∀ u ∈ vA ps, u.oneCell' = true := fun u hu => by
  obtain ⟨p, _, rfl⟩ := List.mem_map.1 hu
  rfl
theorem vB_one (ps : List (Nat × Nat)) : ∀ u ∈ vB ps, u.oneCell' = true := fun u hu => by
  obtain ⟨p, _, rfl⟩ := List.mem_map.1 hu
  rfl
theorem vA_snoc (ps : List (Nat × Nat)) (a b : Nat) : vA (ps ++ [(a, b)]) = vA ps ++ [.int .u32 (a : Nat)] := by simp [vA]
theorem vB_snoc (ps : List (Nat × Nat)) (a b : Nat) : vB (ps ++ [(a, b)]) = vB ps ++ [.int .u32 (b : Nat)] := by simp [vB]
theorem keysP_snoc (ps : List (Nat × Nat)) (a b : Nat) : keysP (ps ++ [(a, b)]) = keysP ps ++ [pk a b] := by simp [keysP]
def InsD (w : World) (cap : Int) (ps : List (Nat × Nat)) (a b : Nat) (e : Ending) (w' : World) : Prop := ∃ (va vb : Value) (n' : Nat) (ps' : List (Nat × Nat)) (p : Nat) (G : Bool) (E : Int), e = .returned (.tuple #[.agg #[.int .i64 cap, va, vb], .int .i64 (p : Nat), .bool G, .int .i64 E]) ∧ DocP w' va vb n' ps' ∧ Below w.heap.size w w' ∧ OutP cap (keysP ps) (pk a b) p G E (keysP ps')
set_option maxRecDepth 20000 in
set_option maxHeartbeats 4000000 in
theorem refinsertP_ev (w : World) (cap : Int) (hcap : cap ≤ 1048576) (da db : Option Addr) (n ca cb : Nat) (ps : List (Nat × Nat)) (h : DocP w (.slice da n ca) (.slice db n cb) n ps) (a b : Nat) (ha : a < 4294967296) (hb : b < 4294967296) :
    Calls Try.prog 9 #[.agg #[.int .i64 cap, .slice da n ca, .slice db n cb], .int .u32 (a : Nat), .int .u32 (b : Nat)] w fun e w' => InsD w cap ps a b e w' := by
  obtain ⟨p3, p6, bt⟩ := heap2 w #[.int .i64 cap, .slice da n ca, .slice db n cb] #[.int .i64 0, .slice none 0 0, .slice none 0 0] 38 38
  have hsm := h.small
  have hln := h.len
  go_enter Try.func9, Try.ntmps9
  go_upto_region 1 with fail
  obtain ⟨v2, hv⟩ : ∃ v, (w.alloc (.cells #[.int .i64 cap, .slice da n ca, .slice db n cb] 38)).alloc (.cells #[.int .i64 0, .slice none 0 0, .slice none 0 0] 38) = v := ⟨_, rfl⟩
  rw [hv] at p3 p6 bt ⊢
  obtain ⟨g6, hg6⟩ : ∃ g, w.heap.size + 1 = g := ⟨_, rfl⟩
  rw [hg6] at p6 ⊢
  obtain ⟨g3, hg3⟩ : ∃ g, w.heap.size = g := ⟨_, rfl⟩
  have h36 : g3 < g6 := by omega
  have hw6 : w.heap.size ≤ g6 := by omega
  rw [hg3] at p3 ⊢
  clear hv hg3 hg6
  have c0 : v2.cell? ⟨g3, 0, none⟩ = some (.int .i64 cap) := cell_of_row _ _ 0 _ _ _ p3
  have c1 : v2.cell? ⟨g3, 1, none⟩ = some (.slice da n ca) := cell_of_row _ _ 1 _ _ _ p3
  have c2 : v2.cell? ⟨g3, 2, none⟩ = some (.slice db n cb) := cell_of_row _ _ 2 _ _ _ p3
  go_wp2_with fail
  refine (reffindP_any v2 cap da db n ca cb ps (h.mono bt) a b ha hb).mono ?_
  rintro e w1 ⟨⟨p, rfl, hp1, hp2⟩, b1⟩
  clear c0 c1 c2
  replace p3 := (b1.block g3 (Array.getElem?_eq_some_iff.1 p3).1).trans p3
  replace p6 := (b1.block g6 (Array.getElem?_eq_some_iff.1 p6).1).trans p6
  replace bt := below_then bt b1
  have c0 : w1.cell? ⟨g3, 0, none⟩ = some (.int .i64 cap) := cell_of_row _ _ 0 _ _ _ p3
  have c1 : w1.cell? ⟨g3, 1, none⟩ = some (.slice da n ca) := cell_of_row _ _ 1 _ _ _ p3
  have c2 : w1.cell? ⟨g3, 2, none⟩ = some (.slice db n cb) := cell_of_row _ _ 2 _ _ _ p3
  have k0 := cell_of_row _ _ 0 _ _ _ p6
  have k1 := cell_of_row _ _ 1 _ _ _ p6
  have k2 := cell_of_row _ _ 2 _ _ _ p6
  simp only [List.getElem?_toArray, List.getElem?_cons_zero, List.getElem?_cons_succ] at k0 k1 k2
  have f0 := frozen_of_row w1 _ 0 _ _ p6
  have f1 := frozen_of_row w1 _ 1 _ _ p6
  have f2 := frozen_of_row w1 _ 2 _ _ p6
  have HD := Lib.hid (h.mono bt)
  have HP1 := Lib.hid hp1
  have HP2 := Lib.hid hp2
  clear hp1 hp2
  have fin : ∀ (i : Int) (E : Int), ∃ w' : World, w' = ((w1.setCell ⟨g6, 0, none⟩ (.int .i64 cap)).setCell ⟨g6, 1, none⟩ (.slice da n ca)).setCell ⟨g6, 2, none⟩ (.slice db n cb) ∧ w'.heap[g6]? = some (.cells #[.int .i64 cap, .slice da n ca, .slice db n cb] 38 (0, 0)) ∧ DocP w' (.slice da n ca) (.slice db n cb) n ps ∧ Below w.heap.size w w' := fun i E => by
    have bw := three_below bt hw6 (.int .i64 cap) (.slice da n ca) (.slice db n cb)
    exact ⟨_, rfl, three_rowU _ _ _ _ _ _ _ _ _ p6, h.mono bw, bw⟩
  by_cases hm : pk a b ∈ keysP ps
  · rw [decide_eq_true hm]
    obtain ⟨w5, hw5, g5, D5, B5⟩ := fin 0 0
    have HM := Lib.hid hm
    clear hm fin
    go_wp2_with fail
    rw [← hw5]
    have q0 := cell_of_row _ _ 0 _ _ _ g5
    have q1 := cell_of_row _ _ 1 _ _ _ g5
    have q2 := cell_of_row _ _ 2 _ _ _ g5
    simp only [List.getElem?_toArray, List.getElem?_cons_zero, List.getElem?_cons_succ] at q0 q1 q2
    exact bodyPost_ret (v := .tuple #[.agg #[.int .i64 cap, .slice da n ca, .slice db n cb], .int .i64 (p : Nat), .bool false, .int .i64 0]) (by simp [results, Try.results9, go_sem, q0, q1, q2]) rfl (by unfold InsD; exact ⟨_, _, n, ps, p, false, 0, rfl, D5, B5, .inl ⟨HM.out, rfl, rfl, rfl, (HP1.out HM.out).1, (HP1.out HM.out).2⟩⟩)
  rw [decide_eq_false hm]
  obtain rfl : p = 0 := HP2.out hm
  have HM := Lib.hid hm
  clear hm
  by_cases hc : cap ≤ (n : Int)
  · have e1 : decide (cap ≤ (n : Int)) = true := by simpa using hc
    obtain ⟨w5, hw5, g5, D5, B5⟩ := fin 0 0
    have HC := Lib.hid hc
    clear hc fin
    go_wp2_with fail
    rw [← hw5]
    have q0 := cell_of_row _ _ 0 _ _ _ g5
    have q1 := cell_of_row _ _ 1 _ _ _ g5
    have q2 := cell_of_row _ _ 2 _ _ _ g5
    simp only [List.getElem?_toArray, List.getElem?_cons_zero, List.getElem?_cons_succ] at q0 q1 q2
    exact bodyPost_ret (v := .tuple #[.agg #[.int .i64 cap, .slice da n ca, .slice db n cb], .int .i64 0, .bool false, .int .i64 7]) (by simp [results, Try.results9, go_sem, q0, q1, q2]) rfl (by unfold InsD; exact ⟨_, _, n, ps, 0, false, 7, rfl, D5, B5, .inr (.inl ⟨HM.out, by rw [keysP_len, hln]; exact HC.out, rfl, rfl, rfl, rfl⟩)⟩)
  have e1 : decide (cap ≤ (n : Int)) = false := by simpa using hc
  have HC := Lib.hid hc
  have HH := Lib.hid h
  clear hc fin k0 k1 k2 f0 f1 f2 h
  have l6 : g6 < w1.heap.size := (Array.getElem?_eq_some_iff.1 p6).1
  go_wp2_with fail
  refine wp_region_vals 49 (by kernel_rfl) (by kernel_rfl) (fun s => Nat.blt s 29 && !Nat.beq s 7 && !Nat.beq s 8 && !Nat.beq s 9) [some (.pointer (some ⟨g3, 0, none⟩)), some (.int .i64 cap), none, some (.pointer (some ⟨g3, 1, none⟩)), some (.slice da n ca), none, some (.int .u32 (a : Nat)), none, none, none, some (.pointer (some ⟨g3, 2, none⟩)), some (.slice db n cb), none, some (.int .u32 (b : Nat)), none, none, none, some (.pointer (some ⟨g3, 1, none⟩)), some (.slice da n ca), some (.int .i64 (n : Nat)), none, some (.int .i64 (n : Nat)), some (.bool true), some (.int .i64 0)] (XI w1 g6 cap n (vA ps) (vB ps) (.int .u32 (a : Nat)) (.int .u32 (b : Nat))) (by kernel_rfl) ?_ ?_ ?_
  · exact ⟨l6, Nat.le_refl _, (Below.refl _ _).drew, (fun hh => by cases hh), (fun hh => by cases hh), (fun hh => by cases hh), (fun hh => by cases hh), (fun hh => by cases hh), (fun hh => by cases hh), (fun hh => by cases hh), (fun hh => by cases hh), (fun hh => by cases hh), (fun _ => p6), (fun hh => by cases hh)⟩
  · skip
    refine stepv_cons (sv_run rfl (fun L u z v h => h.same rfl rfl rfl rfl rfl rfl rfl rfl rfl rfl rfl rfl rfl rfl rfl rfl rfl rfl rfl) (fun L u z hC hd => ⟨trivial, .pointer (some ⟨g3, 0, none⟩), by simp only [execOp]; rw [show evU 49 u (.tmp 3) = .pointer (some ⟨g3, 0, none⟩) from hC.keep 3 rfl]; go_simp, fun x hx => by cases hx; rfl⟩)) ?_
    refine stepv_cons (sv_run rfl (fun L u z v h => h.same rfl rfl rfl rfl rfl rfl rfl rfl rfl rfl rfl rfl rfl rfl rfl rfl rfl rfl rfl) (fun L u z hC hd => ⟨trivial, .int .i64 cap, by have q := (hC.x.bel.cell (p := ⟨g3, 0, none⟩) h36).trans c0; simp only [execOp]; rw [show evU 49 u (.tmp 29) = .pointer (some ⟨g3, 0, none⟩) from hC.val 0 _ (hd 0 rfl) rfl rfl]; go_simp, fun x hx => by cases hx; rfl⟩)) ?_
    refine stepv_cons (sv_make rfl (fun L u z hC hLi hd => ?_)) ?_
    · skip
      have n5 : L 5 = false := by cases hh : L 5 with | false => rfl | true => exact Bool.noConfusion (hLi.symm.trans (hC.closed 5 2 hh rfl))
      have n8 : L 8 = false := by cases hh : L 8 with | false => rfl | true => exact Bool.noConfusion (hLi.symm.trans (hC.closed 5 2 (hC.closed 8 5 hh rfl) rfl))
      have n16 : L 16 = false := by cases hh : L 16 with | false => rfl | true => exact Bool.noConfusion (hLi.symm.trans (hC.closed 5 2 (hC.closed 8 5 (hC.closed 16 8 hh rfl) rfl) rfl))
      have n20 : L 20 = false := by cases hh : L 20 with | false => rfl | true => exact Bool.noConfusion (hLi.symm.trans (hC.closed 5 2 (hC.closed 8 5 (hC.closed 16 8 (hC.closed 20 16 hh rfl) rfl) rfl) rfl))
      exact ⟨trivial, .slice (some ⟨z.heap.size, 0, none⟩) 0 0, z.alloc (.cells #[] 23), .inl (by simp only [execOp]; go_simp), (fun x hx => by cases hx), hC.x.s2 n5 n8 n16 n20⟩
    refine stepv_cons (sv_run rfl (fun L u z v h => h.same rfl rfl rfl rfl rfl rfl rfl rfl rfl rfl rfl rfl rfl rfl rfl rfl rfl rfl rfl) (fun L u z hC hd => ⟨trivial, .pointer (some ⟨g3, 1, none⟩), by simp only [execOp]; rw [show evU 49 u (.tmp 3) = .pointer (some ⟨g3, 0, none⟩) from hC.keep 3 rfl]; go_simp, fun x hx => by cases hx; rfl⟩)) ?_
    refine stepv_cons (sv_run rfl (fun L u z v h => h.same rfl rfl rfl rfl rfl rfl rfl rfl rfl rfl rfl rfl rfl rfl rfl rfl rfl rfl rfl) (fun L u z hC hd => ⟨trivial, .slice da n ca, by have q := (hC.x.bel.cell (p := ⟨g3, 1, none⟩) h36).trans c1; simp only [execOp]; rw [show evU 49 u (.tmp 32) = .pointer (some ⟨g3, 1, none⟩) from hC.val 3 _ (hd 3 rfl) rfl rfl]; go_simp, fun x hx => by cases hx; rfl⟩)) ?_
    refine stepv_cons (sv_make rfl (fun L u z hC hLi hd => ?_)) ?_
    · skip
      have n8 : L 8 = false := by cases hh : L 8 with | false => rfl | true => exact Bool.noConfusion (hLi.symm.trans (hC.closed 8 5 hh rfl))
      have n16 : L 16 = false := by cases hh : L 16 with | false => rfl | true => exact Bool.noConfusion (hLi.symm.trans (hC.closed 8 5 (hC.closed 16 8 hh rfl) rfl))
      have n20 : L 20 = false := by cases hh : L 20 with | false => rfl | true => exact Bool.noConfusion (hLi.symm.trans (hC.closed 8 5 (hC.closed 16 8 (hC.closed 20 16 hh rfl) rfl) rfl))
      have y2 : L 2 = true := hd 2 rfl
      have hr := hC.x.rA y2
      have hs : aV L u = u 31 := by unfold aV; rw [n8, hLi]; rfl
      rw [hs, n8, hLi] at hr
      change z.ownsRow w1.heap.size 23 1 (u 31) 0 [] at hr
      have hx : evU 49 u (.tmp 33) = .slice da n ca := hC.val 4 _ (hd 4 rfl) rfl rfl
      have B6 := bt.trans (hC.x.bel.mono hw6)
      have D := (HH.out.mono B6).ra
      by_cases h0 : n = 0
      · obtain ⟨sa, sc, es⟩ := own_shape0 hr
        have hrun := run_append_none (P := Try.prog) (w := z) 36 36 23 Try.underlying36 (.int .u32 0) 4 Try.info_u32 sa sc da ca
        refine ⟨trivial, u 31, z, .inl (run_append_call (by show u 31 = _; exact es) (by rw [hx, h0]) (by rw [es]; exact hrun)), (fun x hx => by cases hx), hC.x.sA y2 n16 n20 (.inl ⟨rfl, rfl, n8⟩) ?_ (by rw [hs]; exact World.grownBy.refl _ _) (.inl (by rw [hs]))⟩
        show z.ownsRow w1.heap.size 23 1 (u 31) (chN (L 8) true n) (chX (L 8) true (vA ps) _)
        rw [n8]
        have e0 : (vA ps) = [] := List.eq_nil_of_length_eq_zero (by rw [D.1, h0])
        show z.ownsRow w1.heap.size 23 1 (u 31) n (vA ps)
        rw [e0, h0]
        exact hr
      · obtain ⟨gX, eX, _, hcell⟩ := own_at D (by omega)
        obtain ⟨v', w', hrun, o1, o2, o3⟩ := run_append_more (P := Try.prog) (w := z) w1.heap.size 36 36 23 Try.underlying36 (.int .u32 0) 4 Try.info_u32 rfl (u 31) 0 [] hr ⟨gX, 0, none⟩ n ca (vA ps) (by rw [D.1, Nat.mul_one]) hcell (vA_one ps) (by unfold maxLen; omega) (by omega) hC.x.size
        refine ⟨trivial, v', w', .inl (run_append_call (by rfl) (by rw [hx, eX]) hrun), (fun x hx => by cases hx), hC.x.sA y2 n16 n20 (.inl ⟨rfl, rfl, n8⟩) ?_ (by rw [hs]; exact o2) (by rw [hs]; exact o3)⟩
        show w'.ownsRow w1.heap.size 23 1 v' (chN (L 8) true n) (chX (L 8) true (vA ps) _)
        rw [n8]
        show w'.ownsRow w1.heap.size 23 1 v' n (vA ps)
        rw [Nat.zero_add, List.nil_append] at o1
        exact o1
    refine stepv_cons (sv_run rfl (fun L u z v h => h.same rfl rfl rfl rfl rfl rfl rfl rfl rfl rfl rfl rfl rfl rfl rfl rfl rfl rfl rfl) (fun L u z hC hd => ⟨trivial, .int .u32 (a : Nat), by simp only [execOp]; rw [show evU 49 u (.tmp 1) = .int .u32 (a : Nat) from hC.keep 1 rfl]; go_simp, fun x hx => by cases hx; rfl⟩)) ?_
    refine stepv_cons (sv_make rfl (fun L u z hC hLi hd => ?_)) ?_
    · skip
      exact ⟨trivial, .slice (some ⟨z.heap.size, 0, none⟩) 1 1, z.alloc (.cells #[(.int .u32 (a : Nat))] 23), .inl (by simp only [execOp, List.map_toArray, List.map_cons, List.map_nil]; rw [show evU 49 u (.tmp 35) = (.int .u32 (a : Nat)) from hC.val 6 _ (hd 6 rfl) rfl rfl]; go_simp), (fun x hx => by cases hx), hC.x.s7⟩
    refine stepv_cons (sv_make rfl (fun L u z hC hLi hd => ?_)) ?_
    · skip
      have n16 : L 16 = false := by cases hh : L 16 with | false => rfl | true => exact Bool.noConfusion (hLi.symm.trans (hC.closed 16 8 hh rfl))
      have n20 : L 20 = false := by cases hh : L 20 with | false => rfl | true => exact Bool.noConfusion (hLi.symm.trans (hC.closed 16 8 (hC.closed 20 16 hh rfl) rfl))
      have y5 : L 5 = true := hd 5 rfl
      have y2 : L 2 = true := hC.closed 5 2 y5 rfl
      have hr := hC.x.rA y2
      have hs : aV L u = u 34 := by unfold aV; rw [hLi, y5]; rfl
      rw [hs, hLi, y5] at hr
      obtain ⟨gX, eX, _, hcl⟩ := hC.x.c36 (hd 7 rfl) hLi
      change z.ownsRow w1.heap.size 23 1 (u 34) n (vA ps) at hr
      obtain ⟨v', w', hrun, o1, o2, o3⟩ := run_append_more (P := Try.prog) (w := z) w1.heap.size 36 36 23 Try.underlying36 (.int .u32 0) 4 Try.info_u32 rfl (u 34) n (vA ps) hr ⟨gX, 0, none⟩ 1 1 [(.int .u32 (a : Nat))] rfl (one_at hcl) (fun u hu => by rw [List.mem_singleton.1 hu]; rfl) (by unfold maxLen; omega) (by omega) hC.x.size
      exact ⟨trivial, v', w', .inl (run_append_call (by rfl) (by show u 36 = _; exact eX) hrun), (fun x hx => by cases hx), hC.x.sA y2 n16 n20 (.inr ⟨rfl, rfl⟩) o1 (by rw [hs]; exact o2) (by rw [hs]; exact o3)⟩
    refine stepv_cons (sv_make rfl (fun L u z hC hLi hd => ?_)) ?_
    · skip
      have n12 : L 12 = false := by cases hh : L 12 with | false => rfl | true => exact Bool.noConfusion (hLi.symm.trans (hC.closed 12 9 hh rfl))
      have n15 : L 15 = false := by cases hh : L 15 with | false => rfl | true => exact Bool.noConfusion (hLi.symm.trans (hC.closed 12 9 (hC.closed 15 12 hh rfl) rfl))
      have n16 : L 16 = false := by cases hh : L 16 with | false => rfl | true => exact Bool.noConfusion (hLi.symm.trans (hC.closed 12 9 (hC.closed 15 12 (hC.closed 16 15 hh rfl) rfl) rfl))
      have n20 : L 20 = false := by cases hh : L 20 with | false => rfl | true => exact Bool.noConfusion (hLi.symm.trans (hC.closed 12 9 (hC.closed 15 12 (hC.closed 16 15 (hC.closed 20 16 hh rfl) rfl) rfl) rfl))
      exact ⟨trivial, .slice (some ⟨z.heap.size, 0, none⟩) 0 0, z.alloc (.cells #[] 23), .inl (by simp only [execOp]; go_simp), (fun x hx => by cases hx), hC.x.s9 n12 n15 n16 n20⟩
    refine stepv_cons (sv_run rfl (fun L u z v h => h.same rfl rfl rfl rfl rfl rfl rfl rfl rfl rfl rfl rfl rfl rfl rfl rfl rfl rfl rfl) (fun L u z hC hd => ⟨trivial, .pointer (some ⟨g3, 2, none⟩), by simp only [execOp]; rw [show evU 49 u (.tmp 3) = .pointer (some ⟨g3, 0, none⟩) from hC.keep 3 rfl]; go_simp, fun x hx => by cases hx; rfl⟩)) ?_
    refine stepv_cons (sv_run rfl (fun L u z v h => h.same rfl rfl rfl rfl rfl rfl rfl rfl rfl rfl rfl rfl rfl rfl rfl rfl rfl rfl rfl) (fun L u z hC hd => ⟨trivial, .slice db n cb, by have q := (hC.x.bel.cell (p := ⟨g3, 2, none⟩) h36).trans c2; simp only [execOp]; rw [show evU 49 u (.tmp 39) = .pointer (some ⟨g3, 2, none⟩) from hC.val 10 _ (hd 10 rfl) rfl rfl]; go_simp, fun x hx => by cases hx; rfl⟩)) ?_
    refine stepv_cons (sv_make rfl (fun L u z hC hLi hd => ?_)) ?_
    · skip
      have n15 : L 15 = false := by cases hh : L 15 with | false => rfl | true => exact Bool.noConfusion (hLi.symm.trans (hC.closed 15 12 hh rfl))
      have n16 : L 16 = false := by cases hh : L 16 with | false => rfl | true => exact Bool.noConfusion (hLi.symm.trans (hC.closed 15 12 (hC.closed 16 15 hh rfl) rfl))
      have n20 : L 20 = false := by cases hh : L 20 with | false => rfl | true => exact Bool.noConfusion (hLi.symm.trans (hC.closed 15 12 (hC.closed 16 15 (hC.closed 20 16 hh rfl) rfl) rfl))
      have y2 : L 9 = true := hd 9 rfl
      have y8 : L 8 = true := hd 8 rfl
      have hr := hC.x.rB y2
      have hs : bV L u = u 38 := by unfold bV; rw [n15, hLi]; rfl
      rw [hs, n15, hLi] at hr
      change z.ownsRow w1.heap.size 23 1 (u 38) 0 [] at hr
      have hx : evU 49 u (.tmp 40) = .slice db n cb := hC.val 11 _ (hd 11 rfl) rfl rfl
      have B6 := bt.trans (hC.x.bel.mono hw6)
      have D := (HH.out.mono B6).rb
      by_cases h0 : n = 0
      · obtain ⟨sa, sc, es⟩ := own_shape0 hr
        have hrun := run_append_none (P := Try.prog) (w := z) 36 36 23 Try.underlying36 (.int .u32 0) 4 Try.info_u32 sa sc db cb
        refine ⟨trivial, u 38, z, .inl (run_append_call (by show u 38 = _; exact es) (by rw [hx, h0]) (by rw [es]; exact hrun)), (fun x hx => by cases hx), hC.x.sB y2 n16 n20 y8 (.inl ⟨rfl, rfl, n15⟩) ?_ (by rw [hs]; exact World.grownBy.refl _ _) (.inl (by rw [hs]))⟩
        show z.ownsRow w1.heap.size 23 1 (u 38) (chN (L 15) true n) (chX (L 15) true (vB ps) _)
        rw [n15]
        have e0 : (vB ps) = [] := List.eq_nil_of_length_eq_zero (by rw [D.1, h0])
        show z.ownsRow w1.heap.size 23 1 (u 38) n (vB ps)
        rw [e0, h0]
        exact hr
      · obtain ⟨gX, eX, _, hcell⟩ := own_at D (by omega)
        obtain ⟨v', w', hrun, o1, o2, o3⟩ := run_append_more (P := Try.prog) (w := z) w1.heap.size 36 36 23 Try.underlying36 (.int .u32 0) 4 Try.info_u32 rfl (u 38) 0 [] hr ⟨gX, 0, none⟩ n cb (vB ps) (by rw [D.1, Nat.mul_one]) hcell (vB_one ps) (by unfold maxLen; omega) (by omega) hC.x.size
        refine ⟨trivial, v', w', .inl (run_append_call (by rfl) (by rw [hx, eX]) hrun), (fun x hx => by cases hx), hC.x.sB y2 n16 n20 y8 (.inl ⟨rfl, rfl, n15⟩) ?_ (by rw [hs]; exact o2) (by rw [hs]; exact o3)⟩
        show w'.ownsRow w1.heap.size 23 1 v' (chN (L 15) true n) (chX (L 15) true (vB ps) _)
        rw [n15]
        show w'.ownsRow w1.heap.size 23 1 v' n (vB ps)
        rw [Nat.zero_add, List.nil_append] at o1
        exact o1
    refine stepv_cons (sv_run rfl (fun L u z v h => h.same rfl rfl rfl rfl rfl rfl rfl rfl rfl rfl rfl rfl rfl rfl rfl rfl rfl rfl rfl) (fun L u z hC hd => ⟨trivial, .int .u32 (b : Nat), by simp only [execOp]; rw [show evU 49 u (.tmp 2) = .int .u32 (b : Nat) from hC.keep 2 rfl]; go_simp, fun x hx => by cases hx; rfl⟩)) ?_
    refine stepv_cons (sv_make rfl (fun L u z hC hLi hd => ?_)) ?_
    · skip
      exact ⟨trivial, .slice (some ⟨z.heap.size, 0, none⟩) 1 1, z.alloc (.cells #[(.int .u32 (b : Nat))] 23), .inl (by simp only [execOp, List.map_toArray, List.map_cons, List.map_nil]; rw [show evU 49 u (.tmp 42) = (.int .u32 (b : Nat)) from hC.val 13 _ (hd 13 rfl) rfl rfl]; go_simp), (fun x hx => by cases hx), hC.x.s14⟩
    refine stepv_cons (sv_make rfl (fun L u z hC hLi hd => ?_)) ?_
    · skip
      have n16 : L 16 = false := by cases hh : L 16 with | false => rfl | true => exact Bool.noConfusion (hLi.symm.trans (hC.closed 16 15 hh rfl))
      have n20 : L 20 = false := by cases hh : L 20 with | false => rfl | true => exact Bool.noConfusion (hLi.symm.trans (hC.closed 16 15 (hC.closed 20 16 hh rfl) rfl))
      have y5 : L 12 = true := hd 12 rfl
      have y2 : L 9 = true := hC.closed 12 9 y5 rfl
      have y8 : L 8 = true := hC.closed 12 8 y5 rfl
      have hr := hC.x.rB y2
      have hs : bV L u = u 41 := by unfold bV; rw [hLi, y5]; rfl
      rw [hs, hLi, y5] at hr
      obtain ⟨gX, eX, _, hcl⟩ := hC.x.c43 (hd 14 rfl) hLi
      change z.ownsRow w1.heap.size 23 1 (u 41) n (vB ps) at hr
      obtain ⟨v', w', hrun, o1, o2, o3⟩ := run_append_more (P := Try.prog) (w := z) w1.heap.size 36 36 23 Try.underlying36 (.int .u32 0) 4 Try.info_u32 rfl (u 41) n (vB ps) hr ⟨gX, 0, none⟩ 1 1 [(.int .u32 (b : Nat))] rfl (one_at hcl) (fun u hu => by rw [List.mem_singleton.1 hu]; rfl) (by unfold maxLen; omega) (by omega) hC.x.size
      exact ⟨trivial, v', w', .inl (run_append_call (by rfl) (by show u 43 = _; exact eX) hrun), (fun x hx => by cases hx), hC.x.sB y2 n16 n20 y8 (.inr ⟨rfl, rfl⟩) o1 (by rw [hs]; exact o2) (by rw [hs]; exact o3)⟩
    refine stepv_cons (sv_make rfl (fun L u z hC hLi hd => ?_)) ?_
    · skip
      have y8 : L 8 = true := hd 8 rfl
      have y15 : L 15 = true := hd 15 rfl
      have y2 : L 2 = true := hC.closed 5 2 (hC.closed 8 5 y8 rfl) rfl
      have y9 : L 9 = true := hC.closed 12 9 (hC.closed 15 12 y15 rfl) rfl
      have hrA := hC.x.rA y2
      have hrB := hC.x.rB y9
      have hsA : aV L u = u 37 := by unfold aV; rw [y8]; rfl
      have hsB : bV L u = u 44 := by unfold bV; rw [y15]; rfl
      rw [hsA] at hrA
      rw [hsB] at hrB
      obtain ⟨a1, c1', e37⟩ := own_shape0 hrA
      obtain ⟨a2, c2', e44⟩ := own_shape0 hrB
      have e30 : evU 49 u (.tmp 30) = .int .i64 cap := hC.val 1 _ (hd 1 rfl) rfl rfl
      refine ⟨trivial, .agg #[.int .i64 cap, u 37, u 44], z, .inl ?_, (fun x hx => by cases hx), hC.x.s16⟩
      simp only [execOp, List.map_toArray, List.map_cons, List.map_nil]
      rw [e30, show evU 49 u (.tmp 37) = u 37 from rfl, show evU 49 u (.tmp 44) = u 44 from rfl, e37, e44]
      go_simp
    refine stepv_cons (sv_run rfl (fun L u z v h => h.same rfl rfl rfl rfl rfl rfl rfl rfl rfl rfl rfl rfl rfl rfl rfl rfl rfl rfl rfl) (fun L u z hC hd => ⟨trivial, .pointer (some ⟨g3, 1, none⟩), by simp only [execOp]; rw [show evU 49 u (.tmp 3) = .pointer (some ⟨g3, 0, none⟩) from hC.keep 3 rfl]; go_simp, fun x hx => by cases hx; rfl⟩)) ?_
    refine stepv_cons (sv_run rfl (fun L u z v h => h.same rfl rfl rfl rfl rfl rfl rfl rfl rfl rfl rfl rfl rfl rfl rfl rfl rfl rfl rfl) (fun L u z hC hd => ⟨trivial, .slice da n ca, by have q := (hC.x.bel.cell (p := ⟨g3, 1, none⟩) h36).trans c1; simp only [execOp]; rw [show evU 49 u (.tmp 46) = .pointer (some ⟨g3, 1, none⟩) from hC.val 17 _ (hd 17 rfl) rfl rfl]; go_simp, fun x hx => by cases hx; rfl⟩)) ?_
    refine stepv_cons (sv_run rfl (fun L u z v h => h.same rfl rfl rfl rfl rfl rfl rfl rfl rfl rfl rfl rfl rfl rfl rfl rfl rfl rfl rfl) (fun L u z hC hd => ⟨trivial, .int .i64 (n : Nat), by simp only [execOp, resolve, List.map_toArray, List.map_cons, List.map_nil]; rw [show evU 49 u (.tmp 47) = .slice da n ca from hC.val 18 _ (hd 18 rfl) rfl rfl]; go_simp, fun x hx => by cases hx; rfl⟩)) ?_
    refine stepv_cons (sv_make rfl (fun L u z hC hLi hd => ?_)) ?_
    · skip
      have y16 : L 16 = true := hd 16 rfl
      have e45 := hC.x.r45 y16
      have y8 : L 8 = true := hC.closed 16 8 y16 rfl
      have y15 : L 15 = true := hC.closed 16 15 y16 rfl
      have y2 : L 2 = true := hC.closed 5 2 (hC.closed 8 5 y8 rfl) rfl
      have y9 : L 9 = true := hC.closed 12 9 (hC.closed 15 12 y15 rfl) rfl
      have hrA := hC.x.rA y2
      have hrB := hC.x.rB y9
      have hsA : aV L u = u 37 := by unfold aV; rw [y8]; rfl
      have hsB : bV L u = u 44 := by unfold bV; rw [y15]; rfl
      rw [hsA] at hrA
      rw [hsB] at hrB
      obtain ⟨a1, c1', e37⟩ := own_shape0 hrA
      obtain ⟨a2, c2', e44⟩ := own_shape0 hrB
      have r0 := hC.x.res0 hLi
      have k0 := cell_of_row _ _ 0 _ _ _ r0
      have k1 := cell_of_row _ _ 1 _ _ _ r0
      have k2 := cell_of_row _ _ 2 _ _ _ r0
      simp only [List.getElem?_toArray, List.getElem?_cons_zero, List.getElem?_cons_succ] at k0 k1 k2
      have f0 := frozen_of_row z _ 0 _ _ r0
      have f1 := frozen_of_row z _ 1 _ _ r0
      have f2 := frozen_of_row z _ 2 _ _ r0
      have hs20 := hC.x.s20 hLi undef
      refine ⟨trivial, undef, _, .inr ⟨?_, rfl⟩, (fun x hx => by cases hx), hs20⟩
      simp only [execOp]
      rw [show evU 49 u (.tmp 6) = .pointer (some ⟨g6, 0, none⟩) from hC.keep 6 rfl, show evU 49 u (.tmp 45) = .agg #[.int .i64 cap, u 37, u 44] from e45, e37, e44]
      go_simp
    refine stepv_cons (sv_run rfl (fun L u z v h => h.same rfl rfl rfl rfl rfl rfl rfl rfl rfl rfl rfl rfl rfl rfl rfl rfl rfl rfl rfl) (fun L u z hC hd => ⟨trivial, .int .i64 (n : Nat), by simp only [execOp]; rw [show evU 49 u (.tmp 48) = .int .i64 (n : Nat) from hC.val 19 _ (hd 19 rfl) rfl rfl]; go_simp, fun x hx => by cases hx; rfl⟩)) ?_
    refine stepv_cons (sv_run rfl (fun L u z v h => h.same rfl rfl rfl rfl rfl rfl rfl rfl rfl rfl rfl rfl rfl rfl rfl rfl rfl rfl rfl) (fun L u z hC hd => ⟨trivial, .bool true, by simp only [execOp, evU]; go_simp, fun x hx => by cases hx; rfl⟩)) ?_
    refine stepv_cons (sv_run rfl (fun L u z v h => h.same rfl rfl rfl rfl rfl rfl rfl rfl rfl rfl rfl rfl rfl rfl rfl rfl rfl rfl rfl) (fun L u z hC hd => ⟨trivial, .int .i64 0, by simp only [execOp, evU]; go_simp, fun x hx => by cases hx; rfl⟩)) ?_
    exact stepv_nil rfl
  · intro L u z hall hC
    have y2 : L 2 = true := hall 2 rfl
    have y5 : L 5 = true := hall 5 rfl
    have y8 : L 8 = true := hall 8 rfl
    have y9 : L 9 = true := hall 9 rfl
    have y12 : L 12 = true := hall 12 rfl
    have y15 : L 15 = true := hall 15 rfl
    have hrA := hC.x.rA y2
    have hrB := hC.x.rB y9
    have hsA : aV L u = u 37 := by unfold aV; rw [y8]; rfl
    have hsB : bV L u = u 44 := by unfold bV; rw [y15]; rfl
    rw [hsA, y8] at hrA
    rw [hsB, y15] at hrB
    change z.ownsRow w1.heap.size 23 1 (u 37) (n + 1) (vA ps ++ [.int .u32 (a : Nat)]) at hrA
    change z.ownsRow w1.heap.size 23 1 (u 44) (n + 1) (vB ps ++ [.int .u32 (b : Nat)]) at hrB
    have g5 := hC.x.res1 (hall 20 rfl)
    have B6 := bt.trans (hC.x.bel.mono hw6)
    have low : ∀ {v : Value} {m : Nat} {xs : List Value}, z.ownsRow w1.heap.size 23 1 v m xs → z.ownsRow 0 23 1 v m xs := fun {v m xs} h => ⟨h.1, h.2.imp id fun ⟨g, cp, cur, h1, h2, h3⟩ => ⟨g, cp, cur, h1, Nat.zero_le _, h3⟩⟩
    have D5 : DocP z (u 37) (u 44) (n + 1) (ps ++ [(a, b)]) := ⟨by rw [vA_snoc]; exact low hrA, by rw [vB_snoc]; exact low hrB, fun p hp => by rcases List.mem_append.1 hp with h1 | h1; exact HD.out.lt p h1; rw [List.mem_singleton.1 h1]; exact ⟨ha, hb⟩, by simp [hln], by have := HC.out; omega⟩
    obtain ⟨a1, c1', e37⟩ := own_shape0 hrA
    obtain ⟨a2, c2', e44⟩ := own_shape0 hrB
    have h6 : u 6 = .pointer (some ⟨g6, 0, none⟩) := hC.keep 6 rfl
    have h7 : u 7 = .int .i64 (n : Nat) := hC.val 21 _ (hall 21 rfl) rfl rfl
    have h8 : u 8 = .bool true := hC.val 22 _ (hall 22 rfl) rfl rfl
    have h9 : u 9 = .int .i64 0 := hC.val 23 _ (hall 23 rfl) rfl rfl
    rw [e37, e44] at g5 D5
    have q0 := cell_of_row _ _ 0 _ _ _ g5
    have q1 := cell_of_row _ _ 1 _ _ _ g5
    have q2 := cell_of_row _ _ 2 _ _ _ g5
    simp only [List.getElem?_toArray, List.getElem?_cons_zero, List.getElem?_cons_succ] at q0 q1 q2
    have hfr : frameOf 49 [] u = ⟨#[u 0, u 1, u 2, u 3, u 4, u 5, u 6, u 7, u 8, u 9, u 10, u 11, u 12, u 13, u 14, u 15, u 16, u 17, u 18, u 19, u 20, u 21, u 22, u 23, u 24, u 25, u 26, u 27, u 28, u 29, u 30, u 31, u 32, u 33, u 34, u 35, u 36, u 37, u 38, u 39, u 40, u 41, u 42, u 43, u 44, u 45, u 46, u 47, u 48], []⟩ := rfl
    rw [hfr, h6, h7, h8, h9]
    have HLN := Lib.hid (show OutP cap (keysP ps) (pk a b) n true 0 (keysP (ps ++ [(a, b)])) from .inr (.inr ⟨HM.out, by rw [keysP_len]; have := HC.out; omega, rfl, rfl, keysP_snoc _ _ _, by rw [keysP_len, hln]⟩))
    clear hrA hrB hC hall low hsA hsB
    go_wp2_with fail
    exact bodyPost_ret (v := .tuple #[.agg #[.int .i64 cap, .slice a1 (n + 1) c1', .slice a2 (n + 1) c2'], .int .i64 (n : Nat), .bool true, .int .i64 0]) (by simp [results, Try.results9, go_sem, q0, q1, q2]) rfl (by unfold InsD; exact ⟨_, _, n + 1, _, n, true, 0, rfl, D5, B6, HLN.out⟩)
end Go.Proofs.Ytoffcpfebghdnaa
