/- The same trees; copies of trees (by gen19c.py). -/
import Derived.Test.YtpabnpgbclfcfaaAutB
import Derived.Maps.AppendAt
namespace Go.Proofs.Ytpabnpgbclfcfaa
open Go.RowKit
set_option linter.unusedVariables false
set_option linter.unusedSimpArgs false
theorem two_new (w : World) (A B : Array Value) (t u : TypeId) : ((w.alloc (.cells A t)).alloc (.cells B u)).heap[w.heap.size]? = some (.cells A t (0, 0)) ∧ ((w.alloc (.cells A t)).alloc (.cells B u)).heap[w.heap.size + 1]? = some (.cells B u (0, 0)) ∧ Below w.heap.size w ((w.alloc (.cells A t)).alloc (.cells B u)) := by
  refine ⟨(Below.heap_alloc _ _ _ (by simp)).trans (heap_alloc_new _ _), ?_, ((Below.refl _ _).alloc (Nat.le_refl _) _).alloc (by simp) _⟩
  have h := heap_alloc_new (w.alloc (.cells A t)) (.cells B u)
  rw [World.size_alloc] at h
  exact h
set_option maxRecDepth 20000 in
set_option maxHeartbeats 1000000 in
theorem places_same : ∀ (t : T) (w : World) (v v' : Value), TreeAt w t v → TreeAt w t v' →
    Calls Try.prog 22 #[v, v'] w fun e w' => e = .returned (.bool true) ∧ Below w.heap.size w w' := by
  intro t
  induction t with
  | nil => exact fun w v v' h => h.elim
  | node op n pl len sub ih =>
    rintro w v v' ⟨a, cap, rfl, ho, hn, hp, hl, hnone, hat⟩ ⟨a2, cap2, rfl, _, _, _, _, hnone2, hat2⟩
    obtain ⟨pt, pu, A⟩ := two_new w #[.int .i64 op, .int .i64 n, .int .i64 pl, .slice a len cap] #[.int .i64 op, .int .i64 n, .int .i64 pl, .slice a2 len cap2] 40 40
    have z1 : (op != op) = false := by simp
    have z2 : (n != n) = false := by simp
    have z3 : (pl != pl) = false := by simp
    have z4 : ((len : Int) != (len : Int)) = false := by simp
    go_enter Try.func22, Try.ntmps22
    go_upto_region 1 with fail
    obtain ⟨v1, hv⟩ : ∃ v, (w.alloc (.cells #[.int .i64 op, .int .i64 n, .int .i64 pl, .slice a len cap] 40)).alloc (.cells #[.int .i64 op, .int .i64 n, .int .i64 pl, .slice a2 len cap2] 40) = v := ⟨_, rfl⟩
    rw [hv] at pt pu A ⊢
    obtain ⟨gu, hgu⟩ : ∃ g, w.heap.size + 1 = g := ⟨_, rfl⟩
    rw [hgu] at pu ⊢
    obtain ⟨gt, hgt⟩ : ∃ g, w.heap.size = g := ⟨_, rfl⟩
    rw [hgt] at pt ⊢
    have bt := A
    clear hv hgu hgt A
    have c0 : v1.cell? ⟨gt, 0, none⟩ = some (.int .i64 op) := cell_of_row _ _ 0 _ _ _ pt
    have c1 : v1.cell? ⟨gt, 1, none⟩ = some (.int .i64 n) := cell_of_row _ _ 1 _ _ _ pt
    have c2 : v1.cell? ⟨gt, 2, none⟩ = some (.int .i64 pl) := cell_of_row _ _ 2 _ _ _ pt
    have c3 : v1.cell? ⟨gt, 3, none⟩ = some (.slice a len cap) := cell_of_row _ _ 3 _ _ _ pt
    have d0 : v1.cell? ⟨gu, 0, none⟩ = some (.int .i64 op) := cell_of_row _ _ 0 _ _ _ pu
    have d1 : v1.cell? ⟨gu, 1, none⟩ = some (.int .i64 n) := cell_of_row _ _ 1 _ _ _ pu
    have d2 : v1.cell? ⟨gu, 2, none⟩ = some (.int .i64 pl) := cell_of_row _ _ 2 _ _ _ pu
    have d3 : v1.cell? ⟨gu, 3, none⟩ = some (.slice a2 len cap2) := cell_of_row _ _ 3 _ _ _ pu
    go_wp2_with fail
    go_loopw [5] (fun i w' => ∃ j : Nat, j ≤ len ∧ i = .int .i64 (j : Nat) ∧ w'.heap[gt]? = some (.cells #[.int .i64 op, .int .i64 n, .int .i64 pl, .slice a len cap] 40 (0, 0)) ∧ w'.heap[gu]? = some (.cells #[.int .i64 op, .int .i64 n, .int .i64 pl, .slice a2 len cap2] 40 (0, 0)) ∧ Below w.heap.size w w') (fun i _ => len - (intOf i).toNat)
    case atStart => exact ⟨0, Nat.zero_le _, rfl, by first | exact pt | exact (Below.refl _ _).drew.block _ (Array.getElem?_eq_some_iff.1 pt).1 |>.trans pt, by first | exact pu | exact (Below.refl _ _).drew.block _ (Array.getElem?_eq_some_iff.1 pu).1 |>.trans pu, by first | exact bt | exact bt.drew⟩
    case round =>
      clear pt pu bt c0 c1 c2 c3 d0 d1 d2 d3
      obtain ⟨j, hj, rfl, pt, pu, bt⟩ := hrel
      have c3 : wr.cell? ⟨gt, 3, none⟩ = some (.slice a len cap) := cell_of_row _ _ 3 _ _ _ pt
      have d3 : wr.cell? ⟨gu, 3, none⟩ = some (.slice a2 len cap2) := cell_of_row _ _ 3 _ _ _ pu
      by_cases hjl : j < len
      · have f1 : decide (j < len) = true := by simpa using hjl
        obtain ⟨b, off, rfl, hlt, hi⟩ := hat.resolve_left (by omega)
        obtain ⟨o', n', p', a', l', c', g0, g1, g2, g3, g4⟩ := hi j hjl
        obtain ⟨b2, off2, rfl, hlt2, hi2⟩ := hat2.resolve_left (by omega)
        obtain ⟨o2, n2, p2, a3, l2, c4, k0, k1, k2, k3, k4⟩ := hi2 j hjl
        have s3 : ∀ x : Later wr.heap.size wr, x.w.cell? ⟨gt, 3, none⟩ = some (.slice (some ⟨b, off, none⟩) len cap) := fun x => (x.below.cell (p := ⟨gt, 3, none⟩) (Array.getElem?_eq_some_iff.1 pt).1).trans c3
        have r3 : ∀ x : Later wr.heap.size wr, x.w.cell? ⟨gu, 3, none⟩ = some (.slice (some ⟨b2, off2, none⟩) len cap2) := fun x => (x.below.cell (p := ⟨gu, 3, none⟩) (Array.getElem?_eq_some_iff.1 pu).1).trans d3
        have hs := bt.size
        have y0 : ∀ x : Later wr.heap.size wr, x.w.cell? ⟨b, off + j * 4, none⟩ = some (.int .i64 o') := fun x => (x.below.cell (p := ⟨b, _, none⟩) (by show b < _; omega)).trans ((bt.cell (p := ⟨b, _, none⟩) hlt).trans g0)
        have y1 : ∀ x : Later wr.heap.size wr, x.w.cell? ⟨b, off + j * 4 + 1, none⟩ = some (.int .i64 n') := fun x => (x.below.cell (p := ⟨b, _, none⟩) (by show b < _; omega)).trans ((bt.cell (p := ⟨b, _, none⟩) hlt).trans g1)
        have y2 : ∀ x : Later wr.heap.size wr, x.w.cell? ⟨b, off + j * 4 + 2, none⟩ = some (.int .i64 p') := fun x => (x.below.cell (p := ⟨b, _, none⟩) (by show b < _; omega)).trans ((bt.cell (p := ⟨b, _, none⟩) hlt).trans g2)
        have y3 : ∀ x : Later wr.heap.size wr, x.w.cell? ⟨b, off + j * 4 + 3, none⟩ = some (.slice a' l' c') := fun x => (x.below.cell (p := ⟨b, _, none⟩) (by show b < _; omega)).trans ((bt.cell (p := ⟨b, _, none⟩) hlt).trans g3)
        have x0 : ∀ x : Later wr.heap.size wr, x.w.cell? ⟨b2, off2 + j * 4, none⟩ = some (.int .i64 o2) := fun x => (x.below.cell (p := ⟨b2, _, none⟩) (by show b2 < _; omega)).trans ((bt.cell (p := ⟨b2, _, none⟩) hlt2).trans k0)
        have x1 : ∀ x : Later wr.heap.size wr, x.w.cell? ⟨b2, off2 + j * 4 + 1, none⟩ = some (.int .i64 n2) := fun x => (x.below.cell (p := ⟨b2, _, none⟩) (by show b2 < _; omega)).trans ((bt.cell (p := ⟨b2, _, none⟩) hlt2).trans k1)
        have x2 : ∀ x : Later wr.heap.size wr, x.w.cell? ⟨b2, off2 + j * 4 + 2, none⟩ = some (.int .i64 p2) := fun x => (x.below.cell (p := ⟨b2, _, none⟩) (by show b2 < _; omega)).trans ((bt.cell (p := ⟨b2, _, none⟩) hlt2).trans k2)
        have x3 : ∀ x : Later wr.heap.size wr, x.w.cell? ⟨b2, off2 + j * 4 + 3, none⟩ = some (.slice a3 l2 c4) := fun x => (x.below.cell (p := ⟨b2, _, none⟩) (by show b2 < _; omega)).trans ((bt.cell (p := ⟨b2, _, none⟩) hlt2).trans k3)
        have kk : ∀ x : Later wr.heap.size wr, Calls Try.prog 22 #[.agg #[.int .i64 o', .int .i64 n', .int .i64 p', .slice a' l' c'], .agg #[.int .i64 o2, .int .i64 n2, .int .i64 p2, .slice a3 l2 c4]] x.w fun e w' => e = .returned (.bool true) ∧ Below x.w.heap.size x.w w' := fun x => ih j x.w _ _ ((g4.mono bt).mono x.below) ((k4.mono bt).mono x.below)
        clear g0 g1 g2 g3 g4 k0 k1 k2 k3 k4 hi hi2 hat hat2
        go_wp2_with fail
        refine wp_region_later wr.heap.size wr (by kernel_rfl) (by kernel_rfl) (Below.refl _ _) ?_
        repeat (go_big_quiet_step ((go_at_call 22; refine Calls.later0 (kk _))))
        refine wpQuiet_nil ?_
        intro _ hlat
        obtain ⟨x, rfl⟩ := hlat
        have pt2 := (x.below.block gt (Array.getElem?_eq_some_iff.1 pt).1).trans pt
        have pu2 := (x.below.block gu (Array.getElem?_eq_some_iff.1 pu).1).trans pu
        have bt2 := below_then bt x.below
        clear s3 r3 y0 y1 y2 y3 x0 x1 x2 x3 kk
        go_wp2_with fail
        exact ⟨⟨j + 1, by omega, by simp, pt2, pu2, bt2⟩, by simp [intOf]; omega⟩
      · have f1 : decide (j < len) = false := by simpa using hjl
        go_wp2_with fail
        go_ret
        exact ⟨rfl, bt⟩
/-- A tree whose parts lie in blocks of a set. -/
def TreeOn (S : Nat → Prop) (w : World) : T → Value → Prop
  | .nil, _ => False
  | .node op n pl len sub, v => ∃ (a : Option Addr) (cap : Nat), v = .agg #[.int .i64 op, .int .i64 n, .int .i64 pl, .slice a len cap] ∧ (-9223372036854775808 ≤ op ∧ op ≤ 9223372036854775807) ∧ (-9223372036854775808 ≤ n ∧ n ≤ 9223372036854775807) ∧ (-9223372036854775808 ≤ pl ∧ pl ≤ 9223372036854775807) ∧ len ≤ 9223372036854775807 ∧ (a = none → len = 0 ∧ cap = 0) ∧
      (len = 0 ∨ ∃ b, a = some ⟨b, 0, none⟩ ∧ S b ∧ ∀ i, i < len → ∃ (o' n' p' : Int) (a' : Option Addr) (l' c' : Nat),
        w.cell? ⟨b, i * 4, none⟩ = some (.int .i64 o') ∧ w.cell? ⟨b, i * 4 + 1, none⟩ = some (.int .i64 n') ∧ w.cell? ⟨b, i * 4 + 2, none⟩ = some (.int .i64 p') ∧ w.cell? ⟨b, i * 4 + 3, none⟩ = some (.slice a' l' c') ∧ TreeOn S w (sub i) (.agg #[.int .i64 o', .int .i64 n', .int .i64 p', .slice a' l' c']))
/-- A row of trees in blocks of a set. -/
def PartsOn (S : Nat → Prop) (w : World) (a : Option Addr) (len : Nat) (sub : Nat → T) : Prop :=
  len = 0 ∨ ∃ b, a = some ⟨b, 0, none⟩ ∧ S b ∧ ∀ i, i < len → ∃ (o' n' p' : Int) (a' : Option Addr) (l' c' : Nat),
        w.cell? ⟨b, i * 4, none⟩ = some (.int .i64 o') ∧ w.cell? ⟨b, i * 4 + 1, none⟩ = some (.int .i64 n') ∧ w.cell? ⟨b, i * 4 + 2, none⟩ = some (.int .i64 p') ∧ w.cell? ⟨b, i * 4 + 3, none⟩ = some (.slice a' l' c') ∧ TreeOn S w (sub i) (.agg #[.int .i64 o', .int .i64 n', .int .i64 p', .slice a' l' c'])
theorem TreeOn.to {S S' : Nat → Prop} {w w' : World} (hS : ∀ b, S b → S' b) (hb : ∀ b, S b → w'.heap[b]? = w.heap[b]?) : ∀ {t : T} {v : Value}, TreeOn S w t v → TreeOn S' w' t v := by
  intro t
  induction t with
  | nil => exact fun h => h.elim
  | node op n pl len sub ih =>
    rintro v ⟨a, cap, h1, h2, h3, h4, h5, h6, h7⟩
    refine ⟨a, cap, h1, h2, h3, h4, h5, h6, ?_⟩
    rcases h7 with h0 | ⟨b, ha, hs, hi⟩
    · exact .inl h0
    · refine .inr ⟨b, ha, hS b hs, fun i hil => ?_⟩
      obtain ⟨o', n', p', a', l', c', g0, g1, g2, g3, g4⟩ := hi i hil
      have hc : ∀ o, w'.cell? ⟨b, o, none⟩ = w.cell? ⟨b, o, none⟩ := fun o => World.cell?_of_block (a := ⟨b, o, none⟩) (hb b hs)
      exact ⟨o', n', p', a', l', c', (hc _).trans g0, (hc _).trans g1, (hc _).trans g2, (hc _).trans g3, ih i g4⟩
theorem PartsOn.to {S S' : Nat → Prop} {w w' : World} (hS : ∀ b, S b → S' b) (hb : ∀ b, S b → w'.heap[b]? = w.heap[b]?) {a : Option Addr} {len : Nat} {sub : Nat → T} (h : PartsOn S w a len sub) : PartsOn S' w' a len sub := by
  rcases h with h0 | ⟨b, ha, hs, hi⟩
  · exact .inl h0
  · refine .inr ⟨b, ha, hS b hs, fun i hil => ?_⟩
    obtain ⟨o', n', p', a', l', c', g0, g1, g2, g3, g4⟩ := hi i hil
    have hc : ∀ o, w'.cell? ⟨b, o, none⟩ = w.cell? ⟨b, o, none⟩ := fun o => World.cell?_of_block (a := ⟨b, o, none⟩) (hb b hs)
    exact ⟨o', n', p', a', l', c', (hc _).trans g0, (hc _).trans g1, (hc _).trans g2, (hc _).trans g3, g4.to hS hb⟩
theorem TreeOn.at_ {S : Nat → Prop} {w : World} (hS : ∀ b, S b → b < w.heap.size) : ∀ {t : T} {v : Value}, TreeOn S w t v → TreeAt w t v := by
  intro t
  induction t with
  | nil => exact fun h => h.elim
  | node op n pl len sub ih =>
    rintro v ⟨a, cap, h1, h2, h3, h4, h5, h6, h7⟩
    refine ⟨a, cap, h1, h2, h3, h4, h5, h6, ?_⟩
    rcases h7 with h0 | ⟨b, ha, hs, hi⟩
    · exact .inl h0
    · refine .inr ⟨b, 0, ha, hS b hs, fun i hil => ?_⟩
      obtain ⟨o', n', p', a', l', c', g0, g1, g2, g3, g4⟩ := hi i hil
      rw [Nat.zero_add]
      exact ⟨o', n', p', a', l', c', g0, g1, g2, g3, ih i g4⟩
theorem PartsOn.at_ {S : Nat → Prop} {w : World} (hS : ∀ b, S b → b < w.heap.size) {a : Option Addr} {len : Nat} {sub : Nat → T} (h : PartsOn S w a len sub) : PartsAt w a len sub := by
  rcases h with h0 | ⟨b, ha, hs, hi⟩
  · exact .inl h0
  · refine .inr ⟨b, 0, ha, hS b hs, fun i hil => ?_⟩
    obtain ⟨o', n', p', a', l', c', g0, g1, g2, g3, g4⟩ := hi i hil
    rw [Nat.zero_add]
    exact ⟨o', n', p', a', l', c', g0, g1, g2, g3, g4.at_ hS⟩
theorem TreeOn.shape {S : Nat → Prop} {w : World} {t : T} {v : Value} (h : TreeOn S w t v) : ∃ (o n p : Int) (a : Option Addr) (l c : Nat), v = .agg #[.int .i64 o, .int .i64 n, .int .i64 p, .slice a l c] := by
  cases t with
  | nil => exact h.elim
  | node op n pl len sub =>
    obtain ⟨a, cap, rfl, _⟩ := h
    exact ⟨_, _, _, _, _, _, rfl⟩
theorem info_parts3 {P : Program} {e : TypeId} {z : Value} {size bytes : Nat} (hinfo : (P.info? e).map (fun i => (i.zero, i.size, i.bytes)) = some (some z, size, bytes)) : ∃ i, P.info? e = some i ∧ i.zero = some z ∧ i.size = size ∧ i.bytes = bytes := by
  cases hi : P.info? e with
  | none => rw [hi] at hinfo; cases hinfo
  | some i =>
    rw [hi] at hinfo
    simp at hinfo
    exact ⟨i, rfl, hinfo.1, hinfo.2.1, hinfo.2.2⟩
theorem append_at {P : Program} {w : World} {ops : Array Oper} {rest : List Oper} {o : Oper} {a : Act} {Q : Exit → Act → World → Prop} (hgd : o.guard = none) (s x : Operand) (t : TypeId)
    (ho : o.op = .call { callee := .builtin .append, args := #[s, x], argTypes := #[t, t] })
    (base : Nat) (e : TypeId) (z : Value) (size bytes : Nat) (ht : P.underlying t = some (.slice e)) (hinfo : (P.info? e).map (fun i => (i.zero, i.size, i.bytes)) = some (some z, size, bytes)) (hz : z.cells.size = size) (hsz : 0 < size)
    (v : Value) (n : Nat) (xs : List Value) (hs : a.eval s = v) (hown : w.ownsRow base e size v n xs)
    (ad : Addr) (m c : Nat) (news : List Value) (hx : a.eval x = .slice (some ad) m c) (hl : news.length = m * size) (hnews : ∀ j u, news[j]? = some u → w.cell? (ad.add j) = some u) (h1 : ∀ u ∈ news, u.oneCell' = true)
    (h63 : n + m ≤ maxLen) (hbytes : (n + m) * bytes ≤ 140737488355328) (hbase : base ≤ w.heap.size)
    (h : ∀ v' w', w'.ownsRow base e size v' (n + m) (xs ++ news) → w.grownBy w' v.ownBlock → (v'.ownBlock = v.ownBlock ∨ v'.ownBlock = some w.heap.size) → wpList P ops Q rest (a.put o.dst v') w') : wpList P ops Q (o :: rest) a w := by
  obtain ⟨i, hi, hz0, hz1, hz2⟩ := info_parts3 hinfo
  exact wpList_append_own_at w hgd s x t ho base e i z size bytes ht hi hz0 hz1 hz2 hz hsz v n xs hs hown ad m c news hx hl hnews h1 h63 hbytes hbase (fun v' w' h2 h3 _ h5 => h v' w' h2 h3 h5)
theorem row_new (w : World) (cs : Array Value) (t : TypeId) : ∀ (j : Nat) (u : Value), cs.toList[j]? = some u → (w.alloc (.cells cs t)).cell? ((⟨w.heap.size, 0, none⟩ : Addr).add j) = some u := fun j u hj => by
  rw [Addr.add_lit, Nat.zero_add]
  exact (cell_of_row _ _ j _ _ _ (heap_alloc_new w _)).trans (by simpa using hj)
theorem Try.info_expr : (Try.prog.info? 40).map (fun i => (i.zero, i.size, i.bytes)) = some (some (.agg #[.int .i64 0, .int .i64 0, .int .i64 0, .slice none 0 0]), 4, 48) := by kernel_rfl
end Go.Proofs.Ytpabnpgbclfcfaa
