/- The document's Insert (flat store; by gen06x.py). -/
import Derived.Test.YtbbdeefnooaacaaFlatI
namespace Go.Proofs.Ytbbdeefnooaacaa
open Go.RowKit
set_option linter.unusedVariables false
set_option linter.unusedSimpArgs false
theorem RowsK.vals {w : World} {b off n : Nat} {ks : List (List Nat)} (h : RowsK w (some ⟨b, off, none⟩) n ks) (hn : 0 < n) : ∃ vals : List Value, vals.length = n ∧ (∀ j u, vals[j]? = some u → w.cell? ((⟨b, off, none⟩ : Addr).add j) = some u) ∧ (∀ u ∈ vals, u.oneCell' = true) ∧
    (∀ i, i < n → ∃ x l c, vals[i]? = some (.slice x l c) ∧ BytesAt w x l c (ks.getD i [])) ∧ b < w.heap.size := by
  obtain ⟨b', off', he, hb, hi⟩ := h.at_.resolve_left (by omega)
  cases he
  refine ⟨(List.range n).map fun i => (w.cell? ⟨b, off + i, none⟩).getD undef, by simp, fun j u hj => ?_, fun u hu => ?_, fun i hin => ?_, hb⟩
  · have hjn : j < n := by have := (List.getElem?_eq_some_iff.1 hj).1; simpa using this
    obtain ⟨x, l, c, h1, _⟩ := hi j hjn
    rw [List.getElem?_map, List.getElem?_range hjn, Option.map_some, h1] at hj
    rw [Addr.add_lit, h1]
    simpa using hj
  · obtain ⟨i, hi2, rfl⟩ := List.mem_map.1 hu
    obtain ⟨x, l, c, h1, _⟩ := hi i (List.mem_range.1 hi2)
    rw [h1]
    rfl
  · obtain ⟨x, l, c, h1, h2⟩ := hi i hin
    exact ⟨x, l, c, by rw [List.getElem?_map, List.getElem?_range hin, Option.map_some, h1]; rfl, h2⟩
theorem rows_snoc0 {w2 w36 : World} {n yl c34 : Nat} {a34 : Option Addr} {v36 : Value} {vals : List Value} {ks : List (List Nat)} {key : List Nat} (BL : Below w2.heap.size w2 w36) (hby : BytesAt w36 a34 yl c34 key) (hl : ks.length = n) (hn : n ≤ 1048576)
    (vk : ∀ i, i < n → ∃ x l c, vals[i]? = some (.slice x l c) ∧ BytesAt w2 x l c (ks.getD i [])) {B2 : Nat} (O36 : w36.ownsRow B2 29 1 v36 (n + 1) (vals ++ [.slice a34 yl c34])) :
    ∃ g c36, v36 = .slice (some ⟨g, 0, none⟩) (n + 1) c36 ∧ B2 ≤ g ∧ RowsK w36 (some ⟨g, 0, none⟩) (n + 1) (ks ++ [key]) := by
  rcases O36.2 with ⟨_, h0⟩ | ⟨g, cap, cur, rfl, h1, h3, h4, h5, h6, h7⟩
  · omega
  have hvl : vals.length = n := by have := O36.1; simp at this; omega
  refine ⟨g, cap, rfl, h1, by simp; omega, by omega, .inr ⟨g, 0, rfl, (Array.getElem?_eq_some_iff.1 h3).1, fun i hi => ?_⟩⟩
  have hcell : ∀ v, (vals ++ [Value.slice a34 yl c34])[i]? = some v → w36.cell? ⟨g, 0 + i, none⟩ = some v := fun v hv => by
    rw [← h7, List.getElem?_take] at hv
    rw [Nat.zero_add]
    split at hv
    · exact cell_of_row _ _ i _ _ _ h3 |>.trans (by simpa using hv)
    · cases hv
  by_cases hin : i < n
  · obtain ⟨x, l, c, e1, e2⟩ := vk i hin
    refine ⟨x, l, c, hcell _ (by rw [List.getElem?_append_left (by omega)]; exact e1), ?_⟩
    rw [List.getD_eq_getElem?_getD, List.getElem?_append_left (by omega), ← List.getD_eq_getElem?_getD]
    exact e2.mono BL
  · obtain rfl : i = n := by omega
    refine ⟨_, _, _, hcell _ (by rw [List.getElem?_append_right (by omega), hvl, Nat.sub_self]; rfl), ?_⟩
    rw [List.getD_eq_getElem?_getD, List.getElem?_append_right (by omega), hl, Nat.sub_self]
    exact hby

theorem Try.info_rowB : (Try.prog.info? 29).map (fun i => (i.zero, i.size, i.bytes)) = some (some (.slice none 0 0), 1, 24) := by kernel_rfl
theorem Try.info_u8B : (Try.prog.info? 5).map (fun i => (i.zero, i.size, i.bytes)) = some (some (.int .u8 0), 1, 1) := by kernel_rfl
theorem Try.info_b2 : (Try.prog.info? 62).map (fun i => (i.zero, i.size, i.bytes)) = some (some (.agg #[.bool false, .bool false]), 2, 2) := by kernel_rfl
theorem info_parts2 {P : Program} {e : TypeId} {z : Value} {size bytes : Nat} (hinfo : (P.info? e).map (fun i => (i.zero, i.size, i.bytes)) = some (some z, size, bytes)) : ∃ i, P.info? e = some i ∧ i.zero = some z ∧ i.size = size ∧ i.bytes = bytes := by
  cases hi : P.info? e with
  | none => rw [hi] at hinfo; cases hinfo
  | some i =>
    rw [hi] at hinfo
    simp at hinfo
    exact ⟨i, rfl, hinfo.1, hinfo.2.1, hinfo.2.2⟩
theorem run_append_none2 {P : Program} {w : World} (t ty e : TypeId) (ht : P.underlying t = some (.slice e)) (z : Value) (size bytes : Nat) (hinfo : (P.info? e).map (fun i => (i.zero, i.size, i.bytes)) = some (some z, size, bytes)) (sa : Option Addr) (sc : Nat) (xa : Option Addr) (c : Nat) :
    (Builtin.append_ #[t, t] ty #[.slice sa 0 sc, .slice xa 0 c]).run P w = .ok (.slice sa 0 sc) w := by
  obtain ⟨i, hi, hz0, hz1, hz2⟩ := info_parts2 hinfo
  cases sa <;> cases xa <;> simp [Builtin.append_, run_underlying ht, sizeOf, typeInfo, hi, Builtin.lenOf, Builtin.firstCells, loadCells, loadCellsFrom, storeCells]
theorem run_append_more2 {P : Program} {w : World} (base : Nat) (t ty e : TypeId) (ht : P.underlying t = some (.slice e)) (z : Value) (size bytes : Nat) (hinfo : (P.info? e).map (fun i => (i.zero, i.size, i.bytes)) = some (some z, size, bytes)) (hz : z.cells.size = size) (hs : 0 < size)
    (v : Value) (n : Nat) (xs : List Value) (hown : w.ownsRow base e size v n xs) (ad : Addr) (m c : Nat) (news : List Value) (hl : news.length = m * size) (hnews : ∀ j u, news[j]? = some u → w.cell? (ad.add j) = some u) (h1 : ∀ u ∈ news, u.oneCell' = true)
    (h63 : n + m ≤ maxLen) (hbytes : (n + m) * bytes ≤ 140737488355328) (hbase : base ≤ w.heap.size) :
    ∃ v' w', (Builtin.append_ #[t, t] ty #[v, .slice (some ad) m c]).run P w = .ok v' w' ∧ w'.ownsRow base e size v' (n + m) (xs ++ news) ∧ w.grownBy w' v.ownBlock ∧ (v'.ownBlock = v.ownBlock ∨ v'.ownBlock = some w.heap.size) := by
  obtain ⟨i, hi, hz0, hz1, hz2⟩ := info_parts2 hinfo
  obtain ⟨v', w', hr, h2, h3, _, h5⟩ := run_append_own_at (P := P) w base t ty e i z size bytes ht hi hz0 hz1 hz2 hz hs v n xs hown ad m c news hl hnews h1 h63 hbytes hbase
  exact ⟨v', w', hr, h2, h3, h5⟩
theorem heap2 (w : World) (A B : Array Value) (t u : TypeId) : ((w.alloc (.cells A t)).alloc (.cells B u)).heap[w.heap.size]? = some (.cells A t (0, 0)) ∧ ((w.alloc (.cells A t)).alloc (.cells B u)).heap[w.heap.size + 1]? = some (.cells B u (0, 0)) ∧ Below w.heap.size w ((w.alloc (.cells A t)).alloc (.cells B u)) := by
  refine ⟨(Below.heap_alloc _ _ _ (by simp)).trans (heap_alloc_new _ _), ?_, ((Below.refl _ _).alloc (Nat.le_refl _) _).alloc (by simp) _⟩
  have h := heap_alloc_new (w.alloc (.cells A t)) (.cells B u)
  rw [World.size_alloc] at h
  exact h
theorem own_shape0 {w : World} {base n size : Nat} {e : TypeId} {v : Value} {xs : List Value} (h : w.ownsRow base e size v n xs) : ∃ a c, v = .slice a n c := by
  rcases h.2 with ⟨rfl, rfl⟩ | ⟨g, cp, cur, rfl, _⟩
  · exact ⟨_, _, rfl⟩
  · exact ⟨_, _, rfl⟩
theorem own_at {w : World} {base n size : Nat} {e : TypeId} {a : Option Addr} {c : Nat} {xs : List Value} (h : w.ownsRow base e size (.slice a n c) n xs) (h0 : 0 < n) : ∃ g, a = some ⟨g, 0, none⟩ ∧ g < w.heap.size ∧ ∀ j x, xs[j]? = some x → w.cell? ((⟨g, 0, none⟩ : Addr).add j) = some x := by
  rcases h.2 with ⟨_, h1⟩ | ⟨g, cp, cur, he, h1, h3, h4, h5, h6, h7⟩
  · omega
  · cases he
    refine ⟨g, rfl, (Array.getElem?_eq_some_iff.1 h3).1, fun j x hx => ?_⟩
    rw [Addr.add_lit, Nat.zero_add]
    rw [← h7, List.getElem?_take] at hx
    split at hx
    · exact cell_of_row _ _ j _ _ _ h3 |>.trans (by simpa using hx)
    · cases hx
theorem row_at {w : World} {g : Nat} {cs : Array Value} {t : TypeId} (h : w.heap[g]? = some (.cells cs t (0, 0))) : ∀ (j : Nat) (u : Value), cs.toList[j]? = some u → w.cell? ((⟨g, 0, none⟩ : Addr).add j) = some u := fun j u hj => by
  rw [Addr.add_lit, Nat.zero_add]
  exact cell_of_row _ _ j _ _ _ h |>.trans (by simpa using hj)
def InsF (w : World) (cap : Int) (dk : Option Addr) (ks : List (List Nat)) (FL : List (Bool × Bool)) (key : List Nat) (e : Ending) (w' : World) : Prop := ∃ (dk' : Option Addr) (n' ck' : Nat) (df' : Option Addr) (cf' : Nat) (ks' : List (List Nat)) (FL' : List (Bool × Bool)) (G : Bool) (E : Int), e = .returned (.tuple #[.agg #[.int .i64 cap, .slice dk' n' ck', .slice df' n' cf'], .bool G, .int .i64 E]) ∧ DocF w' dk' n' (.slice df' n' cf') ks' FL' ∧ Below w.heap.size w w' ∧ (dk' = dk ∨ ∃ g, dk' = some ⟨g, 0, none⟩ ∧ w.heap.size ≤ g ∧ g < w'.heap.size) ∧
  ((key ∈ ks ∧ G = false ∧ E = 0 ∧ ks' = ks ∧ FL' = FL) ∨ (key ∉ ks ∧ cap ≤ (ks.length : Int) ∧ G = false ∧ E = 7 ∧ ks' = ks ∧ FL' = FL) ∨ (key ∉ ks ∧ (ks.length : Int) < cap ∧ G = true ∧ E = 0 ∧ ks' = ks ++ [key] ∧ FL' = FL ++ [(false, false)]))
set_option maxRecDepth 20000 in
set_option maxHeartbeats 4000000 in
theorem refinsertF_ev (w : World) (cap : Int) (hcap : cap ≤ 1048576) (dk df : Option Addr) (n ck cf : Nat) (ks : List (List Nat)) (FL : List (Bool × Bool)) (h : DocF w dk n (.slice df n cf) ks FL) (hsm : n ≤ 1048576) (ya : Option Addr) (yl yc : Nat) (key : List Nat) (hk : BytesAt w ya yl yc key) (hyl : yl ≤ 1000000) :
    Calls Try.prog 10 #[.agg #[.int .i64 cap, .slice dk n ck, .slice df n cf], .slice ya yl yc] w fun e w' => InsF w cap dk ks FL key e w' := by
  obtain ⟨p2, p4, bt⟩ := heap2 w #[.int .i64 cap, .slice dk n ck, .slice df n cf] #[.int .i64 0, .slice none 0 0, .slice none 0 0] 37 37
  have hln := h.keys.len
  go_enter Try.func10, Try.ntmps10
  go_upto_region 1 with fail
  obtain ⟨v2, hv⟩ : ∃ v, (w.alloc (.cells #[.int .i64 cap, .slice dk n ck, .slice df n cf] 37)).alloc (.cells #[.int .i64 0, .slice none 0 0, .slice none 0 0] 37) = v := ⟨_, rfl⟩
  rw [hv] at p2 p4 bt ⊢
  obtain ⟨g4, hg4⟩ : ∃ g, w.heap.size + 1 = g := ⟨_, rfl⟩
  rw [hg4] at p4 ⊢
  obtain ⟨g2, hg2⟩ : ∃ g, w.heap.size = g := ⟨_, rfl⟩
  have h24 : g2 < g4 := by omega
  have hw4 : w.heap.size ≤ g4 := by omega
  rw [hg2] at p2 ⊢
  clear hv hg2 hg4
  have c0 : v2.cell? ⟨g2, 0, none⟩ = some (.int .i64 cap) := cell_of_row _ _ 0 _ _ _ p2
  have c1 : v2.cell? ⟨g2, 1, none⟩ = some (.slice dk n ck) := cell_of_row _ _ 1 _ _ _ p2
  have c2 : v2.cell? ⟨g2, 2, none⟩ = some (.slice df n cf) := cell_of_row _ _ 2 _ _ _ p2
  go_wp2_with fail
  refine (refplace_any v2 cap dk n ck df n cf ks (h.keys.mono bt) ya yl yc key (hk.mono bt)).mono ?_
  rintro e w1 ⟨⟨p, rfl, hp⟩, b1⟩
  clear c0 c1 c2
  replace p2 := (b1.block g2 (Array.getElem?_eq_some_iff.1 p2).1).trans p2
  replace p4 := (b1.block g4 (Array.getElem?_eq_some_iff.1 p4).1).trans p4
  replace bt := below_then bt b1
  have c0 : w1.cell? ⟨g2, 0, none⟩ = some (.int .i64 cap) := cell_of_row _ _ 0 _ _ _ p2
  have c1 : w1.cell? ⟨g2, 1, none⟩ = some (.slice dk n ck) := cell_of_row _ _ 1 _ _ _ p2
  have c2 : w1.cell? ⟨g2, 2, none⟩ = some (.slice df n cf) := cell_of_row _ _ 2 _ _ _ p2
  have k0 := cell_of_row _ _ 0 _ _ _ p4
  have k1 := cell_of_row _ _ 1 _ _ _ p4
  have k2 := cell_of_row _ _ 2 _ _ _ p4
  simp only [List.getElem?_toArray, List.getElem?_cons_zero, List.getElem?_cons_succ] at k0 k1 k2
  have f0 := frozen_of_row w1 _ 0 _ _ p4
  have f1 := frozen_of_row w1 _ 1 _ _ p4
  have f2 := frozen_of_row w1 _ 2 _ _ p4
  have fin : ∃ w' : World, w' = ((w1.setCell ⟨g4, 0, none⟩ (.int .i64 cap)).setCell ⟨g4, 1, none⟩ (.slice dk n ck)).setCell ⟨g4, 2, none⟩ (.slice df n cf) ∧ w'.heap[g4]? = some (.cells #[.int .i64 cap, .slice dk n ck, .slice df n cf] 37 (0, 0)) ∧ DocF w' dk n (.slice df n cf) ks FL ∧ Below w.heap.size w w' := by
    have bw := three_below bt hw4 (.int .i64 cap) (.slice dk n ck) (.slice df n cf)
    exact ⟨_, rfl, three_rowU _ _ _ _ _ _ _ _ _ p4, h.mono bw, bw⟩
  have HH := Lib.hid h
  have HK := Lib.hid hk
  clear h hk
  rcases hp with ⟨hm, q, rfl, hq, hqk⟩ | ⟨hm, rfl⟩
  · obtain ⟨w5, hw5, g5, D5, B5⟩ := fin
    have d1 : decide (0 ≤ ((q : Nat) : Int)) = true := by simp
    have HM := Lib.hid hm
    clear hm hqk
    go_wp2_with fail
    rw [← hw5]
    have q0 := cell_of_row _ _ 0 _ _ _ g5
    have q1 := cell_of_row _ _ 1 _ _ _ g5
    have q2 := cell_of_row _ _ 2 _ _ _ g5
    simp only [List.getElem?_toArray, List.getElem?_cons_zero, List.getElem?_cons_succ] at q0 q1 q2
    exact bodyPost_ret (v := .tuple #[.agg #[.int .i64 cap, .slice dk n ck, .slice df n cf], .bool false, .int .i64 0]) (by simp [results, Try.results10, go_sem, q0, q1, q2]) rfl (by unfold InsF; exact ⟨_, n, _, _, _, ks, FL, false, 0, rfl, D5, B5, .inl rfl, .inl ⟨HM.out, rfl, rfl, rfl, rfl⟩⟩)
  have HM := Lib.hid hm
  clear hm
  by_cases hc : cap ≤ (n : Int)
  · have e1 : decide (cap ≤ (n : Int)) = true := by simpa using hc
    obtain ⟨w5, hw5, g5, D5, B5⟩ := fin
    have HC := Lib.hid hc
    clear hc
    go_wp2_with fail
    rw [← hw5]
    have q0 := cell_of_row _ _ 0 _ _ _ g5
    have q1 := cell_of_row _ _ 1 _ _ _ g5
    have q2 := cell_of_row _ _ 2 _ _ _ g5
    simp only [List.getElem?_toArray, List.getElem?_cons_zero, List.getElem?_cons_succ] at q0 q1 q2
    exact bodyPost_ret (v := .tuple #[.agg #[.int .i64 cap, .slice dk n ck, .slice df n cf], .bool false, .int .i64 7]) (by simp [results, Try.results10, go_sem, q0, q1, q2]) rfl (by unfold InsF; exact ⟨_, n, _, _, _, ks, FL, false, 7, rfl, D5, B5, .inl rfl, .inr (.inl ⟨HM.out, by rw [hln]; exact HC.out, rfl, rfl, rfl, rfl⟩)⟩)
  have e1 : decide (cap ≤ (n : Int)) = false := by simpa using hc
  have HC := Lib.hid hc
  clear hc fin k0 k1 k2 f0 f1 f2
  have l4 : g4 < w1.heap.size := (Array.getElem?_eq_some_iff.1 p4).1
  obtain ⟨kv, hkv⟩ : ∃ kv, (key.map fun (n : Nat) => Value.int .u8 (n : Int)) = kv := ⟨_, rfl⟩
  have hkvl : kv.length = yl := by rw [← hkv, List.length_map]; exact HK.out.len_eq
  obtain ⟨xk, hxl, hxc, hx1, hxk⟩ : ∃ xk : List Value, xk.length = n ∧ (0 < n → ∃ b off, dk = some ⟨b, off, none⟩ ∧ b < w.heap.size ∧ ∀ j u, xk[j]? = some u → w.cell? ((⟨b, off, none⟩ : Addr).add j) = some u) ∧ (∀ u ∈ xk, u.oneCell' = true) ∧ (∀ i, i < n → ∃ x l c, xk[i]? = some (.slice x l c) ∧ BytesAt w x l c (ks.getD i [])) := by
    by_cases h0 : n = 0
    · exact ⟨[], h0.symm, fun h => by omega, (fun u hu => by cases hu), fun i hi => by omega⟩
    · obtain ⟨b, off, ha, hb, hi⟩ := HH.out.keys.at_.resolve_left h0
      obtain ⟨xk, e1, e2, e3, e4, e5⟩ := RowsK.vals (ha ▸ HH.out.keys) (by omega)
      exact ⟨xk, e1, fun _ => ⟨b, off, ha, e5, e2⟩, e3, e4⟩
  go_wp2_with fail
  refine wp_region_vals 38 (by kernel_rfl) (by kernel_rfl) (fun s => Nat.blt s 19 && !Nat.beq s 5 && !Nat.beq s 6) [some (.pointer (some ⟨g2, 0, none⟩)), some (.int .i64 cap), none, some (.pointer (some ⟨g2, 1, none⟩)), some (.slice dk n ck), none, none, some (.slice ya yl yc), none, none, none, none, some (.pointer (some ⟨g2, 2, none⟩)), some (.slice df n cf), none, some (.agg #[.bool false, .bool false]), none, none, none, none, some (.bool true), some (.int .i64 0)] (XF w1 g4 cap n yl xk kv (fv FL)) (by kernel_rfl) ?_ ?_ ?_
  · exact ⟨l4, Nat.le_refl _, (Below.refl _ _).drew, (fun hh => by cases hh), (fun hh => by cases hh), (fun hh => by cases hh), (fun hh => by cases hh), (fun hh => by cases hh), (fun hh => by cases hh), (fun hh => by cases hh), (fun _ => p4), (fun hh => by cases hh)⟩
  · skip
    refine stepv_cons (sv_run rfl (fun L u z v h => h.same rfl rfl rfl rfl rfl rfl rfl rfl rfl rfl rfl rfl rfl rfl rfl rfl rfl rfl rfl rfl rfl rfl rfl) (fun L u z hC hd => ⟨trivial, .pointer (some ⟨g2, 0, none⟩), by simp only [execOp]; rw [show evU 38 u (.tmp 2) = .pointer (some ⟨g2, 0, none⟩) from hC.keep 2 rfl]; go_simp, fun x hx => by cases hx; rfl⟩)) ?_
    refine stepv_cons (sv_run rfl (fun L u z v h => h.same rfl rfl rfl rfl rfl rfl rfl rfl rfl rfl rfl rfl rfl rfl rfl rfl rfl rfl rfl rfl rfl rfl rfl) (fun L u z hC hd => ⟨trivial, .int .i64 cap, by have q := (hC.x.bel.cell (p := ⟨g2, 0, none⟩) h24).trans c0; simp only [execOp]; rw [show evU 38 u (.tmp 19) = .pointer (some ⟨g2, 0, none⟩) from hC.val 0 _ (hd 0 rfl) rfl rfl]; go_simp, fun x hx => by cases hx; rfl⟩)) ?_
    refine stepv_cons (sv_make rfl (fun L u z hC hLi hd => ?_)) ?_
    · skip
      have n5 : L 5 = false := by cases hh : L 5 with | false => rfl | true => exact Bool.noConfusion (hLi.symm.trans (hC.closed 5 2 hh rfl))
      have n10 : L 10 = false := by cases hh : L 10 with | false => rfl | true => exact Bool.noConfusion (hLi.symm.trans (hC.closed 5 2 (hC.closed 10 5 hh rfl) rfl))
      exact ⟨trivial, .slice (some ⟨z.heap.size, 0, none⟩) 0 0, z.alloc (.cells #[] 29), .inl (by simp only [execOp]; go_simp), (fun x hx => by cases hx), hC.x.s2 n5 n10⟩
    refine stepv_cons (sv_run rfl (fun L u z v h => h.same rfl rfl rfl rfl rfl rfl rfl rfl rfl rfl rfl rfl rfl rfl rfl rfl rfl rfl rfl rfl rfl rfl rfl) (fun L u z hC hd => ⟨trivial, .pointer (some ⟨g2, 1, none⟩), by simp only [execOp]; rw [show evU 38 u (.tmp 2) = .pointer (some ⟨g2, 0, none⟩) from hC.keep 2 rfl]; go_simp, fun x hx => by cases hx; rfl⟩)) ?_
    refine stepv_cons (sv_run rfl (fun L u z v h => h.same rfl rfl rfl rfl rfl rfl rfl rfl rfl rfl rfl rfl rfl rfl rfl rfl rfl rfl rfl rfl rfl rfl rfl) (fun L u z hC hd => ⟨trivial, .slice dk n ck, by have q := (hC.x.bel.cell (p := ⟨g2, 1, none⟩) h24).trans c1; simp only [execOp]; rw [show evU 38 u (.tmp 22) = .pointer (some ⟨g2, 1, none⟩) from hC.val 3 _ (hd 3 rfl) rfl rfl]; go_simp, fun x hx => by cases hx; rfl⟩)) ?_
    refine stepv_cons (sv_make rfl (fun L u z hC hLi hd => ?_)) ?_
    · skip
      have n9 : L 9 = false := by cases hh : L 9 with | false => rfl | true => exact Bool.noConfusion (hLi.symm.trans (hC.closed 8 5 (hC.closed 9 8 hh rfl) rfl))
      have n10 : L 10 = false := by cases hh : L 10 with | false => rfl | true => exact Bool.noConfusion (hLi.symm.trans (hC.closed 10 5 hh rfl))
      have n18 : L 18 = false := by cases hh : L 18 with | false => rfl | true => exact Bool.noConfusion (hLi.symm.trans (hC.closed 10 5 (hC.closed 18 10 hh rfl) rfl))
      have n19 : L 19 = false := by cases hh : L 19 with | false => rfl | true => exact Bool.noConfusion (hLi.symm.trans (hC.closed 10 5 (hC.closed 18 10 (hC.closed 19 18 hh rfl) rfl) rfl))
      have y2 : L 2 = true := hd 2 rfl
      have hr := hC.x.rK y2
      have hs : kV L u = u 21 := by unfold kV; rw [n10, hLi]; rfl
      rw [hs, n10, hLi] at hr
      change z.ownsRow w1.heap.size 29 1 (u 21) 0 [] at hr
      have hx : evU 38 u (.tmp 23) = .slice dk n ck := hC.val 4 _ (hd 4 rfl) rfl rfl
      have B6 := bt.trans (hC.x.bel.mono hw4)
      by_cases h0 : n = 0
      · obtain ⟨sa, sc, es⟩ := own_shape0 hr
        have hrun := run_append_none2 (P := Try.prog) (w := z) 25 25 29 Try.underlying25 (.slice none 0 0) 1 24 Try.info_rowB sa sc dk ck
        refine ⟨trivial, u 21, z, .inl (run_append_call (by show u 21 = _; exact es) (by rw [hx, h0]) (by rw [es]; exact hrun)), (fun x hx => by cases hx), hC.x.sK y2 n18 n19 (.inl ⟨rfl, rfl, n10, n9⟩) ?_ (World.grownBy.refl _ _)⟩
        show z.ownsRow w1.heap.size 29 1 (u 21) (chN (L 10) true n) (chX (L 10) true xk _)
        rw [n10]
        have e0 : xk = [] := List.eq_nil_of_length_eq_zero (by rw [hxl, h0])
        show z.ownsRow w1.heap.size 29 1 (u 21) n xk
        rw [e0, h0]
        exact hr
      · obtain ⟨bk, ok, eX, hbk, hcell⟩ := hxc (by omega)
        have hcell2 : ∀ j x, xk[j]? = some x → z.cell? ((⟨bk, ok, none⟩ : Addr).add j) = some x := fun j x hj => by
          have := hcell j x hj
          rw [Addr.add_lit] at this ⊢
          exact (B6.cell (p := ⟨bk, ok + j, none⟩) hbk).trans this
        obtain ⟨v', w', hrun, o1, o2, o3⟩ := run_append_more2 (P := Try.prog) (w := z) w1.heap.size 25 25 29 Try.underlying25 (.slice none 0 0) 1 24 Try.info_rowB rfl (by decide) (u 21) 0 [] hr ⟨bk, ok, none⟩ n ck xk (by rw [hxl, Nat.mul_one]) hcell2 hx1 (by unfold maxLen; omega) (by omega) hC.x.size
        refine ⟨trivial, v', w', .inl (run_append_call (by rfl) (by rw [hx, eX]) hrun), (fun x hx => by cases hx), hC.x.sK y2 n18 n19 (.inl ⟨rfl, rfl, n10, n9⟩) ?_ (by rw [hs]; exact o2)⟩
        show w'.ownsRow w1.heap.size 29 1 v' (chN (L 10) true n) (chX (L 10) true xk _)
        rw [n10]
        show w'.ownsRow w1.heap.size 29 1 v' n xk
        rw [Nat.zero_add, List.nil_append] at o1
        exact o1
    refine stepv_cons (sv_make rfl (fun L u z hC hLi hd => ?_)) ?_
    · skip
      have n8 : L 8 = false := by cases hh : L 8 with | false => rfl | true => exact Bool.noConfusion (hLi.symm.trans (hC.closed 8 6 hh rfl))
      exact ⟨trivial, .slice (some ⟨z.heap.size, 0, none⟩) 0 0, z.alloc (.cells #[] 5), .inl (by simp only [execOp]; go_simp), (fun x hx => by cases hx), hC.x.s6 n8⟩
    refine stepv_cons (sv_run rfl (fun L u z v h => h.same rfl rfl rfl rfl rfl rfl rfl rfl rfl rfl rfl rfl rfl rfl rfl rfl rfl rfl rfl rfl rfl rfl rfl) (fun L u z hC hd => ⟨trivial, .slice ya yl yc, by simp only [execOp]; rw [show evU 38 u (.tmp 1) = .slice ya yl yc from hC.keep 1 rfl]; go_simp, fun x hx => by cases hx; rfl⟩)) ?_
    refine stepv_cons (sv_make rfl (fun L u z hC hLi hd => ?_)) ?_
    · skip
      have n9 : L 9 = false := by cases hh : L 9 with | false => rfl | true => exact Bool.noConfusion (hLi.symm.trans (hC.closed 9 8 hh rfl))
      have n10 : L 10 = false := by cases hh : L 10 with | false => rfl | true => exact Bool.noConfusion (hLi.symm.trans (hC.closed 10 8 hh rfl))
      have n18 : L 18 = false := by cases hh : L 18 with | false => rfl | true => exact Bool.noConfusion (hLi.symm.trans (hC.closed 10 8 (hC.closed 18 10 hh rfl) rfl))
      have n19 : L 19 = false := by cases hh : L 19 with | false => rfl | true => exact Bool.noConfusion (hLi.symm.trans (hC.closed 10 8 (hC.closed 18 10 (hC.closed 19 18 hh rfl) rfl) rfl))
      have y6 : L 6 = true := hd 6 rfl
      have hr := hC.x.rB y6
      have hs : bV L u = u 25 := by unfold bV; rw [hLi]; rfl
      rw [hs, hLi] at hr
      change z.ownsRow w1.heap.size 5 1 (u 25) 0 [] at hr
      have hx : evU 38 u (.tmp 26) = .slice ya yl yc := hC.val 7 _ (hd 7 rfl) rfl rfl
      have B6 := bt.trans (hC.x.bel.mono hw4)
      have hk6 := HK.out.mono B6
      by_cases h0 : yl = 0
      · obtain ⟨sa, sc, es⟩ := own_shape0 hr
        have hrun := run_append_none2 (P := Try.prog) (w := z) 29 29 5 Try.underlying29 (.int .u8 0) 1 1 Try.info_u8B sa sc ya yc
        refine ⟨trivial, u 25, z, .inl (run_append_call (by show u 25 = _; exact es) (by rw [hx, h0]) (by rw [es]; exact hrun)), (fun x hx => by cases hx), hC.x.sB y6 n9 n10 n18 n19 ?_ (World.grownBy.refl _ _)⟩
        have e0 : kv = [] := List.eq_nil_of_length_eq_zero (by rw [hkvl, h0])
        rw [e0, h0]
        exact hr
      · obtain ⟨yb, yo, eX, _⟩ := hk6.at_.resolve_left h0
        have hcell2 : ∀ j x, kv[j]? = some x → z.cell? ((⟨yb, yo, none⟩ : Addr).add j) = some x := fun j x hj => hk6.news _ eX j x (by rw [hkv]; exact hj)
        obtain ⟨v', w', hrun, o1, o2, o3⟩ := run_append_more2 (P := Try.prog) (w := z) w1.heap.size 29 29 5 Try.underlying29 (.int .u8 0) 1 1 Try.info_u8B rfl (by decide) (u 25) 0 [] hr ⟨yb, yo, none⟩ yl yc kv (by rw [hkvl, Nat.mul_one]) hcell2 (fun u hu => by rw [← hkv] at hu; obtain ⟨c, _, rfl⟩ := List.mem_map.1 hu; rfl) (by unfold maxLen; omega) (by omega) hC.x.size
        refine ⟨trivial, v', w', .inl (run_append_call (by rfl) (by rw [hx, eX]) hrun), (fun x hx => by cases hx), hC.x.sB y6 n9 n10 n18 n19 ?_ (by rw [hs]; exact o2)⟩
        rw [Nat.zero_add, List.nil_append] at o1
        exact o1
    refine stepv_cons (sv_make rfl (fun L u z hC hLi hd => ?_)) ?_
    · skip
      have y8 : L 8 = true := hd 8 rfl
      have y6 : L 6 = true := hC.closed 8 6 y8 rfl
      have hr := hC.x.rB y6
      have hs : bV L u = u 27 := by unfold bV; rw [y8]; rfl
      rw [hs, y8] at hr
      obtain ⟨sa, sc, es⟩ := own_shape0 hr
      refine ⟨trivial, .slice (some ⟨z.heap.size, 0, none⟩) 1 1, z.alloc (.cells #[u 27] 29), .inl ?_, (fun x hx => by cases hx), hC.x.s9⟩
      simp only [execOp, List.map_toArray, List.map_cons, List.map_nil]
      rw [show evU 38 u (.tmp 27) = u 27 from rfl, es]
      go_simp
    refine stepv_cons (sv_make rfl (fun L u z hC hLi hd => ?_)) ?_
    · skip
      have n18 : L 18 = false := by cases hh : L 18 with | false => rfl | true => exact Bool.noConfusion (hLi.symm.trans (hC.closed 18 10 hh rfl))
      have n19 : L 19 = false := by cases hh : L 19 with | false => rfl | true => exact Bool.noConfusion (hLi.symm.trans (hC.closed 18 10 (hC.closed 19 18 hh rfl) rfl))
      have y5 : L 5 = true := hd 5 rfl
      have y2 : L 2 = true := hC.closed 5 2 y5 rfl
      have y9 : L 9 = true := hd 9 rfl
      have y8 : L 8 = true := hC.closed 9 8 y9 rfl
      have y6 : L 6 = true := hC.closed 8 6 y8 rfl
      have hrb := hC.x.rB y6
      have hsb : bV L u = u 27 := by unfold bV; rw [y8]; rfl
      rw [hsb, y8] at hrb
      obtain ⟨sa, sc, es⟩ := own_shape0 hrb
      have hr := hC.x.rK y2
      have hs : kV L u = u 24 := by unfold kV; rw [hLi, y5]; rfl
      rw [hs, hLi, y5] at hr
      change z.ownsRow w1.heap.size 29 1 (u 24) n xk at hr
      obtain ⟨gX, eX, _, hrow⟩ := hC.x.c28 y9 hLi
      obtain ⟨v', w', hrun, o1, o2, o3⟩ := run_append_more2 (P := Try.prog) (w := z) w1.heap.size 25 25 29 Try.underlying25 (.slice none 0 0) 1 24 Try.info_rowB rfl (by decide) (u 24) n xk hr ⟨gX, 0, none⟩ 1 1 [u 27] rfl (row_at hrow) (fun x hx => by rw [List.mem_singleton.1 hx, es]; rfl) (by unfold maxLen; omega) (by omega) hC.x.size
      exact ⟨trivial, v', w', .inl (run_append_call (by rfl) (by show u 28 = _; exact eX) hrun), (fun x hx => by cases hx), hC.x.sK y2 n18 n19 (.inr ⟨rfl, rfl⟩) o1 (by rw [hs]; exact o2)⟩
    refine stepv_cons (sv_make rfl (fun L u z hC hLi hd => ?_)) ?_
    · skip
      have n14 : L 14 = false := by cases hh : L 14 with | false => rfl | true => exact Bool.noConfusion (hLi.symm.trans (hC.closed 14 11 hh rfl))
      have n17 : L 17 = false := by cases hh : L 17 with | false => rfl | true => exact Bool.noConfusion (hLi.symm.trans (hC.closed 14 11 (hC.closed 17 14 hh rfl) rfl))
      exact ⟨trivial, .slice (some ⟨z.heap.size, 0, none⟩) 0 0, z.alloc (.cells #[] 62), .inl (by simp only [execOp]; go_simp), (fun x hx => by cases hx), hC.x.s11 n14 n17⟩
    refine stepv_cons (sv_run rfl (fun L u z v h => h.same rfl rfl rfl rfl rfl rfl rfl rfl rfl rfl rfl rfl rfl rfl rfl rfl rfl rfl rfl rfl rfl rfl rfl) (fun L u z hC hd => ⟨trivial, .pointer (some ⟨g2, 2, none⟩), by simp only [execOp]; rw [show evU 38 u (.tmp 2) = .pointer (some ⟨g2, 0, none⟩) from hC.keep 2 rfl]; go_simp, fun x hx => by cases hx; rfl⟩)) ?_
    refine stepv_cons (sv_run rfl (fun L u z v h => h.same rfl rfl rfl rfl rfl rfl rfl rfl rfl rfl rfl rfl rfl rfl rfl rfl rfl rfl rfl rfl rfl rfl rfl) (fun L u z hC hd => ⟨trivial, .slice df n cf, by have q := (hC.x.bel.cell (p := ⟨g2, 2, none⟩) h24).trans c2; simp only [execOp]; rw [show evU 38 u (.tmp 31) = .pointer (some ⟨g2, 2, none⟩) from hC.val 12 _ (hd 12 rfl) rfl rfl]; go_simp, fun x hx => by cases hx; rfl⟩)) ?_
    refine stepv_cons (sv_make rfl (fun L u z hC hLi hd => ?_)) ?_
    · skip
      have n17 : L 17 = false := by cases hh : L 17 with | false => rfl | true => exact Bool.noConfusion (hLi.symm.trans (hC.closed 17 14 hh rfl))
      have n18 : L 18 = false := by cases hh : L 18 with | false => rfl | true => exact Bool.noConfusion (hLi.symm.trans (hC.closed 17 14 (hC.closed 18 17 hh rfl) rfl))
      have n19 : L 19 = false := by cases hh : L 19 with | false => rfl | true => exact Bool.noConfusion (hLi.symm.trans (hC.closed 17 14 (hC.closed 18 17 (hC.closed 19 18 hh rfl) rfl) rfl))
      have y11 : L 11 = true := hd 11 rfl
      have y10 : L 10 = true := hd 10 rfl
      have hr := hC.x.rF y11
      have hs : fV L u = u 30 := by unfold fV; rw [n17, hLi]; rfl
      rw [hs, n17, hLi] at hr
      change z.ownsRow w1.heap.size 62 2 (u 30) 0 [] at hr
      have hx : evU 38 u (.tmp 32) = .slice df n cf := hC.val 13 _ (hd 13 rfl) rfl rfl
      have B6 := bt.trans (hC.x.bel.mono hw4)
      have D := (HH.out.mono B6).flag
      by_cases h0 : n = 0
      · obtain ⟨sa, sc, es⟩ := own_shape0 hr
        have hrun := run_append_none2 (P := Try.prog) (w := z) 35 35 62 Try.underlying35 (.agg #[.bool false, .bool false]) 2 2 Try.info_b2 sa sc df cf
        refine ⟨trivial, u 30, z, .inl (run_append_call (by show u 30 = _; exact es) (by rw [hx, h0]) (by rw [es]; exact hrun)), (fun x hx => by cases hx), hC.x.sF y11 y10 n18 n19 (.inl ⟨rfl, rfl, n17⟩) ?_ (World.grownBy.refl _ _) (.inl (by rw [hs]))⟩
        show z.ownsRow w1.heap.size 62 2 (u 30) (chN (L 17) true n) (chX (L 17) true (fv FL) _)
        rw [n17]
        have e0 : fv FL = [] := List.eq_nil_of_length_eq_zero (by rw [D.1, h0, Nat.zero_mul])
        show z.ownsRow w1.heap.size 62 2 (u 30) n (fv FL)
        rw [e0, h0]
        exact hr
      · obtain ⟨gX, eX, _, hcell⟩ := own_at D (by omega)
        obtain ⟨v', w', hrun, o1, o2, o3⟩ := run_append_more2 (P := Try.prog) (w := z) w1.heap.size 35 35 62 Try.underlying35 (.agg #[.bool false, .bool false]) 2 2 Try.info_b2 rfl (by decide) (u 30) 0 [] hr ⟨gX, 0, none⟩ n cf (fv FL) D.1 hcell (fv_one FL) (by unfold maxLen; omega) (by omega) hC.x.size
        refine ⟨trivial, v', w', .inl (run_append_call (by rfl) (by rw [hx, eX]) hrun), (fun x hx => by cases hx), hC.x.sF y11 y10 n18 n19 (.inl ⟨rfl, rfl, n17⟩) ?_ (by rw [hs]; exact o2) (by rw [hs]; exact o3)⟩
        show w'.ownsRow w1.heap.size 62 2 v' (chN (L 17) true n) (chX (L 17) true (fv FL) _)
        rw [n17]
        show w'.ownsRow w1.heap.size 62 2 v' n (fv FL)
        rw [Nat.zero_add, List.nil_append] at o1
        exact o1
    refine stepv_cons (sv_run rfl (fun L u z v h => h.same rfl rfl rfl rfl rfl rfl rfl rfl rfl rfl rfl rfl rfl rfl rfl rfl rfl rfl rfl rfl rfl rfl rfl) (fun L u z hC hd => ⟨trivial, .agg #[.bool false, .bool false], by simp only [execOp, List.map_toArray, List.map_nil]; go_simp, fun x hx => by cases hx; rfl⟩)) ?_
    refine stepv_cons (sv_make rfl (fun L u z hC hLi hd => ?_)) ?_
    · skip
      refine ⟨trivial, .slice (some ⟨z.heap.size, 0, none⟩) 1 1, z.alloc (.cells #[.bool false, .bool false] 62), .inl ?_, (fun x hx => by cases hx), hC.x.s16⟩
      simp only [execOp, List.map_toArray, List.map_cons, List.map_nil]
      rw [show evU 38 u (.tmp 34) = .agg #[.bool false, .bool false] from hC.val 15 _ (hd 15 rfl) rfl rfl]
      go_simp
    refine stepv_cons (sv_make rfl (fun L u z hC hLi hd => ?_)) ?_
    · skip
      have n18 : L 18 = false := by cases hh : L 18 with | false => rfl | true => exact Bool.noConfusion (hLi.symm.trans (hC.closed 18 17 hh rfl))
      have n19 : L 19 = false := by cases hh : L 19 with | false => rfl | true => exact Bool.noConfusion (hLi.symm.trans (hC.closed 18 17 (hC.closed 19 18 hh rfl) rfl))
      have y14 : L 14 = true := hd 14 rfl
      have y11 : L 11 = true := hC.closed 14 11 y14 rfl
      have y10 : L 10 = true := hC.closed 14 10 y14 rfl
      have hr := hC.x.rF y11
      have hs : fV L u = u 33 := by unfold fV; rw [hLi, y14]; rfl
      rw [hs, hLi, y14] at hr
      change z.ownsRow w1.heap.size 62 2 (u 33) n (fv FL) at hr
      obtain ⟨gX, eX, _, hrow⟩ := hC.x.c35 (hd 16 rfl) hLi
      obtain ⟨v', w', hrun, o1, o2, o3⟩ := run_append_more2 (P := Try.prog) (w := z) w1.heap.size 35 35 62 Try.underlying35 (.agg #[.bool false, .bool false]) 2 2 Try.info_b2 rfl (by decide) (u 33) n (fv FL) hr ⟨gX, 0, none⟩ 1 1 [.bool false, .bool false] rfl (row_at hrow) (fun x hx => by simp at hx; rw [hx]; rfl) (by unfold maxLen; omega) (by omega) hC.x.size
      exact ⟨trivial, v', w', .inl (run_append_call (by rfl) (by show u 35 = _; exact eX) hrun), (fun x hx => by cases hx), hC.x.sF y11 y10 n18 n19 (.inr ⟨rfl, rfl⟩) o1 (by rw [hs]; exact o2) (by rw [hs]; exact o3)⟩
    refine stepv_cons (sv_make rfl (fun L u z hC hLi hd => ?_)) ?_
    · skip
      have y10 : L 10 = true := hd 10 rfl
      have y17 : L 17 = true := hd 17 rfl
      have y2 : L 2 = true := hC.closed 5 2 (hC.closed 10 5 y10 rfl) rfl
      have y11 : L 11 = true := hC.closed 14 11 (hC.closed 17 14 y17 rfl) rfl
      have hrA := hC.x.rK y2
      have hrB := hC.x.rF y11
      have hsA : kV L u = u 29 := by unfold kV; rw [y10]; rfl
      have hsB : fV L u = u 36 := by unfold fV; rw [y17]; rfl
      rw [hsA] at hrA
      rw [hsB] at hrB
      obtain ⟨a1, c1', e29⟩ := own_shape0 hrA
      obtain ⟨a2, c2', e36⟩ := own_shape0 hrB
      have e20 : evU 38 u (.tmp 20) = .int .i64 cap := hC.val 1 _ (hd 1 rfl) rfl rfl
      refine ⟨trivial, .agg #[.int .i64 cap, u 29, u 36], z, .inl ?_, (fun x hx => by cases hx), hC.x.s18⟩
      simp only [execOp, List.map_toArray, List.map_cons, List.map_nil]
      rw [e20, show evU 38 u (.tmp 29) = u 29 from rfl, show evU 38 u (.tmp 36) = u 36 from rfl, e29, e36]
      go_simp
    refine stepv_cons (sv_make rfl (fun L u z hC hLi hd => ?_)) ?_
    · skip
      have y18 : L 18 = true := hd 18 rfl
      have e37 := hC.x.r37 y18
      have y10 : L 10 = true := hC.closed 18 10 y18 rfl
      have y17 : L 17 = true := hC.closed 18 17 y18 rfl
      have y2 : L 2 = true := hC.closed 5 2 (hC.closed 10 5 y10 rfl) rfl
      have y11 : L 11 = true := hC.closed 14 11 (hC.closed 17 14 y17 rfl) rfl
      have hrA := hC.x.rK y2
      have hrB := hC.x.rF y11
      have hsA : kV L u = u 29 := by unfold kV; rw [y10]; rfl
      have hsB : fV L u = u 36 := by unfold fV; rw [y17]; rfl
      rw [hsA] at hrA
      rw [hsB] at hrB
      obtain ⟨a1, c1', e29⟩ := own_shape0 hrA
      obtain ⟨a2, c2', e36⟩ := own_shape0 hrB
      have r0 := hC.x.res0 hLi
      have k0 := cell_of_row _ _ 0 _ _ _ r0
      have k1 := cell_of_row _ _ 1 _ _ _ r0
      have k2 := cell_of_row _ _ 2 _ _ _ r0
      simp only [List.getElem?_toArray, List.getElem?_cons_zero, List.getElem?_cons_succ] at k0 k1 k2
      have f0 := frozen_of_row z _ 0 _ _ r0
      have f1 := frozen_of_row z _ 1 _ _ r0
      have f2 := frozen_of_row z _ 2 _ _ r0
      have hs19 := hC.x.s19 hLi undef
      refine ⟨trivial, undef, _, .inr ⟨?_, rfl⟩, (fun x hx => by cases hx), hs19⟩
      simp only [execOp]
      rw [show evU 38 u (.tmp 4) = .pointer (some ⟨g4, 0, none⟩) from hC.keep 4 rfl, show evU 38 u (.tmp 37) = .agg #[.int .i64 cap, u 29, u 36] from e37, e29, e36]
      go_simp
    refine stepv_cons (sv_run rfl (fun L u z v h => h.same rfl rfl rfl rfl rfl rfl rfl rfl rfl rfl rfl rfl rfl rfl rfl rfl rfl rfl rfl rfl rfl rfl rfl) (fun L u z hC hd => ⟨trivial, .bool true, by simp only [execOp, evU]; go_simp, fun x hx => by cases hx; rfl⟩)) ?_
    refine stepv_cons (sv_run rfl (fun L u z v h => h.same rfl rfl rfl rfl rfl rfl rfl rfl rfl rfl rfl rfl rfl rfl rfl rfl rfl rfl rfl rfl rfl rfl rfl) (fun L u z hC hd => ⟨trivial, .int .i64 0, by simp only [execOp, evU]; go_simp, fun x hx => by cases hx; rfl⟩)) ?_
    exact stepv_nil rfl
  · intro L u z hall hC
    have y2 : L 2 = true := hall 2 rfl
    have y6 : L 6 = true := hall 6 rfl
    have y8 : L 8 = true := hall 8 rfl
    have y10 : L 10 = true := hall 10 rfl
    have y11 : L 11 = true := hall 11 rfl
    have y17 : L 17 = true := hall 17 rfl
    have hrA := hC.x.rK y2
    have hrF := hC.x.rF y11
    have hrB := hC.x.rB y6
    have hsA : kV L u = u 29 := by unfold kV; rw [y10]; rfl
    have hsF : fV L u = u 36 := by unfold fV; rw [y17]; rfl
    have hsB : bV L u = u 27 := by unfold bV; rw [y8]; rfl
    rw [hsA, y10] at hrA
    rw [hsF, y17] at hrF
    rw [hsB, y8] at hrB
    change z.ownsRow w1.heap.size 29 1 (u 29) (n + 1) (xk ++ [u 27]) at hrA
    change z.ownsRow w1.heap.size 62 2 (u 36) (n + 1) (fv FL ++ [.bool false, .bool false]) at hrF
    change z.ownsRow w1.heap.size 5 1 (u 27) yl kv at hrB
    have g5 := hC.x.res1 (hall 19 rfl)
    have B6 := bt.trans (hC.x.bel.mono hw4)
    have low : ∀ {e : TypeId} {s : Nat} {v : Value} {m : Nat} {xs : List Value}, z.ownsRow w1.heap.size e s v m xs → z.ownsRow 0 e s v m xs := fun {e s v m xs} h => ⟨h.1, h.2.imp id fun ⟨g, cp, cur, h1, h2, h3⟩ => ⟨g, cp, cur, h1, Nat.zero_le _, h3⟩⟩
    have hrB2 := hrB
    rw [← hkv] at hrB2
    obtain ⟨a3, c3, e27, hby⟩ := ownBytes hrB2 HK.out.byte HK.out.small
    rw [e27] at hrA
    obtain ⟨gK, cK, e29, hgK, hRK⟩ := rows_snoc0 B6 hby hln hsm hxk hrA
    obtain ⟨a2, c2', e36⟩ := own_shape0 hrF
    have hgl : gK < z.heap.size := by
      obtain ⟨b, off, hb', hlt, _⟩ := hRK.at_.resolve_left (by omega)
      cases hb'
      exact hlt
    have D5 : DocF z (some ⟨gK, 0, none⟩) (n + 1) (u 36) (ks ++ [key]) (FL ++ [(false, false)]) := ⟨hRK, by rw [fv_snoc]; exact low hrF, by simp [HH.out.len]⟩
    have h4 : u 4 = .pointer (some ⟨g4, 0, none⟩) := hC.keep 4 rfl
    have h5 : u 5 = .bool true := hC.val 20 _ (hall 20 rfl) rfl rfl
    have h6 : u 6 = .int .i64 0 := hC.val 21 _ (hall 21 rfl) rfl rfl
    rw [e29, e36] at g5
    rw [e36] at D5
    have q0 := cell_of_row _ _ 0 _ _ _ g5
    have q1 := cell_of_row _ _ 1 _ _ _ g5
    have q2 := cell_of_row _ _ 2 _ _ _ g5
    simp only [List.getElem?_toArray, List.getElem?_cons_zero, List.getElem?_cons_succ] at q0 q1 q2
    have hfr : frameOf 38 [] u = ⟨#[u 0, u 1, u 2, u 3, u 4, u 5, u 6, u 7, u 8, u 9, u 10, u 11, u 12, u 13, u 14, u 15, u 16, u 17, u 18, u 19, u 20, u 21, u 22, u 23, u 24, u 25, u 26, u 27, u 28, u 29, u 30, u 31, u 32, u 33, u 34, u 35, u 36, u 37], []⟩ := rfl
    rw [hfr, h4, h5, h6]
    have hwz := bt.size
    have HLN := Lib.hid (show (some ⟨gK, 0, none⟩ = dk ∨ ∃ g, (some ⟨gK, 0, none⟩ : Option Addr) = some ⟨g, 0, none⟩ ∧ w.heap.size ≤ g ∧ g < z.heap.size) from .inr ⟨gK, rfl, by omega, hgl⟩)
    clear hrA hrF hrB hrB2 hC hall low hsA hsF hsB hby hRK
    go_wp2_with fail
    exact bodyPost_ret (v := .tuple #[.agg #[.int .i64 cap, .slice (some ⟨gK, 0, none⟩) (n + 1) cK, .slice a2 (n + 1) c2'], .bool true, .int .i64 0]) (by simp [results, Try.results10, go_sem, q0, q1, q2]) rfl (by unfold InsF; exact ⟨_, n + 1, _, _, _, _, _, true, 0, rfl, D5, B6, HLN.out, .inr (.inr ⟨HM.out, by rw [hln]; have := HC.out; omega, rfl, rfl, rfl, rfl⟩)⟩)
end Go.Proofs.Ytbbdeefnooaacaa
