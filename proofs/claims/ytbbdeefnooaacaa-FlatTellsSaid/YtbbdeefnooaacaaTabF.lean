/- copied, moved; the laws at an append with room, and at a make (by gen04f.py). -/
import Derived.Test.YtbbdeefnooaacaaTabE
import Derived.Laws.AppendOwnNone
import Derived.Laws.OwnMore
namespace Go.Proofs.Ytbbdeefnooaacaa
open Go.RowKit
set_option linter.unusedVariables false
set_option linter.unusedSimpArgs false

theorem Try.info_row : (Try.prog.info? 29).map (fun i => (i.zero, i.size, i.bytes)) = some (some (.slice none 0 0), 1, 24) := by kernel_rfl
theorem Try.info_num : (Try.prog.info? 3).map (fun i => (i.zero, i.size, i.bytes)) = some (some (.int .i64 0), 1, 8) := by kernel_rfl
/-- An append into room. -/
theorem append_room {P : Program} {w : World} {ops : Array Oper} {rest : List Oper} {o : Oper} {a : Act} {Q : Exit → Act → World → Prop} (hgd : o.guard = none) (s x : Operand) (t e : TypeId)
    (ho : o.op = .call { callee := .builtin .append, args := #[s, x], argTypes := #[t, t] }) (ht : P.underlying t = some (.slice e)) (z : Value) (bytes : Nat) (hinfo : (P.info? e).map (fun i => (i.zero, i.size, i.bytes)) = some (some z, 1, bytes))
    (g n cap : Nat) (cur : List Value) (hg : w.heap[g]? = some (.cells cur.toArray e (0, 0))) (hs : a.eval s = .slice (some ⟨g, 0, none⟩) n cap)
    (ad : Addr) (m c : Nat) (news : List Value) (hx : a.eval x = .slice (some ad) m c) (hl : news.length = m) (hnews : ∀ j u, news[j]? = some u → w.cell? (ad.add j) = some u) (h1 : ∀ u ∈ news, u.oneCell' = true)
    (hroom : n + m ≤ cap) (hfit : n + m ≤ cur.length)
    (h : ∀ w', w'.heap[g]? = some (.cells (cur.take n ++ news ++ cur.drop (n + m)).toArray e (0, 0)) → w'.heap.size = w.heap.size → (∀ b, b ≠ g → w'.heap[b]? = w.heap[b]?) → Below g w w' → wpList P ops Q rest (a.put o.dst (.slice (some ⟨g, 0, none⟩) (n + m) cap)) w') : wpList P ops Q (o :: rest) a w := by
  obtain ⟨i, hi, hz0, hz1, hz2⟩ := info_parts hinfo
  have hr := run_append_room (P := P) w t o.type e i ht hi g n cap cur.toArray hg ad m c news (by rw [hl, hz1, Nat.mul_one]) hnews h1 hroom (by rw [hz1, hl]; simpa using hfit)
  rw [hz1, Nat.mul_one, hl] at hr
  refine wpList_plain hgd fun K hK => ?_
  unfold Oper.wp execOp
  simp only [ho, resolve, invoke, builtin, Sem.run_bind, Sem.run_pure, Result.andThen_ok, List.map_toArray, List.map_cons, List.map_nil, hs, hx, hr]
  exact hK _ _ (h _ (setRow_heap w g _ _ e _ hg) (by simp [World.setRow]) (fun b hb => setRow_other w g b _ hb) (below_setRow (Below.refl _ _) (Nat.le_refl _) _))
/-- A make. -/
theorem make_room {P : Program} {w : World} {ops : Array Oper} {rest : List Oper} {o : Oper} {a : Act} {Q : Exit → Act → World → Prop} (hgd : o.guard = none) (x y : Operand) (t e : TypeId)
    (ho : o.op = .makeSlice t x y) (ht : P.underlying t = some (.slice e)) (z : Value) (bytes : Nat) (hinfo : (P.info? e).map (fun i => (i.zero, i.size, i.bytes)) = some (some z, 1, bytes)) (hz : z.cells = #[z])
    (l c : Nat) (hx : a.eval x = .int .i64 (l : Nat)) (hy : a.eval y = .int .i64 (c : Nat)) (hlc : l ≤ c) (hb : bytes * c ≤ 281474976710656 ∧ c ≤ 9223372036854775807)
    (h : ∀ w', w'.heap[w.heap.size]? = some (.cells (List.replicate c z).toArray e (0, 0)) → w'.heap.size = w.heap.size + 1 → Below w.heap.size w w' → wpList P ops Q rest (a.put o.dst (.slice (some ⟨w.heap.size, 0, none⟩) l c)) w') : wpList P ops Q (o :: rest) a w := by
  obtain ⟨i, hi, hz0, hz1, hz2⟩ := info_parts hinfo
  have hb1 : (i.bytes : Int) * (c : Int) ≤ 281474976710656 := by
    rw [hz2, ← Int.natCast_mul]
    have := hb.1
    omega
  have hr := run_make (P := P) w t e i z ht hi hz0 .i64 .i64 (l : Nat) (c : Nat) (by omega) (by omega) hb1 (by omega)
  simp only [Int.toNat_natCast, hz1, Nat.mul_one, hz] at hr
  have hm : madeCells #[z] c = (List.replicate c z).toArray := by
    rw [← toList_madeCells_one z c]
  rw [hm] at hr
  refine wpList_plain hgd fun K hK => ?_
  unfold Oper.wp execOp
  simp only [ho, Sem.run_bind, Sem.run_pure, Result.andThen_ok, hx, hy, hr]
  exact hK _ _ (h _ (heap_alloc_new _ _) (by simp) ((Below.refl _ _).alloc (Nat.le_refl _) _))

theorem movedK_any (w : World) (sa : Option Addr) (n c more : Nat) (vals : List Value) (hl : vals.length = n) (hv : ∀ j v, vals[j]? = some v → ∃ ad, sa = some ad ∧ w.cell? (ad.add j) = some v) (h1 : ∀ v ∈ vals, v.oneCell' = true) (hn : n ≤ 100000000) (hm : more ≤ 1000) :
    Calls Try.prog 41 #[.slice sa n c, .int .i64 (more : Nat)] w fun e w' => e = .returned (.slice (some ⟨w.heap.size, 0, none⟩) n (2 * (n + more))) ∧ w'.heap[w.heap.size]? = some (.cells (vals ++ List.replicate (2 * (n + more) - n) (Value.slice none 0 0)).toArray 29 (0, 0)) ∧ Below w.heap.size w w' := by
  go_enter Try.func41, Try.ntmps41
  go_wp2_with (first | (at_make; refine make_room rfl _ _ 25 29 rfl Try.underlying25 (Value.slice none 0 0) 24 Try.info_row rfl n (2 * (n + more)) rfl (by simp [Act.eval, Int.natCast_add, Int.natCast_mul]) (by omega) (by omega) ?_; intro w1 g1 z1 b1) | (refine wpList_copy_splice (o := ⟨some 16, _, _, _, _, _⟩) rfl (.tmp 14) (.tmp 15) 25 25 rfl 29 Try.underlying25 (by kernel_rfl) (some ⟨w.heap.size, 0, none⟩) sa n (2 * (n + more)) n c rfl rfl w.heap.size 0 (List.replicate (2 * (n + more)) (Value.slice none 0 0)) 29 g1 vals (by rw [hl]; exact (Nat.min_self n).symm) (fun hp => ⟨rfl, by obtain ⟨ad, ha, _⟩ := hv 0 _ (List.getElem?_eq_getElem hp); exact ⟨ad, ha, fun j v hj => by obtain ⟨ad', ha', hc⟩ := hv j v hj; rw [ha] at ha'; cases ha'; rw [b1.cell (World.block_lt_of_cell? w _ hc)]; exact hc⟩⟩) (by rw [List.length_replicate]; omega) h1 w.heap.size w b1 (Nat.le_refl _) ?_; intro w2 g2 b2))
  go_ret
  refine ⟨rfl, ?_, b2⟩
  rw [g2.out]
  simp [splice, hl]

theorem movedI_any (w : World) (sa : Option Addr) (n c more : Nat) (vals : List Value) (hl : vals.length = n) (hv : ∀ j v, vals[j]? = some v → ∃ ad, sa = some ad ∧ w.cell? (ad.add j) = some v) (h1 : ∀ v ∈ vals, v.oneCell' = true) (hn : n ≤ 100000000) (hm : more ≤ 1000) :
    Calls Try.prog 42 #[.slice sa n c, .int .i64 (more : Nat)] w fun e w' => e = .returned (.slice (some ⟨w.heap.size, 0, none⟩) n (2 * (n + more))) ∧ w'.heap[w.heap.size]? = some (.cells (vals ++ List.replicate (2 * (n + more) - n) (Value.int .i64 0)).toArray 3 (0, 0)) ∧ Below w.heap.size w w' := by
  go_enter Try.func42, Try.ntmps42
  go_wp2_with (first | (at_make; refine make_room rfl _ _ 26 3 rfl Try.underlying26 (Value.int .i64 0) 8 Try.info_num rfl n (2 * (n + more)) rfl (by simp [Act.eval, Int.natCast_add, Int.natCast_mul]) (by omega) (by omega) ?_; intro w1 g1 z1 b1) | (refine wpList_copy_splice (o := ⟨some 16, _, _, _, _, _⟩) rfl (.tmp 14) (.tmp 15) 26 26 rfl 3 Try.underlying26 (by kernel_rfl) (some ⟨w.heap.size, 0, none⟩) sa n (2 * (n + more)) n c rfl rfl w.heap.size 0 (List.replicate (2 * (n + more)) (Value.int .i64 0)) 3 g1 vals (by rw [hl]; exact (Nat.min_self n).symm) (fun hp => ⟨rfl, by obtain ⟨ad, ha, _⟩ := hv 0 _ (List.getElem?_eq_getElem hp); exact ⟨ad, ha, fun j v hj => by obtain ⟨ad', ha', hc⟩ := hv j v hj; rw [ha] at ha'; cases ha'; rw [b1.cell (World.block_lt_of_cell? w _ hc)]; exact hc⟩⟩) (by rw [List.length_replicate]; omega) h1 w.heap.size w b1 (Nat.le_refl _) ?_; intro w2 g2 b2))
  go_ret
  refine ⟨rfl, ?_, b2⟩
  rw [g2.out]
  simp [splice, hl]

theorem copied_full (w : World) (a : Option Addr) (n c : Nat) (l : List Nat) (h : BytesAt w a n c l) (hn : n ≤ 1000000) :
    Calls Try.prog 32 #[.slice a n c] w fun e w' => (∃ x c', e = .returned (.slice (some x) n c') ∧ BytesAt w' (some x) n c' l ∧ n ≤ c') ∧ Below w.heap.size w w' := by
  have zb : Below w.heap.size w (w.alloc (.cells #[] 5)) := (Below.refl _ _).alloc (Nat.le_refl _) _
  by_cases h0 : n = 0
  · subst h0
    have hl : l = [] := List.eq_nil_of_length_eq_zero h.len_eq
    subst hl
    have gz : (w.alloc (.cells #[] 5)).heap[w.heap.size]? = some (.cells ([] : List Value).toArray 5 (0, 0)) := heap_alloc_new _ _
    have hB : ∀ w', BytesAt w' (some ⟨w.heap.size, 0, none⟩) 0 0 [] := fun w' => ⟨rfl, by omega, (fun n hn => by simp at hn), (fun h => by cases h), .inl rfl⟩
    cases a with
    | none =>
      obtain ⟨_, rfl⟩ := h.none_ rfl
      go_enter Try.func32, Try.ntmps32
      obtain ⟨i, hi, hz0, hz1, hz2⟩ := info_parts Try.info_u8
      go_wp2_with (first | (at_builtin; refine wpList_append_own_none rfl (.tmp 3) (.tmp 4) 29 rfl w.heap.size 5 i 1 Try.underlying29 hi _ 0 [] rfl (World.ownsRow_made w #[] 0 (Nat.le_refl _) (by unfold maxLen; omega) rfl) rfl ?_))
      go_ret
      exact ⟨⟨_, 0, rfl, hB _⟩, zb⟩
    | some ad =>
      go_enter Try.func32, Try.ntmps32
      go_wp2_with (first | (at_builtin; refine append_room rfl (.tmp 3) (.tmp 4) 29 5 rfl Try.underlying29 (.int .u8 0) 1 Try.info_u8 w.heap.size 0 0 [] gz rfl ad 0 c [] rfl rfl (fun j u hj => by simp at hj) (fun u hu => by simp at hu) (by omega) (by simp) ?_; intro w1 g1 z1 o1 b1))
      go_ret
      exact ⟨⟨_, 0, rfl, hB _, Nat.le_refl _⟩, zb.trans (b1.mono (by simp))⟩
  · have nws : ∀ ad, a = some ad → ∀ j u, (l.map fun (c : Nat) => Value.int .u8 (c : Int))[j]? = some u → (w.alloc (.cells #[] 5)).cell? (ad.add j) = some u := fun ad ha j u hj => cellAlloc w _ (h.news ad ha j u hj)
    have hnn : a = none → n = 0 ∧ c = 0 := h.none_
    go_enter Try.func32, Try.ntmps32
    go_wp2_with (first | (at_builtin; refine append_any rfl (.tmp 3) (.tmp 4) 29 rfl w.heap.size 5 (.int .u8 0) 1 Try.underlying29 Try.info_u8 rfl _ 0 [] rfl ?_ a n c (l.map fun (c : Nat) => Value.int .u8 (c : Int)) rfl ?_ ?_ ?_ ?_ ?_ ?_ ?_ ?_; exact (World.ownsRow_made w #[] 0 (Nat.le_refl _) (by unfold maxLen; omega) rfl); exact hnn; exact (by rw [List.length_map]; exact h.len_eq); exact nws; exact bytes_oneCell _; (unfold maxLen; omega); omega; (first | omega | (simp; try omega)); intro v1 w1 own1 bel1))
    go_ret
    rw [List.nil_append, Nat.zero_add] at own1
    obtain ⟨x, c', rfl, hb⟩ := ownBytes own1 h.byte (by omega)
    obtain ⟨xq, cq, hq, hcq⟩ := own_slice own1
    simp only [Value.slice.injEq] at hq
    obtain ⟨rfl, _, rfl⟩ := hq
    cases x with
    | none =>
      exact absurd (hb.none_ rfl).1 h0
    | some x => exact ⟨⟨x, c', rfl, hb, hcq⟩, zb.trans bel1⟩
theorem copied_any (w : World) (a : Option Addr) (n c : Nat) (l : List Nat) (h : BytesAt w a n c l) (hn : n ≤ 1000000) :
    Calls Try.prog 32 #[.slice a n c] w fun e w' => (∃ x c', e = .returned (.slice (some x) n c') ∧ BytesAt w' (some x) n c' l) ∧ Below w.heap.size w w' :=
  (copied_full w a n c l h hn).mono fun e w' ⟨⟨x, c', h1, h2, _⟩, h3⟩ => ⟨⟨x, c', h1, h2⟩, h3⟩
end Go.Proofs.Ytbbdeefnooaacaa
