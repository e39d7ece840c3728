/- Rows of ranges and of numbers that are appended; bits of two vectors, one behind the other. -/
import Derived.Test.YtblipgmllpniaaaSchema15
namespace Go.Proofs.Ytblipgmllpniaaa
open Go.RowKit
set_option linter.unusedVariables false

/-- append onto a row of the call's own, whose elements have more cells than one, from whatever source. -/
theorem append_sz {P : Program} {w : World} {ops : Array Oper} {rest : List Oper} {o : Oper} {a : Act} {Q : Exit → Act → World → Prop} (hgd : o.guard = none) (s x : Operand) (t : TypeId)
    (ho : o.op = .call { callee := .builtin .append, args := #[s, x], argTypes := #[t, t] })
    (base : Nat) (e : TypeId) (z : Value) (size bytes : Nat) (ht : P.underlying t = some (.slice e)) (hinfo : (P.info? e).map (fun i => (i.zero, i.size, i.bytes)) = some (some z, size, bytes)) (hz : z.cells.size = size) (hsz : 0 < size)
    (v : Value) (n : Nat) (xs : List Value) (hs : a.eval s = v) (hown : w.ownsRow base e size v n xs)
    (ao : Option Addr) (m c : Nat) (news : List Value) (hx : a.eval x = .slice ao m c) (hnone : ao = none → m = 0 ∧ c = 0) (hl : news.length = m * size) (hnews : ∀ ad, ao = some ad → ∀ j u, news[j]? = some u → w.cell? (ad.add j) = some u) (h1 : ∀ u ∈ news, u.oneCell' = true)
    (h63 : n + m ≤ maxLen) (hbytes : (n + m) * bytes ≤ 140737488355328) (hbase : base ≤ w.heap.size)
    (h : ∀ v' w', w'.ownsRow base e size v' (n + m) (xs ++ news) → Below base w w' → wpList P ops Q rest (a.put o.dst v') w') : wpList P ops Q (o :: rest) a w := by
  obtain ⟨i, hi, hz0, hz1, hz2⟩ := info_parts hinfo
  cases ao with
  | some ad => exact wpList_append_own w hgd s x t ho base e i z size bytes ht hi hz0 hz1 hz2 hz hsz v n xs hs hown ad m c news hx hl (hnews ad rfl) h1 h63 hbytes hbase (fun v' w' h2 h3 _ => h v' w' h2 ((Below.refl _ _).grown h3 hbase (fun k hk => (hown.lt k hk).1)))
  | none =>
    obtain ⟨rfl, rfl⟩ := hnone rfl
    obtain rfl := List.eq_nil_of_length_eq_zero (show news.length = 0 by simpa using hl)
    refine wpList_append_own_none hgd s x t ho base e i size ht hi v n xs hs hown hx ?_
    exact h v w (by simpa using hown) (Below.refl _ _)
theorem Try.info_field : (Try.prog.info? 38).map (fun i => (i.zero, i.size, i.bytes)) = some (some (.agg #[.int .i64 0, .int .i64 0]), 2, 16) := by kernel_rfl
theorem fieldCells_length (fs : List (Int × Int)) : (fieldCells fs).length = fs.length * 2 := by
  induction fs with
  | nil => rfl
  | cons f r ih =>
    have e : fieldCells (f :: r) = .int .i64 f.1 :: .int .i64 f.2 :: fieldCells r := by simp [fieldCells]
    rw [e, List.length_cons, List.length_cons, ih, List.length_cons]
    omega
theorem fieldCells_append (fs gs : List (Int × Int)) : fieldCells fs ++ fieldCells gs = fieldCells (fs ++ gs) := by simp [fieldCells]
theorem fieldCells_one (fs : List (Int × Int)) : ∀ u ∈ fieldCells fs, u.oneCell' = true := by
  intro u hu
  unfold fieldCells at hu
  rw [List.mem_flatMap] at hu
  obtain ⟨f, _, hf⟩ := hu
  simp at hf
  rcases hf with rfl | rfl <;> rfl
theorem FieldsAt.news {w : World} {a : Option Addr} {len : Nat} {fs : List (Int × Int)} (h : FieldsAt w a len fs) : ∀ ad, a = some ad → ∀ j u, (fieldCells fs)[j]? = some u → w.cell? (ad.add j) = some u := by
  intro ad ha j u hu
  have hj : j < (fieldCells fs).length := (List.getElem?_eq_some_iff.1 hu).1
  rw [fieldCells_length, h.len_eq] at hj
  rcases h.at_ with h0 | ⟨b, off, rfl, _, hc⟩
  · omega
  · obtain rfl := Option.some.inj ha
    obtain ⟨q, hq⟩ : ∃ q, q = j / 2 := ⟨_, rfl⟩
    obtain ⟨c1, c2⟩ := hc q (by omega)
    obtain ⟨d1, d2⟩ := fieldCells_at fs q (by rw [h.len_eq]; omega)
    rw [Addr.add_lit]
    by_cases hp : j = q * 2
    · subst hp
      rw [d1] at hu
      rw [← hu, ← c1]
    · obtain rfl : j = q * 2 + 1 := by omega
      rw [d2] at hu
      rw [← hu, ← c2, Nat.add_assoc]
theorem ownFields {w : World} {base : Nat} {v : Value} {n : Nat} {fs : List (Int × Int)} (h : w.ownsRow base 38 2 v n (fieldCells fs)) (hn : n ≤ 9223372036854775807) (hw : ∀ f ∈ fs, (-9223372036854775808 ≤ f.1 ∧ f.1 ≤ 9223372036854775807) ∧ (-9223372036854775808 ≤ f.2 ∧ f.2 ≤ 9223372036854775807)) :
    ∃ a cap, v = .slice a n cap ∧ FieldsAt w a n fs := by
  obtain ⟨h1, h2⟩ := h
  rw [fieldCells_length] at h1
  rcases h2 with ⟨rfl, rfl⟩ | ⟨g, cap, cur, rfl, hbg, hg, hnc, hcm, hsz, htake⟩
  · exact ⟨none, 0, rfl, by omega, by omega, hw, .inl rfl⟩
  · refine ⟨_, _, rfl, by omega, hn, hw, .inr ⟨g, 0, rfl, (Array.getElem?_eq_some_iff.1 hg).1, fun i hi => ?_⟩⟩
    obtain ⟨d1, d2⟩ := fieldCells_at fs i (by omega)
    rw [Nat.zero_add, cur_cell hg, cur_cell hg, take_getElem? htake _ (by omega), take_getElem? htake _ (by omega)]
    exact ⟨d1, d2⟩
theorem i64_oneCell (l : List Int) : ∀ u ∈ l.map (Value.int .i64), u.oneCell' = true := by
  intro u hu
  obtain ⟨_, _, rfl⟩ := List.mem_map.1 hu
  rfl
theorem bitAt_enc (fs : List (Int × Int)) (vs : List Int) (k : Nat) : bitAt (encS fs vs) k = (encTo fs vs fs.length).getD k 0 := by
  unfold encS
  rw [bitAt_pack (encBits_bits fs vs)]
  unfold encBits
  rw [padTo_getD]
theorem bitsF_append (fs gs : List (Int × Int)) : bitsF (fs ++ gs) = bitsF fs + bitsF gs := by
  unfold bitsF
  rw [List.foldl_append]
  generalize List.foldl (fun n f => n + wideF f) 0 fs = k
  have key : ∀ (l : List (Int × Int)) (a b : Nat), List.foldl (fun n f => n + wideF f) (a + b) l = a + List.foldl (fun n f => n + wideF f) b l := by
    intro l
    induction l with
    | nil => intro a b; rfl
    | cons f r ih => intro a b; rw [List.foldl_cons, List.foldl_cons, Nat.add_assoc, ih]
  have := key gs k 0
  simpa using this
theorem getD_behind {α : Type} (l m : List α) (k : Nat) (d : α) : (l ++ m).getD (l.length + k) d = m.getD k d := by
  rw [List.getD_eq_getElem?_getD, List.getElem?_append_right (by omega), Nat.add_sub_cancel_left, ← List.getD_eq_getElem?_getD]
theorem encTo_append (fs gs : List (Int × Int)) (vs us : List Int) (h : vs.length = fs.length) : ∀ j, encTo (fs ++ gs) (vs ++ us) (fs.length + j) = encTo fs vs fs.length ++ encTo gs us j
  | 0 => by
    rw [Nat.add_zero]
    have key : ∀ k, k ≤ fs.length → encTo (fs ++ gs) (vs ++ us) k = encTo fs vs k := by
      intro k
      induction k with
      | zero => intro _; rfl
      | succ k ih =>
        intro hk
        have e1 : (fs ++ gs).getD k (0, 0) = fs.getD k (0, 0) := by simp [List.getD, List.getElem?_append_left (show k < fs.length by omega)]
        have e2 : (vs ++ us).getD k 0 = vs.getD k 0 := by simp [List.getD, List.getElem?_append_left (show k < vs.length by omega)]
        rw [encTo, encTo, ih (by omega), e1, e2]
    rw [key _ (Nat.le_refl _)]
    simp [encTo]
  | j + 1 => by
    have e1 : (fs ++ gs).getD (fs.length + j) (0, 0) = gs.getD j (0, 0) := getD_behind _ _ _ _
    have e2 : (vs ++ us).getD (fs.length + j) 0 = us.getD j 0 := by
      rw [← h]
      exact getD_behind _ _ _ _
    rw [show fs.length + (j + 1) = (fs.length + j) + 1 from by omega, encTo, encTo_append fs gs vs us h j, e1, e2, encTo, List.append_assoc]
theorem inS_append (fs gs : List (Int × Int)) (vs us : List Int) (h1 : inS fs vs = 0) (h2 : inS gs us = 0) : inS (fs ++ gs) (vs ++ us) = 0 := by
  obtain ⟨l1, a1⟩ := inS_zero h1
  obtain ⟨l2, a2⟩ := inS_zero h2
  unfold inS
  rw [if_neg (by simp [l1, l2]), if_pos]
  intro k hk
  rw [List.length_append] at hk
  by_cases hlt : k < fs.length
  · have e1 : (fs ++ gs).getD k (0, 0) = fs.getD k (0, 0) := by simp [List.getD, List.getElem?_append_left hlt]
    have e2 : (vs ++ us).getD k 0 = vs.getD k 0 := by simp [List.getD, List.getElem?_append_left (show k < vs.length by omega)]
    rw [e1, e2]; exact a1 k hlt
  · obtain ⟨j, rfl⟩ : ∃ j, k = fs.length + j := ⟨k - fs.length, by omega⟩
    have e1 : (fs ++ gs).getD (fs.length + j) (0, 0) = gs.getD j (0, 0) := getD_behind _ _ _ _
    have e2 : (vs ++ us).getD (fs.length + j) 0 = us.getD j 0 := by
      rw [← l1]
      exact getD_behind _ _ _ _
    rw [e1, e2]; exact a2 j (by omega)
theorem enc_join_bit (fs gs : List (Int × Int)) (vs us : List Int) (h : vs.length = fs.length) (k : Nat) :
    bitAt (encS (fs ++ gs) (vs ++ us)) k = if k < bitsF fs then bitAt (encS fs vs) k else bitAt (encS gs us) (k - bitsF fs) := by
  rw [bitAt_enc, bitAt_enc, bitAt_enc, List.length_append, encTo_append fs gs vs us h]
  have hl := encTo_all fs vs
  split
  · rename_i hk
    simp [List.getD, List.getElem?_append_left (show k < (encTo fs vs fs.length).length by omega)]
  · rename_i hk
    rw [List.getD_eq_getElem?_getD, List.getElem?_append_right (by omega), hl, ← List.getD_eq_getElem?_getD]
end Go.Proofs.Ytblipgmllpniaaa
