/- The table's records, as numbers: what a record tells, and how a search goes. -/
import Derived.Lib.BitFns
namespace Go.Proofs.Ytbbdeefnooaacaa
set_option linter.unusedVariables false
set_option linter.unusedSimpArgs false

theorem bitLenAux_le : ∀ (f x n : Nat), x < 2 ^ f → (Lib.bitLenAux f x ≤ n ↔ x < 2 ^ n) := by
  intro f
  induction f with
  | zero => intro x n hx; simp at hx; subst hx; simp [Lib.bitLenAux]; exact Nat.pos_of_ne_zero (by simp)
  | succ f ih =>
    intro x n hx
    unfold Lib.bitLenAux
    by_cases h0 : x = 0
    · subst h0
      simp
      exact Nat.pos_of_ne_zero (by simp)
    · rw [if_neg h0]
      have h2 : x / 2 < 2 ^ f := by rw [Nat.pow_succ] at hx; omega
      cases n with
      | zero => simp; omega
      | succ n =>
        have := ih (x / 2) n h2
        rw [Nat.pow_succ]
        constructor
        · intro h
          have := this.1 (by omega)
          omega
        · intro h
          have := this.2 (by omega)
          omega
/-- How many bits two hashes have alike from the beginning on. -/
def alikeV (a b : Nat) : Nat := 64 - Lib.bitLen (a ^^^ b)
theorem alikeV_le (a b : Nat) : alikeV a b ≤ 64 := Nat.sub_le _ _
theorem alikeV_comm (a b : Nat) : alikeV a b = alikeV b a := by unfold alikeV; rw [Nat.xor_comm]
theorem xor_zero_iff (a b : Nat) : a ^^^ b = 0 ↔ a = b := by
  constructor
  · intro h
    have h1 : a ^^^ (a ^^^ b) = a ^^^ 0 := by rw [h]
    rw [← Nat.xor_assoc, Nat.xor_self, Nat.zero_xor, Nat.xor_zero] at h1
    exact h1.symm
  · rintro rfl
    exact Nat.xor_self _
theorem alikeV_iff {a b : Nat} (ha : a < 2 ^ 64) (hb : b < 2 ^ 64) {L : Nat} (hL : L ≤ 64) : L ≤ alikeV a b ↔ a / 2 ^ (64 - L) = b / 2 ^ (64 - L) := by
  have hx : a ^^^ b < 2 ^ 64 := Nat.xor_lt_two_pow ha hb
  have h1 := bitLenAux_le 64 (a ^^^ b) (64 - L) hx
  have h64 := (bitLenAux_le 64 (a ^^^ b) 64 hx).2 hx
  have h2 : L ≤ alikeV a b ↔ Lib.bitLenAux 64 (a ^^^ b) ≤ 64 - L := by unfold alikeV Lib.bitLen; omega
  rw [h2, h1]
  have h3 : (a ^^^ b) / 2 ^ (64 - L) = (a / 2 ^ (64 - L)) ^^^ (b / 2 ^ (64 - L)) := by
    rw [← Nat.shiftRight_eq_div_pow, ← Nat.shiftRight_eq_div_pow, ← Nat.shiftRight_eq_div_pow, Nat.shiftRight_xor_distrib]
  rw [← Nat.div_eq_zero_iff_lt (Nat.pos_of_ne_zero (by simp)), h3]
  exact xor_zero_iff _ _
theorem alikeV_64 {a b : Nat} (ha : a < 2 ^ 64) (hb : b < 2 ^ 64) : alikeV a b = 64 ↔ a = b := by
  have h := alikeV_iff ha hb (L := 64) (Nat.le_refl _)
  have := alikeV_le a b
  simp at h
  rw [← h]
  omega
/-- Of what begins alike, and of what doesn't. -/
theorem alike_less {h g x : Nat} (hh : h < 2 ^ 64) (hg : g < 2 ^ 64) (hx : x < 2 ^ 64) {L : Nat} (hL : L < alikeV h g) : alikeV g x = L ↔ alikeV h x = L := by
  have l1 := alikeV_le h g
  have key : ∀ M, M ≤ alikeV h g → (M ≤ alikeV g x ↔ M ≤ alikeV h x) := fun M hM => by
    rw [alikeV_iff hg hx (by omega), alikeV_iff hh hx (by omega), (alikeV_iff hh hg (by omega)).1 hM]
  have k1 := key L (by omega)
  have k2 := key (L + 1) (by omega)
  omega
theorem alike_more {h g x : Nat} (hh : h < 2 ^ 64) (hg : g < 2 ^ 64) (hx : x < 2 ^ 64) (h64 : alikeV h g < 64) (hL : alikeV h g < alikeV h x) : alikeV g x = alikeV h g := by
  obtain ⟨a, ha⟩ : ∃ a, alikeV h g = a := ⟨_, rfl⟩
  rw [ha] at h64 hL ⊢
  have k1 := (alikeV_iff hh hg (L := a) (by omega)).1 (by omega)
  have k2 := (alikeV_iff hh hx (L := a) (by omega)).1 (by omega)
  have k3 := (alikeV_iff hh hx (L := a + 1) (by omega)).1 (by omega)
  have k4 : ¬ (h / 2 ^ (64 - (a + 1)) = g / 2 ^ (64 - (a + 1))) := fun he => by
    have := (alikeV_iff hh hg (L := a + 1) (by omega)).2 he
    omega
  have r1 := (alikeV_iff hg hx (L := a) (by omega)).2 (k1.symm.trans k2)
  have r2 : ¬ (a + 1 ≤ alikeV g x) := fun hc => by
    have := (alikeV_iff hg hx (L := a + 1) (by omega)).1 hc
    exact k4 (k3.trans this.symm)
  omega

/-- The latest record that has just so many bits alike with a hash: its place, or 0. (The latest first.) -/
def latest (h L : Nat) : List (Nat × Nat) → Nat
  | [] => 0
  | x :: rs => if alikeV h x.2 = L then x.1 else latest h L rs
def manyOf (h : Nat) : List (Nat × Nat) → Nat
  | [] => 0
  | x :: rs => max (alikeV h x.2 + 1) (manyOf h rs)
theorem manyOf_le (h : Nat) : ∀ rs, manyOf h rs ≤ 65
  | [] => Nat.zero_le _
  | x :: rs => by have := manyOf_le h rs; have := alikeV_le h x.2; unfold manyOf; omega
theorem manyOf_mem (h : Nat) : ∀ rs : List (Nat × Nat), ∀ x ∈ rs, alikeV h x.2 < manyOf h rs
  | [], x, hx => by simp at hx
  | y :: rs, x, hx => by
    unfold manyOf
    rcases List.mem_cons.1 hx with rfl | hx
    · omega
    · have := manyOf_mem h rs x hx
      omega
theorem manyOf_app (h : Nat) (y : Nat × Nat) : ∀ pre rs : List (Nat × Nat), alikeV h y.2 + 1 ≤ manyOf h (pre ++ y :: rs)
  | [], rs => by show _ ≤ max _ _; omega
  | x :: pre, rs => by have := manyOf_app h y pre rs; show alikeV h y.2 + 1 ≤ max (alikeV h x.2 + 1) (manyOf h (pre ++ y :: rs)); omega
theorem manyOf_ge (h m : Nat) : ∀ rs : List (Nat × Nat), (∀ x ∈ rs, alikeV h x.2 < m) → manyOf h rs ≤ m
  | [], _ => Nat.zero_le _
  | y :: rs, hx => by
    have := manyOf_ge h m rs fun x hm => hx x (List.mem_cons_of_mem _ hm)
    have := hx y List.mem_cons_self
    unfold manyOf
    omega
theorem latest_none (h L : Nat) : ∀ rs : List (Nat × Nat), (∀ x ∈ rs, alikeV h x.2 ≠ L) → latest h L rs = 0
  | [], _ => rfl
  | y :: rs, hx => by
    unfold latest
    rw [if_neg (hx y List.mem_cons_self)]
    exact latest_none h L rs fun x hm => hx x (List.mem_cons_of_mem _ hm)
theorem latest_app (h L : Nat) : ∀ (pre rs : List (Nat × Nat)), (∀ x ∈ pre, alikeV h x.2 ≠ L) → latest h L (pre ++ rs) = latest h L rs
  | [], _, _ => rfl
  | y :: pre, rs, hx => by
    show (if _ then _ else _) = _
    rw [if_neg (hx y List.mem_cons_self)]
    exact latest_app h L pre rs fun x hm => hx x (List.mem_cons_of_mem _ hm)
theorem latest_alike {h g : Nat} (L : Nat) : ∀ rs : List (Nat × Nat), (∀ x ∈ rs, alikeV g x.2 = L ↔ alikeV h x.2 = L) → latest g L rs = latest h L rs
  | [], _ => rfl
  | y :: rs, hx => by
    unfold latest
    have := latest_alike (h := h) (g := g) L rs fun x hm => hx x (List.mem_cons_of_mem _ hm)
    have h1 := hx y List.mem_cons_self
    by_cases h2 : alikeV h y.2 = L
    · rw [if_pos h2, if_pos (h1.2 h2)]
    · rw [if_neg h2, if_neg (fun h => h2 (h1.1 h)), this]
/-- What a search looks at next. -/
def nextC (g a : Nat) : List (Nat × Nat) → List (Nat × Nat)
  | [] => []
  | x :: rs => if alikeV g x.2 = a then x :: rs else nextC g a rs
def posC : List (Nat × Nat) → Nat
  | [] => 0
  | x :: _ => x.1
theorem latest_next (g a : Nat) : ∀ rs, latest g a rs = posC (nextC g a rs)
  | [] => rfl
  | x :: rs => by
    unfold latest nextC
    split
    · rfl
    · exact latest_next g a rs
theorem nextC_split (g a : Nat) : ∀ rs : List (Nat × Nat), ∃ pre, rs = pre ++ nextC g a rs ∧ ∀ x ∈ pre, alikeV g x.2 ≠ a
  | [] => ⟨[], rfl, fun x hx => by simp at hx⟩
  | y :: rs => by
    obtain ⟨pre, h1, h2⟩ := nextC_split g a rs
    unfold nextC
    by_cases hy : alikeV g y.2 = a
    · rw [if_pos hy]
      exact ⟨[], rfl, fun x hx => by simp at hx⟩
    · rw [if_neg hy]
      refine ⟨y :: pre, by rw [List.cons_append, ← h1], fun x hx => ?_⟩
      rcases List.mem_cons.1 hx with rfl | hx
      · exact hy
      · exact h2 x hx

/-- A key's record. -/
def toldV (h : Nat) (rs : List (Nat × Nat)) : List Int := (List.range (manyOf h rs)).map fun L => ((latest h L rs : Nat) : Int)
def i64V (h : Nat) : Int := if h < 9223372036854775808 then (h : Int) else (h : Int) - 18446744073709551616
def recV (h : Nat) (rs : List (Nat × Nat)) : List Int := (toldV h rs).reverse ++ [((manyOf h rs : Nat) : Int), i64V h, ((rs.length : Nat) : Int)]
theorem recV_len (h : Nat) (rs : List (Nat × Nat)) : (recV h rs).length = manyOf h rs + 3 := by simp [recV, toldV]
/-- The row of all records, and where each ends. -/
inductive SlotV : List Int → List (Nat × Nat) → Prop
  | nil : SlotV [] []
  | cons {s : List Int} {rs : List (Nat × Nat)} {h : Nat} : SlotV s rs → h < 2 ^ 64 → SlotV (s ++ recV h rs) ((s.length + manyOf h rs + 2, h) :: rs)
theorem SlotV.hash {s : List Int} {rs : List (Nat × Nat)} (h : SlotV s rs) : ∀ x ∈ rs, x.2 < 2 ^ 64 := by
  induction h with
  | nil => intro x hx; simp at hx
  | cons _ hh ih =>
    intro x hx
    rcases List.mem_cons.1 hx with rfl | hx
    · exact hh
    · exact ih x hx
theorem SlotV.end_ {s : List Int} {rs : List (Nat × Nat)} (h : SlotV s rs) : (rs = [] ∧ s = []) ∨ (∃ y tl, rs = y :: tl ∧ y.1 + 1 = s.length) := by
  cases h with
  | nil => exact .inl ⟨rfl, rfl⟩
  | cons _ _ => exact .inr ⟨_, _, rfl, by rw [List.length_append, recV_len]; show _ + _ + 2 + 1 = _; omega⟩
theorem getD_left {s t : List Int} {i : Nat} (hi : i < s.length) : (s ++ t).getD i 0 = s.getD i 0 := by
  rw [List.getD_eq_getElem?_getD, List.getElem?_append_left hi, ← List.getD_eq_getElem?_getD]
theorem getD_right {s t : List Int} {i : Nat} : (s ++ t).getD (s.length + i) 0 = t.getD i 0 := by
  rw [List.getD_eq_getElem?_getD, List.getElem?_append_right (by omega), Nat.add_sub_cancel_left, ← List.getD_eq_getElem?_getD]
theorem recV_told (h : Nat) (rs : List (Nat × Nat)) (L : Nat) (hL : L < manyOf h rs) : (recV h rs).getD (manyOf h rs - 1 - L) 0 = ((latest h L rs : Nat) : Int) := by
  unfold recV
  rw [getD_left (by simp [toldV]; omega), List.getD_eq_getElem?_getD, List.getElem?_reverse (by simp [toldV]; omega)]
  have : (toldV h rs).length - 1 - (manyOf h rs - 1 - L) = L := by simp [toldV]; omega
  rw [this]
  simp [toldV, hL]
theorem recV_tail (h : Nat) (rs : List (Nat × Nat)) : (recV h rs).getD (manyOf h rs) 0 = ((manyOf h rs : Nat) : Int) ∧ (recV h rs).getD (manyOf h rs + 1) 0 = i64V h ∧ (recV h rs).getD (manyOf h rs + 2) 0 = ((rs.length : Nat) : Int) := by
  have hl : (toldV h rs).reverse.length = manyOf h rs := by simp [toldV]
  unfold recV
  refine ⟨?_, ?_, ?_⟩
  · have := getD_right (s := (toldV h rs).reverse) (t := [((manyOf h rs : Nat) : Int), i64V h, ((rs.length : Nat) : Int)]) (i := 0)
    rw [hl] at this
    exact this
  · have := getD_right (s := (toldV h rs).reverse) (t := [((manyOf h rs : Nat) : Int), i64V h, ((rs.length : Nat) : Int)]) (i := 1)
    rw [hl] at this
    exact this
  · have := getD_right (s := (toldV h rs).reverse) (t := [((manyOf h rs : Nat) : Int), i64V h, ((rs.length : Nat) : Int)]) (i := 2)
    rw [hl] at this
    exact this
/-- What a record says. -/
structure RecAt (s : List Int) (y : Nat × Nat) (tl : List (Nat × Nat)) : Prop where
  lt : y.1 < s.length
  ge : manyOf y.2 tl + 2 ≤ y.1
  place : s.getD y.1 0 = ((tl.length : Nat) : Int)
  hash : s.getD (y.1 - 1) 0 = i64V y.2
  many : s.getD (y.1 - 2) 0 = ((manyOf y.2 tl : Nat) : Int)
  told : ∀ L, L < manyOf y.2 tl → s.getD (y.1 - 3 - L) 0 = ((latest y.2 L tl : Nat) : Int)
theorem SlotV.read {s : List Int} {rs : List (Nat × Nat)} (h : SlotV s rs) : ∀ pre y tl, rs = pre ++ y :: tl → RecAt s y tl := by
  induction h with
  | nil => intro pre y tl he; simp at he
  | @cons s rs g h0 hg ih =>
    intro pre y tl he
    cases pre with
    | nil =>
      injection he with he1 he2
      subst he1 he2
      have hr := recV_len g rs
      obtain ⟨t1, t2, t3⟩ := recV_tail g rs
      refine ⟨by rw [List.length_append, hr]; show _ + _ + 2 < _; omega, by show manyOf g rs + 2 ≤ s.length + manyOf g rs + 2; omega, ?_, ?_, ?_, fun L hL => ?_⟩
      · show (s ++ recV g rs).getD (s.length + manyOf g rs + 2) 0 = _
        rw [Nat.add_assoc, getD_right]
        exact t3
      · show (s ++ recV g rs).getD (s.length + manyOf g rs + 2 - 1) 0 = _
        rw [show s.length + manyOf g rs + 2 - 1 = s.length + (manyOf g rs + 1) by omega, getD_right]
        exact t2
      · show (s ++ recV g rs).getD (s.length + manyOf g rs + 2 - 2) 0 = _
        rw [show s.length + manyOf g rs + 2 - 2 = s.length + manyOf g rs by omega, getD_right]
        exact t1
      · show (s ++ recV g rs).getD (s.length + manyOf g rs + 2 - 3 - L) 0 = _
        have hL' : L < manyOf g rs := hL
        rw [show s.length + manyOf g rs + 2 - 3 - L = s.length + (manyOf g rs - 1 - L) by omega, getD_right]
        exact recV_told g rs L hL'
    | cons x pre =>
      injection he with he1 he2
      have r := ih pre y tl he2
      have h1 := r.lt
      refine ⟨by rw [List.length_append]; omega, r.ge, ?_, ?_, ?_, fun L hL => ?_⟩
      · rw [getD_left h1]; exact r.place
      · rw [getD_left (by omega)]; exact r.hash
      · rw [getD_left (by omega)]; exact r.many
      · rw [getD_left (by omega)]; exact r.told L hL
theorem latest_beyond (h L : Nat) (rs : List (Nat × Nat)) (hL : manyOf h rs ≤ L) : latest h L rs = 0 :=
  latest_none h L rs fun x hx => by have := manyOf_mem h rs x hx; omega
/-- Where a search stands: of all ahead of it, that have fewer bits alike, nothing is left to find. -/
structure SeekP (h : Nat) (rs cur : List (Nat × Nat)) (many : Nat) (told : List Int) : Prop where
  split : ∃ pre, rs = pre ++ cur ∧ ∀ x ∈ pre, alikeV h x.2 < many
  len : told.length = 65
  le : many ≤ manyOf h rs
  right : ∀ L, L < many → told.getD L 0 = ((latest h L rs : Nat) : Int)
theorem SeekP.start (h : Nat) (rs : List (Nat × Nat)) : SeekP h rs rs 0 (List.replicate 65 0) :=
  ⟨⟨[], rfl, fun x hx => by simp at hx⟩, List.length_replicate, Nat.zero_le _, fun L hL => by omega⟩
theorem SeekP.done {h : Nat} {rs : List (Nat × Nat)} {many : Nat} {told : List Int} (p : SeekP h rs [] many told) : many = manyOf h rs := by
  obtain ⟨pre, h1, h2⟩ := p.split
  rw [List.append_nil] at h1
  subst h1
  have := manyOf_ge h many rs h2
  have := p.le
  omega
/-- What pass leaves. -/
structure PassP (many a p : Nat) (f : Nat → Int) (told told' : List Int) : Prop where
  len : told'.length = told.length
  old : ∀ L, L < many → told'.getD L 0 = told.getD L 0
  new : many ≤ a → (∀ L, many ≤ L → L < a → told'.getD L 0 = f L) ∧ told'.getD a 0 = (p : Int)
theorem SeekP.step {h : Nat} {rs tl : List (Nat × Nat)} {y : Nat × Nat} {many : Nat} {told told' : List Int} (hh : h < 2 ^ 64) (hrs : ∀ x ∈ rs, x.2 < 2 ^ 64) (p : SeekP h rs (y :: tl) many told)
    (q : PassP many (alikeV h y.2) y.1 (fun L => ((latest y.2 L tl : Nat) : Int)) told told') : SeekP h rs (nextC y.2 (alikeV h y.2) tl) (max many (alikeV h y.2 + 1)) told' := by
  obtain ⟨pre, h1, h2⟩ := p.split
  obtain ⟨pre2, k1, k2⟩ := nextC_split y.2 (alikeV h y.2) tl
  have hy : y.2 < 2 ^ 64 := hrs y (by rw [h1]; simp)
  have l64 := alikeV_le h y.2
  have htl : ∀ x ∈ tl, x.2 < 2 ^ 64 := fun x hx => hrs x (by rw [h1]; simp [hx])
  refine ⟨⟨pre ++ y :: pre2, ?_, fun x hx => ?_⟩, q.len.trans p.len, ?_, fun L hL => ?_⟩
  · rw [List.append_assoc, List.cons_append, ← k1]
    exact h1
  · rcases List.mem_append.1 hx with hx | hx
    · have := h2 x hx
      omega
    · rcases List.mem_cons.1 hx with rfl | hx
      · omega
      · have hx2 : x ∈ tl := by rw [k1]; simp [hx]
        have hne := k2 x hx
        have l64x := alikeV_le h x.2
        refine Classical.byContradiction fun hc => ?_
        by_cases h64 : alikeV h y.2 < 64
        · exact hne (alike_more hh hy (htl x hx2) h64 (by omega))
        · omega
  · have := manyOf_app h y pre tl
    rw [← h1] at this
    have := p.le
    omega
  · by_cases hLm : L < many
    · rw [q.old L hLm]
      exact p.right L hLm
    · have ha : many ≤ alikeV h y.2 := by omega
      obtain ⟨q1, q2⟩ := q.new ha
      have hpre : ∀ x ∈ pre, alikeV h x.2 ≠ L := fun x hx => by have := h2 x hx; omega
      rw [h1, latest_app h L pre _ hpre]
      by_cases hLa : L = alikeV h y.2
      · subst hLa
        rw [q2]
        unfold latest
        rw [if_pos rfl]
      · rw [q1 L (by omega) (by omega)]
        show _ = ((latest h L (y :: tl) : Nat) : Int)
        conv => rhs; unfold latest
        rw [if_neg (fun h => hLa h.symm), latest_alike (h := h) (g := y.2) L tl fun x hx => alike_less hh hy (htl x hx) (by omega)]
end Go.Proofs.Ytbbdeefnooaacaa
