/- lex.Tokens: the contract (by gen12t.py). -/
import Derived.Test.YtcljdlkebaflpaaDoorLex3
import Derived.Test.YtcljdlkebaflpaaDoorSize
import Derived.WalkMore
import Derived.Laws.CopyOwn
import Derived.OwnWalk
namespace Go.Proofs.YtcljdlkebaflpaaDoor
open Go.RowKit
set_option linter.unusedVariables false

theorem Tryd.info_tok : (Tryd.prog.info? 34).map (fun i => (i.zero, i.size, i.bytes)) = some (some (.agg #[.int .i64 0, .string ⟨#[]⟩, .int .i64 0, .int .i64 0]), 4, 40) := by kernel_rfl
def tokCells (ts : List Tok) : List Value := ts.flatMap fun t => [.int .i64 (t.kd : Int), .string ⟨t.txt.toArray⟩, .int .i64 (t.n : Int), .int .i64 (t.at_ : Int)]
theorem tokCells_length (ts : List Tok) : (tokCells ts).length = ts.length * 4 := by
  induction ts with
  | nil => rfl
  | cons f r ih =>
    have e : tokCells (f :: r) = .int .i64 (f.kd : Int) :: .string ⟨f.txt.toArray⟩ :: .int .i64 (f.n : Int) :: .int .i64 (f.at_ : Int) :: tokCells r := by simp [tokCells]
    rw [e]
    simp only [List.length_cons, ih]
    omega
theorem tokCells_snoc (ts : List Tok) (t : Tok) : tokCells ts ++ [.int .i64 (t.kd : Int), .string ⟨t.txt.toArray⟩, .int .i64 (t.n : Int), .int .i64 (t.at_ : Int)] = tokCells (ts ++ [t]) := by simp [tokCells]
theorem jumps_ret {J : Nat → Act → World → Prop} {Q : Exit → Act → World → Prop} {a : Act} {w : World} : jumps J Q .ret a w = Q .ret a w := rfl
/-- A whole record stored into a new block of four cells. -/
theorem store_tok {P : Program} {ops : Array Oper} {rest : List Oper} {o : Oper} {a : Act} {w : World} {Q : Exit → Act → World → Prop} (hgd : o.guard = none) (ty : TypeId) (x y : Operand) (ho : o.op = .store ty x y)
    (g : Nat) (x0 x1 x2 x3 : Value) (hx : a.eval x = .pointer (some ⟨g, 0, none⟩)) (hy : a.eval y = .agg #[x0, x1, x2, x3])
    (t : TypeId) (old : Array Value) (hg : w.heap[g]? = some (.cells old t (0, 0))) (hi : (P.info? ty).map (·.size) = some 4)
    (hold : old.size = 4) (h1 : x0.oneCell' = true ∧ x1.oneCell' = true ∧ x2.oneCell' = true ∧ x3.oneCell' = true)
    (h : ∀ w1, w1.heap[g]? = some (.cells #[x0, x1, x2, x3] t (0, 0)) → w1.cell? ⟨g, 0, none⟩ = some x0 → w1.cell? ⟨g, 1, none⟩ = some x1 → w1.cell? ⟨g, 2, none⟩ = some x2 → w1.cell? ⟨g, 3, none⟩ = some x3 → g < w1.heap.size →
      (∀ j, w1.frozen? ⟨g, j, none⟩ = false) → Below g w w1 → (∀ e size v n xs, w.ownsRow (g + 1) e size v n xs → w1.ownsRow (g + 1) e size v n xs) → wpList P ops Q rest (a.put o.dst undef) w1) : wpList P ops Q (o :: rest) a w := by
  have hh := setRow_heap w g old #[x0, x1, x2, x3] t (0, 0) hg
  refine wpList_store_row hgd ty x y ho g #[x0, x1, x2, x3] hx hy t old hg hi hold (by simp [h1]) (h _ hh ?_ ?_ ?_ ?_ (Array.getElem?_eq_some_iff.1 hh).1 (fun j => frozen_of_row _ _ _ _ _ hh) ?_ ?_)
  · rw [cell_of_row _ _ _ _ _ _ hh]; rfl
  · rw [cell_of_row _ _ _ _ _ _ hh]; rfl
  · rw [cell_of_row _ _ _ _ _ _ hh]; rfl
  · rw [cell_of_row _ _ _ _ _ _ hh]; rfl
  · exact below_setRow (Below.refl _ _) (Nat.le_refl _) _
  · rintro e size v n xs ⟨h1, h2⟩
    refine ⟨h1, ?_⟩
    rcases h2 with h2 | ⟨b, cap, cur, hv, hb, hc, hr⟩
    · exact .inl h2
    · exact .inr ⟨b, cap, cur, hv, hb, by rw [setRow_other w g b _ (by omega)]; exact hc, hr⟩
theorem take_prefix {α : Type} {a b : List α} (h : a <+: b) : b.take a.length = a := (List.prefix_iff_eq_take.1 h).symm
theorem ext_run (s : ByteArray) (q : Int → Bool) (p : Nat) : s.extract p (runTo q s.data.toList p) = ⟨(takeC q (s.data.toList.drop p)).toArray⟩ := by
  rw [Lib.extract_eq]
  unfold runTo takeC
  rw [Nat.add_sub_cancel_left, take_prefix (List.takeWhile_prefix _)]
theorem ext_rest (s : ByteArray) (p : Nat) : (s.extract p s.size).data.toList = s.data.toList.drop p := by
  rw [Lib.extract_data, Lib.size_eq, List.take_of_length_le (by simp)]
theorem signOf_le (l : List UInt8) : (signOf l).length ≤ l.length := by
  unfold signOf
  cases h : signL.find? fun s => s.isPrefixOf l with
  | none => simp
  | some t =>
    have := List.find?_some h
    exact (List.isPrefixOf_iff_prefix.1 this).length_le
theorem mem_takeC {q : Int → Bool} {l : List UInt8} {c : UInt8} (h : c ∈ takeC q l) : q (c.toNat : Int) = true := by
  unfold takeC at h
  induction l with
  | nil => simp at h
  | cons x r ih =>
    rw [List.takeWhile_cons] at h
    split at h
    · rename_i hx
      rcases List.mem_cons.1 h with rfl | h
      · exact hx
      · exact ih h
    · simp at h
theorem takeC_le (q : Int → Bool) (l : List UInt8) : (takeC q l).length ≤ l.length := (List.takeWhile_sublist _).length_le
theorem effLen_le {l : List UInt8} (h : l ≠ []) : effLen (eff l) ≤ l.length := by
  have hp := List.length_pos_iff.2 h
  cases l with
  | nil => exact absurd rfl h
  | cons c r =>
    unfold eff
    simp only
    have h1 := takeC_le (fun c => c != 10) (c :: r)
    have h2 := takeC_le isName (c :: r)
    have h3 := takeC_le isDigit (c :: r)
    have h4 := signOf_le (c :: r)
    repeat' split
    all_goals first | exact hp | assumption
theorem eff_at (s : ByteArray) (p : Nat) (h : p < s.size) : eff (s.data.toList.drop p) =
    (if isBlank ((s[p]'h).toNat : Int) then .skip 1
    else if ((s[p]'h).toNat : Int) == 35 then .skip (takeC (fun c => c != 10) (s.data.toList.drop p)).length
    else if isLetter ((s[p]'h).toNat : Int) then (if 32 < (takeC isName (s.data.toList.drop p)).length then .err 9 else .tok 1 (takeC isName (s.data.toList.drop p)) 0)
    else if isDigit ((s[p]'h).toNat : Int) then (if 1073741824 < numTo (takeC isDigit (s.data.toList.drop p)) 0 then .err 9 else .tok 2 (takeC isDigit (s.data.toList.drop p)) (numTo (takeC isDigit (s.data.toList.drop p)) 0))
    else if signOf (s.data.toList.drop p) = [] then .err 2 else .tok 3 (signOf (s.data.toList.drop p)) 0) := by
  have h2 : p < s.data.toList.length := by simpa using h
  have e : s.data.toList[p] = s[p]'h := by simp; rfl
  rw [List.drop_eq_getElem_cons h2, e]
  rfl
/-- What Tokens gives back, told of a text's tokens. -/
def TokRes (base : Nat) (r : Except (Nat × Nat) (List Tok)) (e : Ending) (w' : World) : Prop :=
  match r with
  | .ok ts => ∃ v, e = .returned (.tuple #[v, .int .i64 0, .int .i64 0]) ∧ w'.ownsRow base 34 4 v ts.length (tokCells ts)
  | .error x => e = .returned (.tuple #[.slice none 0 0, .int .i64 (x.1 : Nat), .int .i64 (x.2 : Nat)])

theorem frame_list (xs : Array Value) : xs = ((List.range xs.size).map fun i => xs.getD i undef).toArray := by
  apply Array.ext
  · simp
  · intro i h1 h2
    simp [h1]

theorem frame89 {tm : Array Value} {x0 x5 x6 x7 : Value} (hz : tm.size = 89) (h0 : tm.getD 0 undef = x0) (h5 : tm.getD 5 undef = x5) (h6 : tm.getD 6 undef = x6) (h7 : tm.getD 7 undef = x7) :
    ∃ U : Nat → Value, tm = List.toArray (x0 :: U 1 :: U 2 :: U 3 :: U 4 :: x5 :: x6 :: x7 :: U 8 :: U 9 :: U 10 :: U 11 :: U 12 :: U 13 :: U 14 :: U 15 :: U 16 :: U 17 :: U 18 :: U 19 :: U 20 :: U 21 :: U 22 :: U 23 :: U 24 :: U 25 :: U 26 :: U 27 :: U 28 :: U 29 :: U 30 :: U 31 :: U 32 :: U 33 :: U 34 :: U 35 :: U 36 :: U 37 :: U 38 :: U 39 :: U 40 :: U 41 :: U 42 :: U 43 :: U 44 :: U 45 :: U 46 :: U 47 :: U 48 :: U 49 :: U 50 :: U 51 :: U 52 :: U 53 :: U 54 :: U 55 :: U 56 :: U 57 :: U 58 :: U 59 :: U 60 :: U 61 :: U 62 :: U 63 :: U 64 :: U 65 :: U 66 :: U 67 :: U 68 :: U 69 :: U 70 :: U 71 :: U 72 :: U 73 :: U 74 :: U 75 :: U 76 :: U 77 :: U 78 :: U 79 :: U 80 :: U 81 :: U 82 :: U 83 :: U 84 :: U 85 :: U 86 :: U 87 :: U 88 :: []) := by
  subst h0 h5 h6 h7
  refine ⟨fun i => tm.getD i undef, ?_⟩
  have h := frame_list tm
  rw [hz] at h
  exact h
/-- What holds at the labels. -/
def TokJ (W : World) (s : ByteArray) (l : Nat) (a : Act) (w : World) : Prop :=
  l < 4 ∧ ∃ (p : Nat) (ts : List Tok) (v : Value) (old : Array Value), a.defers = [] ∧ a.tmps.size = 89 ∧ a.tmps.getD 0 undef = .string s ∧ a.tmps.getD 5 undef = v ∧ a.tmps.getD 6 undef = .pointer (some ⟨W.heap.size, 0, none⟩) ∧ a.tmps.getD 7 undef = .int .i64 (p : Nat) ∧
    Below W.heap.size W w ∧ W.heap.size < w.heap.size ∧ w.heap[W.heap.size]? = some (.cells old 34 (0, 0)) ∧ old.size = 4 ∧ w.ownsRow (W.heap.size + 1) 34 4 v ts.length (tokCells ts) ∧ ts.length ≤ p ∧ p ≤ s.size ∧
    lexAt s.data.toList 0 = (lexAt s.data.toList p).map (ts ++ ·) ∧
    match l with
    | 0 => True
    | 1 => p < s.size ∧ eff (s.data.toList.drop p) = (if 32 < (takeC isName (s.data.toList.drop p)).length then .err 9 else .tok 1 (takeC isName (s.data.toList.drop p)) 0)
    | 2 => p < s.size ∧ eff (s.data.toList.drop p) = (if 1073741824 < numTo (takeC isDigit (s.data.toList.drop p)) 0 then .err 9 else .tok 2 (takeC isDigit (s.data.toList.drop p)) (numTo (takeC isDigit (s.data.toList.drop p)) 0))
    | 3 => p < s.size ∧ ∃ kd t n, old = #[.int .i64 (kd : Nat), .string ⟨t.toArray⟩, .int .i64 (n : Nat), .int .i64 (p : Nat)] ∧ eff (s.data.toList.drop p) = .tok kd t n
    | _ => False
def tokM (s : ByteArray) (l : Nat) (a : Act) (_ : World) : Nat := 4 * (s.size - (intOf (a.tmps.getD 7 undef)).toNat) + (match l with | 0 => 3 | 1 => 2 | 2 => 2 | _ => 1)
set_option maxRecDepth 100000 in
set_option maxHeartbeats 4000000 in
theorem tokens_any (W : World) (s : ByteArray) (hw : Signed W) (hs : s.size ≤ 9223372036854775807) :
    Calls Tryd.prog 11 #[.string s] W fun e w' => TokRes (W.heap.size + 1) (lexL s.data.toList) e w' ∧ Below W.heap.size W w' := by
  have hsz : s.data.toList.length = s.size := by simp
  have bbA : ∀ o : Obj, Below W.heap.size W (W.alloc o) := fun o => (Below.refl _ _).alloc (Nat.le_refl _) _
  by_cases hbig : 65536 < s.size
  · have d1 : decide ((65536 : Int) < (s.size : Int)) = true := by simp; omega
    rw [show lexL s.data.toList = .error (9, 0) from by unfold lexL; rw [if_pos (by omega)]]
    go_enter Tryd.func11, Tryd.ntmps11
    go_wp2
    refine wp_scope_straight ?_
    go_wp2
    try rw [Exit.noGoto_ret]
    go_ret3
    exact ⟨rfl, bbA _⟩
  have d1 : decide ((65536 : Int) < (s.size : Int)) = false := by simp; omega
  rw [show lexL s.data.toList = lexAt s.data.toList 0 from by unfold lexL lexAt; rw [if_neg (by omega)]; simp]
  go_enter Tryd.func11, Tryd.ntmps11
  go_wp2
  refine wp_scope_four (TokJ W s) (tokM s) ?_ (by rfl) (by rfl) (by rfl) (by rfl) ?_ ?_ ?_ ?_ ?_
  · exact fun l a w h => h.1
  · -- token
    rintro ⟨tm, df⟩ w ⟨_, p, ts, v, old, hdf, hfz, f0, f5, f6, f7, hB, hgz, hg, ho4, hown, htl, hps, hlex, hl⟩
    have hm : tokM s 3 ⟨tm, df⟩ w = 4 * (s.size - p) + 1 := by
      show 4 * (s.size - (intOf (tm.getD 7 undef)).toNat) + 1 = _
      rw [f7]
      simp [intOf]
    rw [hm]
    clear hm
    simp only [] at hdf hfz f0 f5 f6 f7
    obtain ⟨U, rfl⟩ := frame89 hfz f0 f5 f6 f7
    subst hdf
    clear hfz f0 f5 f6 f7
    obtain ⟨hpz, kd, t, n, rfl, he⟩ := hl
    have hpos := effLen_pos (s.data.toList.drop p)
    rw [he] at hpos
    simp only [effLen] at hpos
    have hle := effLen_le (l := s.data.toList.drop p) (by simp; omega)
    rw [he] at hle
    simp only [effLen, List.length_drop, hsz] at hle
    have hts : (⟨t.toArray⟩ : ByteArray).size = t.length := by simp [ByteArray.size]
    rw [lexAt_step (p := p) (by omega), he] at hlex
    have c0 := cell_of_row w W.heap.size 0 _ _ _ hg
    have c1 := cell_of_row w W.heap.size 1 _ _ _ hg
    have c2 := cell_of_row w W.heap.size 2 _ _ _ hg
    have c3 := cell_of_row w W.heap.size 3 _ _ _ hg
    simp only [List.getElem?_toArray, List.getElem?_cons_zero, List.getElem?_cons_succ] at c0 c1 c2 c3
    obtain ⟨va, vc, rfl⟩ := own_sliceS hown
    go_wp2_with (first | fail | (at_builtin; refine append_sz rfl (.tmp 80) (.tmp 82) 23 rfl (W.heap.size + 1) 34 (.agg #[.int .i64 0, .string ⟨#[]⟩, .int .i64 0, .int .i64 0]) 4 40 Tryd.underlying23 Tryd.info_tok rfl (by omega) _ ts.length (tokCells ts) rfl ?_ (some ⟨w.heap.size, 0, none⟩) 1 1 [.int .i64 (kd : Nat), .string ⟨t.toArray⟩, .int .i64 (n : Nat), .int .i64 (p : Nat)] rfl ?_ ?_ ?_ ?_ ?_ ?_ ?_ ?_; exact own_belowS hown ((Below.refl _ _).alloc (Nat.le_refl _) _); exact (fun h => nomatch h); exact rfl; (intro ad ha; obtain rfl := Option.some.inj ha; exact news_new w _ _); (intro u hu; simp at hu; rcases hu with rfl | rfl | rfl | rfl <;> rfl); (unfold maxLen; omega); omega; (first | omega | (simp; try omega)); intro v2 w2 own2 bel2; have z2 := bel2.size; simp at z2; have B2 : Below W.heap.size W w2 := (hB.alloc (Nat.le_of_lt hgz) _).trans (bel2.mono (Nat.le_succ _)); have g2 : w2.heap[W.heap.size]? = _ := (bel2.block _ (Nat.lt_succ_self _)).trans ((heap_alloc_old w _ hgz).trans hg); have k1 : w2.cell? ⟨W.heap.size, 1, none⟩ = some (.string ⟨t.toArray⟩) := cell_of_row w2 W.heap.size 1 _ _ _ g2))
    go_step3
    refine ⟨⟨by decide, p + t.length, ts ++ [⟨kd, t, n, p⟩], v2, _, rfl, rfl, rfl, rfl, rfl, ?_, B2, by omega, g2, rfl, ?_, ?_, by omega, ?_, trivial⟩, ?_⟩
    · show Value.int .i64 ((p : Int) + (t.length : Int)) = _
      rw [Int.natCast_add]
    · rw [← tokCells_snoc, List.length_append]
      exact own2
    · rw [List.length_append]
      show ts.length + 1 ≤ _
      omega
    · rw [hlex]
      cases lexAt s.data.toList (p + t.length) <;> simp [Except.map]
    · show 4 * (s.size - (intOf (Value.int .i64 ((p : Int) + (t.length : Int)))).toNat) + 3 < _
      simp only [intOf]
      omega
  · -- name
    rintro ⟨tm, df⟩ w ⟨_, p, ts, v, old, hdf, hfz, f0, f5, f6, f7, hB, hgz, hg, ho4, hown, htl, hps, hlex, hl⟩
    have hm : tokM s 1 ⟨tm, df⟩ w = 4 * (s.size - p) + 2 := by
      show 4 * (s.size - (intOf (tm.getD 7 undef)).toNat) + 2 = _
      rw [f7]
      simp [intOf]
    rw [hm]
    clear hm
    simp only [] at hdf hfz f0 f5 f6 f7
    obtain ⟨U, rfl⟩ := frame89 hfz f0 f5 f6 f7
    subst hdf
    clear hfz f0 f5 f6 f7
    obtain ⟨hpz, he⟩ := hl
    obtain ⟨T, hT⟩ : ∃ T, takeC isName (s.data.toList.drop p) = T := ⟨_, rfl⟩
    obtain ⟨e, hre⟩ : ∃ e : Nat, runTo isName s.data.toList p = e := ⟨_, rfl⟩
    have hxe := ext_run s isName p
    have he1 := runTo_ge isName s.data.toList p
    have he2 := runTo_le (p := isName) (l := s.data.toList) (i := p) (by omega)
    rw [hre] at hxe he1 he2
    rw [hT] at hxe he
    rw [hsz] at he2
    have hTs : (⟨T.toArray⟩ : ByteArray).size = T.length := by simp [ByteArray.size]
    have hlex0 := hlex
    have he0 := he
    rw [lexAt_step (p := p) (by omega), he] at hlex
    by_cases hlong : 32 < T.length
    · rw [if_pos hlong] at he hlex
      have d2 : decide ((32 : Int) < (T.length : Int)) = true := by simp; omega
      go_wp2_with (first | (go_at_call 18; refine (run_name _ s p hps hs).mono ?_; rintro e' w' ⟨rfl, rfl⟩; rw [show runTo (fun c => isLetter c || isDigit c) s.data.toList p = e from hre]) | (refine store_tok rfl 34 (.tmp 6) (.tmp 58) rfl W.heap.size (.int .i64 1) (.string ⟨T.toArray⟩) (.int .i64 0) (.int .i64 (p : Nat)) rfl rfl 34 old hg (by kernel_rfl) ho4 ⟨rfl, rfl, rfl, rfl⟩ ?_; intro w1 g1 k0 k1 k2 k3 z1 fr1 b1 row1; have B1 := hB.trans (b1.mono (Nat.le_refl _)); have own1 := row1 _ _ _ _ _ hown))
      rw [jumps_ret]
      go_ret3
      rw [hlex]
      exact ⟨rfl, B1⟩
    · rw [if_neg hlong] at he hlex
      have d2 : decide ((32 : Int) < (T.length : Int)) = false := by simp; omega
      go_wp2_with (first | (go_at_call 18; refine (run_name _ s p hps hs).mono ?_; rintro e' w' ⟨rfl, rfl⟩; rw [show runTo (fun c => isLetter c || isDigit c) s.data.toList p = e from hre]) | (refine store_tok rfl 34 (.tmp 6) (.tmp 58) rfl W.heap.size (.int .i64 1) (.string ⟨T.toArray⟩) (.int .i64 0) (.int .i64 (p : Nat)) rfl rfl 34 old hg (by kernel_rfl) ho4 ⟨rfl, rfl, rfl, rfl⟩ ?_; intro w1 g1 k0 k1 k2 k3 z1 fr1 b1 row1; have B1 := hB.trans (b1.mono (Nat.le_refl _)); have own1 := row1 _ _ _ _ _ hown))
      go_step3
      refine ⟨⟨by decide, p, ts, v, _, rfl, rfl, rfl, rfl, rfl, rfl, B1, z1, g1, rfl, own1, htl, hps, hlex0, hpz, 1, T, 0, rfl, he⟩, ?_⟩
      show 4 * (s.size - (intOf (Value.int .i64 (p : Int))).toNat) + 1 < _
      simp only [intOf]
      omega
  · -- digits
    intro p3
    rintro ⟨tm, df⟩ w ⟨_, p, ts, v, old, hdf, hfz, f0, f5, f6, f7, hB, hgz, hg, ho4, hown, htl, hps, hlex, hl⟩
    have hm : tokM s 2 ⟨tm, df⟩ w = 4 * (s.size - p) + 2 := by
      show 4 * (s.size - (intOf (tm.getD 7 undef)).toNat) + 2 = _
      rw [f7]
      simp [intOf]
    rw [hm]
    clear hm
    simp only [] at hdf hfz f0 f5 f6 f7
    obtain ⟨U, rfl⟩ := frame89 hfz f0 f5 f6 f7
    subst hdf
    clear hfz f0 f5 f6 f7
    obtain ⟨hpz, he⟩ := hl
    obtain ⟨T, hT⟩ : ∃ T, takeC isDigit (s.data.toList.drop p) = T := ⟨_, rfl⟩
    obtain ⟨e, hre⟩ : ∃ e : Nat, runTo isDigit s.data.toList p = e := ⟨_, rfl⟩
    have hxe := ext_run s isDigit p
    have he1 := runTo_ge isDigit s.data.toList p
    have he2 := runTo_le (p := isDigit) (l := s.data.toList) (i := p) (by omega)
    rw [hre] at hxe he1 he2
    rw [hT] at hxe he
    rw [hsz] at he2
    have hTs : (⟨T.toArray⟩ : ByteArray).size = T.length := by simp [ByteArray.size]
    obtain ⟨N, hN⟩ : ∃ N, numTo T 0 = N := ⟨_, rfl⟩
    rw [hN] at he
    have hN' : numTo (⟨T.toArray⟩ : ByteArray).data.toList 0 = N := hN
    have hdg : ∀ c ∈ (⟨T.toArray⟩ : ByteArray).data.toList, isDigit (c.toNat : Int) = true := by
      intro c hc
      have hc' : c ∈ T := by simpa using hc
      rw [← hT] at hc'
      exact mem_takeC hc'
    have hlex0 := hlex
    have he0 := he
    rw [lexAt_step (p := p) (by omega), he] at hlex
    by_cases hlong : 1073741824 < N
    · rw [if_pos hlong] at he hlex
      have d2 : decide ((1073741824 : Int) < (N : Int)) = true := by simp; omega
      go_wp2_with (first | (go_at_call 18; refine (run_digit _ s p hps hs).mono ?_; rintro e' w' ⟨rfl, rfl⟩; rw [hre]) | (refine store_tok rfl 34 (.tmp 6) (.tmp 71) rfl W.heap.size (.int .i64 2) (.string ⟨T.toArray⟩) (.int .i64 0) (.int .i64 (p : Nat)) rfl rfl 34 old hg (by kernel_rfl) ho4 ⟨rfl, rfl, rfl, rfl⟩ ?_; intro w1 g1 k0 k1 k2 k3 z1 fr1 b1 row1; have B1 := hB.trans (b1.mono (Nat.le_refl _)); have own1 := row1 _ _ _ _ _ hown) | (go_at_call 24; refine (number_any _ ⟨T.toArray⟩ hdg).mono ?_; rintro e' w2 ⟨rfl, b2⟩; rw [hN']; have B2 := B1.trans (b2.mono (Nat.le_of_lt z1)); have g2 : w2.heap[W.heap.size]? = _ := (b2.block _ z1).trans g1; have k0' := cell_of_row w2 W.heap.size 0 _ _ _ g2; have k1' := cell_of_row w2 W.heap.size 1 _ _ _ g2; have k2' := cell_of_row w2 W.heap.size 2 _ _ _ g2; have k3' := cell_of_row w2 W.heap.size 3 _ _ _ g2; simp only [List.getElem?_toArray, List.getElem?_cons_zero, List.getElem?_cons_succ] at k0' k1' k2' k3'; have fr2 : w2.frozen? ⟨W.heap.size, 2, none⟩ = false := frozen_of_row _ _ _ _ _ g2; have z2 : W.heap.size < w2.heap.size := Nat.lt_of_lt_of_le z1 b2.size; have own2 := own_belowS own1 b2))
      rw [jumps_ret]
      go_ret3
      rw [hlex]
      exact ⟨rfl, B2.setCell (Nat.le_refl _) _⟩
    · rw [if_neg hlong] at he hlex
      have d2 : decide ((1073741824 : Int) < (N : Int)) = false := by simp; omega
      go_wp2_with (first | (go_at_call 18; refine (run_digit _ s p hps hs).mono ?_; rintro e' w' ⟨rfl, rfl⟩; rw [hre]) | (refine store_tok rfl 34 (.tmp 6) (.tmp 71) rfl W.heap.size (.int .i64 2) (.string ⟨T.toArray⟩) (.int .i64 0) (.int .i64 (p : Nat)) rfl rfl 34 old hg (by kernel_rfl) ho4 ⟨rfl, rfl, rfl, rfl⟩ ?_; intro w1 g1 k0 k1 k2 k3 z1 fr1 b1 row1; have B1 := hB.trans (b1.mono (Nat.le_refl _)); have own1 := row1 _ _ _ _ _ hown) | (go_at_call 24; refine (number_any _ ⟨T.toArray⟩ hdg).mono ?_; rintro e' w2 ⟨rfl, b2⟩; rw [hN']; have B2 := B1.trans (b2.mono (Nat.le_of_lt z1)); have g2 : w2.heap[W.heap.size]? = _ := (b2.block _ z1).trans g1; have k0' := cell_of_row w2 W.heap.size 0 _ _ _ g2; have k1' := cell_of_row w2 W.heap.size 1 _ _ _ g2; have k2' := cell_of_row w2 W.heap.size 2 _ _ _ g2; have k3' := cell_of_row w2 W.heap.size 3 _ _ _ g2; simp only [List.getElem?_toArray, List.getElem?_cons_zero, List.getElem?_cons_succ] at k0' k1' k2' k3'; have fr2 : w2.frozen? ⟨W.heap.size, 2, none⟩ = false := frozen_of_row _ _ _ _ _ g2; have z2 : W.heap.size < w2.heap.size := Nat.lt_of_lt_of_le z1 b2.size; have own2 := own_belowS own1 b2))
      go_step3
      rename_i hK
      refine hK _ _ (p3.at ?_ ?_)
      · exact ⟨by decide, p, ts, v, _, rfl, rfl, rfl, rfl, rfl, rfl, B2.setCell (Nat.le_refl _) _, by simpa using z2, heap_setCell_same w2 W.heap.size 2 _ _ _ g2, rfl, ownsRow_setCell_below own2 (Nat.lt_succ_self _) _, htl, hps, hlex0, hpz, 2, T, N, rfl, he⟩
      · show 4 * (s.size - (intOf (Value.int .i64 (p : Int))).toNat) + 1 ≤ _
        simp only [intOf]
        omega
  · -- next
    rintro ⟨tm, df⟩ w ⟨_, p, ts, v, old, hdf, hfz, f0, f5, f6, f7, hB, hgz, hg, ho4, hown, htl, hps, hlex, -⟩
    have hm : tokM s 0 ⟨tm, df⟩ w = 4 * (s.size - p) + 3 := by
      show 4 * (s.size - (intOf (tm.getD 7 undef)).toNat) + 3 = _
      rw [f7]
      simp [intOf]
    rw [hm]
    clear hm
    simp only [] at hdf hfz f0 f5 f6 f7
    obtain ⟨U, rfl⟩ := frame89 hfz f0 f5 f6 f7
    subst hdf
    clear hfz f0 f5 f6 f7
    obtain ⟨va, vc, rfl⟩ := own_sliceS hown
    by_cases hpz : s.size ≤ p
    · obtain rfl : p = s.size := by omega
      rw [← hsz, lexAt_end, hsz] at hlex
      go_wp2_with (first | fail | (at_builtin; refine append_sz rfl (.tmp 16) (.tmp 19) 23 rfl (W.heap.size + 1) 34 (.agg #[.int .i64 0, .string ⟨#[]⟩, .int .i64 0, .int .i64 0]) 4 40 Tryd.underlying23 Tryd.info_tok rfl (by omega) _ ts.length (tokCells ts) rfl ?_ (some ⟨w.heap.size, 0, none⟩) 1 1 [.int .i64 4, .string ⟨#[]⟩, .int .i64 0, .int .i64 (s.size : Nat)] rfl ?_ ?_ ?_ ?_ ?_ ?_ ?_ ?_; exact own_belowS hown ((Below.refl _ _).alloc (Nat.le_refl _) _); exact (fun h => nomatch h); exact rfl; (intro ad ha; obtain rfl := Option.some.inj ha; exact news_new w _ _); (intro u hu; simp at hu; rcases hu with rfl | rfl | rfl | rfl <;> rfl); (unfold maxLen; omega); omega; (first | omega | (simp; try omega)); intro v2 w2 own2 bel2; have B2 : Below W.heap.size W w2 := (hB.alloc (Nat.le_of_lt hgz) _).trans (bel2.mono (Nat.le_succ _))))
      rw [jumps_ret]
      go_ret3
      rw [hlex]
      refine ⟨⟨v2, rfl, ?_⟩, B2⟩
      rw [← tokCells_snoc, List.length_append]
      exact own2
    have hpz : p < s.size := by omega
    have d2 : ((p : Int) == (s.size : Int)) = false := by simp; omega
    have d3 : (p == s.size) = false := by simp; omega
    have he := eff_at s p hpz
    have hlex0 := hlex
    rw [lexAt_step (p := p) (by omega)] at hlex
    cases q1 : isBlank ((s[p]'hpz).toNat : Int) with
    | true =>
      rw [if_pos q1] at he
      rw [he] at hlex
      go_wp2_with (first | (go_at_call 17; refine (blank_any _ _).mono ?_; rintro e' w' ⟨rfl, rfl⟩; rw [q1]) | (go_at_call 20; refine (letter_any _ _).mono ?_; rintro e' w' ⟨rfl, rfl⟩; rw [q3]) | (go_at_call 21; refine (digit_any _ _).mono ?_; rintro e' w' ⟨rfl, rfl⟩; rw [q4]))
      go_step3
      show TokJ W s 0 _ _ ∧ _
      refine ⟨⟨by decide, p + 1, ts, _, old, rfl, rfl, rfl, rfl, rfl, ?_, hB, hgz, hg, ho4, hown, by omega, by omega, hlex, trivial⟩, ?_⟩
      · show Value.int .i64 ((p : Int) + 1) = _
        rw [Int.natCast_add]
        rfl
      · show 4 * (s.size - (intOf (Value.int .i64 ((p : Int) + 1))).toNat) + 3 < _
        simp only [intOf]
        omega
    | false =>
    rw [q1, if_neg (by decide)] at he
    cases q2 : ((s[p]'hpz).toNat : Int) == 35 with
    | true =>
      rw [if_pos q2] at he
      rw [he] at hlex
      obtain ⟨e, hre⟩ : ∃ e : Nat, runTo (fun c => c != 10) s.data.toList p = e := ⟨_, rfl⟩
      have hre2 : p + (takeC (fun c => c != 10) (s.data.toList.drop p)).length = e := hre
      have he1 := effLen_pos (s.data.toList.drop p)
      rw [he] at he1
      simp only [effLen] at he1
      have he2 := runTo_le (p := fun c => c != 10) (l := s.data.toList) (i := p) (by omega)
      rw [hre, hsz] at he2
      simp only [hre2] at hlex
      go_wp2_with (first | (go_at_call 17; refine (blank_any _ _).mono ?_; rintro e' w' ⟨rfl, rfl⟩; rw [q1]) | (go_at_call 20; refine (letter_any _ _).mono ?_; rintro e' w' ⟨rfl, rfl⟩; rw [q3]) | (go_at_call 21; refine (digit_any _ _).mono ?_; rintro e' w' ⟨rfl, rfl⟩; rw [q4]) | (go_at_call 18; refine (run_line _ s p hps hs).mono ?_; rintro e' w' ⟨rfl, rfl⟩; rw [hre]))
      go_step3
      show TokJ W s 0 _ _ ∧ _
      refine ⟨⟨by decide, e, ts, _, old, rfl, rfl, rfl, rfl, rfl, rfl, hB, hgz, hg, ho4, hown, by omega, by omega, hlex, trivial⟩, ?_⟩
      show 4 * (s.size - (intOf (Value.int .i64 (e : Int))).toNat) + 3 < _
      simp only [intOf]
      omega
    | false =>
    rw [q2, if_neg (by decide)] at he
    cases q3 : isLetter ((s[p]'hpz).toNat : Int) with
    | true =>
      rw [if_pos q3] at he
      go_wp2_with (first | (go_at_call 17; refine (blank_any _ _).mono ?_; rintro e' w' ⟨rfl, rfl⟩; rw [q1]) | (go_at_call 20; refine (letter_any _ _).mono ?_; rintro e' w' ⟨rfl, rfl⟩; rw [q3]) | (go_at_call 21; refine (digit_any _ _).mono ?_; rintro e' w' ⟨rfl, rfl⟩; rw [q4]))
      go_step3
      show TokJ W s 1 _ _ ∧ _
      refine ⟨⟨by decide, p, ts, _, old, rfl, rfl, rfl, rfl, rfl, rfl, hB, hgz, hg, ho4, hown, htl, hps, hlex0, hpz, he⟩, ?_⟩
      show 4 * (s.size - (intOf (Value.int .i64 (p : Int))).toNat) + 2 < _
      simp only [intOf]
      omega
    | false =>
    rw [q3, if_neg (by decide)] at he
    cases q4 : isDigit ((s[p]'hpz).toNat : Int) with
    | true =>
      rw [if_pos q4] at he
      go_wp2_with (first | (go_at_call 17; refine (blank_any _ _).mono ?_; rintro e' w' ⟨rfl, rfl⟩; rw [q1]) | (go_at_call 20; refine (letter_any _ _).mono ?_; rintro e' w' ⟨rfl, rfl⟩; rw [q3]) | (go_at_call 21; refine (digit_any _ _).mono ?_; rintro e' w' ⟨rfl, rfl⟩; rw [q4]))
      go_step3
      show TokJ W s 2 _ _ ∧ _
      refine ⟨⟨by decide, p, ts, _, old, rfl, rfl, rfl, rfl, rfl, rfl, hB, hgz, hg, ho4, hown, htl, hps, hlex0, hpz, he⟩, ?_⟩
      show 4 * (s.size - (intOf (Value.int .i64 (p : Int))).toNat) + 2 < _
      simp only [intOf]
      omega
    | false =>
    rw [q4, if_neg (by decide)] at he
    obtain ⟨T, hT⟩ : ∃ T, signOf (s.data.toList.drop p) = T := ⟨_, rfl⟩
    rw [hT] at he
    rw [he] at hlex
    have hTs : (⟨T.toArray⟩ : ByteArray).size = T.length := by simp [ByteArray.size]
    have hSig : Signed w := hw.mono hB
    by_cases hnil : T = []
    · subst hnil
      rw [if_pos rfl] at hlex he
      go_wp2_with (first | (go_at_call 17; refine (blank_any _ _).mono ?_; rintro e' w' ⟨rfl, rfl⟩; rw [q1]) | (go_at_call 20; refine (letter_any _ _).mono ?_; rintro e' w' ⟨rfl, rfl⟩; rw [q3]) | (go_at_call 21; refine (digit_any _ _).mono ?_; rintro e' w' ⟨rfl, rfl⟩; rw [q4]) | (go_at_call 22; refine (sign_any _ _ hSig).mono ?_; rintro e' w' ⟨rfl, rfl⟩; rw [ext_rest, hT]) | (refine store_tok rfl 34 (.tmp 6) (.tmp 46) rfl W.heap.size (.int .i64 3) (.string ⟨#[]⟩) (.int .i64 0) (.int .i64 (p : Nat)) rfl rfl 34 old hg (by kernel_rfl) ho4 ⟨rfl, rfl, rfl, rfl⟩ ?_; intro w1 g1 k0 k1 k2 k3 z1 fr1 b1 row1; have B1 := hB.trans (b1.mono (Nat.le_refl _)); have own1 := row1 _ _ _ _ _ hown))
      rw [jumps_ret]
      go_ret3
      rw [hlex]
      exact ⟨rfl, B1⟩
    · rw [if_neg hnil] at hlex he
      have hemp : T.isEmpty = false := by cases T with | nil => exact absurd rfl hnil | cons _ _ => rfl
      go_wp2_with (first | (go_at_call 17; refine (blank_any _ _).mono ?_; rintro e' w' ⟨rfl, rfl⟩; rw [q1]) | (go_at_call 20; refine (letter_any _ _).mono ?_; rintro e' w' ⟨rfl, rfl⟩; rw [q3]) | (go_at_call 21; refine (digit_any _ _).mono ?_; rintro e' w' ⟨rfl, rfl⟩; rw [q4]) | (go_at_call 22; refine (sign_any _ _ hSig).mono ?_; rintro e' w' ⟨rfl, rfl⟩; rw [ext_rest, hT]) | (refine store_tok rfl 34 (.tmp 6) (.tmp 46) rfl W.heap.size (.int .i64 3) (.string ⟨T.toArray⟩) (.int .i64 0) (.int .i64 (p : Nat)) rfl rfl 34 old hg (by kernel_rfl) ho4 ⟨rfl, rfl, rfl, rfl⟩ ?_; intro w1 g1 k0 k1 k2 k3 z1 fr1 b1 row1; have B1 := hB.trans (b1.mono (Nat.le_refl _)); have own1 := row1 _ _ _ _ _ hown))
      go_step3
      show TokJ W s 3 _ _ ∧ _
      refine ⟨⟨by decide, p, ts, _, _, rfl, rfl, rfl, rfl, rfl, rfl, B1, z1, g1, rfl, own1, htl, hps, hlex0, hpz, 3, T, 0, rfl, he⟩, ?_⟩
      show 4 * (s.size - (intOf (Value.int .i64 (p : Int))).toNat) + 1 < _
      simp only [intOf]
      omega
  · -- first
    intro p0
    go_wp2
    go_step3
    rename_i hK
    refine hK _ _ (p0.begins ?_)
    refine ⟨by decide, 0, [], _, _, rfl, rfl, rfl, rfl, rfl, rfl, bbA _, by show W.heap.size < (W.heap.push _).size; rw [Array.size_push]; omega, heap_alloc_new _ _, rfl, World.ownsRow_nil _ _ _ _, Nat.le_refl _, Nat.zero_le _, ?_, trivial⟩
    cases lexAt s.data.toList 0 <;> rfl
end Go.Proofs.YtcljdlkebaflpaaDoor
