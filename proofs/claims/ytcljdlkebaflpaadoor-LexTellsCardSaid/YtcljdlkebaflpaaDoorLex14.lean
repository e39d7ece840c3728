/- The document's Tokens (by gen12r.py). -/
import Derived.Test.YtcljdlkebaflpaaDoorLexSigns
import Derived.Test.YtcljdlkebaflpaaDoorLexPlaces
import Derived.WalkMore
import Derived.OwnWalk
namespace Go.Proofs.YtcljdlkebaflpaaDoor
open Go.RowKit
set_option linter.unusedVariables false

theorem kind_name {c : Int} (h : isName c = true) : kindOf c = 1 ∨ kindOf c = 2 := by
  unfold isName at h
  unfold kindOf
  cases hb : isBlank c with
  | true =>
    exfalso
    simp [isBlank] at hb
    simp [isLetter, isDigit] at h
    omega
  | false =>
    cases hl : isLetter c with
    | true => simp
    | false => rw [hl] at h; simp at h; simp [h]
theorem kind_other {c : Int} (h : isName c = false) : kindOf c = 0 ∨ kindOf c = 3 := by
  unfold isName at h
  simp at h
  unfold kindOf
  cases hb : isBlank c with
  | true => simp
  | false => simp [h.1, h.2]
theorem kind_digit {c : Int} (h : isDigit c = true) : kindOf c = 2 := by
  unfold kindOf
  have h1 : isBlank c = false := by simp [isDigit] at h; simp [isBlank]; omega
  have h2 : isLetter c = false := by simp [isDigit] at h; simp [isLetter]; omega
  simp [h1, h2, h]
theorem kind_nodigit {c : Int} (h : isDigit c = false) : kindOf c = 0 ∨ kindOf c = 1 ∨ kindOf c = 3 := by
  unfold kindOf
  cases isBlank c <;> cases isLetter c <;> simp [h]
/-- What the document's loop over digits computes. -/
def capN : List UInt8 → Nat → Nat
  | [], n => n
  | c :: r, n => capN r (if n ≤ 1073741824 then 10 * n + c.toNat - 48 else n)
theorem capN_big : ∀ (l : List UInt8) (n : Nat), 1073741824 < n → capN l n = n := by
  intro l
  induction l with
  | nil => intro n _; rfl
  | cons c r ih => intro n h; unfold capN; rw [if_neg (by omega), ih _ h]
theorem capN_eq : ∀ (l : List UInt8) (n : Nat), (∀ c ∈ l, isDigit (c.toNat : Int) = true) → n ≤ 1073741824 → capN l n = numTo l n := by
  intro l
  induction l with
  | nil => intro n _ _; rfl
  | cons c r ih =>
    intro n hd h
    have hc := hd c (by simp)
    simp [isDigit] at hc
    unfold capN numTo
    rw [if_pos h, show 10 * n + c.toNat - 48 = n * 10 + (c.toNat - 48) by omega]
    by_cases hb : 1073741824 < n * 10 + (c.toNat - 48)
    · rw [if_pos hb, capN_big _ _ hb]
    · rw [if_neg hb]
      exact ih _ (fun x hx => hd x (by simp [hx])) (by omega)
theorem takeC_hit {q : Int → Bool} {s : ByteArray} {i : Nat} (h : i < s.size) (hp : q ((s[i]'h).toNat : Int) = true) : takeC q (s.data.toList.drop i) = s[i]'h :: takeC q (s.data.toList.drop (i + 1)) := by
  have h2 : i < s.data.toList.length := by simpa using h
  have e : s.data.toList[i] = s[i]'h := by simp; rfl
  rw [List.drop_eq_getElem_cons h2, e]
  unfold takeC
  rw [List.takeWhile_cons, if_pos hp]
theorem takeC_miss {q : Int → Bool} {s : ByteArray} {i : Nat} (h : i < s.size) (hp : q ((s[i]'h).toNat : Int) = false) : takeC q (s.data.toList.drop i) = [] := by
  have h2 : i < s.data.toList.length := by simpa using h
  have e : s.data.toList[i] = s[i]'h := by simp; rfl
  rw [List.drop_eq_getElem_cons h2, e]
  unfold takeC
  rw [List.takeWhile_cons, if_neg (by rw [hp]; decide)]
theorem takeC_end {q : Int → Bool} {s : ByteArray} {i : Nat} (h : ¬ i < s.size) : takeC q (s.data.toList.drop i) = [] := by
  rw [List.drop_eq_nil_of_le (by simp; exact Nat.not_lt.1 h)]
  rfl
/-- The document's sign at a place, from the j-th one on. -/
def signFrom (l : List UInt8) (j : Nat) : List UInt8 := ((signL.drop j).find? fun s => s.isPrefixOf l).getD []
theorem signFrom_hit {l S : List UInt8} {j : Nat} (hS : signL[j]? = some S) (h : S.isPrefixOf l = true) : signFrom l j = S := by
  unfold signFrom
  have hj := (List.getElem?_eq_some_iff.1 hS).1
  rw [List.drop_eq_getElem_cons hj, (List.getElem?_eq_some_iff.1 hS).2, List.find?_cons, h]
  rfl
theorem signFrom_miss {l S : List UInt8} {j : Nat} (hS : signL[j]? = some S) (h : S.isPrefixOf l = false) : signFrom l j = signFrom l (j + 1) := by
  unfold signFrom
  have hj := (List.getElem?_eq_some_iff.1 hS).1
  rw [List.drop_eq_getElem_cons hj, (List.getElem?_eq_some_iff.1 hS).2, List.find?_cons, h]
theorem signFrom_end (l : List UInt8) : signFrom l 22 = [] := rfl
theorem sign_ne : ∀ a ∈ signL, a ≠ [] := by decide
theorem prefix_take {S l : List UInt8} (h : S.isPrefixOf l = true) : S.length ≤ l.length ∧ l.take S.length = S := by
  have := List.isPrefixOf_iff_prefix.1 h
  exact ⟨this.length_le, take_prefix this⟩
theorem prefix_no {S l : List UInt8} (h : S.isPrefixOf l = false) (hl : S.length ≤ l.length) : l.take S.length ≠ S := by
  intro e
  have : S.isPrefixOf l = true := List.isPrefixOf_iff_prefix.2 ⟨l.drop S.length, by have := List.take_append_drop S.length l; rwa [e] at this⟩
  rw [h] at this
  cases this

set_option maxRecDepth 100000 in
set_option maxHeartbeats 40000000 in
theorem reftok_any (W : World) (s : ByteArray) (hs : s.size ≤ 65536) :
    Calls Tryd.prog 12 #[.string s] W fun e w' => TokRes W.heap.size (lexAt s.data.toList 0) e w' ∧ Below W.heap.size W w' := by
  have hsz : s.data.toList.length = s.size := by simp
  have d1 : decide ((65536 : Int) < (s.size : Int)) = false := by simp; omega
  go_enter Tryd.func12, Tryd.ntmps12
  go_wp2_with fail
  go_loopw [2, 3, 4, 5, 6] (fun r2 r3 r4 o i w' => ∃ (p : Nat) (ts : List Tok) (a : Option Addr) (c : Nat), r2 = .slice none 0 0 ∧ r3 = .int .i64 0 ∧ r4 = .int .i64 0 ∧ o = .slice a ts.length c ∧ i = .int .i64 (p : Nat) ∧ w'.ownsRow W.heap.size 34 4 (.slice a ts.length c) ts.length (tokCells ts) ∧ Below W.heap.size W w' ∧ ts.length ≤ p ∧ p ≤ s.size ∧ lexAt s.data.toList 0 = (lexAt s.data.toList p).map (ts ++ ·)) (fun _ _ _ _ i _ => s.size - (intOf i).toNat)
  case atStart =>
    refine ⟨0, [], none, 0, rfl, rfl, rfl, rfl, rfl, World.ownsRow_nil _ _ _ _, Below.refl _ _, Nat.le_refl _, Nat.zero_le _, ?_⟩
    cases lexAt s.data.toList 0 <;> rfl
  case round =>
    obtain ⟨p, ts, a, c, rfl, rfl, rfl, rfl, rfl, own, bel, htl, hps, hlex⟩ := hrel
    have zb := bel.size
    by_cases hpz : p < s.size
    · have f1 : decide (p < s.size) = true := by simpa using hpz
      have he := eff_at s p hpz
      rw [lexAt_step (p := p) (by omega)] at hlex
      cases q1 : isBlank ((s[p]'hpz).toNat : Int) with
      | true =>
        rw [if_pos q1] at he
        rw [he] at hlex
        have hk : kindOf ((s[p]'hpz).toNat : Int) = 0 := by unfold kindOf; rw [if_pos q1]
        go_wp2_with ((go_at_call 25; refine (kind_any _ _).mono ?_; rintro e' w' ⟨rfl, rfl⟩; rw [hk]))
        refine ⟨⟨p + 1, ts, a, c, rfl, rfl, rfl, rfl, by simp, own, bel, by omega, by omega, hlex⟩, by simp [intOf]; omega⟩
      | false =>
      rw [q1, if_neg (by decide)] at he
      cases q2 : ((s[p]'hpz).toNat : Int) == 35 with
      | true =>
        rw [if_pos q2] at he
        rw [he] at hlex
        have hc35 : (s[p]'hpz).toNat = 35 := by have := eq_of_beq q2; omega
        have hk : kindOf ((s[p]'hpz).toNat : Int) = 3 := by rw [hc35]; decide
        clear hc35
        obtain ⟨e, hre⟩ : ∃ e : Nat, runTo (fun c => c != 10) s.data.toList p = e := ⟨_, rfl⟩
        have hre2 : p + (takeC (fun c => c != 10) (s.data.toList.drop p)).length = e := hre
        have he1 := effLen_pos (s.data.toList.drop p)
        rw [he] at he1
        simp only [effLen] at he1
        have he2 := runTo_le (p := fun c => c != 10) (l := s.data.toList) (i := p) (by omega)
        rw [hre, hsz] at he2
        simp only [hre2] at hlex
        go_wp2_with ((go_at_call 25; refine (kind_any _ _).mono ?_; rintro e' w' ⟨rfl, rfl⟩; rw [hk]))
        go_loop [6] (fun i => ∃ j : Nat, i = .int .i64 (j : Nat) ∧ p ≤ j ∧ j ≤ s.size ∧ runTo (fun c => c != 10) s.data.toList j = e) (fun i => s.size - (intOf i).toNat)
        case atStart => exact ⟨p, rfl, Nat.le_refl _, hps, hre⟩
        case round =>
          obtain ⟨j, rfl, hpj, hjs, hrj⟩ := hrel
          by_cases hjz : j < s.size
          · have g1 : decide (j < s.size) = true := by simpa using hjz
            cases q5 : ((s[j]'hjz).toNat : Int) != 10 with
            | true =>
              go_wp2_with fail
              refine ⟨⟨j + 1, by simp, by omega, by omega, ?_⟩, by simp [intOf]; omega⟩
              rw [← hrj, runTo_hit hjz q5]
            | false =>
              go_wp2_with fail
              obtain rfl : j = e := by rw [← hrj, runTo_miss hjz q5]
              exact ⟨⟨j, ts, a, c, rfl, rfl, rfl, rfl, rfl, own, bel, by omega, hjs, hlex⟩, by simp [intOf]; omega⟩
          · have g1 : decide (j < s.size) = false := by simpa using hjz
            go_wp2_with fail
            obtain rfl : j = e := by rw [← hrj, runTo_end hjz]
            exact ⟨⟨j, ts, a, c, rfl, rfl, rfl, rfl, rfl, own, bel, by omega, hjs, hlex⟩, by simp [intOf]; omega⟩
      | false =>
      rw [q2, if_neg (by decide)] at he
      cases q3 : isLetter ((s[p]'hpz).toNat : Int) with
      | true =>
        rw [if_pos q3] at he
        have hk : kindOf ((s[p]'hpz).toNat : Int) = 1 := by unfold kindOf; rw [q1, q3]; rfl
        obtain ⟨T, hT⟩ : ∃ T, takeC isName (s.data.toList.drop p) = T := ⟨_, rfl⟩
        obtain ⟨e, hre⟩ : ∃ e : Nat, runTo isName s.data.toList p = e := ⟨_, rfl⟩
        have hre2 : p + (takeC isName (s.data.toList.drop p)).length = e := hre
        have hxe := ext_run s isName p
        have he1 := runTo_ge isName s.data.toList p
        have he2 := runTo_le (p := isName) (l := s.data.toList) (i := p) (by omega)
        rw [hre] at hxe he1 he2
        rw [hT] at hxe he hre2
        rw [hsz] at he2
        rw [he] at hlex
        have hTs : (⟨T.toArray⟩ : ByteArray).size = T.length := by simp [ByteArray.size]
        have hT1 : ¬ 32 < T.length → 1 ≤ T.length := by
          intro hl
          rw [if_neg hl] at he
          have := effLen_pos (s.data.toList.drop p)
          rw [he] at this
          exact this
        clear he hT
        go_wp2_with ((go_at_call 25; refine (kind_any _ _).mono ?_; rintro e' w' ⟨rfl, rfl⟩; rw [hk]))
        go_loop [6] (fun i => ∃ j : Nat, i = .int .i64 (j : Nat) ∧ p ≤ j ∧ j ≤ s.size ∧ runTo isName s.data.toList j = e) (fun i => s.size - (intOf i).toNat)
        case atStart => exact ⟨p, rfl, Nat.le_refl _, hps, hre⟩
        case round =>
          obtain ⟨j, rfl, hpj, hjs, hrj⟩ := hrel
          by_cases hjz : j < s.size
          · have g1 : decide (j < s.size) = true := by simpa using hjz
            cases q5 : isName ((s[j]'hjz).toNat : Int) with
            | true =>
              rcases kind_name q5 with q6 | q6
              · go_wp2_with ((go_at_call 25; refine (kind_any _ _).mono ?_; rintro e' w' ⟨rfl, rfl⟩; rw [q6]))
                refine ⟨⟨j + 1, by simp, by omega, by omega, ?_⟩, by simp [intOf]; omega⟩
                rw [← hrj, runTo_hit hjz q5]
              · go_wp2_with ((go_at_call 25; refine (kind_any _ _).mono ?_; rintro e' w' ⟨rfl, rfl⟩; rw [q6]))
                refine ⟨⟨j + 1, by simp, by omega, by omega, ?_⟩, by simp [intOf]; omega⟩
                rw [← hrj, runTo_hit hjz q5]
            | false =>
              rcases kind_other q5 with q6 | q6
              · skip
                have hje : j = e := by rw [← hrj, runTo_miss hjz q5]
                by_cases hlong : 32 < T.length
                · rw [if_pos hlong] at hlex
                  have g2 : decide ((32 : Int) < (j : Int) - (p : Int)) = true := by simp; omega
                  clear hje
                  go_wp2_with (first | (go_at_call 25; refine (kind_any _ _).mono ?_; rintro e' w' ⟨rfl, rfl⟩; rw [q6]) | fail)
                  go_ret3
                  first | exact ⟨rfl, bel⟩ | (rw [hlex]; exact ⟨rfl, bel⟩)
                · rw [if_neg hlong] at hlex
                  have hT1 := hT1 hlong
                  have g2 : decide ((32 : Int) < (j : Int) - (p : Int)) = false := by simp; omega
                  have hxj : s.extract p j = ⟨T.toArray⟩ := by rw [hje]; exact hxe
                  have hpT : p + T.length = j := by omega
                  simp only [hpT] at hlex
                  clear hje
                  go_wp2_with (first | (go_at_call 25; refine (kind_any _ _).mono ?_; rintro e' w' ⟨rfl, rfl⟩; rw [q6]) | (at_builtin; refine append_sz rfl (.tmp 72) (.tmp 79) 23 rfl W.heap.size 34 (.agg #[.int .i64 0, .string ⟨#[]⟩, .int .i64 0, .int .i64 0]) 4 40 Tryd.underlying23 Tryd.info_tok rfl (by omega) _ ts.length (tokCells ts) rfl ?_ (some ⟨_, 0, none⟩) 1 1 [.int .i64 1, .string ⟨T.toArray⟩, .int .i64 0, .int .i64 (p : Nat)] rfl ?_ ?_ ?_ ?_ ?_ ?_ ?_ ?_; exact own_belowS own ((Below.refl _ _).alloc (Nat.le_refl _) _); exact (fun h => nomatch h); exact rfl; (intro ad ha; obtain rfl := Option.some.inj ha; exact news_new _ _ _); (intro u hu; simp at hu; rcases hu with rfl | rfl | rfl | rfl <;> rfl); (unfold maxLen; omega); omega; (first | omega | (simp; try omega)); intro v2 w2 own2 bel2; have B2 : Below W.heap.size W w2 := (bel.alloc zb _).trans bel2; obtain ⟨a2, c2, rfl⟩ := own_sliceS own2))
                  refine ⟨⟨j, ts ++ [⟨1, T, 0, p⟩], a2, c2, rfl, rfl, rfl, ?_, rfl, ?_, B2, ?_, hjs, ?_⟩, by simp [intOf]; omega⟩
                  · rw [List.length_append]; rfl
                  · rw [← tokCells_snoc, List.length_append]; exact own2
                  · rw [List.length_append]; show ts.length + 1 ≤ _; omega
                  · rw [hlex]; cases lexAt s.data.toList j <;> simp [Except.map]
              · skip
                have hje : j = e := by rw [← hrj, runTo_miss hjz q5]
                by_cases hlong : 32 < T.length
                · rw [if_pos hlong] at hlex
                  have g2 : decide ((32 : Int) < (j : Int) - (p : Int)) = true := by simp; omega
                  clear hje
                  go_wp2_with (first | (go_at_call 25; refine (kind_any _ _).mono ?_; rintro e' w' ⟨rfl, rfl⟩; rw [q6]) | fail)
                  go_ret3
                  first | exact ⟨rfl, bel⟩ | (rw [hlex]; exact ⟨rfl, bel⟩)
                · rw [if_neg hlong] at hlex
                  have hT1 := hT1 hlong
                  have g2 : decide ((32 : Int) < (j : Int) - (p : Int)) = false := by simp; omega
                  have hxj : s.extract p j = ⟨T.toArray⟩ := by rw [hje]; exact hxe
                  have hpT : p + T.length = j := by omega
                  simp only [hpT] at hlex
                  clear hje
                  go_wp2_with (first | (go_at_call 25; refine (kind_any _ _).mono ?_; rintro e' w' ⟨rfl, rfl⟩; rw [q6]) | (at_builtin; refine append_sz rfl (.tmp 72) (.tmp 79) 23 rfl W.heap.size 34 (.agg #[.int .i64 0, .string ⟨#[]⟩, .int .i64 0, .int .i64 0]) 4 40 Tryd.underlying23 Tryd.info_tok rfl (by omega) _ ts.length (tokCells ts) rfl ?_ (some ⟨_, 0, none⟩) 1 1 [.int .i64 1, .string ⟨T.toArray⟩, .int .i64 0, .int .i64 (p : Nat)] rfl ?_ ?_ ?_ ?_ ?_ ?_ ?_ ?_; exact own_belowS own ((Below.refl _ _).alloc (Nat.le_refl _) _); exact (fun h => nomatch h); exact rfl; (intro ad ha; obtain rfl := Option.some.inj ha; exact news_new _ _ _); (intro u hu; simp at hu; rcases hu with rfl | rfl | rfl | rfl <;> rfl); (unfold maxLen; omega); omega; (first | omega | (simp; try omega)); intro v2 w2 own2 bel2; have B2 : Below W.heap.size W w2 := (bel.alloc zb _).trans bel2; obtain ⟨a2, c2, rfl⟩ := own_sliceS own2))
                  refine ⟨⟨j, ts ++ [⟨1, T, 0, p⟩], a2, c2, rfl, rfl, rfl, ?_, rfl, ?_, B2, ?_, hjs, ?_⟩, by simp [intOf]; omega⟩
                  · rw [List.length_append]; rfl
                  · rw [← tokCells_snoc, List.length_append]; exact own2
                  · rw [List.length_append]; show ts.length + 1 ≤ _; omega
                  · rw [hlex]; cases lexAt s.data.toList j <;> simp [Except.map]
          · have g1 : decide (j < s.size) = false := by simpa using hjz
            have hje : j = e := by rw [← hrj, runTo_end hjz]
            by_cases hlong : 32 < T.length
            · rw [if_pos hlong] at hlex
              have g2 : decide ((32 : Int) < (j : Int) - (p : Int)) = true := by simp; omega
              clear hje
              go_wp2_with (first | fail | fail)
              go_ret3
              first | exact ⟨rfl, bel⟩ | (rw [hlex]; exact ⟨rfl, bel⟩)
            · rw [if_neg hlong] at hlex
              have hT1 := hT1 hlong
              have g2 : decide ((32 : Int) < (j : Int) - (p : Int)) = false := by simp; omega
              have hxj : s.extract p j = ⟨T.toArray⟩ := by rw [hje]; exact hxe
              have hpT : p + T.length = j := by omega
              simp only [hpT] at hlex
              clear hje
              go_wp2_with (first | fail | (at_builtin; refine append_sz rfl (.tmp 72) (.tmp 79) 23 rfl W.heap.size 34 (.agg #[.int .i64 0, .string ⟨#[]⟩, .int .i64 0, .int .i64 0]) 4 40 Tryd.underlying23 Tryd.info_tok rfl (by omega) _ ts.length (tokCells ts) rfl ?_ (some ⟨_, 0, none⟩) 1 1 [.int .i64 1, .string ⟨T.toArray⟩, .int .i64 0, .int .i64 (p : Nat)] rfl ?_ ?_ ?_ ?_ ?_ ?_ ?_ ?_; exact own_belowS own ((Below.refl _ _).alloc (Nat.le_refl _) _); exact (fun h => nomatch h); exact rfl; (intro ad ha; obtain rfl := Option.some.inj ha; exact news_new _ _ _); (intro u hu; simp at hu; rcases hu with rfl | rfl | rfl | rfl <;> rfl); (unfold maxLen; omega); omega; (first | omega | (simp; try omega)); intro v2 w2 own2 bel2; have B2 : Below W.heap.size W w2 := (bel.alloc zb _).trans bel2; obtain ⟨a2, c2, rfl⟩ := own_sliceS own2))
              refine ⟨⟨j, ts ++ [⟨1, T, 0, p⟩], a2, c2, rfl, rfl, rfl, ?_, rfl, ?_, B2, ?_, hjs, ?_⟩, by simp [intOf]; omega⟩
              · rw [List.length_append]; rfl
              · rw [← tokCells_snoc, List.length_append]; exact own2
              · rw [List.length_append]; show ts.length + 1 ≤ _; omega
              · rw [hlex]; cases lexAt s.data.toList j <;> simp [Except.map]
      | false =>
      rw [q3, if_neg (by decide)] at he
      cases q4 : isDigit ((s[p]'hpz).toNat : Int) with
      | true =>
        rw [if_pos q4] at he
        have hk := kind_digit q4
        obtain ⟨T, hT⟩ : ∃ T, takeC isDigit (s.data.toList.drop p) = T := ⟨_, rfl⟩
        obtain ⟨e, hre⟩ : ∃ e : Nat, runTo isDigit s.data.toList p = e := ⟨_, rfl⟩
        have hre2 : p + (takeC isDigit (s.data.toList.drop p)).length = e := hre
        have hxe := ext_run s isDigit p
        have he1 := runTo_ge isDigit s.data.toList p
        have he2 := runTo_le (p := isDigit) (l := s.data.toList) (i := p) (by omega)
        have hcap : capN T 0 = numTo T 0 := capN_eq T 0 (fun c hc => mem_takeC (by rw [hT]; exact hc)) (by omega)
        obtain ⟨V, hV⟩ : ∃ V, numTo T 0 = V := ⟨_, rfl⟩
        rw [hre] at hxe he1 he2
        rw [hT] at hxe he hre2
        rw [hV] at he hcap
        rw [hsz] at he2
        rw [he] at hlex
        have hTs : (⟨T.toArray⟩ : ByteArray).size = T.length := by simp [ByteArray.size]
        have hT1 : ¬ 1073741824 < V → 1 ≤ T.length := by
          intro hl
          rw [if_neg hl] at he
          have := effLen_pos (s.data.toList.drop p)
          rw [he] at this
          exact this
        clear he hV
        go_wp2_with ((go_at_call 25; refine (kind_any _ _).mono ?_; rintro e' w' ⟨rfl, rfl⟩; rw [hk]))
        go_loop [6, 9] (fun i n => ∃ j m : Nat, i = .int .i64 (j : Nat) ∧ n = .int .i64 (m : Nat) ∧ p ≤ j ∧ j ≤ s.size ∧ runTo isDigit s.data.toList j = e ∧ capN (takeC isDigit (s.data.toList.drop j)) m = V ∧ m ≤ 10737418249) (fun i _ => s.size - (intOf i).toNat)
        case atStart => exact ⟨p, 0, rfl, rfl, Nat.le_refl _, hps, hre, by rw [hT]; exact hcap, by omega⟩
        case round =>
          clear hT hcap
          obtain ⟨j, m, rfl, rfl, hpj, hjs, hrj, hcj, hm⟩ := hrel
          by_cases hjz : j < s.size
          · have g1 : decide (j < s.size) = true := by simpa using hjz
            cases q5 : isDigit ((s[j]'hjz).toNat : Int) with
            | true =>
              have q6 := kind_digit q5
              rw [takeC_hit hjz q5, capN] at hcj
              have q7 := q5
              simp only [isDigit, Bool.and_eq_true, decide_eq_true_eq] at q7
              obtain ⟨q7, q8⟩ := q7
              by_cases hm2 : m ≤ 1073741824
              · rw [if_pos hm2] at hcj
                have g2 : decide (m ≤ 1073741824) = true := by simpa using hm2
                obtain ⟨d, hd⟩ : ∃ d : Nat, 10 * (m : Int) + ((s[j]'hjz).toNat : Int) - 48 = (d : Int) := ⟨10 * m + (s[j]'hjz).toNat - 48, by omega⟩
                have hd2 : 10 * m + (s[j]'hjz).toNat - 48 = d := by omega
                rw [hd2] at hcj
                clear hd2
                go_wp2_with ((go_at_call 25; refine (kind_any _ _).mono ?_; rintro e' w' ⟨rfl, rfl⟩; rw [q6]))
                refine ⟨⟨j + 1, d, by simp, rfl, by omega, by omega, ?_, hcj, by omega⟩, by simp [intOf]; omega⟩
                rw [← hrj, runTo_hit hjz q5]
              · rw [if_neg hm2] at hcj
                have g2 : decide (m ≤ 1073741824) = false := by simpa using hm2
                go_wp2_with ((go_at_call 25; refine (kind_any _ _).mono ?_; rintro e' w' ⟨rfl, rfl⟩; rw [q6]))
                refine ⟨⟨j + 1, m, by simp, rfl, by omega, by omega, ?_, hcj, by omega⟩, by simp [intOf]; omega⟩
                rw [← hrj, runTo_hit hjz q5]
            | false =>
              rcases kind_nodigit q5 with q6 | q6 | q6
              · skip
                have hje : j = e := by rw [← hrj, runTo_miss hjz q5]
                have hmV : m = V := by rw [takeC_miss hjz q5, capN] at hcj; exact hcj
                subst hmV
                clear hcj
                by_cases hbig : 1073741824 < m
                · rw [if_pos hbig] at hlex
                  have g2 : decide (1073741824 < m) = true := by simpa using hbig
                  clear hje
                  go_wp2_with (first | (go_at_call 25; refine (kind_any _ _).mono ?_; rintro e' w' ⟨rfl, rfl⟩; rw [q6]) | fail)
                  go_ret3
                  first | exact ⟨rfl, bel⟩ | (rw [hlex]; exact ⟨rfl, bel⟩)
                · rw [if_neg hbig] at hlex
                  have hT1 := hT1 hbig
                  have g2 : decide (1073741824 < m) = false := by simpa using hbig
                  have hxj : s.extract p j = ⟨T.toArray⟩ := by rw [hje]; exact hxe
                  have hpT : p + T.length = j := by omega
                  simp only [hpT] at hlex
                  clear hje
                  go_wp2_with (first | (go_at_call 25; refine (kind_any _ _).mono ?_; rintro e' w' ⟨rfl, rfl⟩; rw [q6]) | (at_builtin; refine append_sz rfl (.tmp 109) (.tmp 117) 23 rfl W.heap.size 34 (.agg #[.int .i64 0, .string ⟨#[]⟩, .int .i64 0, .int .i64 0]) 4 40 Tryd.underlying23 Tryd.info_tok rfl (by omega) _ ts.length (tokCells ts) rfl ?_ (some ⟨_, 0, none⟩) 1 1 [.int .i64 2, .string ⟨T.toArray⟩, .int .i64 (m : Nat), .int .i64 (p : Nat)] rfl ?_ ?_ ?_ ?_ ?_ ?_ ?_ ?_; exact own_belowS own ((Below.refl _ _).alloc (Nat.le_refl _) _); exact (fun h => nomatch h); exact rfl; (intro ad ha; obtain rfl := Option.some.inj ha; exact news_new _ _ _); (intro u hu; simp at hu; rcases hu with rfl | rfl | rfl | rfl <;> rfl); (unfold maxLen; omega); omega; (first | omega | (simp; try omega)); intro v2 w2 own2 bel2; have B2 : Below W.heap.size W w2 := (bel.alloc zb _).trans bel2; obtain ⟨a2, c2, rfl⟩ := own_sliceS own2))
                  refine ⟨⟨j, ts ++ [⟨2, T, m, p⟩], a2, c2, rfl, rfl, rfl, ?_, rfl, ?_, B2, ?_, hjs, ?_⟩, by simp [intOf]; omega⟩
                  · rw [List.length_append]; rfl
                  · rw [← tokCells_snoc, List.length_append]; exact own2
                  · rw [List.length_append]; show ts.length + 1 ≤ _; omega
                  · rw [hlex]; cases lexAt s.data.toList j <;> simp [Except.map]
              · skip
                have hje : j = e := by rw [← hrj, runTo_miss hjz q5]
                have hmV : m = V := by rw [takeC_miss hjz q5, capN] at hcj; exact hcj
                subst hmV
                clear hcj
                by_cases hbig : 1073741824 < m
                · rw [if_pos hbig] at hlex
                  have g2 : decide (1073741824 < m) = true := by simpa using hbig
                  clear hje
                  go_wp2_with (first | (go_at_call 25; refine (kind_any _ _).mono ?_; rintro e' w' ⟨rfl, rfl⟩; rw [q6]) | fail)
                  go_ret3
                  first | exact ⟨rfl, bel⟩ | (rw [hlex]; exact ⟨rfl, bel⟩)
                · rw [if_neg hbig] at hlex
                  have hT1 := hT1 hbig
                  have g2 : decide (1073741824 < m) = false := by simpa using hbig
                  have hxj : s.extract p j = ⟨T.toArray⟩ := by rw [hje]; exact hxe
                  have hpT : p + T.length = j := by omega
                  simp only [hpT] at hlex
                  clear hje
                  go_wp2_with (first | (go_at_call 25; refine (kind_any _ _).mono ?_; rintro e' w' ⟨rfl, rfl⟩; rw [q6]) | (at_builtin; refine append_sz rfl (.tmp 109) (.tmp 117) 23 rfl W.heap.size 34 (.agg #[.int .i64 0, .string ⟨#[]⟩, .int .i64 0, .int .i64 0]) 4 40 Tryd.underlying23 Tryd.info_tok rfl (by omega) _ ts.length (tokCells ts) rfl ?_ (some ⟨_, 0, none⟩) 1 1 [.int .i64 2, .string ⟨T.toArray⟩, .int .i64 (m : Nat), .int .i64 (p : Nat)] rfl ?_ ?_ ?_ ?_ ?_ ?_ ?_ ?_; exact own_belowS own ((Below.refl _ _).alloc (Nat.le_refl _) _); exact (fun h => nomatch h); exact rfl; (intro ad ha; obtain rfl := Option.some.inj ha; exact news_new _ _ _); (intro u hu; simp at hu; rcases hu with rfl | rfl | rfl | rfl <;> rfl); (unfold maxLen; omega); omega; (first | omega | (simp; try omega)); intro v2 w2 own2 bel2; have B2 : Below W.heap.size W w2 := (bel.alloc zb _).trans bel2; obtain ⟨a2, c2, rfl⟩ := own_sliceS own2))
                  refine ⟨⟨j, ts ++ [⟨2, T, m, p⟩], a2, c2, rfl, rfl, rfl, ?_, rfl, ?_, B2, ?_, hjs, ?_⟩, by simp [intOf]; omega⟩
                  · rw [List.length_append]; rfl
                  · rw [← tokCells_snoc, List.length_append]; exact own2
                  · rw [List.length_append]; show ts.length + 1 ≤ _; omega
                  · rw [hlex]; cases lexAt s.data.toList j <;> simp [Except.map]
              · skip
                have hje : j = e := by rw [← hrj, runTo_miss hjz q5]
                have hmV : m = V := by rw [takeC_miss hjz q5, capN] at hcj; exact hcj
                subst hmV
                clear hcj
                by_cases hbig : 1073741824 < m
                · rw [if_pos hbig] at hlex
                  have g2 : decide (1073741824 < m) = true := by simpa using hbig
                  clear hje
                  go_wp2_with (first | (go_at_call 25; refine (kind_any _ _).mono ?_; rintro e' w' ⟨rfl, rfl⟩; rw [q6]) | fail)
                  go_ret3
                  first | exact ⟨rfl, bel⟩ | (rw [hlex]; exact ⟨rfl, bel⟩)
                · rw [if_neg hbig] at hlex
                  have hT1 := hT1 hbig
                  have g2 : decide (1073741824 < m) = false := by simpa using hbig
                  have hxj : s.extract p j = ⟨T.toArray⟩ := by rw [hje]; exact hxe
                  have hpT : p + T.length = j := by omega
                  simp only [hpT] at hlex
                  clear hje
                  go_wp2_with (first | (go_at_call 25; refine (kind_any _ _).mono ?_; rintro e' w' ⟨rfl, rfl⟩; rw [q6]) | (at_builtin; refine append_sz rfl (.tmp 109) (.tmp 117) 23 rfl W.heap.size 34 (.agg #[.int .i64 0, .string ⟨#[]⟩, .int .i64 0, .int .i64 0]) 4 40 Tryd.underlying23 Tryd.info_tok rfl (by omega) _ ts.length (tokCells ts) rfl ?_ (some ⟨_, 0, none⟩) 1 1 [.int .i64 2, .string ⟨T.toArray⟩, .int .i64 (m : Nat), .int .i64 (p : Nat)] rfl ?_ ?_ ?_ ?_ ?_ ?_ ?_ ?_; exact own_belowS own ((Below.refl _ _).alloc (Nat.le_refl _) _); exact (fun h => nomatch h); exact rfl; (intro ad ha; obtain rfl := Option.some.inj ha; exact news_new _ _ _); (intro u hu; simp at hu; rcases hu with rfl | rfl | rfl | rfl <;> rfl); (unfold maxLen; omega); omega; (first | omega | (simp; try omega)); intro v2 w2 own2 bel2; have B2 : Below W.heap.size W w2 := (bel.alloc zb _).trans bel2; obtain ⟨a2, c2, rfl⟩ := own_sliceS own2))
                  refine ⟨⟨j, ts ++ [⟨2, T, m, p⟩], a2, c2, rfl, rfl, rfl, ?_, rfl, ?_, B2, ?_, hjs, ?_⟩, by simp [intOf]; omega⟩
                  · rw [List.length_append]; rfl
                  · rw [← tokCells_snoc, List.length_append]; exact own2
                  · rw [List.length_append]; show ts.length + 1 ≤ _; omega
                  · rw [hlex]; cases lexAt s.data.toList j <;> simp [Except.map]
          · have g1 : decide (j < s.size) = false := by simpa using hjz
            have hje : j = e := by rw [← hrj, runTo_end hjz]
            have hmV : m = V := by rw [takeC_end hjz, capN] at hcj; exact hcj
            subst hmV
            clear hcj
            by_cases hbig : 1073741824 < m
            · rw [if_pos hbig] at hlex
              have g2 : decide (1073741824 < m) = true := by simpa using hbig
              clear hje
              go_wp2_with (first | fail | fail)
              go_ret3
              first | exact ⟨rfl, bel⟩ | (rw [hlex]; exact ⟨rfl, bel⟩)
            · rw [if_neg hbig] at hlex
              have hT1 := hT1 hbig
              have g2 : decide (1073741824 < m) = false := by simpa using hbig
              have hxj : s.extract p j = ⟨T.toArray⟩ := by rw [hje]; exact hxe
              have hpT : p + T.length = j := by omega
              simp only [hpT] at hlex
              clear hje
              go_wp2_with (first | fail | (at_builtin; refine append_sz rfl (.tmp 109) (.tmp 117) 23 rfl W.heap.size 34 (.agg #[.int .i64 0, .string ⟨#[]⟩, .int .i64 0, .int .i64 0]) 4 40 Tryd.underlying23 Tryd.info_tok rfl (by omega) _ ts.length (tokCells ts) rfl ?_ (some ⟨_, 0, none⟩) 1 1 [.int .i64 2, .string ⟨T.toArray⟩, .int .i64 (m : Nat), .int .i64 (p : Nat)] rfl ?_ ?_ ?_ ?_ ?_ ?_ ?_ ?_; exact own_belowS own ((Below.refl _ _).alloc (Nat.le_refl _) _); exact (fun h => nomatch h); exact rfl; (intro ad ha; obtain rfl := Option.some.inj ha; exact news_new _ _ _); (intro u hu; simp at hu; rcases hu with rfl | rfl | rfl | rfl <;> rfl); (unfold maxLen; omega); omega; (first | omega | (simp; try omega)); intro v2 w2 own2 bel2; have B2 : Below W.heap.size W w2 := (bel.alloc zb _).trans bel2; obtain ⟨a2, c2, rfl⟩ := own_sliceS own2))
              refine ⟨⟨j, ts ++ [⟨2, T, m, p⟩], a2, c2, rfl, rfl, rfl, ?_, rfl, ?_, B2, ?_, hjs, ?_⟩, by simp [intOf]; omega⟩
              · rw [List.length_append]; rfl
              · rw [← tokCells_snoc, List.length_append]; exact own2
              · rw [List.length_append]; show ts.length + 1 ≤ _; omega
              · rw [hlex]; cases lexAt s.data.toList j <;> simp [Except.map]
      | false =>
        rw [q4, if_neg (by decide)] at he
        have hk : kindOf ((s[p]'hpz).toNat : Int) = 3 := by unfold kindOf; rw [q1, q3, q4]; rfl
        obtain ⟨R, hR⟩ : ∃ R, s.data.toList.drop p = R := ⟨_, rfl⟩
        rw [hR] at he hlex
        have nR : s.size - p = R.length := by rw [← hR, List.length_drop, hsz]
        have hR1 : 1 ≤ R.length := by omega
        have HR := Lib.hid hR
        clear hR
        go_wp2_with ((first | (go_at_call 25; refine (kind_any _ _).mono ?_; rintro e' w' ⟨rfl, rfl⟩; rw [hk]) | fail))
        refine (refSigns_any _).mono ?_
        rintro e w2 ⟨⟨v, rfl, ownS⟩, b2⟩
        obtain ⟨g, cap, rfl, ss⟩ := strs_own ownS (by omega)
        have zb0 := zb
        replace own := own_belowS own b2
        have bel0 := bel
        replace bel := bel.trans (b2.mono zb)
        replace zb := bel.size
        clear ownS
        go_wp2_with fail
        go_loopw [11, 12] (fun t i w' => ∃ (j : Nat) (S : List UInt8), i = .int .i64 (j : Nat) ∧ t = .string ⟨S.toArray⟩ ∧ j ≤ 22 ∧ ((S = [] ∧ signOf R = signFrom R j) ∨ (S ≠ [] ∧ signOf R = S)) ∧ Below w2.heap.size w2 w') (fun _ i _ => 22 - (intOf i).toNat)
        case atStart => exact ⟨0, [], rfl, rfl, by omega, .inl ⟨rfl, rfl⟩, Below.refl _ _⟩
        case round =>
          obtain ⟨j, S, rfl, rfl, hj, hcase, bel3⟩ := hrel
          replace own := own_belowS own bel3
          replace bel := bel.trans (bel3.mono zb)
          have ss3 := ss.mono bel3
          have ls := ss3.lt
          have zb := bel.size
          rcases hcase with ⟨rfl, hfrom⟩ | ⟨hne, hof⟩
          · by_cases hjl : j < 22
            · have g1 : decide (j < 22) = true := by simpa using hjl
              obtain ⟨S, hS⟩ : ∃ S, signL[j]? = some S := ⟨_, List.getElem?_eq_getElem (show j < signL.length from hjl)⟩
              have mS := List.mem_of_getElem? hS
              have cS := ss3.at_ j S hS
              have sS := arr_size S
              have nS := sign_len S mS
              have neS := sign_ne S mS
              have g6 : IntKind.i64.wrap (S.length : Int) = (S.length : Int) := IntWalk.i64_in _ (by omega)
              have g7 : IntKind.i64.wrap ((s.size : Int) - (p : Int)) = (R.length : Int) := by rw [IntWalk.i64_in _ (by omega)]; omega
              have g7' : (s.size : Int) - (p : Int) = (R.length : Int) := by omega
              obtain ⟨q, hq⟩ : ∃ q, p + S.length = q := ⟨_, rfl⟩
              have hqi : (p : Int) + (S.length : Int) = (q : Int) := by omega
              cases hpre : S.isPrefixOf R with
              | true =>
                have hfr : signOf R = S := by rw [hfrom, signFrom_hit hS hpre]
                obtain ⟨l1, l2⟩ := prefix_take hpre
                have g4 : decide (S.length ≤ R.length) = true := by simpa using l1
                have hqs : q ≤ s.size := by omega
                have hex := extract_at (s := s) (p := p) (m := S.length) (t := S) (by rw [HR.out]; exact l2)
                rw [hq] at hex
                have hsl := fun wx => slice_str s p q (by omega) hqs wx
                rw [hex] at hsl
                clear hS mS hq l2 hpre hfrom
                go_wp2_with fail
                go_quiet (fail)
                go_wp2_with fail
                exact ⟨⟨j + 1, S, by simp, rfl, by omega, .inr ⟨neS, hfr⟩, bel3.trans (below_drewN (Below.refl _ _) _)⟩, by simp [intOf]; omega⟩
              | false =>
                have hfr : signOf R = signFrom R (j + 1) := by rw [hfrom, signFrom_miss hS hpre]
                by_cases l1 : S.length ≤ R.length
                · have g4 : decide (S.length ≤ R.length) = true := by simpa using l1
                  have hqs : q ≤ s.size := by omega
                  have hne := prefix_no hpre l1
                  have hex := extract_at (s := s) (p := p) (m := S.length) (t := R.take S.length) (by rw [HR.out])
                  rw [hq] at hex
                  have hsl := fun wx => slice_str s p q (by omega) hqs wx
                  rw [hex] at hsl
                  have g5 : (R.take S.length == S) = false := beq_eq_false_iff_ne.2 hne
                  have g8 : ((⟨(R.take S.length).toArray⟩ : ByteArray).toList == (⟨S.toArray⟩ : ByteArray).toList) = false := by
                    rw [ByteArray.toList_mk, ByteArray.toList_mk]
                    exact g5
                  clear hS mS hq hne hpre hfrom
                  go_wp2_with fail
                  go_quiet (fail)
                  go_wp2_with fail
                  exact ⟨⟨j + 1, [], by simp, rfl, by omega, .inl ⟨rfl, hfr⟩, bel3.trans (below_drewN (Below.refl _ _) _)⟩, by simp [intOf]; omega⟩
                · have g4 : decide (S.length ≤ R.length) = false := by simpa using l1
                  clear hS mS hq hpre hfrom
                  go_wp2_with fail
                  go_quiet (fail)
                  go_wp2_with fail
                  exact ⟨⟨j + 1, [], by simp, rfl, by omega, .inl ⟨rfl, hfr⟩, bel3.trans (below_drewN (Below.refl _ _) _)⟩, by simp [intOf]; omega⟩
            · have g1 : decide (j < 22) = false := by simpa using hjl
              obtain rfl : j = 22 := by omega
              rw [signFrom_end] at hfrom
              rw [if_pos hfrom] at he
              rw [he] at hlex
              clear hfrom
              go_wp2_with fail
              go_ret3
              first | exact ⟨rfl, bel⟩ | (rw [hlex]; exact ⟨rfl, bel⟩)
          · have g1 : S.isEmpty = false := by cases S with | nil => exact absurd rfl hne | cons => rfl
            have g9 : 1 ≤ S.length := List.length_pos_iff.2 hne
            have mS : S ∈ signL := by rw [← hof]; exact signOf_mem (by rw [hof]; exact hne)
            have nS := sign_len S mS
            have sS := arr_size S
            rw [hof, if_neg hne] at he
            rw [he] at hlex
            have lS : S.length ≤ R.length := by rw [← hof]; exact signOf_le R
            obtain ⟨q, hq⟩ : ∃ q, p + S.length = q := ⟨_, rfl⟩
            have hqi : (p : Int) + (S.length : Int) = (q : Int) := by omega
            simp only [hq] at hlex
            have hqs : q ≤ s.size := by omega
            clear mS hof he hne
            by_cases hjl : j < 22
            · have g2 : decide (j < 22) = true := by simpa using hjl
              go_wp2_with (first | fail | (at_builtin; refine append_sz rfl (.tmp 164) (.tmp 168) 23 rfl W.heap.size 34 (.agg #[.int .i64 0, .string ⟨#[]⟩, .int .i64 0, .int .i64 0]) 4 40 Tryd.underlying23 Tryd.info_tok rfl (by omega) _ ts.length (tokCells ts) rfl ?_ (some ⟨_, 0, none⟩) 1 1 [.int .i64 3, .string ⟨S.toArray⟩, .int .i64 0, .int .i64 (p : Nat)] rfl ?_ ?_ ?_ ?_ ?_ ?_ ?_ ?_; exact own_belowS own ((Below.refl _ _).alloc (Nat.le_refl _) _); exact (fun h => nomatch h); exact rfl; (intro ad ha; obtain rfl := Option.some.inj ha; exact news_new _ _ _); (intro u hu; simp at hu; rcases hu with rfl | rfl | rfl | rfl <;> rfl); (unfold maxLen; omega); omega; (first | omega | (simp; try omega)); intro v2 w2 own2 bel2; have B2 : Below W.heap.size W w2 := (bel.alloc zb _).trans bel2; obtain ⟨a2, c2, rfl⟩ := own_sliceS own2))
              refine ⟨⟨q, ts ++ [⟨3, S, 0, p⟩], a2, c2, rfl, rfl, rfl, ?_, rfl, ?_, B2, ?_, hqs, ?_⟩, by simp [intOf]; omega⟩
              · rw [List.length_append]; rfl
              · rw [← tokCells_snoc, List.length_append]; exact own2
              · rw [List.length_append]; show ts.length + 1 ≤ _; omega
              · rw [hlex]; cases lexAt s.data.toList q <;> simp [Except.map]
            · have g2 : decide (j < 22) = false := by simpa using hjl
              go_wp2_with (first | fail | (at_builtin; refine append_sz rfl (.tmp 164) (.tmp 168) 23 rfl W.heap.size 34 (.agg #[.int .i64 0, .string ⟨#[]⟩, .int .i64 0, .int .i64 0]) 4 40 Tryd.underlying23 Tryd.info_tok rfl (by omega) _ ts.length (tokCells ts) rfl ?_ (some ⟨_, 0, none⟩) 1 1 [.int .i64 3, .string ⟨S.toArray⟩, .int .i64 0, .int .i64 (p : Nat)] rfl ?_ ?_ ?_ ?_ ?_ ?_ ?_ ?_; exact own_belowS own ((Below.refl _ _).alloc (Nat.le_refl _) _); exact (fun h => nomatch h); exact rfl; (intro ad ha; obtain rfl := Option.some.inj ha; exact news_new _ _ _); (intro u hu; simp at hu; rcases hu with rfl | rfl | rfl | rfl <;> rfl); (unfold maxLen; omega); omega; (first | omega | (simp; try omega)); intro v2 w2 own2 bel2; have B2 : Below W.heap.size W w2 := (bel.alloc zb _).trans bel2; obtain ⟨a2, c2, rfl⟩ := own_sliceS own2))
              refine ⟨⟨q, ts ++ [⟨3, S, 0, p⟩], a2, c2, rfl, rfl, rfl, ?_, rfl, ?_, B2, ?_, hqs, ?_⟩, by simp [intOf]; omega⟩
              · rw [List.length_append]; rfl
              · rw [← tokCells_snoc, List.length_append]; exact own2
              · rw [List.length_append]; show ts.length + 1 ≤ _; omega
              · rw [hlex]; cases lexAt s.data.toList q <;> simp [Except.map]
    · have f1 : decide (p < s.size) = false := by simpa using hpz
      obtain rfl : p = s.size := by omega
      rw [← hsz, lexAt_end, hsz] at hlex
      go_wp2_with (first | fail | (at_builtin; refine append_sz rfl (.tmp 174) (.tmp 178) 23 rfl W.heap.size 34 (.agg #[.int .i64 0, .string ⟨#[]⟩, .int .i64 0, .int .i64 0]) 4 40 Tryd.underlying23 Tryd.info_tok rfl (by omega) _ ts.length (tokCells ts) rfl ?_ (some ⟨_, 0, none⟩) 1 1 [.int .i64 4, .string ⟨#[]⟩, .int .i64 0, .int .i64 (s.size : Nat)] rfl ?_ ?_ ?_ ?_ ?_ ?_ ?_ ?_; exact own_belowS own ((Below.refl _ _).alloc (Nat.le_refl _) _); exact (fun h => nomatch h); exact rfl; (intro ad ha; obtain rfl := Option.some.inj ha; exact news_new _ _ _); (intro u hu; simp at hu; rcases hu with rfl | rfl | rfl | rfl <;> rfl); (unfold maxLen; omega); omega; (first | omega | (simp; try omega)); intro v2 w2 own2 bel2; have B2 : Below W.heap.size W w2 := (bel.alloc zb _).trans bel2; obtain ⟨a2, c2, rfl⟩ := own_sliceS own2))
      go_ret3
      rw [hlex]
      refine ⟨⟨_, rfl, ?_⟩, B2⟩
      rw [← tokCells_snoc, List.length_append]
      exact own2
    end Go.Proofs.YtcljdlkebaflpaaDoor
