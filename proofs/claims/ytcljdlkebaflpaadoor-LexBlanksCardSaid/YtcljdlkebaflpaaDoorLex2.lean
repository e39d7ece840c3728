/- Contracts of lex.run, sign, number. -/
import Derived.Test.YtcljdlkebaflpaaDoorLex1
import Derived.LoopTactic
namespace Go.Proofs.YtcljdlkebaflpaaDoor
open Go.RowKit
set_option linter.unusedVariables false

/-- Where those bytes end that begin at a place. -/
def runTo (p : Int → Bool) (l : List UInt8) (i : Nat) : Nat := i + ((l.drop i).takeWhile fun c => p (c.toNat : Int)).length
theorem runTo_hit {p : Int → Bool} {s : ByteArray} {i : Nat} (h : i < s.size) (hp : p ((s[i]'h).toNat : Int) = true) : runTo p s.data.toList i = runTo p s.data.toList (i + 1) := by
  unfold runTo
  have h2 : i < s.data.toList.length := by simpa using h
  rw [List.drop_eq_getElem_cons h2, List.takeWhile_cons]
  have e : s.data.toList[i] = s[i]'h := by simp; rfl
  rw [e, hp]
  simp
  omega
theorem runTo_miss {p : Int → Bool} {s : ByteArray} {i : Nat} (h : i < s.size) (hp : p ((s[i]'h).toNat : Int) = false) : runTo p s.data.toList i = i := by
  unfold runTo
  have h2 : i < s.data.toList.length := by simpa using h
  rw [List.drop_eq_getElem_cons h2, List.takeWhile_cons]
  have e : s.data.toList[i] = s[i]'h := by simp; rfl
  rw [e, hp]
  simp
theorem runTo_end {p : Int → Bool} {s : ByteArray} {i : Nat} (h : ¬ i < s.size) : runTo p s.data.toList i = i := by
  unfold runTo
  rw [List.drop_eq_nil_of_le (by simp; exact Nat.not_lt.1 h)]
  simp
theorem run_gen (w : World) (s : ByteArray) (n : Nat) (K : FuncId) (p : Int → Bool) (hK : ∀ args w, (callFunc K args).run Tryd.prog w = .ok (.enter K args) w)
    (hp : ∀ w c, Calls Tryd.prog K #[.int .u8 c] w fun e w' => e = .returned (.bool (p c)) ∧ w = w') (hn : n ≤ s.size) (hs : s.size ≤ 9223372036854775807) :
    Calls Tryd.prog 18 #[.string s, .int .i64 (n : Nat), .func (.func K) #[] #[]] w fun e w' => e = .returned (.int .i64 (runTo p s.data.toList n : Nat)) ∧ w = w' := by
  go_enter Tryd.func18, Tryd.ntmps18
  go_wp2
  go_loop [1] (fun x => ∃ i : Nat, x = .int .i64 (i : Nat) ∧ i ≤ s.size ∧ runTo p s.data.toList i = runTo p s.data.toList n) (fun x => s.size - (intOf x).toNat)
  case atStart => exact ⟨n, rfl, hn, rfl⟩
  case round =>
    obtain ⟨i, rfl, hi, hr⟩ := hrel
    by_cases hlt : i < s.size
    · have d1 : decide (i < s.size) = true := by simpa using hlt
      cases hc : p ((s[i]'hlt).toNat : Int)
      · go_wp2_with ((first | (go_at_fn K; refine (hp _ _).mono ?_; rintro e w' ⟨rfl, rfl⟩; rw [hc])))
        go_ret
        rw [← hr, runTo_miss hlt hc]
        exact ⟨rfl, rfl⟩
      · go_wp2_with ((first | (go_at_fn K; refine (hp _ _).mono ?_; rintro e w' ⟨rfl, rfl⟩; rw [hc])))
        refine ⟨⟨i + 1, by simp, by omega, ?_⟩, ?_⟩
        · rw [← hr, runTo_hit hlt hc]
        · simp [intOf]; omega
    · have d1 : decide (i < s.size) = false := by simpa using hlt
      go_wp2
      go_ret
      rw [← hr, runTo_end hlt]
      exact ⟨rfl, rfl⟩
theorem run_line (w : World) (s : ByteArray) (n : Nat) (hn : n ≤ s.size) (hs : s.size ≤ 9223372036854775807) :
    Calls Tryd.prog 18 #[.string s, .int .i64 (n : Nat), .func (.func 19) #[] #[]] w fun e w' => e = .returned (.int .i64 (runTo (fun c => c != 10) s.data.toList n : Nat)) ∧ w = w' :=
  run_gen w s n _ _ (enters_of Tryd.func19 (by kernel_rfl) rfl) noline_any hn hs
theorem run_name (w : World) (s : ByteArray) (n : Nat) (hn : n ≤ s.size) (hs : s.size ≤ 9223372036854775807) :
    Calls Tryd.prog 18 #[.string s, .int .i64 (n : Nat), .func (.func 23) #[] #[]] w fun e w' => e = .returned (.int .i64 (runTo (fun c => isLetter c || isDigit c) s.data.toList n : Nat)) ∧ w = w' :=
  run_gen w s n _ _ (enters_of Tryd.func23 (by kernel_rfl) rfl) inname_any hn hs
theorem run_digit (w : World) (s : ByteArray) (n : Nat) (hn : n ≤ s.size) (hs : s.size ≤ 9223372036854775807) :
    Calls Tryd.prog 18 #[.string s, .int .i64 (n : Nat), .func (.func 21) #[] #[]] w fun e w' => e = .returned (.int .i64 (runTo isDigit s.data.toList n : Nat)) ∧ w = w' :=
  run_gen w s n _ _ (enters_of Tryd.func21 (by kernel_rfl) rfl) digit_any hn hs
theorem runTo_le {p : Int → Bool} {l : List UInt8} {i : Nat} (h : i ≤ l.length) : runTo p l i ≤ l.length := by
  unfold runTo
  have := (List.takeWhile_sublist (l := l.drop i) (fun c => p (c.toNat : Int))).length_le
  simp at this
  omega
theorem runTo_ge (p : Int → Bool) (l : List UInt8) (i : Nat) : i ≤ runTo p l i := by unfold runTo; omega

/-- The signs. -/
def signL : List (List UInt8) := [[60, 45, 62], [45, 62], [61, 61], [33, 61], [60, 61], [62, 61], [60], [62], [61], [43], [45], [42], [40], [41], [123], [125], [59], [44], [58], [38], [124], [33]]
def signA (i : Nat) : ByteArray := ⟨(signL.getD i []).toArray⟩
def signCells : Array Value := (signL.map fun l => Value.string ⟨l.toArray⟩).toArray
/-- The package's variable holds the signs. -/
def Signed (w : World) : Prop := 0 < w.heap.size ∧ ∃ t fr, w.heap[0]? = some (.cells signCells t fr)
theorem Signed.mono {w w' : World} (h : Signed w) (hb : Below w.heap.size w w') : Signed w' := by
  obtain ⟨h0, t, fr, h⟩ := h
  exact ⟨Nat.lt_of_lt_of_le h0 hb.size, t, fr, (hb.block 0 h0).trans h⟩
theorem signCells_at (i : Nat) (h : i < 22) (w : World) : (Instr.index 46 (.agg signCells) (.int .i64 (i : Nat))).run Tryd.prog w = .ok (.string (signA i)) w := by
  have hu := Tryd.underlying46
  have h2 : signCells[i]? = some (.string (signA i)) := by
    have hz : i < signL.length := h
    simp [signCells, signA, hz]
  have hi : (Tryd.prog.info? 9).map (·.size) = some 1 := by kernel_rfl
  obtain ⟨q, hq, hqs⟩ : ∃ q, Tryd.prog.info? 9 = some q ∧ q.size = 1 := by
    cases hq : Tryd.prog.info? 9 with
    | none => rw [hq] at hi; simp at hi
    | some q => rw [hq] at hi; exact ⟨q, rfl, by simpa using hi⟩
  simp [Instr.index, run_underlying hu, Sem.run_bind, h2, go_sem]
  have h3 : (i : Int) < 22 := by omega
  intro h9
  omega
/-- The sign that stands at the beginning of bytes, or nothing. -/
def signOf (l : List UInt8) : List UInt8 := (signL.find? fun s => s.isPrefixOf l).getD []
theorem sign_any (w : World) (s : ByteArray) (hw : Signed w) :
    Calls Tryd.prog 22 #[.string s] w fun e w' => e = .returned (.string ⟨(signOf s.data.toList).toArray⟩) ∧ w = w' := by
  obtain ⟨h0, t, fr, hg⟩ := hw
  go_enter Tryd.func22, Tryd.ntmps22
  go_wp2_with ((refine wpList_load_row rfl 46 _ rfl 0 rfl t signCells fr _ hg Tryd.underlying46 rfl (by kernel_rfl) ?_))
  go_loop [6] (fun x => ∃ i : Nat, x = .int .i64 (i : Nat) ∧ i ≤ 22 ∧ signOf s.data.toList = ((signL.drop i).find? fun y => y.isPrefixOf s.data.toList).getD []) (fun x => 22 - (intOf x).toNat)
  case atStart => exact ⟨0, rfl, by omega, rfl⟩
  case round =>
    obtain ⟨i, rfl, hi, hr⟩ := hrel
    by_cases hlt : i < 22
    · have d1 : decide (i < 22) = true := by simpa using hlt
      have hix := signCells_at i hlt
      have hz : i < signL.length := hlt
      have he : (signA i).data.toList = signL[i] := by simp [signA, hz]
      rw [List.drop_eq_getElem_cons hz, List.find?_cons] at hr
      cases hc : Lib.hasPrefix s.data.toList (signA i).data.toList
      · go_wp2_with ((first | (go_at_call 26; refine (Tryd.strings_HasPrefix _ _ _).mono ?_; rintro e w' ⟨rfl, rfl⟩; rw [hc])))
        have hc' : signL[i].isPrefixOf s.data.toList = false := by rw [← he]; exact hc
        rw [hc'] at hr
        exact ⟨⟨i + 1, by simp, by omega, hr⟩, by simp [intOf]; omega⟩
      · go_wp2_with ((first | (go_at_call 26; refine (Tryd.strings_HasPrefix _ _ _).mono ?_; rintro e w' ⟨rfl, rfl⟩; rw [hc])))
        have hc' : signL[i].isPrefixOf s.data.toList = true := by rw [← he]; exact hc
        rw [hc'] at hr
        go_ret
        rw [hr]
        exact ⟨by simp [signA, hz], rfl⟩
    · have d1 : decide (i < 22) = false := by simpa using hlt
      go_wp2
      obtain rfl : i = 22 := by omega
      go_ret
      exact ⟨rfl, rfl⟩
/-- What number computes. -/
def numTo : List UInt8 → Nat → Nat
  | [], n => n
  | c :: r, n => if 1073741824 < n * 10 + (c.toNat - 48) then n * 10 + (c.toNat - 48) else numTo r (n * 10 + (c.toNat - 48))
theorem number_any (w : World) (s : ByteArray) (hd : ∀ c ∈ s.data.toList, isDigit (c.toNat : Int) = true) :
    Calls Tryd.prog 24 #[.string s] w fun e w' => e = .returned (.int .i64 (numTo s.data.toList 0 : Nat)) ∧ Below w.heap.size w w' := by
  have bb : ∀ pos, Below w.heap.size w (w.iter s pos) := fun pos => (Below.refl _ _).alloc (Nat.le_refl _) _
  go_enter Tryd.func24, Tryd.ntmps24
  go_wp2
  go_loopw [3] (fun x w' => ∃ (pos n : Nat), w' = w.iter s pos ∧ x = .int .i64 (n : Nat) ∧ numTo (s.data.toList.drop pos) n = numTo s.data.toList 0 ∧ pos ≤ s.size ∧ n ≤ 1073741824) (fun _ w' => s.size - w'.iterPos w.heap.size)
  case atStart => exact ⟨0, 0, rfl, rfl, rfl, by omega, by omega⟩
  case round =>
    obtain ⟨pos, n, rfl, rfl, hc, hb, hn⟩ := hrel
    by_cases hp : pos < s.size
    · have hz : pos < s.data.toList.length := by simpa using hp
      have e : s.data.toList[pos] = s[pos]'hp := by simp; rfl
      have hdig := hd _ (List.getElem_mem hz)
      rw [e] at hdig
      simp [isDigit] at hdig
      rw [List.drop_eq_getElem_cons hz, e, numTo] at hc
      have hnx := fun ty => run_next_ascii (P := Tryd.prog) w s pos ty hp (by omega)
      obtain ⟨d, hdd⟩ : ∃ d : Nat, ((s[pos]'hp).toNat : Int) = ((d + 48 : Nat) : Int) := ⟨(s[pos]'hp).toNat - 48, by omega⟩
      have hd9 : d ≤ 9 := by omega
      have hd2 : (s[pos]'hp).toNat - 48 = d := by omega
      rw [hd2] at hc
      rw [hdd] at hnx
      by_cases hbig : 1073741824 < n * 10 + d
      · rw [if_pos hbig] at hc
        have d1 : decide ((1073741824 : Int) < (n : Int) * 10 + (d : Int)) = true := by simp; omega
        go_wp2
        go_ret
        refine ⟨?_, bb _⟩
        rw [← hc]
        simp
      · rw [if_neg hbig] at hc
        have d1 : decide ((1073741824 : Int) < (n : Int) * 10 + (d : Int)) = false := by simp; omega
        go_wp2
        refine ⟨⟨pos + 1, n * 10 + d, rfl, by simp, hc, by omega, by omega⟩, ?_⟩
        simp
        omega
    · have hnx := fun ty => run_next_end (P := Tryd.prog) w s pos ty hp
      go_wp2
      go_ret
      refine ⟨?_, bb _⟩
      rw [← hc, List.drop_eq_nil_of_le (by simp; omega), numTo]
      rfl
end Go.Proofs.YtcljdlkebaflpaaDoor
