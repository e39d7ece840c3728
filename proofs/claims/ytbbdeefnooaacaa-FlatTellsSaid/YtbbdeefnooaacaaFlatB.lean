/- The plain store: Set, Get (by gen06b.py). -/
import Derived.Test.YtbbdeefnooaacaaFlatA
namespace Go.Proofs.Ytbbdeefnooaacaa
open Go.RowKit
set_option linter.unusedVariables false
set_option linter.unusedSimpArgs false

/-- A row with a flag set. -/
def Marked (L L' : List Nat) (p f : Nat) : Prop := (∀ q g, g < 2 → hasB L' q g = (hasB L q g || (decide (q = p) && decide (g = f)))) ∧ L'.length ≤ max L.length (p + 1)
theorem set1_any (w : World) (fa : Option Addr) (fl fc : Nat) (L : List Nat) (h : BytesAt w fa fl fc L) (p f : Nat) (hf : f < 2) (hp : p < 1048576) (hl6 : fl ≤ 1048576) (g3 g5 g8 : Nat) (v8 : Value) (h3 : w.cell? ⟨g3, 3, none⟩ = some (.slice fa fl fc)) (h5 : w.cell? ⟨g5, 0, none⟩ = some (.int .i64 (f : Nat))) (c0 c1 c2 : Value) (h8 : w.heap[g8]? = some (.cells #[c0, c1, c2, v8] 31 (0, 0))) :
    Calls Try.prog 22 #[.int .i64 (p : Nat), .pointer (some ⟨g3, 0, none⟩), .pointer (some ⟨g5, 0, none⟩), .pointer (some ⟨g8, 0, none⟩)] w fun e w' => e = .returned (.tuple #[]) ∧ ∃ (a' : Option Addr) (l' c' : Nat) (L' : List Nat) (W5 : World), Below w.heap.size w W5 ∧ BytesAt W5 a' l' c' L' ∧ Marked L L' p f ∧ w' = W5.setCell ⟨g8, 3, none⟩ (.slice a' l' c') := by
  go_enter Try.func22, Try.ntmps22
  go_wp2_with fail
  refine (with_any w fa fl fc L h p f hf hp hl6).mono ?_
  rintro e w1 ⟨⟨a', l', c', L', rfl, hL, hm1, hm2⟩, b1⟩
  have g8' := (b1.block g8 (Array.getElem?_eq_some_iff.1 h8).1).trans h8
  have k3 := cell_of_row _ _ 3 _ _ _ g8'
  simp only [List.getElem?_toArray, List.getElem?_cons_zero, List.getElem?_cons_succ] at k3
  have f3 := frozen_of_row w1 _ 3 _ _ g8'
  have HM := Lib.hid (show Marked L L' p f from ⟨hm1, hm2⟩)
  clear hm1 hm2
  go_wp2_with fail
  go_end0
  exact ⟨rfl, a', l', c', L', w1, b1, hL, HM.out, rfl⟩
theorem get1_any (w : World) (fa : Option Addr) (fl fc : Nat) (L : List Nat) (h : BytesAt w fa fl fc L) (p f : Nat) (hf : f < 2) (hp : p ≤ 1048576) (g3 g5 g8 : Nat) (v8 : Value) (h3 : w.cell? ⟨g3, 3, none⟩ = some (.slice fa fl fc)) (h5 : w.cell? ⟨g5, 0, none⟩ = some (.int .i64 (f : Nat))) (h8 : w.heap[g8]? = some (.cells #[v8] 4 (0, 0))) :
    Calls Try.prog 24 #[.int .i64 (p : Nat), .pointer (some ⟨g3, 0, none⟩), .pointer (some ⟨g5, 0, none⟩), .pointer (some ⟨g8, 0, none⟩)] w fun e w' => e = .returned (.tuple #[]) ∧ ∃ (W5 : World), Below w.heap.size w W5 ∧ w' = W5.setCell ⟨g8, 0, none⟩ (.bool (hasB L p f)) := by
  go_enter Try.func24, Try.ntmps24
  go_wp2_with fail
  refine (has_any w fa fl fc L h p f hf hp).mono ?_
  rintro e w1 ⟨rfl, b1⟩
  have g8' := (b1.block g8 (Array.getElem?_eq_some_iff.1 h8).1).trans h8
  have k3 := cell_of_row _ _ 0 _ _ _ g8'
  simp only [List.getElem?_toArray, List.getElem?_cons_zero, List.getElem?_cons_succ] at k3
  have f3 := frozen_of_row w1 _ 0 _ _ g8'
  go_wp2_with fail
  go_end0
  exact ⟨rfl, w1, b1, rfl⟩
theorem flagged_bad (w : World) (cap : Int) (ka : Option Addr) (n kc : Nat) (sa : Option Addr) (sl sc : Nat) (v : Value) (ya : Option Addr) (yl yc : Nat) (f : Int) (hf : f < 0 ∨ 1 < f) (act : Value) :
    Calls Try.prog 21 #[.agg #[.int .i64 cap, .slice ka n kc, .slice sa sl sc, v], .slice ya yl yc, .int .i64 f, act] w fun e w' => e = .returned (.int .i64 1) ∧ Below w.heap.size w w' := by
  go_enter Try.func21, Try.ntmps21
  go_wp2_with fail
  refine (right_bad _ f hf).mono ?_
  rintro e w1 ⟨rfl, rfl⟩
  go_wp2_with fail
  go_ret
  exact ⟨rfl, (Below.refl _ _).alloc (Nat.le_refl _) _⟩
theorem flagged_none (w : World) (cap : Int) (ka : Option Addr) (n kc : Nat) (sa : Option Addr) (sl sc : Nat) (v : Value) (ks : List (List Nat)) (s : List Int) (rs : List (Nat × Nat)) (h : TabR w ka n sa sl ks s rs) (ya : Option Addr) (yl yc : Nat) (key : List Nat) (hk : BytesAt w ya yl yc key) (f : Nat) (hf : f < 2) (act : Value) (hm : key ∉ ks) :
    Calls Try.prog 21 #[.agg #[.int .i64 cap, .slice ka n kc, .slice sa sl sc, v], .slice ya yl yc, .int .i64 (f : Nat), act] w fun e w' => e = .returned (.int .i64 10) ∧ Below w.heap.size w w' := by
  have b1 : Below w.heap.size w (w.alloc (.cells #[.int .i64 cap, .slice ka n kc, .slice sa sl sc, v] 31)) := (Below.refl _ _).alloc (Nat.le_refl _) _
  go_enter Try.func21, Try.ntmps21
  go_wp2_with fail
  refine (right_ok _ f hf).mono ?_
  rintro e w1 ⟨rfl, rfl⟩
  go_wp2_with fail
  refine (find_le _ cap ka n kc sa sl sc ks s rs (h.mono b1) ya yl yc key (hk.mono b1)).mono ?_
  rintro e w2 ⟨⟨p, rfl, h1, h2⟩, b2⟩
  rw [decide_eq_false hm]
  clear h1 h2
  go_wp2_with fail
  go_ret
  exact ⟨rfl, below_then b1 b2⟩

set_option maxRecDepth 20000 in
theorem flaggedSet (w : World) (cap : Int) (ka : Option Addr) (n kc : Nat) (sa : Option Addr) (sl sc : Nat) (fa : Option Addr) (fl fc : Nat) (L : List Nat) (hL : BytesAt w fa fl fc L) (ks : List (List Nat)) (s : List Int) (rs : List (Nat × Nat)) (h : TabR w ka n sa sl ks s rs) (ya : Option Addr) (yl yc : Nat) (key : List Nat) (hk : BytesAt w ya yl yc key) (f : Nat) (hf : f < 2) (hnd : ks.Nodup) (p : Nat) (hp : p < ks.length) (hpk : ks.getD p [] = key) (hp6 : n ≤ 1048576) (hl6 : fl ≤ 1048576) (g3 g5 g8 : Nat) (h3 : w.cell? ⟨g3, 3, none⟩ = some (.slice fa fl fc)) (h3l : g3 < w.heap.size) (h5 : w.cell? ⟨g5, 0, none⟩ = some (.int .i64 (f : Nat))) (h5l : g5 < w.heap.size) (c0 c1 c2 : Value) (v8 : Value) (h8 : w.heap[g8]? = some (.cells #[c0, c1, c2, v8] 31 (0, 0))) :
    Calls Try.prog 21 #[.agg #[.int .i64 cap, .slice ka n kc, .slice sa sl sc, .slice fa fl fc], .slice ya yl yc, .int .i64 (f : Nat), .func (.func 22) #[] #[.pointer (some ⟨g3, 0, none⟩), .pointer (some ⟨g5, 0, none⟩), .pointer (some ⟨g8, 0, none⟩)]] w fun e w' => e = .returned (.int .i64 0) ∧ ∃ (a' : Option Addr) (l' c' : Nat) (L' : List Nat) (W5 : World), Below w.heap.size w W5 ∧ BytesAt W5 a' l' c' L' ∧ Marked L L' p f ∧ w' = W5.setCell ⟨g8, 3, none⟩ (.slice a' l' c') := by
  have b1 : Below w.heap.size w (w.alloc (.cells #[.int .i64 cap, .slice ka n kc, .slice sa sl sc, .slice fa fl fc] 31)) := (Below.refl _ _).alloc (Nat.le_refl _) _
  have hkl := h.len
  have hm : key ∈ ks := hpk ▸ getD_mem hp
  have HP := Lib.hid hp
  have HPK := Lib.hid hpk
  have HKL := Lib.hid hkl
  clear hp hpk hkl
  go_enter Try.func21, Try.ntmps21
  go_wp2_with fail
  refine (right_ok _ f hf).mono ?_
  rintro e w1 ⟨rfl, rfl⟩
  go_wp2_with fail
  refine (find_le _ cap ka n kc sa sl sc ks s rs (h.mono b1) ya yl yc key (hk.mono b1)).mono ?_
  rintro e w2 ⟨⟨q, rfl, h1, h2⟩, b2⟩
  rw [decide_eq_true hm]
  obtain ⟨h6, h7⟩ := h1 hm
  obtain rfl : p = q := getD_inj hnd HP.out h6 (by rw [h7, HPK.out])
  have hpn : p < n := by have := HP.out; have := HKL.out; omega
  clear h1 h2 h6 h7
  replace h3 := (b2.cell (p := ⟨g3, 3, none⟩) (Nat.lt_of_lt_of_le h3l b1.size)).trans ((b1.cell (p := ⟨g3, 3, none⟩) h3l).trans h3)
  replace h5 := (b2.cell (p := ⟨g5, 0, none⟩) (Nat.lt_of_lt_of_le h5l b1.size)).trans ((b1.cell (p := ⟨g5, 0, none⟩) h5l).trans h5)
  have h8l := (Array.getElem?_eq_some_iff.1 h8).1
  replace h8 := (b2.block g8 (Nat.lt_of_lt_of_le h8l b1.size)).trans ((b1.block g8 h8l).trans h8)
  go_wp2_with fail
  refine (set1_any w2 fa fl fc L ((hL.mono b1).mono b2) p f hf (by omega) hl6 g3 g5 g8 v8 h3 h5 c0 c1 c2 h8).mono ?_
  rintro e w3 ⟨rfl, hpost⟩
  have HPO := Lib.hid hpost
  clear hpost
  go_wp2_with fail
  go_ret
  obtain ⟨a', l', c', L', W5, b5, h1, h2, h3⟩ := HPO.out
  exact ⟨rfl, a', l', c', L', W5, below_then (below_then b1 b2) b5, h1, h2, h3⟩

set_option maxRecDepth 20000 in
theorem flaggedGet (w : World) (cap : Int) (ka : Option Addr) (n kc : Nat) (sa : Option Addr) (sl sc : Nat) (fa : Option Addr) (fl fc : Nat) (L : List Nat) (hL : BytesAt w fa fl fc L) (ks : List (List Nat)) (s : List Int) (rs : List (Nat × Nat)) (h : TabR w ka n sa sl ks s rs) (ya : Option Addr) (yl yc : Nat) (key : List Nat) (hk : BytesAt w ya yl yc key) (f : Nat) (hf : f < 2) (hnd : ks.Nodup) (p : Nat) (hp : p < ks.length) (hpk : ks.getD p [] = key) (hp6 : n ≤ 1048576) (g3 g5 g8 : Nat) (h3 : w.cell? ⟨g3, 3, none⟩ = some (.slice fa fl fc)) (h3l : g3 < w.heap.size) (h5 : w.cell? ⟨g5, 0, none⟩ = some (.int .i64 (f : Nat))) (h5l : g5 < w.heap.size) (v8 : Value) (h8 : w.heap[g8]? = some (.cells #[v8] 4 (0, 0))) :
    Calls Try.prog 21 #[.agg #[.int .i64 cap, .slice ka n kc, .slice sa sl sc, .slice fa fl fc], .slice ya yl yc, .int .i64 (f : Nat), .func (.func 24) #[] #[.pointer (some ⟨g3, 0, none⟩), .pointer (some ⟨g5, 0, none⟩), .pointer (some ⟨g8, 0, none⟩)]] w fun e w' => e = .returned (.int .i64 0) ∧ ∃ (W5 : World), Below w.heap.size w W5 ∧ w' = W5.setCell ⟨g8, 0, none⟩ (.bool (hasB L p f)) := by
  have b1 : Below w.heap.size w (w.alloc (.cells #[.int .i64 cap, .slice ka n kc, .slice sa sl sc, .slice fa fl fc] 31)) := (Below.refl _ _).alloc (Nat.le_refl _) _
  have hkl := h.len
  have hm : key ∈ ks := hpk ▸ getD_mem hp
  have HP := Lib.hid hp
  have HPK := Lib.hid hpk
  have HKL := Lib.hid hkl
  clear hp hpk hkl
  go_enter Try.func21, Try.ntmps21
  go_wp2_with fail
  refine (right_ok _ f hf).mono ?_
  rintro e w1 ⟨rfl, rfl⟩
  go_wp2_with fail
  refine (find_le _ cap ka n kc sa sl sc ks s rs (h.mono b1) ya yl yc key (hk.mono b1)).mono ?_
  rintro e w2 ⟨⟨q, rfl, h1, h2⟩, b2⟩
  rw [decide_eq_true hm]
  obtain ⟨h6, h7⟩ := h1 hm
  obtain rfl : p = q := getD_inj hnd HP.out h6 (by rw [h7, HPK.out])
  have hpn : p < n := by have := HP.out; have := HKL.out; omega
  clear h1 h2 h6 h7
  replace h3 := (b2.cell (p := ⟨g3, 3, none⟩) (Nat.lt_of_lt_of_le h3l b1.size)).trans ((b1.cell (p := ⟨g3, 3, none⟩) h3l).trans h3)
  replace h5 := (b2.cell (p := ⟨g5, 0, none⟩) (Nat.lt_of_lt_of_le h5l b1.size)).trans ((b1.cell (p := ⟨g5, 0, none⟩) h5l).trans h5)
  have h8l := (Array.getElem?_eq_some_iff.1 h8).1
  replace h8 := (b2.block g8 (Nat.lt_of_lt_of_le h8l b1.size)).trans ((b1.block g8 h8l).trans h8)
  go_wp2_with fail
  refine (get1_any w2 fa fl fc L ((hL.mono b1).mono b2) p f hf (by omega) g3 g5 g8 v8 h3 h5 h8).mono ?_
  rintro e w3 ⟨rfl, hpost⟩
  have HPO := Lib.hid hpost
  clear hpost
  go_wp2_with fail
  go_ret
  obtain ⟨W5, b5, h3⟩ := HPO.out
  exact ⟨rfl, W5, below_then (below_then b1 b2) b5, h3⟩

end Go.Proofs.Ytbbdeefnooaacaa
