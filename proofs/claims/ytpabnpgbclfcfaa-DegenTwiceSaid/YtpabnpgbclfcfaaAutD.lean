/- Copies of trees (by gen19d.py). -/
import Derived.Test.YtpabnpgbclfcfaaAutC
import Derived.Deep.RegionHeld3
namespace Go.Proofs.Ytpabnpgbclfcfaa
open Go.RowKit
set_option linter.unusedVariables false
set_option linter.unusedSimpArgs false
theorem ownR_bel {w w' : World} {base n size : Nat} {e : TypeId} {v : Value} {xs : List Value} (h : w.ownsRow base e size v n xs) (hb : Below w.heap.size w w') : w'.ownsRow base e size v n xs := by
  refine ⟨h.1, ?_⟩
  rcases h.2 with h0 | ⟨g, cap, cur, h1, h2, h3, h4⟩
  · exact .inl h0
  · exact .inr ⟨g, cap, cur, h1, h2, (hb.block g (Array.getElem?_eq_some_iff.1 h3).1).trans h3, h4⟩
theorem ownR_shape {w : World} {base n size : Nat} {e : TypeId} {v : Value} {xs : List Value} (h : w.ownsRow base e size v n xs) : (v = .slice none 0 0 ∧ n = 0) ∨ ∃ g c, v = .slice (some ⟨g, 0, none⟩) n c ∧ base ≤ g ∧ g < w.heap.size ∧ ∀ j x, xs[j]? = some x → w.cell? ⟨g, j, none⟩ = some x := by
  rcases h.2 with ⟨rfl, h1⟩ | ⟨g, cp, cur, he, h1, h3, h4, h5, h6, h7⟩
  · exact .inl ⟨rfl, h1⟩
  · refine .inr ⟨g, cp, he, h1, (Array.getElem?_eq_some_iff.1 h3).1, fun j x hx => ?_⟩
    rw [← h7, List.getElem?_take] at hx
    split at hx
    · exact cell_of_row _ _ j _ _ _ h3 |>.trans (by simpa using hx)
    · cases hx
theorem four_rowU (w : World) (g : Nat) (a b c d x y z u : Value) (t : TypeId) (h : w.heap[g]? = some (.cells #[x, y, z, u] t (0, 0))) : ((((w.setCell ⟨g, 0, none⟩ a).setCell ⟨g, 1, none⟩ b).setCell ⟨g, 2, none⟩ c).setCell ⟨g, 3, none⟩ d).heap[g]? = some (.cells #[a, b, c, d] t (0, 0)) := by
  have h1 := heap_setCell_same w g 0 _ _ a h
  have h2 := heap_setCell_same _ g 1 _ _ b h1
  have h3 := heap_setCell_same _ g 2 _ _ c h2
  have h4 := heap_setCell_same _ g 3 _ _ d h3
  exact h4
theorem four_set (w : World) (g : Nat) (a b c d : Value) : ∀ k, k ≠ g → ((((w.setCell ⟨g, 0, none⟩ a).setCell ⟨g, 1, none⟩ b).setCell ⟨g, 2, none⟩ c).setCell ⟨g, 3, none⟩ d).heap[k]? = w.heap[k]? := fun k hk => by
  rw [Below.heap_setCell _ _ _ _ (by show k ≠ g; exact hk), Below.heap_setCell _ _ _ _ (by show k ≠ g; exact hk), Below.heap_setCell _ _ _ _ (by show k ≠ g; exact hk), Below.heap_setCell _ _ _ _ (by show k ≠ g; exact hk)]
/-- Made between two worlds. -/
def Fresh (w w' : World) (b : Nat) : Prop := w.heap.size ≤ b ∧ b < w'.heap.size
def CopiedR (w : World) (t : T) (e : Ending) (w' : World) : Prop := ∃ v', e = .returned v' ∧ TreeOn (Fresh w w') w' t v'
def AllR (w : World) (len : Nat) (sub : Nat → T) (e : Ending) (w' : World) : Prop := ∃ (a : Option Addr) (c : Nat), e = .returned (.slice a len c) ∧ (a = none → len = 0 ∧ c = 0) ∧ PartsOn (Fresh w w') w' a len sub
/-- What is made so far, a row's cells. -/
def Made (base : Nat) (w : World) (v : Value) (j : Nat) (sub : Nat → T) (xs : List Value) : Prop := ∀ i, i < j → ∃ (o n p : Int) (a : Option Addr) (l c : Nat), xs[i * 4]? = some (.int .i64 o) ∧ xs[i * 4 + 1]? = some (.int .i64 n) ∧ xs[i * 4 + 2]? = some (.int .i64 p) ∧ xs[i * 4 + 3]? = some (.slice a l c) ∧ TreeOn (fun b => base ≤ b ∧ b < w.heap.size ∧ v.ownBlock ≠ some b) w (sub i) (.agg #[.int .i64 o, .int .i64 n, .int .i64 p, .slice a l c])
theorem Made.more {base j : Nat} {wr w3 w4 w5 : World} {v v5 : Value} {sub : Nat → T} {xs : List Value} {W2 : Nat} {o n p : Int} {a : Option Addr} {l c : Nat} (h : Made base wr v j sub xs) (hx : xs.length = j * 4) (hb : base ≤ wr.heap.size) (hr2 : wr.heap.size ≤ W2) (h23 : W2 ≤ w3.heap.size)
    (ho : ∀ k, v.ownBlock = some k → k < wr.heap.size) (b4 : Below wr.heap.size wr w4) (b34 : Below w3.heap.size w3 w4) (gr : w4.grownBy w5 v.ownBlock) (at5 : v5.ownBlock = v.ownBlock ∨ v5.ownBlock = some w4.heap.size)
    (ht : TreeOn (fun b => W2 ≤ b ∧ b < w3.heap.size) w3 (sub j) (.agg #[.int .i64 o, .int .i64 n, .int .i64 p, .slice a l c])) : Made base w5 v5 (j + 1) sub (xs ++ [.int .i64 o, .int .i64 n, .int .i64 p, .slice a l c]) := by
  have s34 := b34.size
  have s5 := gr.size
  have s4 := b4.size
  intro i hi
  by_cases hij : i = j
  · subst hij
    refine ⟨o, n, p, a, l, c, ?_, ?_, ?_, ?_, ht.to (fun b hb' => ⟨by omega, by omega, fun he => ?_⟩) (fun b hb' => ?_)⟩
    · rw [List.getElem?_append_right (by omega), hx, Nat.sub_self]; rfl
    · rw [List.getElem?_append_right (by omega), hx, show i * 4 + 1 - i * 4 = 1 by omega]; rfl
    · rw [List.getElem?_append_right (by omega), hx, show i * 4 + 2 - i * 4 = 2 by omega]; rfl
    · rw [List.getElem?_append_right (by omega), hx, show i * 4 + 3 - i * 4 = 3 by omega]; rfl
    · rw [gr.block b (by omega) (fun he => by have := ho b he.symm; omega)]
      exact b34.block b hb'.2
    · rcases at5 with h5 | h5
      · rw [h5] at he
        have := ho b he
        omega
      · rw [h5] at he
        have := Option.some.inj he
        omega
  · obtain ⟨o', n', p', a', l', c', e0, e1, e2, e3, e4⟩ := h i (by omega)
    refine ⟨o', n', p', a', l', c', ?_, ?_, ?_, ?_, e4.to (fun b hb' => ⟨hb'.1, by omega, fun he => ?_⟩) (fun b hb' => ?_)⟩
    · rw [List.getElem?_append_left (by omega)]; exact e0
    · rw [List.getElem?_append_left (by omega)]; exact e1
    · rw [List.getElem?_append_left (by omega)]; exact e2
    · rw [List.getElem?_append_left (by omega)]; exact e3
    · rw [gr.block b (by omega) (fun he => hb'.2.2 he.symm)]
      exact b4.block b hb'.2.1
    · rcases at5 with h5 | h5
      · rw [h5] at he
        exact hb'.2.2 he
      · rw [h5] at he
        have := Option.some.inj he
        omega
set_option maxRecDepth 20000 in
set_option maxHeartbeats 1000000 in
theorem all_gen (w : World) (a : Option Addr) (len cap : Nat) (sub : Nat → T) (h : PartsAt w a len sub) (hlen : len ≤ 1000000)
    (hK : ∀ j, j < len → ∀ (z : World) (v : Value), TreeAt z (sub j) v → Calls Try.prog 27 #[v] z fun e w' => CopiedR z (sub j) e w' ∧ Below z.heap.size z w') :
    Calls Try.prog 20 #[.slice a len cap] w fun e w' => AllR w len sub e w' ∧ Below w.heap.size w w' := by
  have HK := Lib.hid hK
  clear hK
  go_enter Try.func20, Try.ntmps20
  go_wp2_with fail
  go_loopw [3, 8] (fun v i w' => ∃ (j : Nat) (xs : List Value), j ≤ len ∧ i = .int .i64 (j : Nat) ∧ w'.ownsRow w.heap.size 40 4 v j xs ∧ Hid (Made w.heap.size w' v j sub xs) ∧ Below w.heap.size w w') (fun v i _ => len - (intOf i).toNat)
  case atStart => exact ⟨0, [], Nat.zero_le _, rfl, World.ownsRow_nil _ _ _ _, Lib.hid (fun i hi => by omega), Below.refl _ _⟩
  case round =>
    obtain ⟨j, xs, hj, rfl, own, HM, bt⟩ := hrel
    by_cases hjl : j < len
    · have f1 : decide (j < len) = true := by simpa using hjl
      obtain ⟨b, off, rfl, hlt, hi⟩ := h.resolve_left (by omega)
      obtain ⟨o', n', p', a', l', c', g0, g1, g2, g3, g4⟩ := hi j hjl
      have y0 : wr.cell? ⟨b, off + j * 4, none⟩ = some (.int .i64 o') := (bt.cell (p := ⟨b, _, none⟩) hlt).trans g0
      have y1 : wr.cell? ⟨b, off + j * 4 + 1, none⟩ = some (.int .i64 n') := (bt.cell (p := ⟨b, _, none⟩) hlt).trans g1
      have y2 : wr.cell? ⟨b, off + j * 4 + 2, none⟩ = some (.int .i64 p') := (bt.cell (p := ⟨b, _, none⟩) hlt).trans g2
      have y3 : wr.cell? ⟨b, off + j * 4 + 3, none⟩ = some (.slice a' l' c') := (bt.cell (p := ⟨b, _, none⟩) hlt).trans g3
      have hsz := bt.size
      have G4 := Lib.hid (g4.mono bt)
      have HL := Lib.hid own.lt
      have HX := Lib.hid own.1
      clear g0 g1 g2 g3 g4 hi
      go_wp2_with (first
        | (go_at_call 27; refine (HK.out j hjl _ _ (G4.out.mono ((Below.refl _ _).alloc (Nat.le_refl _) _))).mono ?_; rintro e w3 ⟨⟨v', rfl, hv⟩, b3⟩; obtain ⟨o, n, p, aa, l, c, rfl⟩ := hv.shape; have HV := Lib.hid hv; have s3 := b3.size; rw [World.size_alloc] at s3; have bwr := ((Below.refl wr.heap.size wr).alloc (Nat.le_refl _) (.cells #[.int .i64 o', .int .i64 n', .int .i64 p', .slice a' l' c'] 40)).trans (b3.mono (by simp)))
        | (at_builtin; refine append_at rfl (.tmp 12) (.tmp 15) 38 rfl w.heap.size 40 (.agg #[.int .i64 0, .int .i64 0, .int .i64 0, .slice none 0 0]) 4 48 Try.underlying38 Try.info_expr rfl (by decide) _ j xs rfl (ownR_bel own (bwr.alloc (by omega) _)) ⟨_, 0, none⟩ 1 1 [.int .i64 o, .int .i64 n, .int .i64 p, .slice aa l c] rfl rfl (row_new w3 #[.int .i64 o, .int .i64 n, .int .i64 p, .slice aa l c] 40) (fun u hu => by simp at hu; rcases hu with rfl | rfl | rfl | rfl <;> rfl) (by unfold maxLen; omega) (by omega) (by simp; omega) ?_; intro v5 w5 own5 gr5 at5))
      have b45 : Below w.heap.size w w5 := ((bt.trans (bwr.mono hsz)).alloc (by omega) _).grown gr5 (by simp; omega) (fun k hk => (own.lt k hk).1)
      exact ⟨⟨j + 1, _, by omega, by simp, own5, Lib.hid (HM.out.more HX.out hsz (Nat.le_succ _) s3 (fun k hk => (HL.out k hk).2) (bwr.alloc (by omega) _) ((Below.refl _ _).alloc (Nat.le_refl _) _) gr5 at5 (HV.out.to (fun b hb => by unfold Fresh at hb; rw [World.size_alloc] at hb; exact hb) (fun _ _ => rfl))), b45⟩, by simp [intOf]; omega⟩
    · have f1 : decide (j < len) = false := by simpa using hjl
      obtain rfl : j = len := by omega
      have hsh := ownR_shape own
      rcases hsh with ⟨rfl, h0⟩ | ⟨g, c, rfl, hg1, hg2, hat⟩
      · subst h0
        go_wp2_with fail
        go_ret
        exact ⟨⟨none, 0, rfl, fun _ => ⟨rfl, rfl⟩, .inl rfl⟩, bt⟩
      · have HA := Lib.hid hat
        clear hat
        go_wp2_with fail
        go_ret
        refine ⟨⟨some ⟨g, 0, none⟩, c, rfl, nofun, .inr ⟨g, rfl, ⟨hg1, hg2⟩, fun i hi => ?_⟩⟩, bt⟩
        obtain ⟨o, n, p, a, l, c, e0, e1, e2, e3, e4⟩ := HM.out i hi
        exact ⟨o, n, p, a, l, c, HA.out _ _ e0, HA.out _ _ e1, HA.out _ _ e2, HA.out _ _ e3, e4.to (fun b hb => ⟨hb.1, hb.2.1⟩) (fun _ _ => rfl)⟩
set_option maxRecDepth 20000 in
set_option maxHeartbeats 1000000 in
theorem copied_any : ∀ (t : T) (w : World) (v : Value), MayP t → TreeAt w t v →
    Calls Try.prog 27 #[v] w fun e w' => CopiedR w t e w' ∧ Below w.heap.size w w' := by
  intro t
  induction t with
  | nil => exact fun w v _ h => h.elim
  | node op n pl len sub ih =>
    rintro w v hm ⟨a, cap, rfl, ho, hn, hp, hl, hnone, hat⟩
    have hmlen : len ≤ 2 ∧ ∀ i, i < len → MayP (sub i) := by
      obtain ⟨_, _, h3, h4⟩ := hm
      refine ⟨?_, h4⟩
      rw [h3]
      unfold arity
      split
      · omega
      · split <;> omega
    obtain ⟨pt, pu, A⟩ := two_new w #[.int .i64 op, .int .i64 n, .int .i64 pl, .slice a len cap] #[.int .i64 0, .int .i64 0, .int .i64 0, .slice none 0 0] 40 40
    go_enter Try.func27, Try.ntmps27
    go_upto_region 1 with fail
    obtain ⟨v1, hv⟩ : ∃ v, (w.alloc (.cells #[.int .i64 op, .int .i64 n, .int .i64 pl, .slice a len cap] 40)).alloc (.cells #[.int .i64 0, .int .i64 0, .int .i64 0, .slice none 0 0] 40) = v := ⟨_, rfl⟩
    rw [hv] at pt pu A ⊢
    obtain ⟨gu, hgu⟩ : ∃ g, w.heap.size + 1 = g := ⟨_, rfl⟩
    rw [hgu] at pu ⊢
    obtain ⟨gt, hgt⟩ : ∃ g, w.heap.size = g := ⟨_, rfl⟩
    have hgu2 : w.heap.size ≤ gu := by omega
    have hgtu : gt ≠ gu := by omega
    rw [hgt] at pt ⊢
    have bt := A
    clear hv hgu hgt A
    have q0 : v1.cell? ⟨gt, 0, none⟩ = some (.int .i64 op) := cell_of_row _ _ 0 _ _ _ pt
    have q1 : v1.cell? ⟨gt, 1, none⟩ = some (.int .i64 n) := cell_of_row _ _ 1 _ _ _ pt
    have q2 : v1.cell? ⟨gt, 2, none⟩ = some (.int .i64 pl) := cell_of_row _ _ 2 _ _ _ pt
    have q3 : v1.cell? ⟨gt, 3, none⟩ = some (.slice a len cap) := cell_of_row _ _ 3 _ _ _ pt
    have hpa : ∀ z : World, Below v1.heap.size v1 z → PartsAt z a len sub := fun z hz => by
      rcases hat with h0 | ⟨b, off, ha, hlt, hi⟩
      · exact .inl h0
      · have hb2 := bt.trans (hz.mono bt.size)
        refine .inr ⟨b, off, ha, Nat.lt_of_lt_of_le hlt hb2.size, fun i hil => ?_⟩
        obtain ⟨o', n', p', a', l', c', g0, g1, g2, g3, g4⟩ := hi i hil
        exact ⟨o', n', p', a', l', c', (hb2.cell (p := ⟨b, _, none⟩) hlt).trans g0, (hb2.cell (p := ⟨b, _, none⟩) hlt).trans g1, (hb2.cell (p := ⟨b, _, none⟩) hlt).trans g2, (hb2.cell (p := ⟨b, _, none⟩) hlt).trans g3, g4.mono hb2⟩
    have HP := Lib.hid hpa
    have HS := Lib.hid (And.intro ho (And.intro hn hp))
    clear hat hpa ho hn hp
    have hs1 := bt.size
    go_region_held3 (fun w' => w'.cell? ⟨gt, 0, none⟩ = some (.int .i64 op) ∧ w'.cell? ⟨gt, 1, none⟩ = some (.int .i64 n) ∧ w'.cell? ⟨gt, 2, none⟩ = some (.int .i64 pl) ∧ w'.cell? ⟨gt, 3, none⟩ = some (.slice a len cap))
      (first | exact ⟨q0, q1, q2, q3⟩ | exact ⟨r0, r1, r2, r3⟩ | exact ⟨by simpa [go_sem] using q0, by simpa [go_sem] using q1, by simpa [go_sem] using q2, by simpa [go_sem] using q3⟩ | exact ⟨by simpa [go_sem] using r0, by simpa [go_sem] using r1, by simpa [go_sem] using r2, by simpa [go_sem] using r3⟩)
      (first | (go_at_call 20; refine (all_gen _ a len cap sub (HP.out _ ((Below.refl _ _).drew)) (by omega) (fun j hj z v hz => ih j z v (hmlen.2 j hj) hz)).mono ?_; rintro e w3 ⟨⟨a3, c3, rfl, hn3, hp3⟩, b3⟩; have bx : Below v1.heap.size v1 w3 := (Below.refl v1.heap.size v1).drew.trans b3; have pt3 := (bx.block gt (Array.getElem?_eq_some_iff.1 pt).1).trans pt; have pu3 := (bx.block gu (Array.getElem?_eq_some_iff.1 pu).1).trans pu; have r0 := cell_of_row w3 gt 0 _ _ _ pt3; have r1 := cell_of_row w3 gt 1 _ _ _ pt3; have r2 := cell_of_row w3 gt 2 _ _ _ pt3; have r3 := cell_of_row w3 gt 3 _ _ _ pt3; have s0 := cell_of_row w3 gu 0 _ _ _ pu3; have s1 := cell_of_row w3 gu 1 _ _ _ pu3; have s2 := cell_of_row w3 gu 2 _ _ _ pu3; have s3 := cell_of_row w3 gu 3 _ _ _ pu3; have f0 := frozen_of_row w3 gu 0 _ _ pu3; have f1 := frozen_of_row w3 gu 1 _ _ pu3; have f2 := frozen_of_row w3 gu 2 _ _ pu3; have f3 := frozen_of_row w3 gu 3 _ _ pu3; have HP3 := Lib.hid hp3; have HN3 := Lib.hid hn3; clear hp3 hn3; simp only [List.getElem?_toArray, List.getElem?_cons_zero, List.getElem?_cons_succ] at r0 r1 r2 r3 s0 s1 s2 s3))
    obtain ⟨w5, hw5⟩ : ∃ w5, (((w3.setCell ⟨gu, 0, none⟩ (.int .i64 op)).setCell ⟨gu, 1, none⟩ (.int .i64 n)).setCell ⟨gu, 2, none⟩ (.int .i64 pl)).setCell ⟨gu, 3, none⟩ (.slice a3 len c3) = w5 := ⟨_, rfl⟩
    have pu5 := four_rowU w3 gu (.int .i64 op) (.int .i64 n) (.int .i64 pl) (.slice a3 len c3) _ _ _ _ _ pu3
    have e5 := four_set w3 gu (.int .i64 op) (.int .i64 n) (.int .i64 pl) (.slice a3 len c3)
    have b5 : Below w.heap.size w w5 := by
      rw [← hw5]
      exact (((((bt.trans (bx.mono hs1)).setCell hgu2 _).setCell hgu2 _).setCell hgu2 _).setCell hgu2 _)
    have z5 : w5.heap.size = w3.heap.size := by rw [← hw5]; simp [World.setCell]
    rw [hw5] at pu5 e5 ⊢
    have gul : gu < v1.heap.size := (Array.getElem?_eq_some_iff.1 pu).1
    have hP5 : PartsOn (Fresh w w5) w5 a3 len sub := HP3.out.to (fun b hb => by
      unfold Fresh at hb ⊢
      have h1 := hb.1
      rw [show v1.drew.heap = v1.heap from rfl] at h1
      exact ⟨by omega, by rw [z5]; exact hb.2⟩) (fun b hb => by
      unfold Fresh at hb
      have h1 := hb.1
      rw [show v1.drew.heap = v1.heap from rfl] at h1
      exact e5 b (by omega))
    have q0 := cell_of_row w5 gu 0 _ _ _ pu5
    have q1 := cell_of_row w5 gu 1 _ _ _ pu5
    have q2 := cell_of_row w5 gu 2 _ _ _ pu5
    have q3 := cell_of_row w5 gu 3 _ _ _ pu5
    simp only [List.getElem?_toArray, List.getElem?_cons_zero, List.getElem?_cons_succ] at q0 q1 q2 q3
    have HP5 := Lib.hid hP5
    clear hP5 r0 r1 r2 r3 s0 s1 s2 s3 f0 f1 f2 f3 pt3 pu3 hw5
    go_wp2_with fail
    exact bodyPost_ret (v := .agg #[.int .i64 op, .int .i64 n, .int .i64 pl, .slice a3 len c3]) (by simp [results, Try.results27, go_sem, q0, q1, q2, q3]) rfl ⟨⟨_, rfl, a3, c3, rfl, HS.out.1, HS.out.2.1, HS.out.2.2, hl, HN3.out, HP5.out⟩, b5⟩
theorem all_any (w : World) (a : Option Addr) (len cap : Nat) (sub : Nat → T) (h : PartsAt w a len sub) (hlen : len ≤ 1000000) (hm : ∀ j, j < len → MayP (sub j)) :
    Calls Try.prog 20 #[.slice a len cap] w fun e w' => AllR w len sub e w' ∧ Below w.heap.size w w' :=
  all_gen w a len cap sub h hlen fun j hj z v hz => copied_any (sub j) z v (hm j hj) hz
end Go.Proofs.Ytpabnpgbclfcfaa
