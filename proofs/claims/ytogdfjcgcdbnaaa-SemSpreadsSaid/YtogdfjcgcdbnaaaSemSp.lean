/- What spreads (pure); the closures of SemSpreads (by gen17w.py). -/
import Derived.Test.YtogdfjcgcdbnaaaSemS
import Derived.Test.YtogdfjcgcdbnaaaFree2
namespace Go.Proofs.Ytogdfjcgcdbnaaa
open Go.RowKit
set_option linter.unusedVariables false
set_option linter.unusedSimpArgs false

theorem untB_or (n l : Nat) (a b c : Nat → Bool) : ∀ k i, untB n l a (fun j => b j || c j) k i = (untB n l a b k i || untB n l a c k i)
  | 0, i => rfl
  | k + 1, i => by
    unfold untB
    rw [untB_or n l a b c k]
    cases b i <;> cases c i <;> cases a i <;> simp
theorem untU_or (n l : Nat) (a b c : Nat → Bool) (i : Nat) : untU n l a (fun j => b j || c j) i = (untU n l a b i || untU n l a c i) := by
  refine Bool.eq_iff_iff.2 ?_
  unfold untU
  simp only [decide_eq_true_eq, Bool.or_eq_true]
  constructor
  · rintro ⟨k, hk⟩
    rw [untB_or, Bool.or_eq_true] at hk
    exact hk.imp (fun h => ⟨k, h⟩) fun h => ⟨k, h⟩
  · rintro (⟨k, hk⟩ | ⟨k, hk⟩)
    · exact ⟨k, by rw [untB_or, hk]; simp⟩
    · exact ⟨k, by rw [untB_or, hk]; simp⟩
theorem untB_up (n l : Nat) (a b : Nat → Bool) : ∀ k i, untB n l a b k i = true → untB n l a b (k + 1) i = true
  | 0, i, h => by
    have h' : b i = true := h
    unfold untB
    rw [h']; rfl
  | k + 1, i, h => by
    unfold untB at h ⊢
    simp only [Bool.or_eq_true, Bool.and_eq_true] at h ⊢
    exact h.imp id fun h2 => ⟨h2.1, untB_up n l a b k _ h2.2⟩
theorem untB_le (n l : Nat) (a b : Nat → Bool) (i k : Nat) : ∀ m, untB n l a b k i = true → untB n l a b (k + m) i = true
  | 0, h => h
  | m + 1, h => untB_up n l a b (k + m) i (untB_le n l a b i k m h)
theorem untB_and (n l : Nat) (a b c : Nat → Bool) : ∀ k i, untB n l (fun j => a j && b j) c k i = (untB n l a c k i && untB n l b c k i)
  | 0, i => by
    show c i = (c i && c i)
    simp
  | k + 1, i => by
    unfold untB
    rw [untB_and n l a b c k]
    cases c i <;> cases a i <;> cases b i <;> simp
theorem untU_and (n l : Nat) (a b c : Nat → Bool) (i : Nat) : untU n l (fun j => a j && b j) c i = (untU n l a c i && untU n l b c i) := by
  refine Bool.eq_iff_iff.2 ?_
  unfold untU
  simp only [decide_eq_true_eq, Bool.and_eq_true]
  constructor
  · rintro ⟨k, hk⟩
    rw [untB_and, Bool.and_eq_true] at hk
    exact ⟨⟨k, hk.1⟩, ⟨k, hk.2⟩⟩
  · rintro ⟨⟨k, hk⟩, ⟨m, hm⟩⟩
    refine ⟨k + m, ?_⟩
    rw [untB_and, untB_le n l a c i k m hk, Nat.add_comm k m, untB_le n l b c i m k hm]
    rfl
section
variable (wn l : Nat) (row : Nat → List Int) (s t r : T) (i : Nat)
theorem h_or : hT wn l row (T.bin 17 s t) i = (hT wn l row s i || hT wn l row t i) := hT_17 _ _ _ _ _ _ _ _
theorem h_and : hT wn l row (T.bin 16 s t) i = (hT wn l row s i && hT wn l row t i) := hT_16 _ _ _ _ _ _ _ _
theorem h_unt : hT wn l row (T.bin 23 s t) i = untU wn l (hT wn l row s) (hT wn l row t) i := hT_23 _ _ _ _ _ _ _ _
theorem h_fin : hT wn l row (T.un 21 t) i = untU wn l (fun _ => true) (hT wn l row t) i := hT_21 _ _ _ _ _ _ _ _
theorem h_glob : hT wn l row (T.un 22 t) i = relU wn l (fun _ => false) (hT wn l row t) i := hT_22 _ _ _ _ _ _ _ _
theorem h_next : hT wn l row (T.un 20 t) i = hT wn l row t (nextW wn l i) := hT_20 _ _ _ _ _ _ _ _
theorem f_or : hT wn l row (T.bin 17 s t) = fun j => hT wn l row s j || hT wn l row t j := funext fun j => h_or wn l row s t j
theorem f_and : hT wn l row (T.bin 16 s t) = fun j => hT wn l row s j && hT wn l row t j := funext fun j => h_and wn l row s t j
theorem sp1 : hT wn l row (T.un 21 (T.bin 17 s t)) i = hT wn l row (T.bin 17 (T.un 21 s) (T.un 21 t)) i := by
  rw [h_fin, h_or, h_fin, h_fin, f_or, untU_or]
theorem sp2 : hT wn l row (T.un 22 (T.bin 16 s t)) i = hT wn l row (T.bin 16 (T.un 22 s) (T.un 22 t)) i := by
  rw [h_glob, h_and, h_glob, h_glob, f_and]
  unfold relU
  rw [show (fun j => !(hT wn l row s j && hT wn l row t j)) = fun j => (fun j => !hT wn l row s j) j || (fun j => !hT wn l row t j) j from funext fun j => by simp [Bool.not_and], untU_or]
  simp
theorem sp3 : hT wn l row (T.un 20 (T.bin 17 s t)) i = hT wn l row (T.bin 17 (T.un 20 s) (T.un 20 t)) i := by
  rw [h_next, h_or, h_or, h_next, h_next]
theorem sp4 : hT wn l row (T.un 20 (T.bin 16 s t)) i = hT wn l row (T.bin 16 (T.un 20 s) (T.un 20 t)) i := by
  rw [h_next, h_and, h_and, h_next, h_next]
theorem sp5 : hT wn l row (T.bin 23 s (T.bin 17 t r)) i = hT wn l row (T.bin 17 (T.bin 23 s t) (T.bin 23 s r)) i := by
  rw [h_unt, h_or, h_unt, h_unt, f_or, untU_or]
theorem sp6 : hT wn l row (T.bin 23 (T.bin 16 s t) r) i = hT wn l row (T.bin 16 (T.bin 23 s r) (T.bin 23 t r)) i := by
  rw [h_unt, h_and, h_unt, h_unt, f_and, untU_and]
end
def MRel.tree (t : T) : MRel := ⟨fun v w => TreeAt w t v, fun _ _ _ h hb => h.mono hb⟩
def MRel.bools (n : Nat) (f : Nat → Bool) : MRel := ⟨fun v w => ∃ g, v = .slice (some ⟨g, 0, none⟩) n n ∧ BoolsAt w g n f, fun _ _ _ ⟨g, h1, h2⟩ hb => ⟨g, h1, h2.mono hb⟩⟩
theorem alls_rel (t : T) (w : World) (v x : Value) (wa : Option Addr) (wn wc l : Nat) (row : Nat → List Int) (h : TreeAt w t v) (hx : x = .agg #[.slice wa wn wc, .int .i64 (l : Nat)]) (hr : WordAt w wa wn row) (hf : FmP t) (hwn : wn ≤ 1000000) (hl : l < wn) :
    Calls Try.prog 11 #[v, x] w fun e w' => (∃ v', e = .returned v' ∧ (MRel.bools wn (hT wn l row t)).r v' w') ∧ Below w.heap.size w w' := by
  subst hx
  refine (alls_at t w v wa wn wc l row h hr hf hwn hl).mono ?_
  rintro e w' ⟨⟨g, rfl, _, hb⟩, hbl⟩
  exact ⟨⟨_, rfl, g, rfl, hb⟩, hbl⟩
theorem same_rel (w : World) (x y : Value) (wn : Nat) (f g : Nat → Bool) (hwn : wn ≤ 1000000) (hx : (MRel.bools wn f).r x w) (hy : (MRel.bools wn g).r y w) (hfg : ∀ i, f i = g i) :
    Calls Try.prog 23 #[x, y] w fun e w' => (∃ v', e = .returned v' ∧ (MRel.val (.bool true)).r v' w') ∧ Below w.heap.size w w' := by
  obtain ⟨ga, rfl, ha⟩ := hx
  obtain ⟨gb, rfl, hb⟩ := hy
  refine (same_any w ga gb wn f g hwn ha hb fun i _ => hfg i).mono ?_
  rintro e w' ⟨rfl, hbl⟩
  exact ⟨⟨_, rfl, rfl⟩, hbl⟩
set_option maxRecDepth 20000 in
theorem two_full (w : World) (op o n pl o' n' pl' : Int) (a a' : Option Addr) (len cap len' cap' : Nat) :
    Calls Try.prog 12 #[.int .i64 op, .agg #[.int .i64 o, .int .i64 n, .int .i64 pl, .slice a len cap], .agg #[.int .i64 o', .int .i64 n', .int .i64 pl', .slice a' len' cap']] w fun e w' => ∃ g, e = .returned (.agg #[.int .i64 op, .int .i64 0, .int .i64 0, .slice (some ⟨g, 0, none⟩) 2 2]) ∧ w.heap.size ≤ g ∧ w'.heap[g]? = some (.cells #[.int .i64 o, .int .i64 n, .int .i64 pl, .slice a len cap, .int .i64 o', .int .i64 n', .int .i64 pl', .slice a' len' cap'] 24 (0, 0)) ∧ Below w.heap.size w w' := by
  have H4 := Lib.hid (heap4 w #[.int .i64 o, .int .i64 n, .int .i64 pl, .slice a len cap] #[.int .i64 o', .int .i64 n', .int .i64 pl', .slice a' len' cap'] #[.int .i64 op, .int .i64 0, .int .i64 0, .slice (some ⟨w.heap.size + 1 + 1 + 1, 0, none⟩) 2 2] #[.int .i64 o, .int .i64 n, .int .i64 pl, .slice a len cap, .int .i64 o', .int .i64 n', .int .i64 pl', .slice a' len' cap'] 24 24 24 24)
  go_enter Try.func12, Try.ntmps12
  go_wp2_with fail
  obtain ⟨h1, h2, hb⟩ := H4.out
  refine bodyPost_ret (fn := Try.f12) (v := .agg #[.int .i64 op, .int .i64 0, .int .i64 0, .slice (some ⟨w.heap.size + 1 + 1 + 1, 0, none⟩) 2 2]) ?_ rfl ⟨_, rfl, by omega, h2, hb⟩
  exact results_cell_row (fn := Try.f12) rfl _ _ _ _ _ _ _ rfl h1 Try.underlying24 rfl (by kernel_rfl)
set_option maxRecDepth 20000 in
theorem clo_or (w : World) (s t : T) (u v : Value) (hs : TreeAt w s u) (ht : TreeAt w t v) :
    Calls Try.prog 19 #[u, v] w fun e w' => TreeOut (T.bin 17 s t) e w' ∧ Below w.heap.size w w' := by
  obtain ⟨o, n, pl, a, len, cap, rfl⟩ := hs.shape
  obtain ⟨o', n', pl', a', len', cap', rfl⟩ := ht.shape
  obtain ⟨_, gz, b1⟩ := heap3 w #[.int .i64 o, .int .i64 n, .int .i64 pl, .slice a len cap] #[.int .i64 o', .int .i64 n', .int .i64 pl', .slice a' len' cap'] #[.int .i64 0, .int .i64 0, .int .i64 0, .slice none 0 0] 24 24 24
  have hA := two_full (((w.alloc (.cells #[.int .i64 o, .int .i64 n, .int .i64 pl, .slice a len cap] 24)).alloc (.cells #[.int .i64 o', .int .i64 n', .int .i64 pl', .slice a' len' cap'] 24)).alloc (.cells #[.int .i64 0, .int .i64 0, .int .i64 0, .slice none 0 0] 24)) 17 o n pl o' n' pl' a a' len cap len' cap'
  have HS := Lib.hid hs
  have HT := Lib.hid ht
  clear hs ht
  go_enter Try.func19, Try.ntmps19
  go_wp2_with fail
  refine hA.mono ?_
  rintro e w1 ⟨g, rfl, hgs, hgc, b2⟩
  have hgne : g ≠ w.heap.size + 1 + 1 := by simp at hgs; omega
  have gz1 := (b2.block _ (Array.getElem?_eq_some_iff.1 gz).1).trans gz
  have bt := below_then b1 b2
  clear hA b1 b2 gz
  go_wp2_with (refine store_rec rfl 24 (.tmp 4) (.tmp 7) rfl (w.heap.size + 1 + 1) #[.int .i64 17, .int .i64 0, .int .i64 0, .slice (some ⟨g, 0, none⟩) 2 2] rfl rfl 24 _ gz1 (by kernel_rfl) rfl (by simp [Value.oneCell']) ?_; intro w6 g6 z6 o6 b6)
  refine bodyPost_ret (fn := Try.f19) (v := .agg #[.int .i64 17, .int .i64 0, .int .i64 0, .slice (some ⟨g, 0, none⟩) 2 2]) ?_ rfl ⟨⟨_, rfl, TreeAt.bin (by decide) ((o6 g hgne).trans hgc) (HS.out.mono (bt.trans (b6.mono (by omega)))) (HT.out.mono (bt.trans (b6.mono (by omega))))⟩, bt.trans (b6.mono (by omega))⟩
  exact results_cell_row (fn := Try.f19) rfl _ _ _ _ _ _ _ rfl g6 Try.underlying24 rfl (by kernel_rfl)
set_option maxRecDepth 20000 in
theorem clo_and (w : World) (s t : T) (u v : Value) (hs : TreeAt w s u) (ht : TreeAt w t v) :
    Calls Try.prog 20 #[u, v] w fun e w' => TreeOut (T.bin 16 s t) e w' ∧ Below w.heap.size w w' := by
  obtain ⟨o, n, pl, a, len, cap, rfl⟩ := hs.shape
  obtain ⟨o', n', pl', a', len', cap', rfl⟩ := ht.shape
  obtain ⟨_, gz, b1⟩ := heap3 w #[.int .i64 o, .int .i64 n, .int .i64 pl, .slice a len cap] #[.int .i64 o', .int .i64 n', .int .i64 pl', .slice a' len' cap'] #[.int .i64 0, .int .i64 0, .int .i64 0, .slice none 0 0] 24 24 24
  have hA := two_full (((w.alloc (.cells #[.int .i64 o, .int .i64 n, .int .i64 pl, .slice a len cap] 24)).alloc (.cells #[.int .i64 o', .int .i64 n', .int .i64 pl', .slice a' len' cap'] 24)).alloc (.cells #[.int .i64 0, .int .i64 0, .int .i64 0, .slice none 0 0] 24)) 16 o n pl o' n' pl' a a' len cap len' cap'
  have HS := Lib.hid hs
  have HT := Lib.hid ht
  clear hs ht
  go_enter Try.func20, Try.ntmps20
  go_wp2_with fail
  refine hA.mono ?_
  rintro e w1 ⟨g, rfl, hgs, hgc, b2⟩
  have hgne : g ≠ w.heap.size + 1 + 1 := by simp at hgs; omega
  have gz1 := (b2.block _ (Array.getElem?_eq_some_iff.1 gz).1).trans gz
  have bt := below_then b1 b2
  clear hA b1 b2 gz
  go_wp2_with (refine store_rec rfl 24 (.tmp 4) (.tmp 7) rfl (w.heap.size + 1 + 1) #[.int .i64 16, .int .i64 0, .int .i64 0, .slice (some ⟨g, 0, none⟩) 2 2] rfl rfl 24 _ gz1 (by kernel_rfl) rfl (by simp [Value.oneCell']) ?_; intro w6 g6 z6 o6 b6)
  refine bodyPost_ret (fn := Try.f20) (v := .agg #[.int .i64 16, .int .i64 0, .int .i64 0, .slice (some ⟨g, 0, none⟩) 2 2]) ?_ rfl ⟨⟨_, rfl, TreeAt.bin (by decide) ((o6 g hgne).trans hgc) (HS.out.mono (bt.trans (b6.mono (by omega)))) (HT.out.mono (bt.trans (b6.mono (by omega))))⟩, bt.trans (b6.mono (by omega))⟩
  exact results_cell_row (fn := Try.f20) rfl _ _ _ _ _ _ _ rfl g6 Try.underlying24 rfl (by kernel_rfl)
set_option maxRecDepth 20000 in
theorem clo_until (w : World) (s t : T) (u v : Value) (hs : TreeAt w s u) (ht : TreeAt w t v) :
    Calls Try.prog 22 #[u, v] w fun e w' => TreeOut (T.bin 23 s t) e w' ∧ Below w.heap.size w w' := by
  obtain ⟨o, n, pl, a, len, cap, rfl⟩ := hs.shape
  obtain ⟨o', n', pl', a', len', cap', rfl⟩ := ht.shape
  obtain ⟨_, gz, b1⟩ := heap3 w #[.int .i64 o, .int .i64 n, .int .i64 pl, .slice a len cap] #[.int .i64 o', .int .i64 n', .int .i64 pl', .slice a' len' cap'] #[.int .i64 0, .int .i64 0, .int .i64 0, .slice none 0 0] 24 24 24
  have hA := two_full (((w.alloc (.cells #[.int .i64 o, .int .i64 n, .int .i64 pl, .slice a len cap] 24)).alloc (.cells #[.int .i64 o', .int .i64 n', .int .i64 pl', .slice a' len' cap'] 24)).alloc (.cells #[.int .i64 0, .int .i64 0, .int .i64 0, .slice none 0 0] 24)) 23 o n pl o' n' pl' a a' len cap len' cap'
  have HS := Lib.hid hs
  have HT := Lib.hid ht
  clear hs ht
  go_enter Try.func22, Try.ntmps22
  go_wp2_with fail
  refine hA.mono ?_
  rintro e w1 ⟨g, rfl, hgs, hgc, b2⟩
  have hgne : g ≠ w.heap.size + 1 + 1 := by simp at hgs; omega
  have gz1 := (b2.block _ (Array.getElem?_eq_some_iff.1 gz).1).trans gz
  have bt := below_then b1 b2
  clear hA b1 b2 gz
  go_wp2_with (refine store_rec rfl 24 (.tmp 4) (.tmp 7) rfl (w.heap.size + 1 + 1) #[.int .i64 23, .int .i64 0, .int .i64 0, .slice (some ⟨g, 0, none⟩) 2 2] rfl rfl 24 _ gz1 (by kernel_rfl) rfl (by simp [Value.oneCell']) ?_; intro w6 g6 z6 o6 b6)
  refine bodyPost_ret (fn := Try.f22) (v := .agg #[.int .i64 23, .int .i64 0, .int .i64 0, .slice (some ⟨g, 0, none⟩) 2 2]) ?_ rfl ⟨⟨_, rfl, TreeAt.bin (by decide) ((o6 g hgne).trans hgc) (HS.out.mono (bt.trans (b6.mono (by omega)))) (HT.out.mono (bt.trans (b6.mono (by omega))))⟩, bt.trans (b6.mono (by omega))⟩
  exact results_cell_row (fn := Try.f22) rfl _ _ _ _ _ _ _ rfl g6 Try.underlying24 rfl (by kernel_rfl)
set_option maxRecDepth 20000 in
theorem clo_next (w : World) (t : T) (v : Value) (ht : TreeAt w t v) :
    Calls Try.prog 21 #[v] w fun e w' => TreeOut (T.un 20 t) e w' ∧ Below w.heap.size w w' := by
  obtain ⟨o, n, pl, a, len, cap, rfl⟩ := ht.shape
  have b1 : Below w.heap.size w ((w.alloc (.cells #[.int .i64 o, .int .i64 n, .int .i64 pl, .slice a len cap] 24)).alloc (.cells #[.int .i64 0, .int .i64 0, .int .i64 0, .slice none 0 0] 24)) := ((Below.refl _ _).alloc (Nat.le_refl _) _).alloc (by simp) _
  have hA := one_full ((w.alloc (.cells #[.int .i64 o, .int .i64 n, .int .i64 pl, .slice a len cap] 24)).alloc (.cells #[.int .i64 0, .int .i64 0, .int .i64 0, .slice none 0 0] 24)) 20 o n pl a len cap
  have gz : ((w.alloc (.cells #[.int .i64 o, .int .i64 n, .int .i64 pl, .slice a len cap] 24)).alloc (.cells #[.int .i64 0, .int .i64 0, .int .i64 0, .slice none 0 0] 24)).heap[w.heap.size + 1]? = some (.cells #[.int .i64 0, .int .i64 0, .int .i64 0, .slice none 0 0] 24 (0, 0)) := by
    have := heap_alloc_new (w.alloc (.cells #[.int .i64 o, .int .i64 n, .int .i64 pl, .slice a len cap] 24)) (.cells #[.int .i64 0, .int .i64 0, .int .i64 0, .slice none 0 0] 24)
    rwa [World.size_alloc] at this
  have HT := Lib.hid ht
  clear ht
  go_enter Try.func21, Try.ntmps21
  go_wp2_with fail
  refine hA.mono ?_
  rintro e w1 ⟨g, rfl, hgs, hgc, b2⟩
  have hgne : g ≠ w.heap.size + 1 := by simp at hgs; omega
  have gz1 := (b2.block _ (Array.getElem?_eq_some_iff.1 gz).1).trans gz
  have bt := below_then b1 b2
  clear hA b1 b2 gz
  go_wp2_with (refine store_rec rfl 24 (.tmp 2) (.tmp 4) rfl (w.heap.size + 1) #[.int .i64 20, .int .i64 0, .int .i64 0, .slice (some ⟨g, 0, none⟩) 1 1] rfl rfl 24 _ gz1 (by kernel_rfl) rfl (by simp [Value.oneCell']) ?_; intro w6 g6 z6 o6 b6)
  refine bodyPost_ret (fn := Try.f21) (v := .agg #[.int .i64 20, .int .i64 0, .int .i64 0, .slice (some ⟨g, 0, none⟩) 1 1]) ?_ rfl ⟨⟨_, rfl, TreeAt.un (by decide) ((o6 g hgne).trans hgc) (HT.out.mono (bt.trans (b6.mono (Nat.le_succ _))))⟩, bt.trans (b6.mono (Nat.le_succ _))⟩
  exact results_cell_row (fn := Try.f21) rfl _ _ _ _ _ _ _ rfl g6 Try.underlying24 rfl (by kernel_rfl)
end Go.Proofs.Ytogdfjcgcdbnaaa
