/- sem.still over a function that is handed in (by gen17e.py). -/
import Derived.Test.YtogdfjcgcdbnaaaSemA
import Derived.ScopeJumps
namespace Go.Proofs.Ytogdfjcgcdbnaaa
open Go.RowKit
set_option linter.unusedVariables false
set_option linter.unusedSimpArgs false

/-- As Q; by a goto to label l: J l. -/
def jumps (J : Nat → Act → World → Prop) (Q : Exit → Act → World → Prop) : Exit → Act → World → Prop
  | .goto l, a, w => J l a w
  | e, a, w => Q e a w
theorem jumps_mono {J J' : Nat → Act → World → Prop} {Q : Exit → Act → World → Prop} (h : ∀ l a w, J l a w → J' l a w) : ∀ e a w, jumps J Q e a w → jumps J' Q e a w := by
  intro e a w hq
  cases e <;> first | exact h _ _ _ hq | exact hq
section
variable {P : Program} {a : Act} {w : World} {Q : Exit → Act → World → Prop}
/-- What a label's rest owes. -/
def Passes (P : Program) (r : Code) (J : Nat → Act → World → Prop) (μ : Nat → Act → World → Nat) (Q : Exit → Act → World → Prop) (l : Nat) : Prop :=
  ∀ a w, J l a w → r.wp P (jumps (fun l' a' w' => J l' a' w' ∧ μ l' a' w' < μ l a w) Q) a w
theorem wp_scope_labels {c : Code} (r : Nat → Code) (J : Nat → Act → World → Prop) (μ : Nat → Act → World → Nat) (hf : ∀ l a w, J l a w → findLabel c l = some (r l))
    (pass : ∀ l, Passes P (r l) J μ Q l) (first : c.wp P (jumps J Q) a w) : (Code.scope c).wp P Q a w := by
  intro b k cs
  have key : ∀ n l a w, μ l a w = n → J l a w → ∃ e a' w', Q e a' w' ∧ Arrives P (lone (b.at a (.code (r l) :: .inScope c :: k)) cs w) b k cs e a' w' := by
    intro n
    induction n using Nat.strongRecOn with
    | _ n ih =>
      intro l a w hn hJ
      obtain ⟨e, a₁, w₁, hq, harr⟩ := pass l a w hJ b (.inScope c :: k) cs
      cases e with
      | normal => exact ⟨.normal, a₁, w₁, hq, Steps.trans harr (.one step_inScope)⟩
      | exit id => exact ⟨.exit id, a₁, w₁, hq, fun k' hk => harr k' (by simp [exitTo, hk])⟩
      | goto l' =>
        obtain ⟨hJ', hlt⟩ := hq
        have hg : gotoIn l' (.inScope c :: k) = some (.code (r l') :: .inScope c :: k) := by simp [gotoIn, hf l' _ _ hJ']
        obtain ⟨e₂, a₂, w₂, hq₂, harr₂⟩ := ih _ (by omega) l' a₁ w₁ rfl hJ'
        exact ⟨e₂, a₂, w₂, hq₂, .of_steps (harr _ hg) harr₂⟩
      | ret => exact ⟨_, a₁, w₁, hq, harr⟩
      | panic ch => exact ⟨_, a₁, w₁, hq, harr⟩
      | outgrown => exact ⟨_, a₁, w₁, hq, harr⟩
  obtain ⟨e, a₁, w₁, hq, harr⟩ := first b (.inScope c :: k) cs
  cases e with
  | normal => exact ⟨.normal, a₁, w₁, hq, .head step_scope (Steps.trans harr (.one step_inScope))⟩
  | exit id => exact ⟨.exit id, a₁, w₁, hq, fun k' hk => .head step_scope (harr k' (by simp [exitTo, hk]))⟩
  | goto l' =>
    have hg : gotoIn l' (.inScope c :: k) = some (.code (r l') :: .inScope c :: k) := by simp [gotoIn, hf l' _ _ hq]
    obtain ⟨e₂, a₂, w₂, hq₂, harr₂⟩ := key _ l' a₁ w₁ rfl hq
    exact ⟨e₂, a₂, w₂, hq₂, .of_steps (.head step_scope (harr _ hg)) harr₂⟩
  | ret => exact ⟨_, a₁, w₁, hq, .of_steps (.one step_scope) harr⟩
  | panic ch => exact ⟨_, a₁, w₁, hq, .of_steps (.one step_scope) harr⟩
  | outgrown => exact ⟨_, a₁, w₁, hq, .of_steps (.one step_scope) harr⟩
theorem Passes.skipped {r : Code} {J : Nat → Act → World → Prop} {μ : Nat → Act → World → Nat} {l : Nat} (h : Passes P r J μ Q l) : Passes P (Code.skip.seq r) J μ Q l :=
  fun a w hJ => wp_seq (wp_skip (h a w hJ))
/-- One label. -/
theorem wp_scope_one {c r0 : Code} (J : Nat → Act → World → Prop) (μ : Nat → Act → World → Nat) (hJ : ∀ l a w, J l a w → l = 0)
    (h0 : findLabel c 0 = some (Code.skip.seq r0)) (p0 : Passes P r0 J μ Q 0) (first : Passes P r0 J μ Q 0 → c.wp P (jumps J Q) a w) : (Code.scope c).wp P Q a w := by
  refine wp_scope_labels (fun l => match l with | 0 => Code.skip.seq r0 | _ => Code.skip.seq r0) J μ ?_ ?_ (first p0)
  · intro l a w h
    cases hJ l a w h
    exact h0
  · intro l
    match l with
    | 0 => exact p0.skipped
    | n + 1 => intro a w h; exact absurd (hJ _ _ _ h) (by omega)
/-- Running into a label. -/
theorem Passes.at {r : Code} {J : Nat → Act → World → Prop} {μ : Nat → Act → World → Nat} {l : Nat} (h : Passes P r J μ Q l) {a : Act} {w : World} {m : Nat} (hJ : J l a w) (hm : μ l a w ≤ m) :
    r.wp P (jumps (fun l' a' w' => J l' a' w' ∧ μ l' a' w' < m) Q) a w :=
  wp_mono (h a w hJ) (jumps_mono fun _ _ _ h => ⟨h.1, Nat.lt_of_lt_of_le h.2 hm⟩)
theorem Passes.begins {r : Code} {J : Nat → Act → World → Prop} {μ : Nat → Act → World → Nat} {l : Nat} (h : Passes P r J μ Q l) {a : Act} {w : World} (hJ : J l a w) : r.wp P (jumps J Q) a w :=
  wp_mono (h a w hJ) (jumps_mono fun _ _ _ h => h.1)
end
theorem jumps_ret {J : Nat → Act → World → Prop} {Q : Exit → Act → World → Prop} {a : Act} {w : World} : jumps J Q .ret a w = Q .ret a w := rfl
theorem frame_list (xs : Array Value) : xs = ((List.range xs.size).map fun i => xs.getD i undef).toArray := by
  apply Array.ext
  · simp
  · intro i h1 h2
    simp [Array.getD, h1]
/-- How many of the first n are b. -/
def cb (b : Bool) (f : Nat → Bool) : Nat → Nat
  | 0 => 0
  | j + 1 => cb b f j + if f j = b then 1 else 0
theorem cb_le {b : Bool} {f g : Nat → Bool} : ∀ {n}, (∀ i, i < n → g i = b → f i = b) → cb b g n ≤ cb b f n
  | 0, _ => Nat.le_refl _
  | n + 1, h => by
    have := cb_le (n := n) fun i hi => h i (by omega)
    have hn := h n (by omega)
    unfold cb
    split <;> split <;> first | omega | (rename_i h1 h2; exact absurd (hn h1) h2)
theorem cb_lt {b : Bool} {f g : Nat → Bool} : ∀ {n}, (∀ i, i < n → g i = b → f i = b) → ∀ k, k < n → f k = b → g k ≠ b → cb b g n < cb b f n
  | 0, _, k, hk, _, _ => absurd hk (Nat.not_lt_zero k)
  | n + 1, h, k, hk, h1, h2 => by
    have hn := h n (by omega)
    rcases Nat.lt_succ_iff_lt_or_eq.1 hk with hk | rfl
    · have := cb_lt (n := n) (fun i hi => h i (by omega)) k hk h1 h2
      unfold cb
      split <;> split <;> first | omega | (rename_i h3 h4; exact absurd (hn h3) h4)
    · have := cb_le (n := k) fun i hi => h i (by omega)
      unfold cb
      rw [if_pos h1, if_neg h2]
      omega
def updB (f : Nat → Bool) (k : Nat) (v : Bool) : Nat → Bool := fun i => if i = k then v else f i
/-- What holds of the answers so far: they are on the way to G. -/
structure OnWay (wn l : Nat) (b : Bool) (f : Nat → Bool → Bool) (G out : Nat → Bool) : Prop where
  sound : ∀ i, i < wn → out i ≠ b → G i ≠ b
  post : ∀ i, i < wn → out i ≠ b → f i (out (nextW wn l i)) ≠ b
theorem ne_of {b x y : Bool} (h : x ≠ b → y ≠ b) (hy : y = b) : x = b := by
  cases x <;> cases y <;> cases b <;> simp_all
/-- What is said grows with what it is said of. -/
def Grows (b : Bool) (f : Nat → Bool → Bool) : Prop := ∀ i x y, (x ≠ b → y ≠ b) → f i x ≠ b → f i y ≠ b
theorem OnWay.upd {wn l : Nat} {b : Bool} {f : Nat → Bool → Bool} {G out : Nat → Bool} (h : OnWay wn l b f G out) (hl : l < wn) (hg : Grows b f) (hG : ∀ i, i < wn → G i = f i (G (nextW wn l i))) {k : Nat} (hk : k < wn) :
    OnWay wn l b f G (updB out k (f k (out (nextW wn l k)))) ∧ (out k = f k (out (nextW wn l k)) ∨ (out k = b ∧ f k (out (nextW wn l k)) ≠ b)) ∧ (∀ i, i < wn → updB out k (f k (out (nextW wn l k))) i = b → out i = b) := by
  have up : ∀ i, i < wn → out i ≠ b → updB out k (f k (out (nextW wn l k))) i ≠ b := by
    intro i hi ho
    unfold updB
    split
    · rename_i he
      subst he
      exact h.post i hi ho
    · exact ho
  refine ⟨⟨fun i hi ho => ?_, fun i hi ho => ?_⟩, ?_, fun i hi he => ?_⟩
  · unfold updB at ho
    split at ho
    · rename_i he
      subst he
      rw [hG i hi]
      exact hg i _ _ (h.sound _ (nextW_lt hl)) ho
    · exact h.sound i hi ho
  · have hup := up (nextW wn l i) (nextW_lt hl)
    unfold updB at ho
    split at ho
    · rename_i he
      subst he
      exact hg i _ _ hup ho
    · exact hg i _ _ hup (h.post i hi ho)
  · by_cases hb : out k = b
    · by_cases hf : f k (out (nextW wn l k)) = b
      · exact .inl (hb.trans hf.symm)
      · exact .inr ⟨hb, hf⟩
    · have hp := h.post k hk hb
      left
      cases ho : out k <;> cases hf : f k (out (nextW wn l k)) <;> cases b <;> simp_all
  · by_cases hb : out i = b
    · exact hb
    · exact absurd he (up i hi hb)
theorem OnWay.done {wn l : Nat} {b : Bool} {f : Nat → Bool → Bool} {G out : Nat → Bool} (h : OnWay wn l b f G out) (hext : ∀ R : Nat → Bool, (∀ i, i < wn → R i = f i (R (nextW wn l i))) → ∀ i, i < wn → G i ≠ b → R i ≠ b) (hfix : ∀ i, i < wn → out i = f i (out (nextW wn l i))) :
    ∀ i, i < wn → out i = G i := by
  intro i hi
  have h1 := h.sound i hi
  have h2 := hext out hfix i hi
  cases ho : out i <;> cases hg : G i <;> cases b <;> simp_all
theorem BoolsOut.mk_ (w : World) (n : Nat) (f : Nat → Bool) (g : Nat) (w' : World) (hg : w.heap.size ≤ g) (h : w'.rowIs g 4 n fun i => .bool (f i)) : BoolsOut w n f (.returned (.slice (some ⟨g, 0, none⟩) n n)) w' := ⟨g, rfl, hg, h⟩
theorem stillfirst_any (w : World) (g : Nat) (b : Bool) (i : Int) (hc : w.cell? ⟨g, 0, none⟩ = some (.bool b)) : Calls Try.prog 49 (#[.int .i64 i] ++ #[.pointer (some ⟨g, 0, none⟩)]) w fun e w' => e = .returned (.bool b) ∧ Below w.heap.size w w' := by
  have b0 := Below.refl w.heap.size w
  show Calls Try.prog 49 #[.int .i64 i, .pointer (some ⟨g, 0, none⟩)] w _
  go_enter Try.func49, Try.ntmps49
  go_wp2_with fail
  go_ret
  exact ⟨rfl, b0⟩
theorem frame45 {tm : Array Value} {x2 x3 x7 : Value} (hz : tm.size = 45) (h2 : tm.getD 2 undef = x2) (h3 : tm.getD 3 undef = x3) (h7 : tm.getD 7 undef = x7) : ∃ U : Nat → Value, tm = #[U 0, U 1, x2, x3, U 4, U 5, U 6, x7, U 8, U 9, U 10, U 11, U 12, U 13, U 14, U 15, U 16, U 17, U 18, U 19, U 20, U 21, U 22, U 23, U 24, U 25, U 26, U 27, U 28, U 29, U 30, U 31, U 32, U 33, U 34, U 35, U 36, U 37, U 38, U 39, U 40, U 41, U 42, U 43, U 44] := by
  subst h2 h3 h7
  refine ⟨fun i => tm.getD i undef, ?_⟩
  have h := frame_list tm
  rw [hz] at h
  exact h
/-- What holds at the label. -/
def StillJ (W : World) (wa : Option Addr) (wn wc l gt : Nat) (K : FuncId) (cap : Array Value) (b : Bool) (f : Nat → Bool → Bool) (G : Nat → Bool) (lb : Nat) (a : Act) (w : World) : Prop :=
  lb = 0 ∧ ∃ (gs : Nat) (out : Nat → Bool), gt < gs ∧ a.defers = [] ∧ a.tmps.size = 45 ∧ a.tmps.getD 2 undef = .func (.func K) #[] cap ∧ a.tmps.getD 3 undef = .pointer (some ⟨gt, 0, none⟩) ∧ a.tmps.getD 7 undef = .slice (some ⟨gs, 0, none⟩) wn wn ∧
    w.heap[gt]? = some (.cells #[.slice wa wn wc, .int .i64 (l : Nat)] 27 (0, 0)) ∧ w.rowIs gs 4 wn (fun i => .bool (out i)) ∧ Below W.heap.size W w ∧ OnWay wn l b f G out
def outOf (w : World) (gs i : Nat) : Bool := match w.cell? ⟨gs, i, none⟩ with | some (.bool b) => b | _ => false
def stillM (wn : Nat) (b : Bool) (_ : Nat) (a : Act) (w : World) : Nat := match a.tmps.getD 7 undef with | .slice (some p) _ _ => cb b (outOf w p.block) wn | _ => 0
theorem cb_congr {b : Bool} {f g : Nat → Bool} : ∀ {n}, (∀ i, i < n → f i = g i) → cb b f n = cb b g n
  | 0, _ => rfl
  | n + 1, h => by
    unfold cb
    rw [cb_congr (n := n) fun i hi => h i (by omega), h n (by omega)]
theorem stillM_row {w : World} {gs wn : Nat} {out : Nat → Bool} (h : w.rowIs gs 4 wn fun i => .bool (out i)) (b : Bool) (l : Nat) (a : Act) (n c : Nat) (ha : a.tmps.getD 7 undef = .slice (some ⟨gs, 0, none⟩) n c) : stillM wn b l a w = cb b out wn := by
  unfold stillM
  rw [ha]
  refine cb_congr fun i hi => ?_
  unfold outOf
  rw [h.cell hi]
set_option maxRecDepth 20000 in
set_option maxHeartbeats 2000000 in
theorem still_gen (w : World) (wa : Option Addr) (wn wc l : Nat) (b : Bool) (K : FuncId) (cap : Array Value) (f : Nat → Bool → Bool) (G : Nat → Bool) (hK : ∀ args w, (callFunc K args).run Try.prog w = .ok (.enter K args) w) (hwn : wn ≤ 1000000) (hl : l < wn)
    (hp : ∀ z : Later w.heap.size w, ∀ i, i < wn → ∀ x, Calls Try.prog K (#[.int .i64 (i : Nat), .bool x] ++ cap) z.w fun e w' => e = .returned (.bool (f i x)) ∧ Below z.w.heap.size z.w w')
    (hg : Grows b f) (hG : ∀ i, i < wn → G i = f i (G (nextW wn l i))) (hext : ∀ R : Nat → Bool, (∀ i, i < wn → R i = f i (R (nextW wn l i))) → ∀ i, i < wn → G i ≠ b → R i ≠ b) :
    Calls Try.prog 40 #[.agg #[.slice wa wn wc, .int .i64 (l : Nat)], .bool b, .func (.func K) #[] cap] w fun e w' => BoolsOut w wn G e w' ∧ Below w.heap.size w w' := by
  have A := (Below.refl w.heap.size w).alloc (Nat.le_refl _) (.cells #[.slice wa wn wc, .int .i64 (l : Nat)] 27)
  have pt : (w.alloc (.cells #[.slice wa wn wc, .int .i64 (l : Nat)] 27)).heap[w.heap.size]? = some (.cells #[.slice wa wn wc, .int .i64 (l : Nat)] 27 (0, 0)) := heap_alloc_new _ _
  go_enter Try.func40, Try.ntmps40
  go_upto_region 1 with fail
  have A2 := (Below.refl (w.alloc (.cells #[.slice wa wn wc, .int .i64 (l : Nat)] 27)).heap.size (w.alloc (.cells #[.slice wa wn wc, .int .i64 (l : Nat)] 27))).alloc (Nat.le_refl _) (.cells #[.bool b] 4)
  have pb : ((w.alloc (.cells #[.slice wa wn wc, .int .i64 (l : Nat)] 27)).alloc (.cells #[.bool b] 4)).heap[(w.alloc (.cells #[.slice wa wn wc, .int .i64 (l : Nat)] 27)).heap.size]? = some (.cells #[.bool b] 4 (0, 0)) := heap_alloc_new _ _
  replace pt := (A2.block w.heap.size (by simp)).trans pt
  have bt := below_then A A2
  obtain ⟨v2, hv⟩ : ∃ v, (w.alloc (.cells #[.slice wa wn wc, .int .i64 (l : Nat)] 27)).alloc (.cells #[.bool b] 4) = v := ⟨_, rfl⟩
  rw [World.size_alloc] at pb
  rw [hv] at pt pb bt ⊢
  obtain ⟨gt, hgt⟩ : ∃ g, w.heap.size = g := ⟨_, rfl⟩
  rw [hgt] at pt pb ⊢
  obtain ⟨gb, hgb⟩ : ∃ g, gt + 1 = g := ⟨_, rfl⟩
  rw [hgb] at pb ⊢
  have hgw : w.heap.size ≤ gt := Nat.le_of_eq hgt
  clear hv hgt hgb A A2
  have hgb : gt < v2.heap.size := (Array.getElem?_eq_some_iff.1 pt).1
  refine wp_scope_one (StillJ w wa wn wc l gt K cap b f G) (stillM wn b) (fun l a w h => h.1) (by rfl) ?_ ?_
  · rintro ⟨tm, df⟩ wr ⟨_, gs, out, hgst, hdf, hfz, f2, f3, f7, pt, hrow, bt, hon⟩
    simp only [] at hdf hfz f2 f3 f7
    have hm := stillM_row hrow b 0 ⟨tm, df⟩ wn wn f7
    rw [hm]
    clear hm
    obtain ⟨U, rfl⟩ := frame45 hfz f2 f3 f7
    subst hdf
    clear hfz f2 f3 f7
    have HROW := Lib.hid hrow
    have HON := Lib.hid hon
    have PT := Lib.hid pt
    have BT := Lib.hid bt
    clear hrow hon
    go_wp2_with fail
    clear pt bt
    go_loopw [8, 9] (fun ch at_ w' => ∃ (k : Nat) (C : Bool) (out' : Nat → Bool), k ≤ wn ∧ at_ = .int .i64 ((k : Int) - 1) ∧ ch = .bool C ∧ w'.heap[gt]? = some (.cells #[.slice wa wn wc, .int .i64 (l : Nat)] 27 (0, 0)) ∧ Hid (w'.rowIs gs 4 wn fun i => .bool (out' i)) ∧ Below w.heap.size w w' ∧ Hid (OnWay wn l b f G out') ∧ Hid (cb b out' wn ≤ cb b out wn ∧ (C = true → cb b out' wn < cb b out wn) ∧ (C = false → ∀ i, k ≤ i → i < wn → out' i = f i (out' (nextW wn l i))))) (fun ch at_ _ => (intOf at_ + 1).toNat)
    case atStart => exact ⟨wn, false, out, Nat.le_refl _, rfl, rfl, PT.out, HROW, BT.out, HON, Lib.hid ⟨Nat.le_refl _, fun h => (by cases h), fun _ i h1 h2 => absurd h2 (by omega)⟩⟩
    case round =>
      clear HROW HON
      obtain ⟨k, C, out', hk, rfl, rfl, pt, HROW, bt, HON, HC⟩ := hrel
      by_cases hk0 : k = 0
      · subst hk0
        have f1 : decide ((0 : Int) ≤ -1) = false := by decide
        rw [show ((0 : Nat) : Int) - 1 = -1 from rfl]
        obtain ⟨hC1, hC2, hC3⟩ := HC.out
        have HC2 := Lib.hid hC2
        have HC3 := Lib.hid hC3
        clear hC1 hC2 hC3 HC
        cases C with
        | true =>
          go_wp2_with fail
          go_step3
          refine ⟨⟨rfl, gs, out', hgst, rfl, rfl, rfl, rfl, rfl, pt, HROW.out, bt, HON.out⟩, ?_⟩
          rw [stillM_row HROW.out b 0 _ wn wn rfl]
          exact HC2.out (by simp)
        | false =>
          have hd := HON.out.done hext (fun i hi => HC3.out rfl i (Nat.zero_le _) hi)
          have HD := Lib.hid (BoolsOut.mk_ w wn G gs _ (show w.heap.size ≤ gs by omega) (HROW.out.congr fun i hi => by rw [hd i hi]))
          clear hd
          go_wp2_with fail
          try rw [jumps_ret]
          try rw [Exit.noGoto_ret]
          refine bodyPost_ret (fn := Try.f40) (v := .slice (some ⟨gs, 0, none⟩) wn wn) ?_ rfl ?_
          · exact results_tmp (fn := Try.f40) rfl _ _ _
          · exact ⟨HD.out, bt⟩
      · obtain ⟨m, rfl⟩ : ∃ m, k = m + 1 := ⟨k - 1, by omega⟩
        have e1 : ((m + 1 : Nat) : Int) - 1 = (m : Int) := by omega
        rw [e1]
        have hm : m < wn := by omega
        have f1 : decide ((0 : Int) ≤ (m : Int)) = true := by simp
        have c0 : wr.cell? ⟨gt, 0, none⟩ = some (.slice wa wn wc) := cell_of_row _ _ 0 _ _ _ pt
        have c1 : wr.cell? ⟨gt, 1, none⟩ = some (.int .i64 (l : Nat)) := cell_of_row _ _ 1 _ _ _ pt
        clear e1 hk0 hk
        go_wp2_with fail
        refine (next_any _ wa wn wc l m hm hwn hl).mono ?_
        rintro e w2 ⟨rfl, b2⟩
        have pt2 := (b2.block gt (Array.getElem?_eq_some_iff.1 pt).1).trans pt
        have HR2 := Lib.hid (HROW.out.of_block (b2.block _ HROW.out.lt))
        have bt2 := below_then bt b2
        have hnl := nextW_lt (i := m) hl
        have hc1 := HR2.out.cell hnl
        obtain ⟨N, hN⟩ : ∃ N, nextW wn l m = N := ⟨_, rfl⟩
        rw [hN] at hc1 hnl ⊢
        obtain ⟨X, hX⟩ : ∃ X, out' N = X := ⟨_, rfl⟩
        rw [hX] at hc1
        have hN1 := Lib.hid hN
        have hX1 := Lib.hid hX
        clear c0 c1 hN hX
        have eX : out' (nextW wn l m) = X := by rw [hN1.out]; exact hX1.out
        obtain ⟨hon2, hcase, hle⟩ := HON.out.upd hl hg hG hm
        rw [eX] at hon2 hcase hle
        have HON2 := Lib.hid hon2
        have HLE := Lib.hid (cb_le hle)
        have HLT := Lib.hid (fun (h1 : out' m = b) (h2 : f m X ≠ b) => cb_lt hle m hm h1 (by unfold updB; rw [if_pos rfl]; exact h2))
        have HCASE := Lib.hid hcase
        have HEX := Lib.hid eX
        obtain ⟨hC1, hC2, hC3⟩ := HC.out
        have HC1 := Lib.hid hC1
        have HC2 := Lib.hid hC2
        have HC3 := Lib.hid hC3
        clear hon2 hcase hle eX hC1 hC2 hC3 HC
        cases C with
        | true =>
          go_wp2_with (first | (go_at_fn K; refine (hp ⟨w2, bt2⟩ m hm X).mono ?_; rintro e w3 ⟨rfl, b3⟩; have pt3 := (b3.block gt (Array.getElem?_eq_some_iff.1 pt2).1).trans pt2; have HR3 := Lib.hid (HR2.out.of_block (b3.block _ HR2.out.lt)); have bt3 := below_then bt2 b3; have hc2 := HR3.out.cell hm; have fz := HR3.out.frozen m))
          refine ⟨⟨m, true, updB out' m (f m X), by omega, rfl, rfl, by rw [Below.heap_setCell _ _ _ _ (show gt ≠ gs by omega)]; exact pt3, Lib.hid ((HR3.out.set m _).congr fun i hi => ?_), bt3.setCell (show w.heap.size ≤ gs by omega) _, HON2, Lib.hid ⟨Nat.le_trans HLE.out HC1.out, fun _ => Nat.lt_of_le_of_lt HLE.out (HC2.out (by simp)), fun h => by cases h⟩⟩, by simp [intOf] <;> omega⟩
          unfold updB
          by_cases hij : i = m
          · rw [if_pos hij, if_pos hij]
          · rw [if_neg hij, if_neg hij]
        | false =>
          obtain ⟨O, hO⟩ : ∃ O, out' m = O := ⟨_, rfl⟩
          obtain ⟨V, hV⟩ : ∃ V, f m X = V := ⟨_, rfl⟩
          go_wp2_with (first | (go_at_fn K; refine (hp ⟨w2, bt2⟩ m hm X).mono ?_; rintro e w3 ⟨rfl, b3⟩; have pt3 := (b3.block gt (Array.getElem?_eq_some_iff.1 pt2).1).trans pt2; have HR3 := Lib.hid (HR2.out.of_block (b3.block _ HR2.out.lt)); have bt3 := below_then bt2 b3; have hc2 := HR3.out.cell hm; rw [hO] at hc2; rw [hV]; have fz := HR3.out.frozen m))
          refine ⟨⟨m, !(V == O), updB out' m (f m X), by omega, rfl, rfl, by rw [Below.heap_setCell _ _ _ _ (show gt ≠ gs by omega)]; exact pt3, Lib.hid ((HR3.out.set m _).congr fun i hi => ?_), bt3.setCell (show w.heap.size ≤ gs by omega) _, HON2, Lib.hid ⟨Nat.le_trans HLE.out HC1.out, fun h => ?_, fun h => ?_⟩⟩, by simp [intOf] <;> omega⟩
          · unfold updB
            by_cases hij : i = m
            · rw [if_pos hij, if_pos hij, hV]
            · rw [if_neg hij, if_neg hij]
          · rcases HCASE.out with h1 | ⟨h1, h2⟩
            · rw [hO, hV] at h1
              subst h1
              simp at h
            · exact Nat.lt_of_lt_of_le (HLT.out h1 h2) HC1.out
          · have hVO : V = O := by cases V <;> cases O <;> simp_all
            have hup : updB out' m (f m X) = out' := by
              funext i
              unfold updB
              split
              · rename_i he; rw [he, hV, hVO, ← hO]
              · rfl
            rw [hup]
            intro i h1 h2
            rcases Nat.eq_or_lt_of_le h1 with rfl | h3
            · rw [HEX.out, hV, hO, hVO]
            · exact HC3.out (by simp) i h3 h2
  · intro hp0
    have c0 : v2.cell? ⟨gt, 0, none⟩ = some (.slice wa wn wc) := cell_of_row _ _ 0 _ _ _ pt
    have c1 : v2.cell? ⟨gt, 1, none⟩ = some (.int .i64 (l : Nat)) := cell_of_row _ _ 1 _ _ _ pt
    go_wp2_with fail
    refine (each_gen v2 wa wn wc (l : Nat) 49 #[.pointer (some ⟨gb, 0, none⟩)] (fun _ => b) (enters_of Try.func49 (by kernel_rfl) rfl) hwn (fun z i hi => stillfirst_any z.w gb b _ (cell_of_row _ _ 0 _ _ _ ((z.below.block gb (Array.getElem?_eq_some_iff.1 pb).1).trans pb)))).mono ?_
    rintro e w1 ⟨⟨gs, rfl, hgs, hrow⟩, b1⟩
    have hgst : gt < gs := by omega
    have pt1 := (b1.block gt hgb).trans pt
    have bt1 := below_then bt b1
    have hon : OnWay wn l b f G (fun _ => b) := ⟨fun i _ h => absurd rfl h, fun i _ h => absurd rfl h⟩
    have HROW := Lib.hid hrow
    have HON := Lib.hid hon
    clear hrow hon c0 c1 pt pb bt b1
    go_wp2_with fail
    go_step3
    rename_i hK2
    refine hK2 _ _ (hp0.begins ?_)
    exact ⟨rfl, gs, fun _ => b, hgst, rfl, rfl, rfl, rfl, rfl, pt1, HROW.out, bt1, HON.out⟩
end Go.Proofs.Ytogdfjcgcdbnaaa
