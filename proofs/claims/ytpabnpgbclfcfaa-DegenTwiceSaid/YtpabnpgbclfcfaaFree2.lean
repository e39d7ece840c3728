/- Regions that draw their order: what each operation's value is told to be, one relation an operation; a step for each kind of operation. -/
import Derived.Test.YtpabnpgbclfcfaaFree
namespace Go.Proofs.Ytpabnpgbclfcfaa
open Go.RowKit
set_option linter.unusedVariables false
set_option linter.unusedSimpArgs false
/-- A frame whose slots are told by a function. -/
def frameOf (n : Nat) (df : List Deferred) (u : Nat → Value) : Act := ⟨((List.range n).map u).toArray, df⟩
def updV (u : Nat → Value) (d : Nat) (v : Value) : Nat → Value := fun s => if s = d then v else u s
def slotOf (a : Act) : Nat → Value := fun s => a.tmps.getD s undef
theorem frame_of (a : Act) : a = frameOf a.tmps.size a.defers (slotOf a) := by
  obtain ⟨t, d⟩ := a
  unfold frameOf slotOf
  congr 1
  apply Array.ext
  · simp
  · intro i h1 h2
    simp [Array.getD, h1]
theorem frame_get (n : Nat) (df : List Deferred) (u : Nat → Value) (t : Nat) : (frameOf n df u).tmps[t]? = if t < n then some (u t) else none := by
  unfold frameOf
  by_cases h : t < n <;> simp [h]
theorem frame_put (n : Nat) (df : List Deferred) (u : Nat → Value) (d : Nat) (v : Value) : (frameOf n df u).put (some d) v = frameOf n df (updV u d v) := by
  show (⟨((List.range n).map u).toArray.setIfInBounds d v, df⟩ : Act) = ⟨((List.range n).map (updV u d v)).toArray, df⟩
  congr 1
  apply Array.ext
  · simp
  · intro i h1 h2
    by_cases hi : d = i
    · subst hi
      simp [updV]
    · simp [updV, hi, Ne.symm hi, Array.getElem_setIfInBounds]
theorem frame_over (n : Nat) (df : List Deferred) (u : Nat → Value) (d : Nat) (v : Value) (h : n ≤ d) : frameOf n df (updV u d v) = frameOf n df u := by
  unfold frameOf
  congr 2
  refine List.map_congr_left fun s hs => ?_
  have := List.mem_range.1 hs
  unfold updV
  rw [if_neg (by omega)]
def evU (n : Nat) (u : Nat → Value) : Operand → Value
  | .tmp t => bif Nat.blt t n then u t else undef
  | .const v => v
  | .global g => .pointer (some ⟨g, 0, none⟩)
  | .func f => .func (.func f) #[] #[]
theorem frame_eval (n : Nat) (df : List Deferred) (u : Nat → Value) : (frameOf n df u).eval = evU n u := by
  funext x
  cases x with
  | tmp t =>
    show (frameOf n df u).tmps.getD t undef = bif Nat.blt t n then u t else undef
    have h := frame_get n df u t
    rw [Array.getD_eq_getD_getElem?, h]
    by_cases ht : t < n
    · have : Nat.blt t n = true := by rw [Nat.blt_eq]; exact ht
      rw [if_pos ht, this]; rfl
    · have : Nat.blt t n = false := by
        cases hb : Nat.blt t n with
        | false => rfl
        | true => rw [Nat.blt_eq] at hb; exact absurd hb ht
      rw [if_neg ht, this]; rfl
  | const v => rfl
  | global g => rfl
  | func f => rfl
/-- A relation of a value and a world that stays. -/
structure MRel where
  r : Value → World → Prop
  mono : ∀ v w w', r v w → Below w.heap.size w w' → r v w'
def MRel.val (x : Value) : MRel := ⟨fun v _ => v = x, fun _ _ _ h _ => h⟩
def MRel.any : MRel := ⟨fun _ _ => True, fun _ _ _ _ _ => trivial⟩
def rsAt (rs : List MRel) (k : Nat) : MRel := rs.getD k MRel.any
def dstsFrom : Nat → List Oper → List Nat
  | _, [] => []
  | i, o :: r => (o.dst.getD (1000000 + i)) :: dstsFrom (i + 1) r
def dstAt (l : List Oper) (i : Nat) : Nat := (dstsFrom 0 l).getD i 0
theorem dstsFrom_get : ∀ (l : List Oper) (k i : Nat), (dstsFrom k l)[i]? = (l[i]?).map fun o => o.dst.getD (1000000 + (k + i))
  | [], k, i => by simp [dstsFrom]
  | o :: r, k, 0 => by simp [dstsFrom]
  | o :: r, k, i + 1 => by
    simp only [dstsFrom, List.getElem?_cons_succ]
    rw [dstsFrom_get r (k + 1) i, show k + 1 + i = k + (i + 1) by omega]
theorem dstAt_eq {l : List Oper} {i : Nat} {o : Oper} (h : l[i]? = some o) : dstAt l i = o.dst.getD (1000000 + i) := by
  unfold dstAt
  rw [List.getD_eq_getElem?_getD, dstsFrom_get, h]
  simp
def ordFrom : Nat → List Oper → Bool
  | _, [] => true
  | i, o :: r => o.after.toList.all (fun e => !Region.binds .any e || Nat.blt e.on i) && ordFrom (i + 1) r
theorem ordFrom_spec : ∀ (l : List Oper) (k : Nat), ordFrom k l = true → ∀ i o, l[i]? = some o → ∀ e ∈ o.after, Region.binds .any e = true → e.on < k + i
  | [], _, _, i, o, h, _, _, _ => by simp at h
  | x :: r, k, hB, i, o, h, e, he, hb => by
    simp only [ordFrom, Bool.and_eq_true, List.all_eq_true] at hB
    cases i with
    | zero =>
      simp at h
      subst h
      have := hB.1 e (by simpa using he)
      rw [hb] at this
      simpa [Nat.blt_eq] using this
    | succ i =>
      have := ordFrom_spec r (k + 1) hB.2 i o (by simpa using h) e he hb
      omega
def nodupB : List Nat → Bool
  | [] => true
  | x :: r => r.all (fun y => !Nat.beq x y) && nodupB r
theorem nodupB_spec : ∀ (l : List Nat), nodupB l = true → ∀ (i j x y : Nat), l[i]? = some x → l[j]? = some y → i ≠ j → x ≠ y
  | [], _, i, j, x, y, h, _, _ => by simp at h
  | a :: r, hB, i, j, x, y, hi, hj, hne => by
    simp only [nodupB, Bool.and_eq_true, List.all_eq_true] at hB
    have key : ∀ z k, r[k]? = some z → a ≠ z := fun z k hk he => by
      have := hB.1 z (List.mem_of_getElem? hk)
      rw [he] at this
      simp at this
    cases i with
    | zero =>
      cases j with
      | zero => exact absurd rfl hne
      | succ j =>
        simp at hi hj
        subst hi
        exact key y j hj
    | succ i =>
      cases j with
      | zero =>
        simp at hi hj
        subst hj
        exact (key x i hi).symm
      | succ j =>
        exact nodupB_spec r hB.2 i j x y (by simpa using hi) (by simpa using hj) (by omega)
def okB (l : List Oper) (n : Nat) (kept : Nat → Bool) : Bool := Nat.ble n 1000000 && ordFrom 0 l && nodupB (dstsFrom 0 l) && (dstsFrom 0 l).all fun d => !kept d
/-- The operation's guard is met. -/
def GuardOK (l : List Oper) (n : Nat) (g : Option (Nat × Bool)) (u : Nat → Value) : Prop :=
  match g with
  | none => True
  | some (k, b) => (Nat.blt k l.length && Nat.blt (dstAt l k) n && Nat.ble n 1000000) = true ∧ u (dstAt l k) = .bool b
theorem wanted_ok {l : List Oper} {n : Nat} {df : List Deferred} {u : Nat → Value} {o : Oper} (h : GuardOK l n o.guard u) : Region.wanted o (yielded l.toArray (frameOf n df u).tmps) = true := by
  unfold Region.wanted
  cases hg : o.guard with
  | none => rfl
  | some p =>
    obtain ⟨k, b⟩ := p
    rw [hg] at h
    obtain ⟨h1, h2⟩ := h
    simp only [Bool.and_eq_true, Nat.blt_eq, Nat.ble_eq] at h1
    obtain ⟨⟨h3, h4⟩, h5⟩ := h1
    obtain ⟨o', ho'⟩ : ∃ o', l[k]? = some o' := ⟨l[k]'h3, List.getElem?_eq_getElem h3⟩
    have hd := dstAt_eq ho'
    have hy : yielded l.toArray (frameOf n df u).tmps k = some b := by
      unfold yielded
      rw [show l.toArray[k]? = some o' by simpa using ho']
      cases hdst : o'.dst with
      | none => rw [hdst] at hd; simp at hd; omega
      | some d =>
        rw [hdst] at hd
        simp at hd
        simp only [Option.bind_some, hdst]
        rw [frame_get, ← hd, if_pos h4, h2]
    show (yielded l.toArray (frameOf n df u).tmps k == some b) = true
    rw [hy]
    simp
section
variable {P : Program} {Q : Exit → Act → World → Prop} {l : List Oper} {n : Nat} {df : List Deferred} {kept : Nat → Bool} {u0 : Nat → Value} {W : World} {rs : List MRel}
theorem below_then' {w a b : World} (h : Below w.heap.size w a) (h' : Below a.heap.size a b) : Below w.heap.size w b := h.trans (h'.mono h.size)
def DepsR (l : List Oper) (rs : List MRel) (after : Array Edge) (u : Nat → Value) (w : World) : Prop := ∀ k, (after.toList.any fun e => Nat.beq e.on k && Region.binds .any e) = true → (rsAt rs k).r (u (dstAt l k)) w
def StepR (P : Program) (Q : Exit → Act → World → Prop) (l : List Oper) (n : Nat) (df : List Deferred) (kept : Nat → Bool) (u0 : Nat → Value) (W : World) (rs : List MRel) (i : Nat) : Prop :=
  ∀ o, l[i]? = some o → ∀ u w, (∀ s, kept s = true → u s = u0 s) → Below W.heap.size W w → DepsR l rs o.after u w →
    GuardOK l n o.guard u ∧ ∀ K : Act → World → Prop, (∀ v w', Below w.heap.size w w' → (rsAt rs i).r v w' → K ((frameOf n df u).put o.dst v) w') → o.wp P (frameOf n df u) w K Q
def StepsR (P : Program) (Q : Exit → Act → World → Prop) (l : List Oper) (n : Nat) (df : List Deferred) (kept : Nat → Bool) (u0 : Nat → Value) (W : World) (rs : List MRel) (k : Nat) : Prop :=
  ∀ i, k ≤ i → i < l.length → StepR P Q l n df kept u0 W rs i
theorem steps_nil {k : Nat} (h : Nat.ble l.length k = true) : StepsR P Q l n df kept u0 W rs k := fun i h1 h2 => by
  rw [Nat.ble_eq] at h
  omega
theorem steps_cons {k : Nat} (h : StepR P Q l n df kept u0 W rs k) (t : StepsR P Q l n df kept u0 W rs (k + 1)) : StepsR P Q l n df kept u0 W rs k := fun i h1 h2 => by
  rcases (by omega : i = k ∨ k + 1 ≤ i) with rfl | h3
  · exact h
  · exact t i h3 h2
theorem wp_region_rel {id : Nat} {a : Act} (n : Nat) (hm : P.follows .mixedOrders = true) (hnn : a.tmps.size = n) (kept : Nat → Bool) (rs : List MRel) (hB : okB l n kept = true)
    (hstep : StepsR P Q l n a.defers kept (slotOf a) W rs 0)
    (hend : ∀ u w, (∀ s, kept s = true → u s = slotOf a s) → Below W.heap.size W w → (∀ i, Nat.blt i l.length = true → (rsAt rs i).r (u (dstAt l i)) w) → Q .normal (frameOf n a.defers u) w) : (Code.region id l.toArray true).wp P Q a W := by
  subst hnn
  unfold okB at hB
  simp only [Bool.and_eq_true, Nat.ble_eq, List.all_eq_true] at hB
  obtain ⟨⟨⟨hn, hord⟩, hnd⟩, hkd⟩ := hB
  have hdst : ∀ i, i < l.length → ∃ o, l[i]? = some o ∧ (dstsFrom 0 l)[i]? = some (dstAt l i) ∧ dstAt l i = o.dst.getD (1000000 + i) := fun i hi => by
    refine ⟨l[i], List.getElem?_eq_getElem hi, ?_, dstAt_eq (List.getElem?_eq_getElem hi)⟩
    rw [dstsFrom_get, List.getElem?_eq_getElem hi, dstAt_eq (List.getElem?_eq_getElem hi)]
    simp
  refine wp_region_inv hm (fun L a' w => ∃ u, a' = frameOf a.tmps.size a.defers u ∧ (∀ s, kept s = true → u s = slotOf a s) ∧ Below W.heap.size W w ∧ ∀ i, i < l.length → L i = true → (rsAt rs i).r (u (dstAt l i)) w) ?_ ?_ ?_ ?_
  · intro i o ho e he hb
    have := ordFrom_spec l 0 hord i o (by simpa using ho) e he hb
    omega
  · exact ⟨_, frame_of a, fun _ _ => rfl, (Below.refl _ _).drew, fun i _ h => by cases h⟩
  · rintro L a' w ⟨u, rfl, hk, hb, hr⟩ i hi hLi hdeps
    have hil : i < l.length := by simpa using hi
    obtain ⟨o, ho, hd1, hd2⟩ := hdst i hil
    have hoa : l.toArray[i]? = some o := by simpa using ho
    have hdep : DepsR l rs o.after u w := fun k hk' => by
      rw [List.any_eq_true] at hk'
      obtain ⟨e, he, h2⟩ := hk'
      replace he : e ∈ o.after := by simpa using he
      simp only [Bool.and_eq_true, Nat.beq_eq] at h2
      obtain ⟨rfl, h3⟩ := h2
      have hlt := ordFrom_spec l 0 hord i o ho e he h3
      exact hr e.on (by omega) (hdeps o hoa e he h3)
    obtain ⟨hg, hw⟩ := hstep i (Nat.zero_le _) hil o ho u w hk hb hdep
    unfold wpOp
    simp only [hoa]
    rw [if_pos (wanted_ok hg)]
    refine .inl (hw _ fun v w' hb' hrv => ?_)
    have hput : (frameOf a.tmps.size a.defers u).put o.dst v = frameOf a.tmps.size a.defers (updV u (dstAt l i) v) := by
      rw [hd2]
      cases o.dst with
      | some d => exact frame_put _ _ _ _ _
      | none => exact (frame_over _ _ _ _ _ (by simp; omega)).symm
    refine ⟨updV u (dstAt l i) v, hput, fun s hs => ?_, below_then' hb hb', fun k hkl hk' => ?_⟩
    · unfold updV
      rw [if_neg, hk s hs]
      rintro rfl
      have := hkd _ (List.mem_of_getElem? hd1)
      rw [hs] at this
      simp at this
    · by_cases hki : k = i
      · subst hki
        unfold updV
        rw [if_pos rfl]
        exact hrv
      · unfold updL at hk'
        rw [if_neg hki] at hk'
        obtain ⟨_, _, hd3, _⟩ := hdst k hkl
        unfold updV
        rw [if_neg (nodupB_spec _ hnd k i _ _ hd3 hd1 hki)]
        exact (rsAt rs k).mono _ _ _ (hr k hkl hk') hb'
  · rintro L a' w ⟨u, rfl, hk, hb, hr⟩ hall
    exact hend u w hk hb fun i hi => hr i (by simpa [Nat.blt_eq] using hi) (hall i (by simpa [Nat.blt_eq] using hi))
/-- The steps. -/
theorem st_move {i : Nat} {dst : Option Tmp} {x : Operand} {ty : TypeId} {pos : String} {after : Array Edge} {guard : Option (Nat × Bool)} (ho : l[i]? = some ⟨dst, .move x, ty, pos, after, guard⟩)
    (hs : ∀ u w, (∀ s, kept s = true → u s = u0 s) → Below W.heap.size W w → DepsR l rs after u w → GuardOK l n guard u ∧ (rsAt rs i).r (evU n u x) w) : StepR P Q l n df kept u0 W rs i := by
  intro o ho' u w hk hb hd
  rw [ho] at ho'
  cases ho'
  obtain ⟨hg, hr⟩ := hs u w hk hb hd
  refine ⟨hg, fun K hK => ?_⟩
  unfold Oper.wp
  rw [frame_eval]
  exact hK _ _ (Below.refl _ _) hr
theorem st_assign {i : Nat} {dst : Option Tmp} {x : Operand} {ty : TypeId} {pos : String} {after : Array Edge} {guard : Option (Nat × Bool)} (ho : l[i]? = some ⟨dst, .assign x, ty, pos, after, guard⟩)
    (hs : ∀ u w, (∀ s, kept s = true → u s = u0 s) → Below W.heap.size W w → DepsR l rs after u w → GuardOK l n guard u ∧ (rsAt rs i).r (evU n u x) w) : StepR P Q l n df kept u0 W rs i := by
  intro o ho' u w hk hb hd
  rw [ho] at ho'
  cases ho'
  obtain ⟨hg, hr⟩ := hs u w hk hb hd
  refine ⟨hg, fun K hK => ?_⟩
  unfold Oper.wp
  rw [frame_eval]
  exact hK _ _ (Below.refl _ _) hr
/-- Any operation that is carried out to its end in the world that it got. -/
theorem st_run {i : Nat} {o : Oper} (ho : l[i]? = some o)
    (hs : ∀ u w, (∀ s, kept s = true → u s = u0 s) → Below W.heap.size W w → DepsR l rs o.after u w → GuardOK l n o.guard u ∧ ∃ v, (execOp (evU n u) o).run P w = .ok (.value v) w ∧ (rsAt rs i).r v w) : StepR P Q l n df kept u0 W rs i := by
  intro o' ho' u w hk hb hd
  rw [ho] at ho'
  cases ho'
  obtain ⟨hg, v, hv, hr⟩ := hs u w hk hb hd
  refine ⟨hg, fun K hK => ?_⟩
  unfold Oper.wp
  rw [frame_eval, hv]
  exact hK _ _ (Below.refl _ _) hr
theorem st_load {i : Nat} {dst : Option Tmp} {t : TypeId} {x : Operand} {ty : TypeId} {pos : String} {after : Array Edge} {guard : Option (Nat × Bool)} (ho : l[i]? = some ⟨dst, .load t x, ty, pos, after, guard⟩)
    (hs : ∀ u w, (∀ s, kept s = true → u s = u0 s) → Below W.heap.size W w → DepsR l rs after u w → GuardOK l n guard u ∧ ∃ v, (Instr.loadAt t (evU n u x)).run P w = .ok v w ∧ (rsAt rs i).r v w) : StepR P Q l n df kept u0 W rs i := by
  refine st_run ho fun u w hk hb hd => ?_
  obtain ⟨hg, v, hv, hr⟩ := hs u w hk hb hd
  refine ⟨hg, v, ?_, hr⟩
  simp only [execOp, Sem.run_bind, hv, Result.andThen_ok, Sem.run_pure]
theorem st_pick {i : Nat} {dst : Option Tmp} {c x y : Operand} {ty : TypeId} {pos : String} {after : Array Edge} {guard : Option (Nat × Bool)} (ho : l[i]? = some ⟨dst, .pick c x y, ty, pos, after, guard⟩)
    (hs : ∀ u w, (∀ s, kept s = true → u s = u0 s) → Below W.heap.size W w → DepsR l rs after u w → GuardOK l n guard u ∧ ∃ b, evU n u c = .bool b ∧ (rsAt rs i).r (if b then evU n u x else evU n u y) w) : StepR P Q l n df kept u0 W rs i := by
  refine st_run ho fun u w hk hb hd => ?_
  obtain ⟨hg, b, hv, hr⟩ := hs u w hk hb hd
  refine ⟨hg, _, ?_, hr⟩
  simp only [execOp, hv, asBool, Sem.run_bind, Result.andThen_ok, Sem.run_pure]
theorem st_call {i : Nat} {dst : Option Tmp} {x : Operand} {xs : Array Operand} {ts : Array TypeId} {ty : TypeId} {pos : String} {after : Array Edge} {guard : Option (Nat × Bool)} (ho : l[i]? = some ⟨dst, .call ⟨.value x, xs, ts⟩, ty, pos, after, guard⟩)
    (f : FuncId) (hf : ∀ args w, (callFunc f args).run P w = .ok (.enter f args) w)
    (hs : ∀ u w, (∀ s, kept s = true → u s = u0 s) → Below W.heap.size W w → DepsR l rs after u w → GuardOK l n guard u ∧ evU n u x = .func (.func f) #[] #[] ∧ Calls P f ((xs.toList.map (evU n u)).toArray) w fun e w' => (∃ v, e = .returned v ∧ (rsAt rs i).r v w') ∧ Below w.heap.size w w') : StepR P Q l n df kept u0 W rs i := by
  intro o ho' u w hk hb hd
  rw [ho] at ho'
  cases ho'
  obtain ⟨hg, hx, hc⟩ := hs u w hk hb hd
  refine ⟨hg, fun K hK => ?_⟩
  unfold Oper.wp
  rw [frame_eval]
  have hmap : xs.map (evU n u) = (xs.toList.map (evU n u)).toArray := by rw [← Array.toList_map, Array.toArray_toList]
  have he : (execOp (evU n u) ⟨dst, .call ⟨.value x, xs, ts⟩, ty, pos, after, guard⟩).run P w = .ok (.enter f (xs.toList.map (evU n u)).toArray) w := by
    simp only [execOp, resolve, hx, Deferred.ofValue, invoke, Sem.run_bind, Result.andThen_ok, Sem.run_pure, hmap, Array.empty_append, Array.append_empty, hf]
  rw [he]
  refine Calls.mono hc ?_
  rintro e w' ⟨⟨v, rfl, hr⟩, hb'⟩
  exact hK v w' hb' hr
end
end Go.Proofs.Ytpabnpgbclfcfaa
