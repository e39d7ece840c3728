/- Regions that draw their order and change what they made: a relation that hangs on what is done; appends onto rows of the region's own. -/
import Derived.Test.YtpabnpgbclfcfaaFree2
import Derived.Maps.AppendAt
namespace Go.Proofs.Ytpabnpgbclfcfaa
open Go.RowKit
set_option linter.unusedVariables false
set_option linter.unusedSimpArgs false
def depB (l : List Oper) (k j : Nat) : Bool := match l[k]? with
  | some o => o.after.toList.any fun e => Nat.beq e.on j && Region.binds .any e
  | none => false
section
variable {P : Program} {Q : Exit → Act → World → Prop} {l : List Oper} {n : Nat} {df : List Deferred} {kept : Nat → Bool} {u0 : Nat → Value} {vals : List (Option Value)} {X : (Nat → Bool) → (Nat → Value) → World → Prop}
structure CtxV (l : List Oper) (kept : Nat → Bool) (u0 : Nat → Value) (vals : List (Option Value)) (X : (Nat → Bool) → (Nat → Value) → World → Prop) (L : Nat → Bool) (u : Nat → Value) (w : World) : Prop where
  keep : ∀ s, kept s = true → u s = u0 s
  val : ∀ k v, L k = true → Nat.blt k l.length = true → vals.getD k none = some v → u (dstAt l k) = v
  closed : ∀ k j, L k = true → depB l k j = true → L j = true
  x : X L u w
def StepV (P : Program) (Q : Exit → Act → World → Prop) (l : List Oper) (n : Nat) (df : List Deferred) (kept : Nat → Bool) (u0 : Nat → Value) (vals : List (Option Value)) (X : (Nat → Bool) → (Nat → Value) → World → Prop) (i : Nat) : Prop :=
  ∀ o, l[i]? = some o → ∀ L u w, CtxV l kept u0 vals X L u w → L i = false → (∀ j, depB l i j = true → L j = true) →
    GuardOK l n o.guard u ∧ ∀ K : Act → World → Prop, (∀ v w', (∀ x, vals.getD i none = some x → v = x) → X (updL L i) (updV u (dstAt l i) v) w' → K ((frameOf n df u).put o.dst v) w') → o.wp P (frameOf n df u) w K Q
def StepsV (P : Program) (Q : Exit → Act → World → Prop) (l : List Oper) (n : Nat) (df : List Deferred) (kept : Nat → Bool) (u0 : Nat → Value) (vals : List (Option Value)) (X : (Nat → Bool) → (Nat → Value) → World → Prop) (k : Nat) : Prop :=
  ∀ i, k ≤ i → i < l.length → StepV P Q l n df kept u0 vals X i
theorem stepv_nil {k : Nat} (h : Nat.ble l.length k = true) : StepsV P Q l n df kept u0 vals X k := fun i h1 h2 => by
  rw [Nat.ble_eq] at h
  omega
theorem stepv_cons {k : Nat} (h : StepV P Q l n df kept u0 vals X k) (t : StepsV P Q l n df kept u0 vals X (k + 1)) : StepsV P Q l n df kept u0 vals X k := fun i h1 h2 => by
  rcases (by omega : i = k ∨ k + 1 ≤ i) with rfl | h3
  · exact h
  · exact t i h3 h2
theorem depB_spec {k j : Nat} (h : depB l k j = true) : ∃ o e, l[k]? = some o ∧ e ∈ o.after ∧ e.on = j ∧ Region.binds .any e = true := by
  unfold depB at h
  cases ho : l[k]? with
  | none => rw [ho] at h; cases h
  | some o =>
    rw [ho] at h
    simp only [List.any_eq_true, Bool.and_eq_true, Nat.beq_eq] at h
    obtain ⟨e, he, h1, h2⟩ := h
    exact ⟨o, e, rfl, by simpa using he, h1, h2⟩
theorem wp_region_vals {id : Nat} {a : Act} {W : World} (n : Nat) (hm : P.follows .mixedOrders = true) (hnn : a.tmps.size = n) (kept : Nat → Bool) (vals : List (Option Value)) (X : (Nat → Bool) → (Nat → Value) → World → Prop) (hB : okB l n kept = true)
    (h0 : X (fun _ => false) (slotOf a) W.drew)
    (hstep : StepsV P Q l n a.defers kept (slotOf a) vals X 0)
    (hend : ∀ L u w, (∀ i, Nat.blt i l.length = true → L i = true) → CtxV l kept (slotOf a) vals X L u w → Q .normal (frameOf n a.defers u) w) : (Code.region id l.toArray true).wp P Q a W := by
  subst hnn
  unfold okB at hB
  simp only [Bool.and_eq_true, Nat.ble_eq, List.all_eq_true] at hB
  obtain ⟨⟨⟨hn, hord⟩, hnd⟩, hkd⟩ := hB
  have hdst : ∀ i, i < l.length → ∃ o, l[i]? = some o ∧ (dstsFrom 0 l)[i]? = some (dstAt l i) ∧ dstAt l i = o.dst.getD (1000000 + i) := fun i hi => by
    refine ⟨l[i], List.getElem?_eq_getElem hi, ?_, dstAt_eq (List.getElem?_eq_getElem hi)⟩
    rw [dstsFrom_get, List.getElem?_eq_getElem hi, dstAt_eq (List.getElem?_eq_getElem hi)]
    simp
  refine wp_region_inv hm (fun L a' w => ∃ u, a' = frameOf a.tmps.size a.defers u ∧ CtxV l kept (slotOf a) vals X L u w) ?_ ?_ ?_ ?_
  · intro i o ho e he hb
    have := ordFrom_spec l 0 hord i o (by simpa using ho) e he hb
    omega
  · exact ⟨_, frame_of a, fun _ _ => rfl, (fun k v h => by cases h), (fun k j h => by cases h), h0⟩
  · rintro L a' w ⟨u, rfl, hC⟩ i hi hLi hdeps
    have hil : i < l.length := by simpa using hi
    obtain ⟨o, ho, hd1, hd2⟩ := hdst i hil
    have hoa : l.toArray[i]? = some o := by simpa using ho
    have hdep : ∀ j, depB l i j = true → L j = true := fun j hj => by
      obtain ⟨o', e, h1, h2, rfl, h3⟩ := depB_spec hj
      rw [ho] at h1
      cases h1
      exact hdeps o hoa e h2 h3
    obtain ⟨hg, hw⟩ := hstep i (Nat.zero_le _) hil o ho L u w hC hLi hdep
    unfold wpOp
    simp only [hoa]
    rw [if_pos (wanted_ok hg)]
    refine .inl (hw _ fun v w' hval hX => ?_)
    have hput : (frameOf a.tmps.size a.defers u).put o.dst v = frameOf a.tmps.size a.defers (updV u (dstAt l i) v) := by
      rw [hd2]
      cases o.dst with
      | some d => exact frame_put _ _ _ _ _
      | none => exact (frame_over _ _ _ _ _ (by simp; omega)).symm
    refine ⟨updV u (dstAt l i) v, hput, fun s hs => ?_, fun k x hk hkl hx => ?_, fun k j hk hkj => ?_, hX⟩
    · unfold updV
      rw [if_neg, hC.keep s hs]
      rintro rfl
      have := hkd _ (List.mem_of_getElem? hd1)
      rw [hs] at this
      simp at this
    · by_cases hki : k = i
      · subst hki
        unfold updV
        rw [if_pos rfl]
        exact hval x hx
      · unfold updL at hk
        rw [if_neg hki] at hk
        obtain ⟨_, _, hd3, _⟩ := hdst k (by simpa [Nat.blt_eq] using hkl)
        unfold updV
        rw [if_neg (nodupB_spec _ hnd k i _ _ hd3 hd1 hki)]
        exact hC.val k x hk hkl hx
    · unfold updL at hk ⊢
      by_cases hji : j = i
      · rw [if_pos hji]
      · rw [if_neg hji]
        by_cases hki : k = i
        · subst hki
          exact hdep j hkj
        · rw [if_neg hki] at hk
          exact hC.closed k j hk hkj
  · rintro L a' w ⟨u, rfl, hC⟩ hall
    exact hend L u w (fun i hi => hall i (by simpa [Nat.blt_eq] using hi)) hC
/-- An operation that only makes a value. -/
theorem sv_run {i : Nat} {o : Oper} (ho : l[i]? = some o)
    (hX : ∀ L u w v, X L u w → X (updL L i) (updV u (dstAt l i) v) w)
    (hs : ∀ L u w, CtxV l kept u0 vals X L u w → (∀ j, depB l i j = true → L j = true) → GuardOK l n o.guard u ∧ ∃ v, (execOp (evU n u) o).run P w = .ok (.value v) w ∧ ∀ x, vals.getD i none = some x → v = x) : StepV P Q l n df kept u0 vals X i := by
  intro o' ho' L u w hC hLi hd
  rw [ho] at ho'
  cases ho'
  obtain ⟨hg, v, hv, hx⟩ := hs L u w hC hd
  refine ⟨hg, fun K hK => ?_⟩
  unfold Oper.wp
  rw [frame_eval, hv]
  exact hK _ _ hx (hX L u w v hC.x)
/-- An operation of any kind, carried out to a value in another world. -/
theorem sv_make {i : Nat} {o : Oper} (ho : l[i]? = some o)
    (hs : ∀ L u w, CtxV l kept u0 vals X L u w → L i = false → (∀ j, depB l i j = true → L j = true) → GuardOK l n o.guard u ∧ ∃ v w', ((execOp (evU n u) o).run P w = .ok (.value v) w' ∨ ((execOp (evU n u) o).run P w = .ok .skip w' ∧ v = undef)) ∧ (∀ x, vals.getD i none = some x → v = x) ∧ X (updL L i) (updV u (dstAt l i) v) w') : StepV P Q l n df kept u0 vals X i := by
  intro o' ho' L u w hC hLi hd
  rw [ho] at ho'
  cases ho'
  obtain ⟨hg, v, w', hv, hx, hX⟩ := hs L u w hC hLi hd
  refine ⟨hg, fun K hK => ?_⟩
  unfold Oper.wp
  rw [frame_eval]
  rcases hv with hv | ⟨hv, rfl⟩
  · rw [hv]
    exact hK _ _ hx hX
  · rw [hv]
    exact hK _ _ hx hX
end
theorem run_append_call {P : Program} {w w' : World} {ρ : Operand → Value} {dst : Option Tmp} {s x : Operand} {t ty : TypeId} {pos : String} {after : Array Edge} {guard : Option (Nat × Bool)} {vs vx v' : Value} (hs : ρ s = vs) (hx : ρ x = vx) (h : (Builtin.append_ #[t, t] ty #[vs, vx]).run P w = .ok v' w') :
    (execOp ρ ⟨dst, .call { callee := .builtin .append, args := #[s, x], argTypes := #[t, t] }, ty, pos, after, guard⟩).run P w = .ok (.value v') w' := by
  simp only [execOp, resolve, invoke, builtin, Sem.run_bind, Sem.run_pure, Result.andThen_ok, List.map_toArray, List.map_cons, List.map_nil, hs, hx, h]
theorem run_append_none {P : Program} {w : World} (t ty e : TypeId) (ht : P.underlying t = some (.slice e)) (z : Value) (bytes : Nat) (hinfo : (P.info? e).map (fun i => (i.zero, i.size, i.bytes)) = some (some z, 1, bytes)) (sa : Option Addr) (sc : Nat) (xa : Option Addr) (c : Nat) :
    (Builtin.append_ #[t, t] ty #[.slice sa 0 sc, .slice xa 0 c]).run P w = .ok (.slice sa 0 sc) w := by
  obtain ⟨i, hi, hz0, hz1, hz2⟩ := info_parts hinfo
  cases sa <;> cases xa <;> simp [Builtin.append_, run_underlying ht, sizeOf, typeInfo, hi, Builtin.lenOf, Builtin.firstCells, loadCells, loadCellsFrom, storeCells]
theorem run_append_more {P : Program} {w : World} (base : Nat) (t ty e : TypeId) (ht : P.underlying t = some (.slice e)) (z : Value) (bytes : Nat) (hinfo : (P.info? e).map (fun i => (i.zero, i.size, i.bytes)) = some (some z, 1, bytes)) (hz : z.cells.size = 1)
    (v : Value) (n : Nat) (xs : List Value) (hown : w.ownsRow base e 1 v n xs) (ad : Addr) (m c : Nat) (news : List Value) (hl : news.length = m) (hnews : ∀ j u, news[j]? = some u → w.cell? (ad.add j) = some u) (h1 : ∀ u ∈ news, u.oneCell' = true)
    (h63 : n + m ≤ maxLen) (hbytes : (n + m) * bytes ≤ 140737488355328) (hbase : base ≤ w.heap.size) :
    ∃ v' w', (Builtin.append_ #[t, t] ty #[v, .slice (some ad) m c]).run P w = .ok v' w' ∧ w'.ownsRow base e 1 v' (n + m) (xs ++ news) ∧ w.grownBy w' v.ownBlock ∧ (v'.ownBlock = v.ownBlock ∨ v'.ownBlock = some w.heap.size) := by
  obtain ⟨i, hi, hz0, hz1, hz2⟩ := info_parts hinfo
  obtain ⟨v', w', hr, h2, h3, _, h5⟩ := run_append_own_at (P := P) w base t ty e i z 1 bytes ht hi hz0 hz1 hz2 hz (by decide) v n xs hown ad m c news (by rw [hl, Nat.mul_one]) hnews h1 h63 hbytes hbase
  exact ⟨v', w', hr, h2, h3, h5⟩
end Go.Proofs.Ytpabnpgbclfcfaa
