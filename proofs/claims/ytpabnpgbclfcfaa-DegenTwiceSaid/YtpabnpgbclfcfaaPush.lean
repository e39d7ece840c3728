/- One element put behind a row that a box holds, in a region that draws its order. -/
import Derived.Test.YtpabnpgbclfcfaaFree3
import Derived.Test.YtpabnpgbclfcfaaAutD
namespace Go.Proofs.Ytpabnpgbclfcfaa
open Go.RowKit
set_option linter.unusedVariables false
set_option linter.unusedSimpArgs false
structure PX (ie ib ia is se sb sa : Nat) (e : TypeId) (W : World) (base m : Nat) (v : Value) (xs : List Value) (g k : Nat) (cs : Array Value) (ty : TypeId) (Good : (Nat → Prop) → Value → World → Prop) (L : Nat → Bool) (u : Nat → Value) (w : World) : Prop where
  size : W.heap.size ≤ w.heap.size
  same : w.os = W.os ∧ w.tape = W.tape ∧ w.output = W.output
  keep : ∀ b, b < W.heap.size → (L ia = true → some b ≠ v.ownBlock) → (L is = true → b ≠ g) → w.heap[b]? = W.heap[b]?
  el : L ie = true → ∃ S : Nat → Prop, (∀ b, S b → W.heap.size ≤ b ∧ b < w.heap.size) ∧ (L ia = true → ∀ b, S b → (u sa).ownBlock ≠ some b) ∧ Good S (u se) w
  bs : L ib = true → L ia = false → ∃ gX, u sb = .slice (some ⟨gX, 0, none⟩) 1 1 ∧ W.heap.size ≤ gX ∧ w.heap[gX]? = some (.cells #[u se] e (0, 0))
  ap : L ia = true → w.ownsRow base e 1 (u sa) (m + 1) (xs ++ [u se]) ∧ ((u sa).ownBlock = v.ownBlock ∨ ∀ b, (u sa).ownBlock = some b → W.heap.size ≤ b)
  st : L is = true → w.heap[g]? = some (.cells (cs.setIfInBounds k (u sa)) ty (0, 0))
section
variable {ie ib ia is se sb sa : Nat} {e : TypeId} {W : World} {base m : Nat} {v : Value} {xs : List Value} {g k : Nat} {cs : Array Value} {ty : TypeId} {Good : (Nat → Prop) → Value → World → Prop} {L : Nat → Bool} {u : Nat → Value} {w : World}
theorem PX.start (W : World) {L : Nat → Bool} (hL : ∀ i, L i = false) {w : World} (hw : w.heap = W.heap ∧ w.os = W.os ∧ w.tape = W.tape ∧ w.output = W.output) : PX ie ib ia is se sb sa e W base m v xs g k cs ty Good L u w where
  size := by rw [hw.1]; exact Nat.le_refl _
  same := hw.2
  keep := fun b _ _ _ => by rw [hw.1]
  el := fun h => by rw [hL] at h; cases h
  bs := fun h => by rw [hL] at h; cases h
  ap := fun h => by rw [hL] at h; cases h
  st := fun h => by rw [hL] at h; cases h
theorem PX.same' (h : PX ie ib ia is se sb sa e W base m v xs g k cs ty Good L u w) {L' : Nat → Bool} {u' : Nat → Value} (e1 : L' ie = L ie) (e2 : L' ib = L ib) (e3 : L' ia = L ia) (e4 : L' is = L is) (f1 : u' se = u se) (f2 : u' sb = u sb) (f3 : u' sa = u sa) : PX ie ib ia is se sb sa e W base m v xs g k cs ty Good L' u' w := by
  constructor
  · exact h.size
  · exact h.same
  · rw [e3, e4]; exact h.keep
  · rw [e1, e3, f1, f3]; exact h.el
  · rw [e2, e3, f1, f2]; exact h.bs
  · rw [e3, f1, f3]; exact h.ap
  · rw [e4, f3]; exact h.st
theorem PX.cell (h : PX ie ib ia is se sb sa e W base m v xs g k cs ty Good L u w) (hs : L is = false) {b o : Nat} {x : Value} (hb : b < W.heap.size) (hne : some b ≠ v.ownBlock) (hx : W.cell? ⟨b, o, none⟩ = some x) : w.cell? ⟨b, o, none⟩ = some x :=
  (World.cell?_of_block (a := ⟨b, o, none⟩) (h.keep b hb (fun _ => hne) (fun hh => by rw [hs] at hh; cases hh))).trans hx
theorem PX.below (h : PX ie ib ia is se sb sa e W base m v xs g k cs ty Good L u w) (ha : L ia = false) (hs : L is = false) : Below W.heap.size W w :=
  ⟨h.same.1, h.same.2.1, h.same.2.2, h.size, fun b hb => h.keep b hb (fun hh => by rw [ha] at hh; cases hh) (fun hh => by rw [hs] at hh; cases hh)⟩
/-- The element is a value that was there. -/
theorem PX.elem (h : PX ie ib ia is se sb sa e W base m v xs g k cs ty Good L u w) (hd : ie ≠ ib ∧ ie ≠ ia ∧ ie ≠ is ∧ se ≠ sb ∧ se ≠ sa) (hb : L ib = false) (ha : L ia = false) (x : Value) (hg : Good (fun _ => False) x w) : PX ie ib ia is se sb sa e W base m v xs g k cs ty Good (updL L ie) (updV u se x) w := by
  obtain ⟨d1, d2, d3, d4, d5⟩ := hd
  have l1 : updL L ie ie = true := by simp [updL]
  have l2 : updL L ie ib = L ib := by simp [updL, Ne.symm d1]
  have l3 : updL L ie ia = L ia := by simp [updL, Ne.symm d2]
  have l4 : updL L ie is = L is := by simp [updL, Ne.symm d3]
  have u1 : updV u se x se = x := by simp [updV]
  have u2 : updV u se x sb = u sb := by simp [updV, Ne.symm d4]
  have u3 : updV u se x sa = u sa := by simp [updV, Ne.symm d5]
  constructor
  · exact h.size
  · exact h.same
  · rw [l3, l4]; exact h.keep
  · intro _
    rw [u1]
    exact ⟨fun _ => False, fun b hb => hb.elim, fun _ b hb => hb.elim, hg⟩
  · rw [l2]
    intro hh
    rw [hb] at hh
    cases hh
  · rw [l3]
    intro hh
    rw [ha] at hh
    cases hh
  · rw [l4, u3]; exact h.st
/-- The element is made by a call. -/
theorem PX.call (h : PX ie ib ia is se sb sa e W base m v xs g k cs ty Good L u w) (hd : ie ≠ ib ∧ ie ≠ ia ∧ ie ≠ is ∧ se ≠ sb ∧ se ≠ sa) (hb : L ib = false) (ha : L ia = false) (hs : L is = false) {w' : World} (bl : Below w.heap.size w w') (x : Value) (hg : Good (fun b => w.heap.size ≤ b ∧ b < w'.heap.size) x w') : PX ie ib ia is se sb sa e W base m v xs g k cs ty Good (updL L ie) (updV u se x) w' := by
  obtain ⟨d1, d2, d3, d4, d5⟩ := hd
  have l1 : updL L ie ie = true := by simp [updL]
  have l2 : updL L ie ib = L ib := by simp [updL, Ne.symm d1]
  have l3 : updL L ie ia = L ia := by simp [updL, Ne.symm d2]
  have l4 : updL L ie is = L is := by simp [updL, Ne.symm d3]
  have u1 : updV u se x se = x := by simp [updV]
  have hsz := h.size
  constructor
  · exact Nat.le_trans h.size bl.size
  · exact ⟨bl.os.trans h.same.1, bl.tape.trans h.same.2.1, bl.output.trans h.same.2.2⟩
  · rw [l3, l4]
    exact fun b hb' h1 h2 => (bl.block b (by omega)).trans (h.keep b hb' h1 h2)
  · intro _
    rw [u1]
    refine ⟨_, fun b hb' => ⟨by have := hb'.1; omega, hb'.2⟩, fun hh => ?_, hg⟩
    rw [l3, ha] at hh
    cases hh
  · rw [l2]
    intro hh
    rw [hb] at hh
    cases hh
  · rw [l3]
    intro hh
    rw [ha] at hh
    cases hh
  · rw [l4]
    intro hh
    rw [hs] at hh
    cases hh
/-- The element is laid into a block of its own. -/
theorem PX.build (h : PX ie ib ia is se sb sa e W base m v xs g k cs ty Good L u w) (hd : ib ≠ ie ∧ ib ≠ ia ∧ ib ≠ is ∧ sb ≠ se ∧ sb ≠ sa) (ha : L ia = false) (hs : L is = false) (hG : ∀ S x (w w' : World), (∀ b, S b → w'.heap[b]? = w.heap[b]?) → Good S x w → Good S x w') : PX ie ib ia is se sb sa e W base m v xs g k cs ty Good (updL L ib) (updV u sb (.slice (some ⟨w.heap.size, 0, none⟩) 1 1)) (w.alloc (.cells #[u se] e)) := by
  obtain ⟨d1, d2, d3, d4, d5⟩ := hd
  have bl : Below w.heap.size w (w.alloc (.cells #[u se] e)) := (Below.refl _ _).alloc (Nat.le_refl _) _
  have l1 : updL L ib ie = L ie := by simp [updL, Ne.symm d1]
  have l3 : updL L ib ia = L ia := by simp [updL, Ne.symm d2]
  have l4 : updL L ib is = L is := by simp [updL, Ne.symm d3]
  have u1 : ∀ x, updV u sb x se = u se := fun x => by simp [updV, Ne.symm d4]
  have u2 : ∀ x, updV u sb x sb = x := fun x => by simp [updV]
  have u3 : ∀ x, updV u sb x sa = u sa := fun x => by simp [updV, Ne.symm d5]
  have hsz := h.size
  constructor
  · exact Nat.le_trans h.size bl.size
  · exact ⟨bl.os.trans h.same.1, bl.tape.trans h.same.2.1, bl.output.trans h.same.2.2⟩
  · rw [l3, l4]
    exact fun b hb' h1 h2 => (bl.block b (by omega)).trans (h.keep b hb' h1 h2)
  · rw [l1, u1, l3]
    intro hie
    obtain ⟨S, s1, s2, s3⟩ := h.el hie
    refine ⟨S, fun b hb' => ⟨(s1 b hb').1, Nat.lt_of_lt_of_le (s1 b hb').2 bl.size⟩, fun hh => ?_, hG S _ _ _ (fun b hb' => bl.block b (s1 b hb').2) s3⟩
    rw [ha] at hh
    cases hh
  · intro _ _
    rw [u1, u2]
    exact ⟨w.heap.size, rfl, h.size, heap_alloc_new w _⟩
  · rw [l3]
    intro hh
    rw [ha] at hh
    cases hh
  · rw [l4]
    intro hh
    rw [hs] at hh
    cases hh
/-- The row grows. -/
theorem PX.app {P : Program} (h : PX ie ib ia is se sb sa e W base m v xs g k cs ty Good L u w) (hd : ia ≠ ie ∧ ia ≠ ib ∧ ia ≠ is ∧ sa ≠ se ∧ sa ≠ sb) (he : L ie = true) (hb : L ib = true) (ha : L ia = false) (hs : L is = false) (hG : ∀ S x (w w' : World), (∀ b, S b → w'.heap[b]? = w.heap[b]?) → Good S x w → Good S x w')
    (hone : ∀ S x (w : World), Good S x w → x.oneCell' = true) (hown : W.ownsRow base e 1 v m xs) (hbase : base ≤ W.heap.size) (t tt : TypeId) (ht : P.underlying t = some (.slice e)) (z : Value) (bytes : Nat) (hinfo : (P.info? e).map (fun i => (i.zero, i.size, i.bytes)) = some (some z, 1, bytes)) (hz : z.cells.size = 1) (h63 : m + 1 ≤ maxLen) (hbytes : (m + 1) * bytes ≤ 140737488355328) :
    ∃ v' w', (Builtin.append_ #[t, t] tt #[v, u sb]).run P w = .ok v' w' ∧ PX ie ib ia is se sb sa e W base m v xs g k cs ty Good (updL L ia) (updV u sa v') w' := by
  obtain ⟨d1, d2, d3, d4, d5⟩ := hd
  have hsz := h.size
  have own := ownR_bel hown (h.below ha hs)
  obtain ⟨gX, eX, hX1, hX2⟩ := h.bs hb ha
  obtain ⟨S, s1, s2, s3⟩ := h.el he
  have o1 := hone S _ _ s3
  obtain ⟨v', w', hr, own', gr, at'⟩ := run_append_more (P := P) (w := w) base t tt e ht z bytes hinfo hz v m xs own ⟨gX, 0, none⟩ 1 1 [u se] rfl (fun j x hj => by
    rw [Addr.add_lit, Nat.zero_add]
    refine (cell_of_row _ _ j _ _ _ hX2).trans ?_
    simpa using hj) (fun x hx => by rw [List.mem_singleton.1 hx]; exact o1) h63 hbytes (by omega)
  refine ⟨v', w', by rw [eX]; exact hr, ?_⟩
  have l1 : updL L ia ie = L ie := by simp [updL, Ne.symm d1]
  have l2 : updL L ia ib = L ib := by simp [updL, Ne.symm d2]
  have l3 : updL L ia ia = true := by simp [updL]
  have l4 : updL L ia is = L is := by simp [updL, Ne.symm d3]
  have u1 : updV u sa v' se = u se := by simp [updV, Ne.symm d4]
  have u2 : updV u sa v' sb = u sb := by simp [updV, Ne.symm d5]
  have u3 : updV u sa v' sa = v' := by simp [updV]
  have hlow : ∀ b, v.ownBlock = some b → b < W.heap.size := fun b hb' => (hown.lt b hb').2
  constructor
  · exact Nat.le_trans h.size gr.size
  · exact ⟨gr.os.trans h.same.1, gr.tape.trans h.same.2.1, gr.output.trans h.same.2.2⟩
  · rw [l3, l4]
    intro b hb' h1 h2
    exact (gr.block b (by omega) (h1 rfl)).trans (h.keep b hb' (fun _ => h1 rfl) h2)
  · rw [l1, l3, u1, u3]
    intro _
    refine ⟨S, fun b hb' => ⟨(s1 b hb').1, Nat.lt_of_lt_of_le (s1 b hb').2 gr.size⟩, fun _ b hb' hE => ?_, hG S _ _ _ (fun b hb' => gr.block b (s1 b hb').2 (fun hE => ?_)) s3⟩
    · rcases at' with h5 | h5
      · rw [h5] at hE
        have := hlow b hE
        have := (s1 b hb').1
        omega
      · rw [h5] at hE
        have := Option.some.inj hE
        have := (s1 b hb').2
        omega
    · have := hlow b hE.symm
      have := (s1 b hb').1
      omega
  · rw [l3]
    intro _ hh
    cases hh
  · intro _
    rw [u1, u3]
    refine ⟨own', ?_⟩
    rcases at' with h5 | h5
    · exact .inl h5
    · refine .inr fun b hE => ?_
      rw [h5] at hE
      have := Option.some.inj hE
      omega
  · rw [l4]
    intro hh
    rw [hs] at hh
    cases hh
/-- The row's new end is stored. -/
theorem PX.store (h : PX ie ib ia is se sb sa e W base m v xs g k cs ty Good L u w) (hd : is ≠ ie ∧ is ≠ ib ∧ is ≠ ia) (ha : L ia = true) (hs : L is = false) (hG : ∀ S x (w w' : World), (∀ b, S b → w'.heap[b]? = w.heap[b]?) → Good S x w → Good S x w')
    (hg : W.heap[g]? = some (.cells cs ty (0, 0))) (hgv : some g ≠ v.ownBlock) {d : Nat} (hdd : d ≠ se ∧ d ≠ sb ∧ d ≠ sa) (y : Value) (he : L ie = true) :
    PX ie ib ia is se sb sa e W base m v xs g k cs ty Good (updL L is) (updV u d y) (w.setCell ⟨g, k, none⟩ (u sa)) := by
  obtain ⟨d1, d2, d3⟩ := hd
  have gl : g < W.heap.size := (Array.getElem?_eq_some_iff.1 hg).1
  have hgw := (h.keep g gl (fun _ => hgv) (fun hh => by rw [hs] at hh; cases hh)).trans hg
  have l1 : updL L is ie = L ie := by simp [updL, Ne.symm d1]
  have l2 : updL L is ib = L ib := by simp [updL, Ne.symm d2]
  have l3 : updL L is ia = L ia := by simp [updL, Ne.symm d3]
  have l4 : updL L is is = true := by simp [updL]
  have u1 : updV u d y se = u se := by simp [updV, Ne.symm hdd.1]
  have u2 : updV u d y sb = u sb := by simp [updV, Ne.symm hdd.2.1]
  have u3 : updV u d y sa = u sa := by simp [updV, Ne.symm hdd.2.2]
  have hoth : ∀ b, b ≠ g → (w.setCell ⟨g, k, none⟩ (u sa)).heap[b]? = w.heap[b]? := fun b hb => Below.heap_setCell _ _ _ _ (by show b ≠ g; exact hb)
  have hz : (w.setCell ⟨g, k, none⟩ (u sa)).heap.size = w.heap.size := by simp [World.setCell]
  obtain ⟨ow, ob⟩ := h.ap ha
  have oz : (u sa).ownBlock ≠ some g := fun hE => by
    rcases ob with h5 | h5
    · rw [h5] at hE
      exact hgv hE.symm
    · have := h5 g hE
      omega
  constructor
  · rw [hz]; exact h.size
  · exact h.same
  · rw [l3, l4]
    intro b hb h1 h2
    rw [hoth b (h2 rfl)]
    exact h.keep b hb h1 (fun hh => by rw [hs] at hh; cases hh)
  · rw [l1, l3, u1, u3]
    intro hie
    obtain ⟨S, s1, s2, s3⟩ := h.el hie
    refine ⟨S, fun b hb => by rw [hz]; exact s1 b hb, s2, hG S _ _ _ (fun b hb => hoth b (fun hE => ?_)) s3⟩
    have := (s1 b hb).1
    omega
  · rw [l2, l3, u1, u2]
    intro _ hh
    rw [ha] at hh
    cases hh
  · intro _
    rw [u1, u3]
    refine ⟨⟨ow.1, ?_⟩, ob⟩
    rcases ow.2 with h0 | ⟨g', cap, cur, q1, q2, q3, q4⟩
    · exact .inl h0
    · refine .inr ⟨g', cap, cur, q1, q2, (hoth g' fun hE => ?_).trans q3, q4⟩
      rw [q1, hE] at oz
      exact oz rfl
  · intro _
    rw [u3]
    exact heap_setCell_same w g k cs ty _ hgw
end
section
variable {P : Program} {Q : Exit → Act → World → Prop} {l : List Oper} {n : Nat} {df : List Deferred} {kept : Nat → Bool} {u0 : Nat → Value} {vals : List (Option Value)} {X : (Nat → Bool) → (Nat → Value) → World → Prop}
/-- An operation that only makes a value, what is not done told. -/
theorem sv_read {i : Nat} {o : Oper} (ho : l[i]? = some o)
    (hX : ∀ L u w v, X L u w → X (updL L i) (updV u (dstAt l i) v) w)
    (hs : ∀ L u w, CtxV l kept u0 vals X L u w → L i = false → (∀ j, depB l i j = true → L j = true) → GuardOK l n o.guard u ∧ ∃ v, (execOp (evU n u) o).run P w = .ok (.value v) w ∧ ∀ x, vals.getD i none = some x → v = x) : StepV P Q l n df kept u0 vals X i :=
  sv_make ho fun L u w hC hLi hd => by
    obtain ⟨hg, v, hv, hx⟩ := hs L u w hC hLi hd
    exact ⟨hg, v, w, .inl hv, hx, hX L u w v hC.x⟩
/-- A call of a Go function. -/
theorem sv_call {i : Nat} {dst : Option Tmp} {x : Operand} {xs : Array Operand} {ts : Array TypeId} {ty : TypeId} {pos : String} {after : Array Edge} {guard : Option (Nat × Bool)} (ho : l[i]? = some ⟨dst, .call ⟨.value x, xs, ts⟩, ty, pos, after, guard⟩)
    (f : FuncId) (hf : ∀ args w, (callFunc f args).run P w = .ok (.enter f args) w)
    (hs : ∀ L u w, CtxV l kept u0 vals X L u w → L i = false → (∀ j, depB l i j = true → L j = true) → GuardOK l n guard u ∧ evU n u x = .func (.func f) #[] #[] ∧ Calls P f ((xs.toList.map (evU n u)).toArray) w fun e w' => ∃ v, e = .returned v ∧ (∀ x, vals.getD i none = some x → v = x) ∧ X (updL L i) (updV u (dstAt l i) v) w') : StepV P Q l n df kept u0 vals X i := by
  intro o ho' L u w hC hLi hd
  rw [ho] at ho'
  cases ho'
  obtain ⟨hg, hx, hc⟩ := hs L u w hC hLi hd
  refine ⟨hg, fun K hK => ?_⟩
  unfold Oper.wp
  rw [frame_eval]
  have hmap : xs.map (evU n u) = (xs.toList.map (evU n u)).toArray := by rw [← Array.toList_map, Array.toArray_toList]
  have he : (execOp (evU n u) ⟨dst, .call ⟨.value x, xs, ts⟩, ty, pos, after, guard⟩).run P w = .ok (.enter f (xs.toList.map (evU n u)).toArray) w := by
    simp only [execOp, resolve, hx, Deferred.ofValue, invoke, Sem.run_bind, Result.andThen_ok, Sem.run_pure, hmap, Array.empty_append, Array.append_empty, hf]
  rw [he]
  refine Calls.mono hc ?_
  rintro e w' ⟨v, rfl, hv, hX⟩
  exact hK v w' hv hX
end
theorem entersOf {P : Program} {f : FuncId} {fn : Func} (hfn : P.funcs[f]? = some fn) (hb : fn.body.isSome = true) (h : (fn.name == "runtime.NumGoroutine") = false) : True := trivial
end Go.Proofs.Ytpabnpgbclfcfaa
