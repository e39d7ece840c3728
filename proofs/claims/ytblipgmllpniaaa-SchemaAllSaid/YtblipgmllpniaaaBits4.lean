/- Contract of (*pen).all: whatever an iterator gives is laid, in its order. -/
import Derived.Test.YtblipgmllpniaaaBits3
namespace Go.Proofs.Ytblipgmllpniaaa
open Go.RowKit Go.Shelf
set_option linter.unusedVariables false
attribute [local go_sem] Oper.semAt_some

theorem Laid.trans {g base : Nat} {bs cs : List Nat} {a b c : World} (h : Laid g base bs a b) (k : Laid g base cs b c) : Laid g base cs a c :=
  ⟨k.page, h.kept.trans k.kept, k.os.trans h.os, k.tape.trans h.tape, k.output.trans h.output, Nat.le_trans h.size k.size⟩
/-- What is laid abides the turn of a new block that is no cells. -/
theorem laid_grown {g base B : Nat} {bs : List Nat} {w W W' : World} {row : Option Nat} (hB : w.heap.size ≤ B) (hs : Laid g base bs w W) (hg : W.grownBy W' row) (hr : ∀ r, row = some r → B ≤ r ∧ ∃ o : Obj, W.heap[r]? = some o ∧ o.isCells = false) : Laid g base bs w W' := by
  have keep : ∀ (k : Nat) (c : Array Value) (t : TypeId) (fr : Nat × Nat), W.heap[k]? = some (Obj.cells c t fr) → W'.heap[k]? = some (Obj.cells c t fr) := by
    intro k c t fr hk
    rw [hg.block k (Array.getElem?_eq_some_iff.1 hk).1 ?_]
    · exact hk
    · intro e
      obtain ⟨_, o, ho, hc⟩ := hr k e.symm
      rw [hk] at ho
      simp at ho
      subst ho
      simp [Obj.isCells] at hc
  obtain ⟨⟨v, p1, p2, p3⟩, h2, h3, h4, h5, h6⟩ := hs
  refine ⟨⟨v, keep _ _ _ _ p1, ?_, p3⟩, ?_, hg.os.trans h3, hg.tape.trans h4, hg.output.trans h5, Nat.le_trans h6 hg.size⟩
  · obtain ⟨q1, q2⟩ := p2
    refine ⟨q1, ?_⟩
    rcases q2 with q2 | ⟨h, cap, cur, hv, hb, hh, r⟩
    · exact .inl q2
    · exact .inr ⟨h, cap, cur, hv, hb, keep _ _ _ _ hh, r⟩
  · intro k o ho hk
    have h7 := h2 k o ho hk
    rw [hg.block k (Array.getElem?_eq_some_iff.1 h7).1 ?_]
    · exact h7
    · intro e
      have := (hr k e.symm).1
      have := (Array.getElem?_eq_some_iff.1 ho).1
      omega
theorem Laid.others {g base : Nat} {bs cs : List Nat} {a b : World} (hp : PageAt a g base bs) (h : Laid g base cs a b) : KeepsOthers a b := by
  refine ⟨h.size, fun k o hk ho => h.kept k o hk (.inr ⟨?_, ?_⟩)⟩
  · intro e
    obtain ⟨v, hg, _⟩ := hp
    rw [e, hg] at hk
    simp at hk
    subst hk
    simp [Obj.isCells] at ho
  · intro c fr e
    subst e
    simp [Obj.isCells] at ho
theorem Laid.kpc {g base : Nat} {cs : List Nat} {a b : World} (h : Laid g base cs a b) : KpC g base a b := fun k c t fr hk hh => h.kept k _ hk (hh.imp id (fun ⟨h1, h2⟩ => ⟨h1, fun c' fr' e => h2 (by simp at e; exact e.2.1)⟩))

theorem box_grown {W W' : World} {b B : Nat} {t : TypeId} {v : Value} {row : Option Nat} (h : BoxIs W b t v) (hg : W.grownBy W' row) (hr : ∀ r, row = some r → B ≤ r ∧ ∃ o : Obj, W.heap[r]? = some o ∧ o.isCells = false) : BoxIs W' b t v := by
  unfold BoxIs at h ⊢
  rw [hg.block b (Array.getElem?_eq_some_iff.1 h).1 ?_]
  · exact h
  · intro e
    obtain ⟨_, o, ho, hc⟩ := hr b e.symm
    rw [h] at ho
    simp at ho
    subst ho
    simp [Obj.isCells] at hc
set_option maxRecDepth 100000 in
set_option maxHeartbeats 4000000 in
theorem all_any (w : World) (g base : Nat) (bs : List Nat) (gf : Nat) (lb : Array Value) (S : List Nat → Prop) (Nn : Nat) (hbs : IsBits bs) (hp : PageAt w g base bs) (hbase : base ≤ w.heap.size) (hsm : bs.length + Nn ≤ 1099511627776)
    (eg : Enters Try.prog gf)
    (hseq : ∀ w', Below w.heap.size w w' → SeqStopsK Fence.wide 20 Try.prog gf lb encB (fun W W' => KpC g base W W' ∧ W.heap.size ≤ W'.heap.size) (fun xs => S (vals xs)) (fun _ => True) Nn w') :
    Calls Try.prog 37 #[.pointer (some ⟨g, 0, none⟩), .func (.func gf) #[] lb] w fun e w' => e = .returned (.tuple #[]) ∧ ∃ cs, S cs ∧ IsBits cs ∧ Laid g base (bs ++ cs) w w' := by
  refine (callsIn_wide (n := 21)).1 ?_
  have hlt : g < w.heap.size := by obtain ⟨v, hg, _⟩ := hp; exact (Array.getElem?_eq_some_iff.1 hg).1
  refine callsIn_of_wp_marks Try.func37 rfl trivial ?_ rfl
  simp only [Try.ntmps37, List.size_toArray, List.length_cons, List.length_nil, Nat.reduceAdd, Nat.reduceSub, Array.replicate_succ, Array.replicate_zero, List.push_toArray, List.append_toArray, List.nil_append, List.cons_append]
  gi_wp2
  have hbox : BoxIs (w.alloc (.cells #[.pointer (some ⟨g, 0, none⟩)] 73)) w.heap.size 73 (.pointer (some ⟨g, 0, none⟩)) := World.alloc_heap_new _ _
  have hb0 : Below w.heap.size w (w.alloc (.cells #[.pointer (some ⟨g, 0, none⟩)] 73)) := (Below.refl _ _).alloc (Nat.le_refl _) _
  obtain ⟨W0, hW0⟩ : ∃ W0, w.alloc (.cells #[.pointer (some ⟨g, 0, none⟩)] 73) = W0 := ⟨_, rfl⟩
  have hsz0 : W0.heap.size = w.heap.size + 1 := by rw [← hW0]; simp
  have hL0 : Laid g base bs w W0 := by
    rw [← hW0]
    obtain ⟨v, p1, p2, p3⟩ := hp
    exact ⟨⟨v, (Below.heap_alloc _ _ _ hlt).trans p1, own_below p2 (by rw [hW0, ← hW0]; exact (Below.refl _ _).alloc (Nat.le_refl _) _), p3⟩, kept_alloc _, rfl, rfl, rfl, by simp⟩
  rw [hW0] at hbox hb0 ⊢
  refine wpIn_rangeFunc_ownF rfl (by omega) (gf := gf) (lb := lb) rfl trivial eg (hseq W0 hb0) (fun h k => ⟨kpC_t h.1 k.1, Nat.le_trans h.2 k.2⟩) (fun W l o o' _ ho hc _ => ⟨kpC_b W l o o' ho hc, by simp⟩) (Below.refl _ _) (fun _ => rfl)
    (fun pre W => Laid g base (bs ++ vals pre) w W ∧ BoxIs W w.heap.size 73 (.pointer (some ⟨g, 0, none⟩)))
    (fun _ _ _ => False)
    (fun s A B row hs hg hr => ⟨laid_grown (by omega) hs.1 hg hr, box_grown hs.2 hg hr⟩)
    (fun _ _ _ _ _ hs _ _ => hs)
    ⟨by simpa [vals] using hL0, hbox⟩
    (fun x => { tmps := #[.pointer (some ⟨g, 0, none⟩), .func (.func gf) #[] lb, .pointer (some ⟨w.heap.size, 0, none⟩), undef, .int .u64 ((x.val : Nat) : Int), .func (.func gf) #[] lb, .int .u64 ((x.val : Nat) : Int), undef, undef, undef, undef, undef], defers := [] }) ?assign ?body ?done ?stop
  case assign =>
    intro l x W K hK
    dsimp only [encB]
    gi_wp2
    exact hK
  case body =>
    rintro l pre x W ⟨hL, hB⟩ hlen
    have hc := hB.cell
    have hpl : (vals pre).length = pre.length := by simp [vals]
    have hlay := lay_any W g base (bs ++ vals pre) x.val x.isLt (hbs.append (vals_bits pre)) hL.page (by rw [List.length_append, hpl]; omega) (Nat.le_trans hbase hL.size)
    have HL := Lib.hid hlay
    clear hlay hpl
    gi_wp2_with (refine ⟨trivial, ?_⟩; gi_at_call 46; refine (CallsIn.inRound l (callsIn_wide.2 HL.out)).mono ?_; rintro e W2 ⟨rfl, hL2⟩)
    have hbg : w.heap.size ≠ g := by omega
    refine ⟨hL2.others hL.page, ⟨hL2.kpc, hL2.size⟩, ?_, hB.kp hL2.kpc hbg (by decide)⟩
    rw [vals_append, ← List.append_assoc]
    exact hL.trans hL2
  case done =>
    rintro D ys W hD hS ⟨hL, hB⟩ hK
    gi_wp2
    refine ⟨by simp, .inl ⟨_, _, rfl, run_takeDeferred hK, ?_⟩⟩
    refine ⟨_, results_none rfl _ _ _, rfl, vals ys, hS, vals_bits ys, laid_grown (B := W0.heap.size) (by omega) hL (grownBy_putObj' _ D (.deferred none)) (fun r e => by cases e; exact ⟨hD, _, hK, rfl⟩)⟩
  case stop =>
    rintro D c pre W _ _ h _
    exact h.elim
end Go.Proofs.Ytblipgmllpniaaa
