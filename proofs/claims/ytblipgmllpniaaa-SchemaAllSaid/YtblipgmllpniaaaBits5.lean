/- Contracts of bits.Put, Take and Join. -/
import Derived.Test.YtblipgmllpniaaaBits4
import Derived.Deep.RegionHeld3
namespace Go.Proofs.Ytblipgmllpniaaa
open Go.RowKit Go.Shelf
set_option linter.unusedVariables false
attribute [local go_sem] Oper.semAt_some

def BehindOut (bs : List Nat) (w : World) (e : Ending) (w' : World) : Prop := ∃ g, e = .returned (.pointer (some ⟨g, 0, none⟩)) ∧ PageAt w' g w.heap.size bs ∧ Below w.heap.size w w' ∧ g < w'.heap.size
set_option maxHeartbeats 2000000 in
theorem behind_any (w : World) (a : Option Addr) (len cap : Nat) (bs : List Nat) (hl : BytesAt w a len cap (pack bs)) (hsm : bs.length ≤ 1099511627776) :
    Calls Try.prog 36 #[.agg #[.slice a len cap, .int .i64 (bs.length : Int)]] w (BehindOut bs w) := by
  have hlen := hl.len_eq
  rw [pack_length] at hlen
  have hbig : len ≤ 140737488355328 := by omega
  go_enter Try.func36, Try.ntmps36
  go_wp2
  have bb : ∀ o : Obj, Below w.heap.size w (w.alloc o).drew := fun o => ((Below.refl _ _).alloc (Nat.le_refl _) _).drew
  have hl1 := fun o : Obj => hl.mono (bb o)
  go_region_held3 (fun w' => w'.cell? ⟨w.heap.size, 0, none⟩ = some (.slice a len cap) ∧ w'.cell? ⟨w.heap.size, 1, none⟩ = some (.int .i64 (bs.length : Int)) ∧ Below w.heap.size w w') (first | exact ⟨by simp, by simp, bb _⟩ | exact ⟨k0, k1, k2⟩ | exact ⟨kk0 _, kk1 _, k2.alloc hk4 _⟩ | go_keep)
    (first | (go_at_call 45; refine (clone_any _ _ _ _ _ (hl1 _) hbig).mono ?_; rintro e w2 ⟨v, rfl, hown, hbel⟩; obtain ⟨av, cv, rfl, hcv⟩ := own_slice hown; have k0 : w2.cell? ⟨w.heap.size, 0, none⟩ = some (.slice a len cap) := (hbel.cell (p := ⟨w.heap.size, 0, none⟩) (by simp)).trans (by simp); have k1 : w2.cell? ⟨w.heap.size, 1, none⟩ = some (.int .i64 (bs.length : Int)) := (hbel.cell (p := ⟨w.heap.size, 1, none⟩) (by simp)).trans (by simp); have k2 : Below w.heap.size w w2 := (bb _).trans (hbel.mono (by simp)); have hk4 : w.heap.size ≤ w2.heap.size := k2.size; have kk0 := fun o : Obj => cellAlloc w2 o k0; have kk1 := fun o : Obj => cellAlloc w2 o k1))
  go_wp2
  go_ret
  subst hlen
  exact ⟨w2.heap.size, rfl, ⟨_, World.alloc_heap_new _ _, own_below (Joins.ownsRow_le hown (by simp)) ((Below.refl _ _).alloc (Nat.le_refl _) _), hk4⟩, k2.alloc hk4 _, by simp⟩

/-- Bits as a result: right, in memory that is there. -/
def BitsOut (bs : List Nat) (code : Int) (w : World) (e : Ending) (w' : World) : Prop :=
  ∃ a len cap, e = .returned (.tuple #[.agg #[.slice a len cap, .int .i64 (bs.length : Int)], .int .i64 code]) ∧ BytesAt w' a len cap (pack bs) ∧ Below w.heap.size w w'
theorem own_bits {w : World} {base : Nat} {a : Option Addr} {cap n : Nat} {bs : List Nat} (hbs : IsBits bs) (hn : n = (bs.length + 7) / 8) (h : w.ownsRow base 5 1 (.slice a n cap) n (u8s (pack bs))) (hsm : bs.length ≤ 2199023255552) : BytesAt w a n cap (pack bs) := by
  obtain ⟨a', cap', e, hb⟩ := ownBytes (l := pack bs) h (pack_lt hbs) (by omega)
  simp at e
  obtain ⟨rfl, rfl⟩ := e
  exact hb
theorem put_bad (w : World) (a : Option Addr) (len cap : Nat) (bs : List Nat) (num : Nat) (wide : Int) (hw : wide < 0 ∨ 64 < wide) (hl : BytesAt w a len cap (pack bs)) :
    Calls Try.prog 29 #[.agg #[.slice a len cap, .int .i64 (bs.length : Int)], .int .u64 (num : Int), .int .i64 wide] w (BitsOut bs 1 w) := by
  have bb : ∀ o o' : Obj, Below w.heap.size w ((w.alloc o).alloc o') := fun o o' => ((Below.refl _ _).alloc (Nat.le_refl _) _).alloc (by simp) _
  by_cases h1 : wide < 0
  · have d1 : decide (wide < 0) = true := by simpa using h1
    clear hw
    go_enter Try.func29, Try.ntmps29
    go_wp2
    exact bodyPost_ret (v := .tuple #[.agg #[.slice a len cap, .int .i64 (bs.length : Int)], .int .i64 1]) (by simp [results, Try.results29, go_sem]) rfl ⟨a, len, cap, rfl, hl.mono (bb _ _), bb _ _⟩
  · have h2 : 64 < wide := by omega
    have d1 : decide (wide < 0) = false := by simpa using h1
    have d2 : decide (64 < wide) = true := by simpa using h2
    clear hw
    go_enter Try.func29, Try.ntmps29
    go_wp2
    exact bodyPost_ret (v := .tuple #[.agg #[.slice a len cap, .int .i64 (bs.length : Int)], .int .i64 1]) (by simp [results, Try.results29, go_sem]) rfl ⟨a, len, cap, rfl, hl.mono (bb _ _), bb _ _⟩
theorem put_wide (w : World) (a : Option Addr) (len cap : Nat) (bs : List Nat) (num : Nat) (hnum : num < 18446744073709551616) (wide : Int) (h1 : 0 ≤ wide) (h2 : wide ≤ 64) (h3 : wide < (Lib.bitLen num : Int)) (hl : BytesAt w a len cap (pack bs)) :
    Calls Try.prog 29 #[.agg #[.slice a len cap, .int .i64 (bs.length : Int)], .int .u64 (num : Int), .int .i64 wide] w (BitsOut bs 5 w) := by
  have bb : ∀ o o' : Obj, Below w.heap.size w ((w.alloc o).alloc o') := fun o o' => ((Below.refl _ _).alloc (Nat.le_refl _) _).alloc (by simp) _
  have d1 : decide (wide < 0) = false := by simpa using h1
  have d2 : decide (64 < wide) = false := by simpa using h2
  go_enter Try.func29, Try.ntmps29
  go_wp2_with fail
  refine (wide_any _ num hnum).mono ?_
  rintro e w2 ⟨rfl, rfl⟩
  go_wp2
  exact bodyPost_ret (v := .tuple #[.agg #[.slice a len cap, .int .i64 (bs.length : Int)], .int .i64 5]) (by simp [results, Try.results29, go_sem]) rfl ⟨a, len, cap, rfl, hl.mono (bb _ _), bb _ _⟩
theorem digits_any (w : World) (num wide : Int) :
    Calls Try.prog 38 #[.int .u64 num, .int .i64 wide] w fun e w' => e = .returned (.func (.func 47) #[] #[.pointer (some ⟨w.heap.size + 1, 0, none⟩), .pointer (some ⟨w.heap.size, 0, none⟩)]) ∧ (w.alloc (.cells #[.int .u64 num] 64)).alloc (.cells #[.int .i64 wide] 3) = w' := by
  go_enter Try.func38, Try.ntmps38
  go_wp2
  go_ret
  exact ⟨rfl, rfl⟩
theorem PageAt.below {w w' : World} {g base : Nat} {bs : List Nat} (h : PageAt w g base bs) (hb : Below w.heap.size w w') : PageAt w' g base bs := by
  obtain ⟨v, h1, h2, h3⟩ := h
  exact ⟨v, (hb.block g (Array.getElem?_eq_some_iff.1 h1).1).trans h1, own_below h2 hb, h3⟩
theorem Laid.below {g base : Nat} {cs : List Nat} {a b : World} (h : Laid g base cs a b) (hb : base ≤ a.heap.size) : Below base a b := by
  refine ⟨h.os, h.tape, h.output, h.size, fun k hk => ?_⟩
  have hlt : k < a.heap.size := by omega
  have := h.kept k a.heap[k] (Array.getElem?_eq_getElem hlt) (.inl hk)
  rw [this, Array.getElem?_eq_getElem hlt]
set_option maxHeartbeats 4000000 in
theorem put_ok (w : World) (a : Option Addr) (len cap : Nat) (bs : List Nat) (hbs : IsBits bs) (hsm : bs.length ≤ 549755813888) (num wide : Nat) (hnum : num < 18446744073709551616) (h2 : wide ≤ 64) (h3 : Lib.bitLen num ≤ wide) (hl : BytesAt w a len cap (pack bs)) :
    Calls Try.prog 29 #[.agg #[.slice a len cap, .int .i64 (bs.length : Int)], .int .u64 (num : Int), .int .i64 (wide : Int)] w (BitsOut (bs ++ digs num wide) 0 w) := by
  have bb : ∀ o o' : Obj, Below w.heap.size w ((w.alloc o).alloc o') := fun o o' => ((Below.refl _ _).alloc (Nat.le_refl _) _).alloc (by simp) _
  have d1 : decide ((wide : Int) < 0) = false := by simp
  have d2 : decide (64 < (wide : Int)) = false := by simp; omega
  have d3 : ¬ ((wide : Int) < (Lib.bitLen num : Int)) := by omega
  go_enter Try.func29, Try.ntmps29
  go_wp2_with fail
  refine (wide_any _ num hnum).mono ?_
  rintro e w2 ⟨rfl, rfl⟩
  go_wp2_with fail
  refine (behind_any _ _ _ _ bs (hl.mono (bb _ _)) (by omega)).mono ?_
  rintro e w3 ⟨g, rfl, hp3, hb3, hg3⟩
  go_wp2_with fail
  refine (digits_any _ _ _).mono ?_
  rintro e w4 ⟨rfl, rfl⟩
  have hbox1 : BoxIs ((w3.alloc (.cells #[.int .u64 (num : Int)] 64)).alloc (.cells #[.int .i64 (wide : Int)] 3)) (w3.heap.size + 1) 3 (.int .i64 (wide : Int)) := by
    have := World.alloc_heap_new (w3.alloc (.cells #[.int .u64 (num : Int)] 64)) (.cells #[.int .i64 (wide : Int)] 3)
    simpa [BoxIs] using this
  have hbox2 : BoxIs ((w3.alloc (.cells #[.int .u64 (num : Int)] 64)).alloc (.cells #[.int .i64 (wide : Int)] 3)) w3.heap.size 64 (.int .u64 (num : Int)) :=
    (Below.heap_alloc _ _ _ (by simp)).trans (World.alloc_heap_new _ _)
  have hb4 : Below w3.heap.size w3 ((w3.alloc (.cells #[.int .u64 (num : Int)] 64)).alloc (.cells #[.int .i64 (wide : Int)] 3)) := ((Below.refl _ _).alloc (Nat.le_refl _) _).alloc (by simp) _
  have hp4 := hp3.below hb4
  have hs3 := hb3.size
  simp at hs3
  obtain ⟨B, hB⟩ : ∃ B, B = ((w.alloc (.cells #[.slice a len cap, .int .i64 (bs.length : Int)] 53)).alloc (.cells #[.slice none 0 0, .int .i64 0] 53)).heap.size := ⟨_, rfl⟩
  rw [← hB] at hp4
  have hBs : B = w.heap.size + 2 := by rw [hB]; simp
  have HB := Lib.hid hB
  have HBs := Lib.hid hBs
  clear hB hBs
  go_wp2_with fail
  refine (all_any _ g B bs _ _ (fun cs => cs = digs num wide) wide hbs hp4 (by have := HBs.out; simp; omega) (by omega) (enters_of Try.func47 (by kernel_rfl) rfl)
    (fun w' hb => digits_stops Fence.wide 20 trivial rfl (by omega) g B _ _ wide num h2 hnum w' (hbox1.below hb) (hbox2.below hb) (by omega) (by omega))).mono ?_
  rintro e w5 ⟨rfl, cs, rfl, _, hL⟩
  go_wp2_with fail
  refine (told_any _ g B _ hL.page).mono ?_
  rintro e w6 ⟨a6, c6, rfl, o6, b6⟩
  have hbs6 := own_bits (hbs.append (digs_bits num wide)) rfl o6 (by rw [List.length_append, digs_length]; omega)
  have hL5 := hL.below (by have := HBs.out; simp; omega)
  have hres : Below (w.heap.size + 2) ((w.alloc (.cells #[.slice a len cap, .int .i64 (bs.length : Int)] 53)).alloc (.cells #[.slice none 0 0, .int .i64 0] 53)) w6 := by
    have e2 := HBs.out
    refine ((hb3.mono (by simp)).trans (hb4.mono (by omega))).trans ((hL5.mono (by omega)).trans (b6.mono ?_))
    have := hL5.size
    simp at this
    omega
  have r0 : w6.cell? ⟨w.heap.size + 1, 0, none⟩ = some (.slice none 0 0) := (hres.cell (p := ⟨w.heap.size + 1, 0, none⟩) (Nat.lt_succ_self _)).trans (by simp)
  have r1 : w6.cell? ⟨w.heap.size + 1, 1, none⟩ = some (.int .i64 0) := (hres.cell (p := ⟨w.heap.size + 1, 1, none⟩) (Nat.lt_succ_self _)).trans (by simp)
  have f0 : w6.frozen? ⟨w.heap.size + 1, 0, none⟩ = false := (hres.frozen (p := ⟨w.heap.size + 1, 0, none⟩) (Nat.lt_succ_self _)).trans (by simp)
  have f1 : w6.frozen? ⟨w.heap.size + 1, 1, none⟩ = false := (hres.frozen (p := ⟨w.heap.size + 1, 1, none⟩) (Nat.lt_succ_self _)).trans (by simp)
  go_wp2
  have hne : some (w.heap.size + 1) ≠ (Value.slice a6 (((bs ++ digs num wide).length + 7) / 8) c6).ownBlock := by
    intro e
    have := (o6.lt _ e.symm).1
    have := HBs.out
    omega
  have o7 := own_setOther (q := 1) (y := .int .i64 ((bs.length : Int) + ((digs num wide).length : Int))) (own_setOther (q := 0) (y := .slice a6 ((bs.length + (digs num wide).length + 7) / 8) c6) o6 hne) hne
  have hbs7 := own_bits (hbs.append (digs_bits num wide)) rfl o7 (by rw [List.length_append, digs_length]; omega)
  rw [List.length_append] at hbs7
  have bb6 : Below w.heap.size w w6 := (bb _ _).trans (hres.mono (by omega))
  refine bodyPost_ret (v := .tuple #[.agg #[.slice a6 ((bs.length + (digs num wide).length + 7) / 8) c6, .int .i64 ((bs.length : Int) + ((digs num wide).length : Int))], .int .i64 0]) ?_ rfl ⟨a6, _, c6, ?_, hbs7, (bb6.setCell (Nat.le_succ _) _).setCell (Nat.le_succ _) _⟩
  · have q0 : (w6.setCell ⟨w.heap.size + 1, 0, none⟩ (.slice a6 ((bs.length + (digs num wide).length + 7) / 8) c6)).cell? ⟨w.heap.size + 1, 1, none⟩ = some (.int .i64 0) := by rw [World.cell?_setCell_other _ _ _ _ (by simp)]; exact r1
    have q00 := World.cell?_setCell_same w6 ⟨w.heap.size + 1, 0, none⟩ (.slice a6 ((bs.length + (digs num wide).length + 7) / 8) c6) r0
    have q11 := World.cell?_setCell_same _ ⟨w.heap.size + 1, 1, none⟩ (.int .i64 ((bs.length : Int) + ((digs num wide).length : Int))) q0
    simp [results, Try.results29, go_sem, q00, q11]
  · rw [List.length_append]; push_cast; rfl
end Go.Proofs.Ytblipgmllpniaaa
