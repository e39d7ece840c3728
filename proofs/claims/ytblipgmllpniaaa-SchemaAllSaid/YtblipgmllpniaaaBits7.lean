/- Contracts of bits.Take and Right. -/
import Derived.Test.YtblipgmllpniaaaBits6
namespace Go.Proofs.Ytblipgmllpniaaa
open Go.RowKit Go.Shelf
set_option linter.unusedVariables false
attribute [local go_sem] Oper.semAt_some

def NumOut (n : Nat) (code : Int) (w : World) (e : Ending) (w' : World) : Prop := e = .returned (.tuple #[.int .u64 (n : Int), .int .i64 code]) ∧ Below w.heap.size w w'
theorem take_bad (w : World) (a : Option Addr) (len cap : Nat) (N at_ wide : Int) (hw : wide < 0 ∨ 64 < wide) :
    Calls Try.prog 31 #[.agg #[.slice a len cap, .int .i64 N], .int .i64 at_, .int .i64 wide] w (NumOut 0 1 w) := by
  have bb : ∀ o : Obj, Below w.heap.size w (w.alloc o) := fun o => (Below.refl _ _).alloc (Nat.le_refl _) _
  by_cases h1 : wide < 0
  · have d1 : decide (wide < 0) = true := by simpa using h1
    clear hw
    go_enter Try.func31, Try.ntmps31
    go_wp2
    go_ret2
    exact ⟨rfl, bb _⟩
  · have h2 : 64 < wide := by omega
    have d1 : decide (wide < 0) = false := by simpa using h1
    have d2 : decide (64 < wide) = true := by simpa using h2
    clear hw
    go_enter Try.func31, Try.ntmps31
    go_wp2
    go_ret2
    exact ⟨rfl, bb _⟩
theorem take_none (w : World) (a : Option Addr) (len cap : Nat) (N : Nat) (at_ wide : Int) (h1 : 0 ≤ wide) (h2 : wide ≤ 64) (hN : N ≤ 549755813888) (h3 : at_ < 0 ∨ (N : Int) < at_ ∨ (N : Int) - at_ < wide) :
    Calls Try.prog 31 #[.agg #[.slice a len cap, .int .i64 (N : Int)], .int .i64 at_, .int .i64 wide] w (NumOut 0 10 w) := by
  have bb : ∀ o : Obj, Below w.heap.size w (w.alloc o) := fun o => (Below.refl _ _).alloc (Nat.le_refl _) _
  have d1 : decide (wide < 0) = false := by simpa using h1
  have d2 : decide (64 < wide) = false := by simpa using h2
  by_cases h4 : at_ < 0
  · have d3 : decide (at_ < 0) = true := by simpa using h4
    clear h3
    go_enter Try.func31, Try.ntmps31
    go_wp2
    go_ret2
    exact ⟨rfl, bb _⟩
  · have d3 : decide (at_ < 0) = false := by simpa using h4
    by_cases h5 : (N : Int) < at_
    · have d4 : decide ((N : Int) < at_) = true := by simpa using h5
      clear h3
      go_enter Try.func31, Try.ntmps31
      go_wp2
      go_ret2
      exact ⟨rfl, bb _⟩
    · have d4 : decide ((N : Int) < at_) = false := by simpa using h5
      have h6 : (N : Int) - at_ < wide := by omega
      have d5 : decide ((N : Int) - at_ < wide) = true := by simpa using h6
      have h7 : at_ ≤ (N : Int) := by omega
      have h8 : 0 ≤ at_ := by omega
      clear h3 h4 h5
      go_enter Try.func31, Try.ntmps31
      go_wp2
      go_ret2
      exact ⟨rfl, bb _⟩
theorem shl_or (n b : Nat) (hn : 2 * n + b < 18446744073709551616) (hb : b < 2) : bits .or .u64 (IntKind.u64.wrap ((n : Int) * 2)) (b : Int) = ((2 * n + b : Nat) : Int) := by
  have e : IntKind.u64.wrap ((n : Int) * 2) = ((2 * n : Nat) : Int) := by rw [IntKind.wrap_u64]; omega
  rw [e, u64_or_nat _ _ (by omega) (by omega)]
  have : 2 * n ||| b = 2 * n + b := by
    have h2 : b = 0 ∨ b = 1 := by omega
    rcases h2 with rfl | rfl
    · simp
    · have := Nat.or_comm (2 * n) 1
      apply Nat.eq_of_testBit_eq
      intro i
      rw [Nat.testBit_or]
      cases i with
      | zero => simp [Nat.testBit_zero]
      | succ i => simp [Nat.testBit_succ]; congr 1; omega
  rw [this]
set_option maxRecDepth 100000 in
set_option maxHeartbeats 4000000 in
theorem take_ok (w : World) (a : Option Addr) (len cap : Nat) (bs : List Nat) (hbs : IsBits bs) (hsm : bs.length ≤ 549755813888) (at_ wide : Nat) (h2 : wide ≤ 64) (hin : at_ + wide ≤ bs.length) (hl : BytesAt w a len cap (pack bs)) :
    Calls Try.prog 31 #[.agg #[.slice a len cap, .int .i64 (bs.length : Int)], .int .i64 (at_ : Int), .int .i64 (wide : Int)] w (NumOut (valOf (cutBits bs at_ wide)) 0 w) := by
  refine (callsIn_wide (n := 21)).1 ?_
  have d1 : decide ((wide : Int) < 0) = false := by simp
  have d2 : decide (64 < (wide : Int)) = false := by simp; omega
  have d3 : decide ((at_ : Int) < 0) = false := by simp
  have d4 : decide ((bs.length : Int) < (at_ : Int)) = false := by simp; omega
  have d4' : decide (bs.length < at_) = false := by simp; omega
  have d5 : decide ((bs.length : Int) - (at_ : Int) < (wide : Int)) = false := by simp; omega
  have hlow : len ≠ 0 → ∀ bk o, a = some ⟨bk, o, none⟩ → bk < w.heap.size := by
    intro h0 bk o hb
    rcases hl.5 with h4 | ⟨b', off, ha', hlt, _⟩
    · exact absurd h4 h0
    · rw [ha'] at hb; simp at hb; omega
  refine callsIn_of_wp_marks Try.func31 rfl trivial ?_ rfl
  simp only [Try.ntmps31, List.size_toArray, List.length_cons, List.length_nil, Nat.reduceAdd, Nat.reduceSub, Array.replicate_succ, Array.replicate_zero, List.push_toArray, List.append_toArray, List.nil_append, List.cons_append]
  gi_wp2_with (refine ⟨trivial, ?_⟩; gi_at_call 43; refine (callsIn_wide.2 (stretch_any _ _ _ _ _ _ _)).mono ?_; rintro e w4 ⟨rfl, rfl⟩)
  obtain ⟨W1, hW1⟩ : ∃ W1, (w.alloc (.cells #[.slice a len cap, .int .i64 (bs.length : Int)] 53)).alloc (.cells #[.int .u64 0] 64) = W1 := ⟨_, rfl⟩
  have hW1s : W1.heap.size = w.heap.size + 1 + 1 := by rw [← hW1]; simp
  have hg1 : BoxIs W1 (w.heap.size + 1) 64 (.int .u64 0) := by
    rw [← hW1]
    have := World.alloc_heap_new (w.alloc (.cells #[.slice a len cap, .int .i64 (bs.length : Int)] 53)) (.cells #[.int .u64 0] 64)
    simpa [BoxIs] using this
  have bw1 : Below w.heap.size w W1 := by rw [← hW1]; exact ((Below.refl _ _).alloc (Nat.le_refl _) _).alloc (by simp) _
  obtain ⟨hbx, hba, hbw⟩ := stretch_boxes W1 a len cap (bs.length : Int) at_ wide
  have bw2 : Below W1.heap.size W1 (((W1.alloc (.cells #[.slice a len cap, .int .i64 (bs.length : Int)] 53)).alloc (.cells #[.int .i64 (at_ : Int)] 3)).alloc (.cells #[.int .i64 (wide : Int)] 3)) := (((Below.refl _ _).alloc (Nat.le_refl _) _).alloc (by simp) _).alloc (by simp; omega) _
  rw [hW1]
  obtain ⟨W2, hW2⟩ : ∃ W2, ((W1.alloc (.cells #[.slice a len cap, .int .i64 (bs.length : Int)] 53)).alloc (.cells #[.int .i64 (at_ : Int)] 3)).alloc (.cells #[.int .i64 (wide : Int)] 3) = W2 := ⟨_, rfl⟩
  rw [hW2] at hbx hba hbw bw2 ⊢
  have hg2 := hg1.below bw2
  have bw : Below w.heap.size w W2 := bw1.trans (bw2.mono (by omega))
  have hW2s := bw2.size
  rw [hW1s] at hbx hba hbw
  refine wpIn_rangeFunc_ownF rfl (by omega) (gf := 48) (lb := #[.pointer (some ⟨w.heap.size + 1 + 1 + 1, 0, none⟩), .pointer (some ⟨w.heap.size + 1 + 1 + 2, 0, none⟩), .pointer (some ⟨w.heap.size + 1 + 1, 0, none⟩)]) rfl trivial (enters_of Try.func48 (by kernel_rfl) rfl)
    (stretch_stops Fence.wide 20 trivial rfl (by omega) (w.heap.size + 1) w.heap.size _ _ _ a len cap bs at_ wide hbs (by omega) hin W2 hba hbw hbx (hl.mono bw) (by omega) (by omega) (by omega) hlow)
    (fun h k => ⟨kpC_t h.1 k.1, Nat.le_trans h.2 k.2⟩) (fun W l o o' _ ho hc _ => ⟨kpC_b W l o o' ho hc, by simp⟩) (Below.refl _ _) (fun _ => rfl)
    (fun pre W => BoxIs W (w.heap.size + 1) 64 (.int .u64 (valOf (vals pre) : Nat)) ∧ Below w.heap.size w W)
    (fun _ _ _ => False)
    (fun s A B row hs hg hr => ⟨box_grown hs.1 hg hr, hs.2.grown hg hs.2.size (fun k e => by have := (hr k e).1; omega)⟩)
    (fun _ _ _ _ _ hs _ _ => hs)
    ⟨by simpa [vals, valOf] using hg2, bw⟩
    (fun x => { tmps := #[.agg #[.slice a len cap, .int .i64 (bs.length : Int)], .int .i64 (at_ : Int), .int .i64 (wide : Int), .pointer (some ⟨w.heap.size, 0, none⟩), undef, undef, .int .u64 0, .int .i64 0, .pointer (some ⟨w.heap.size + 1, 0, none⟩), .int .u64 ((x.val : Nat) : Int), .int .i64 (wide : Int), .bool false, .bool false, .int .i64 (wide : Int), .bool false, .bool false, .int .i64 (at_ : Int), .bool false, .bool false, .int .i64 (at_ : Int), .pointer (some ⟨w.heap.size, 1, none⟩), .int .i64 (bs.length : Int), .bool false, .bool false, .bool false, .pointer (some ⟨w.heap.size, 1, none⟩), .int .i64 (bs.length : Int), .int .i64 (at_ : Int), .int .i64 ((bs.length : Int) - (at_ : Int)), .int .i64 (wide : Int), .bool false, .bool false, .agg #[.slice a len cap, .int .i64 (bs.length : Int)], .int .i64 (at_ : Int), .int .i64 (wide : Int), .func (.func 48) #[] #[.pointer (some ⟨w.heap.size + 1 + 1 + 1, 0, none⟩), .pointer (some ⟨w.heap.size + 1 + 1 + 2, 0, none⟩), .pointer (some ⟨w.heap.size + 1 + 1, 0, none⟩)], .int .u64 ((x.val : Nat) : Int), undef, undef, undef, undef, undef], defers := [] }) ?assign ?body ?done ?stop
  case assign =>
    intro l x W K hK
    dsimp only [encB]
    gi_wp2
    exact hK
  case body =>
    rintro l pre x W ⟨hB, hbel⟩ hlen
    have hc := hB.cell
    have hf : W.frozen? ⟨w.heap.size + 1, 0, none⟩ = false := by unfold BoxIs at hB; simp [World.frozen?, hB]
    have hpl : (vals pre).length = pre.length := by simp [vals]
    have hv : valOf (vals pre) < 2 ^ (vals pre).length := valOf_lt _ (vals_bits pre)
    have hv2 : 2 ^ (vals pre).length ≤ 2 ^ 63 := Nat.pow_le_pow_right (by omega) (by omega)
    have hx := x.isLt
    have hso := shl_or (valOf (vals pre)) x.val (by omega) hx
    have HSO := Lib.hid hso
    clear hso hpl hv hv2
    gi_wp2
    rw [HSO.out]
    refine ⟨KeepsOthers.setCell _ _ _, ⟨?_, by simp [World.setCell]⟩, ?_, hbel.setCell (Nat.le_succ _) _⟩
    · intro k c t fr hk hh
      rw [Below.heap_setCell _ _ _ _ (by show k ≠ w.heap.size + 1; rcases hh with hh | ⟨hh, _⟩ <;> omega)]
      exact hk
    · have := Joins.block_setCell (i := 0) hB (.int .u64 ((2 * valOf (vals pre) + x.val : Nat) : Int))
      rw [vals_append, show vals [x] = [x.val] from rfl, valOf_snoc]
      simpa [BoxIs] using this
  case done =>
    rintro D ys W hD hS ⟨hB, hbel⟩ hK
    have hc := hB.cell
    gi_wp2
    refine ⟨by simp, .inl ⟨_, _, rfl, run_takeDeferred hK, ?_⟩⟩
    refine ⟨.tuple #[.int .u64 (valOf (cutBits bs at_ wide) : Nat), .int .i64 0], ?_, rfl, hbel.trans (belowK_b (w := w) (Nat.le_refl _) W D _ _ (by omega) hK rfl rfl)⟩
    simp [results, Try.results31, go_sem]
  case stop =>
    rintro D c pre W _ _ h _
    exact h.elim

/-- Right bits, of whatever number. -/
def RightI (l : List Nat) (N : Int) : Prop := 0 ≤ N ∧ RightS l N.toNat
theorem last_table : ∀ (x : Fin 256) (r : Fin 8), x.val * 2 ^ r.val % 256 = 0 ↔ ∀ i : Fin 8, r.val ≤ i.val → x.val / 2 ^ (7 - i.val) % 2 = 0 := by decide +kernel
theorem rightS_len (l : List Nat) (N : Nat) (h : RightS l N) : (l.length : Int) = (N : Int) / 8 + min ((N : Int) % 8) 1 := by
  have := h.1
  omega
theorem rightS_iff (l : List Nat) (hb : ∀ n ∈ l, n < 256) (N : Nat) (hl : l.length = (N + 7) / 8) (h0 : N % 8 ≠ 0) : RightS l N ↔ l.getD (l.length - 1) 0 * 2 ^ (N % 8) % 256 = 0 := by
  have hlt : l.length - 1 < l.length := by omega
  have hx : l.getD (l.length - 1) 0 < 256 := by
    have e : l.getD (l.length - 1) 0 = l[l.length - 1] := by simp [hlt]
    rw [e]; exact hb _ (List.getElem_mem hlt)
  have ht := last_table ⟨l.getD (l.length - 1) 0, hx⟩ ⟨N % 8, by omega⟩
  simp only at ht
  rw [ht]
  constructor
  · rintro ⟨_, h2⟩ i hi
    have := h2 (8 * (l.length - 1) + i.val) (by omega) (by omega)
    unfold bitAt at this
    rw [show (8 * (l.length - 1) + i.val) / 8 = l.length - 1 from by omega, show (8 * (l.length - 1) + i.val) % 8 = i.val from by omega] at this
    exact this
  · intro h
    refine ⟨hl, fun k h1 h2 => ?_⟩
    have := h ⟨k % 8, by omega⟩ (by simp only; omega)
    unfold bitAt
    rw [show k / 8 = l.length - 1 from by omega]
    exact this
theorem rightS_whole (l : List Nat) (N : Nat) (hl : l.length = (N + 7) / 8) (h0 : N % 8 = 0) : RightS l N := ⟨hl, fun k h1 h2 => by omega⟩
instance (l : List Nat) (N : Nat) : Decidable (RightS l N) := by unfold RightS; exact decidable_of_iff (l.length = (N + 7) / 8 ∧ ∀ k : Fin (8 * l.length), N ≤ k.val → bitAt l k.val = 0) ⟨fun ⟨h1, h2⟩ => ⟨h1, fun k hk hk2 => h2 ⟨k, hk2⟩ hk⟩, fun ⟨h1, h2⟩ => ⟨h1, fun k hk => h2 k.val hk k.isLt⟩⟩
instance (l : List Nat) (N : Int) : Decidable (RightI l N) := by unfold RightI; infer_instance
end Go.Proofs.Ytblipgmllpniaaa
