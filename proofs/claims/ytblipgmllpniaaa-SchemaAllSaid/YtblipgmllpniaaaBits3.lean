/- The iterators over a number's digits and over a stretch of bits: their contracts. -/
import Derived.RangeFuncNested
import Derived.RangeFuncBound
import Derived.RangeFuncCalls
import Derived.RangeFuncLeaves
import Derived.RangeFuncWrites
import Derived.Shelf.Abstract
import Derived.Shelf.RegionOpen
import Derived.OwnWalkIn
import Derived.TacticsInMore
import Derived.LoopNIn
import Derived.LoopIn
import Derived.Test.YtblipgmllpniaaaBits2
namespace Go.Proofs.Ytblipgmllpniaaa
open Go.RowKit Go.Shelf
set_option linter.unusedVariables false
attribute [local go_sem] Oper.semAt_some

/-- A bit, as an iterator hands it over. -/
def encB (x : Fin 2) : Array Value := #[.int .u64 ((x.val : Nat) : Int)]
def vals (xs : List (Fin 2)) : List Nat := xs.map Fin.val
theorem vals_bits (xs : List (Fin 2)) : IsBits (vals xs) := by
  intro b hb
  obtain ⟨x, _, rfl⟩ := List.mem_map.1 hb
  exact x.isLt
theorem vals_append (a b : List (Fin 2)) : vals (a ++ b) = vals a ++ vals b := by simp [vals]
/-- What rounds leave alone: cells below base, and others but the page and bytes. -/
def KpC (g base : Nat) (W W' : World) : Prop := ∀ k c t fr, W.heap[k]? = some (.cells c t fr) → (k < base ∨ (k ≠ g ∧ t ≠ 5)) → W'.heap[k]? = some (.cells c t fr)
theorem kpC_t {g base : Nat} {A B C : World} (h : KpC g base A B) (k : KpC g base B C) : KpC g base A C := fun i c t fr hi hk => k i c t fr (h i c t fr hi hk) hk
theorem kpC_b {g base : Nat} (W : World) (l : Nat) (o o' : Obj) (h : W.heap[l]? = some o) (hc : o.isCells = false) : KpC g base W (W.putObj l o') := by
  intro k c t fr hk _
  have hne : k ≠ l := by
    intro e
    subst e
    rw [hk] at h
    simp at h
    subst h
    simp [Obj.isCells] at hc
  rw [World.putObj_heap_other hne]; exact hk
/-- A box that rounds leave alone. -/
def BoxIs (W : World) (b : Nat) (t : TypeId) (v : Value) : Prop := W.heap[b]? = some (.cells #[v] t (0, 0))
theorem BoxIs.kp {g base : Nat} {W W' : World} {b : Nat} {t : TypeId} {v : Value} (h : BoxIs W b t v) (hk : KpC g base W W') (hb : b ≠ g) (ht : t ≠ 5) : BoxIs W' b t v := hk b _ t _ h (.inr ⟨hb, ht⟩)
theorem BoxIs.cell {W : World} {b : Nat} {t : TypeId} {v : Value} (h : BoxIs W b t v) : W.cell? ⟨b, 0, none⟩ = some v := by
  unfold BoxIs at h
  simp [World.cell?, h]
theorem BoxIs.below {W W' : World} {b : Nat} {t : TypeId} {v : Value} (h : BoxIs W b t v) (hb : Below W.heap.size W W') : BoxIs W' b t v := by
  unfold BoxIs at h ⊢
  rw [hb.block b (Array.getElem?_eq_some_iff.1 h).1]; exact h
theorem digit_take (n wide j : Nat) (h : j < wide) : (digs n wide).take (j + 1) = (digs n wide).take j ++ [n / 2 ^ (wide - 1 - j) % 2] := by
  rw [List.take_succ_eq_append_getElem (by rw [digs_length]; exact h)]
  simp [digs]

theorem digit_val (X : Nat) (h : X < 18446744073709551616) : bits .and .u64 (X : Int) 1 = ((X % 2 : Nat) : Int) := by
  have := u64_and_nat X 1 h (by omega)
  rw [Nat.and_one_is_mod] at this
  exact this
set_option maxRecDepth 100000 in
set_option maxHeartbeats 2000000 in
theorem digits_stops (F : Fence) (n : Nat) (hF : F.fn 47) (hro : F.round = none) (hn : 1 ≤ n) (g base Bw Bn wide num : Nat) (hw : wide ≤ 64) (hnum : num < 18446744073709551616) (w : World)
    (h1 : BoxIs w Bw 3 (.int .i64 (wide : Int))) (h2 : BoxIs w Bn 64 (.int .u64 (num : Int))) (hg1 : Bw ≠ g) (hg2 : Bn ≠ g) :
    SeqStopsK F n Try.prog 47 #[.pointer (some ⟨Bw, 0, none⟩), .pointer (some ⟨Bn, 0, none⟩)] encB (fun W W' => KpC g base W W' ∧ W.heap.size ≤ W'.heap.size) (fun xs => vals xs = digs num wide) (fun _ => True) wide w := fun l J Jx W hW _ _ hY h0 => by
  have b1 := h1.below hW
  have b2 := h2.below hW
  have c1 := b1.cell
  refine callsIn_of_wp Try.func47 rfl hF ?_ hro
  simp only [Try.ntmps47, List.size_toArray, List.length_cons, List.length_nil, Nat.reduceAdd, Nat.reduceSub, Array.replicate_succ, Array.replicate_zero, List.push_toArray, List.append_toArray, List.nil_append, List.cons_append]
  gi_wp2
  gi_loopw [4] (fun p wr => ∃ (pre : List (Fin 2)) (j : Nat), j ≤ wide ∧ p = .int .i64 ((wide : Int) - 1 - (j : Int)) ∧ Hid (vals pre = (digs num wide).take j) ∧ BoxIs wr Bw 3 (.int .i64 (wide : Int)) ∧ BoxIs wr Bn 64 (.int .u64 (num : Int)) ∧ J pre wr)
    (fun p _ => (intOf p + 1).toNat)
  case atStart =>
    exact ⟨[], 0, by omega, by simp, rfl, b1, b2, h0⟩
  case round =>
    obtain ⟨pre, j, hj, rfl, hpre, d1, d2, hJ⟩ := hrel
    have c2 := d2.cell
    by_cases hlt : j < wide
    · obtain ⟨k, hk⟩ : ∃ k : Nat, (wide : Int) - 1 - (j : Int) = (k : Int) := ⟨wide - 1 - j, by omega⟩
      have hkb : k < 64 := by omega
      obtain ⟨d, hd⟩ : ∃ d, d = num / 2 ^ (wide - 1 - j) % 2 := ⟨_, rfl⟩
      have hbit : d < 2 := by omega
      have hke : wide - 1 - j = k := by omega
      have hd2 : bits .and .u64 ((num : Int) / 2 ^ k) 1 = ((d : Nat) : Int) := by
        have e1 : ((num : Int) / 2 ^ k) = ((num / 2 ^ k : Nat) : Int) := by push_cast; rfl
        rw [e1, digit_val _ (Nat.lt_of_le_of_lt (Nat.div_le_self _ _) hnum), hd, hke]
      have HD := Lib.hid hd
      clear hd hke
      obtain ⟨fn, tmps, assign, body, hy, hR⟩ := hY pre ⟨d, hbit⟩ wr hJ (by have := congrArg List.length hpre.out; simp [vals, digs_length] at this; omega)
      dsimp only [encB] at hy
      gi_wp2
      refine hR.mono ?_
      rintro e W3 (⟨rfl, hJ3, hk3⟩ | ⟨rfl, hJx3⟩)
      · have d1' := d1.kp hk3.1 hg1 (by decide)
        have d2' := d2.kp hk3.1 hg2 (by decide)
        gi_wp2
        go_roundw
        case rel =>
          refine ⟨pre ++ [⟨d, hbit⟩], j + 1, by omega, congrArg (Value.int IntKind.i64) (by omega), ?_, d1', d2', hJ3⟩
          show vals (pre ++ [⟨d, hbit⟩]) = _
          rw [vals_append, hpre.out, digit_take num wide j hlt, ← HD.out]; rfl
        case measure => simp [intOf]; omega
      · gi_wp2
        refine bodyPost_ret (results_none rfl _ _ _) rfl ?_
        exact ⟨⟨_, rfl⟩, .inr ⟨_, trivial, hJx3⟩⟩
    · obtain rfl : j = wide := by omega
      have hneg : ¬ (0 : Int) ≤ (j : Int) - 1 - (j : Int) := by omega
      gi_wp2
      go_end0
      refine ⟨⟨_, rfl⟩, .inl ⟨pre, ?_, hJ⟩⟩
      rw [hpre.out, List.take_of_length_le (by rw [digs_length]; omega)]
theorem cell_kp {g base : Nat} {W W' : World} {b o : Nat} {v : Value} (h : W.cell? ⟨b, o, none⟩ = some v) (hk : KpC g base W W') (hb : b < base) : W'.cell? ⟨b, o, none⟩ = some v := by
  unfold World.cell? at h ⊢
  simp only at h ⊢
  cases hh : W.heap[b]? with
  | none => rw [hh] at h; simp at h
  | some ob =>
    rw [hh] at h
    cases ob with
    | cells c t fr => rw [hk b c t fr hh (.inl hb)]; exact h
    | _ => simp at h
/-- Bytes below base, as rounds leave them. -/
theorem BytesAt.kp {g base : Nat} {W W' : World} {a : Option Addr} {len cap : Nat} {l : List Nat} (h : BytesAt W a len cap l) (hk : KpC g base W W') (hlow : len ≠ 0 → ∀ b o, a = some ⟨b, o, none⟩ → b < base) (hsz : W.heap.size ≤ W'.heap.size) : BytesAt W' a len cap l := by
  refine ⟨h.1, h.2, h.3, h.4, ?_⟩
  rcases h.5 with h4 | ⟨b, off, ha, hlt, hc⟩
  · exact .inl h4
  · by_cases h0 : len = 0
    · exact .inl h0
    · exact .inr ⟨b, off, ha, Nat.lt_of_lt_of_le hlt hsz, fun i hi => cell_kp (hc i hi) hk (hlow h0 b off ha)⟩
/-- A box of bits. -/
def BitsBox (W : World) (b : Nat) (a : Option Addr) (len cap : Nat) (N : Int) : Prop := W.heap[b]? = some (.cells #[.slice a len cap, .int .i64 N] 53 (0, 0))
theorem BitsBox.kp {g base : Nat} {W W' : World} {b : Nat} {a : Option Addr} {len cap : Nat} {N : Int} (h : BitsBox W b a len cap N) (hk : KpC g base W W') (hb : b ≠ g) : BitsBox W' b a len cap N := hk b _ 53 _ h (.inr ⟨hb, by decide⟩)
theorem BitsBox.below {W W' : World} {b : Nat} {a : Option Addr} {len cap : Nat} {N : Int} (h : BitsBox W b a len cap N) (hb : Below W.heap.size W W') : BitsBox W' b a len cap N := by
  unfold BitsBox at h ⊢
  rw [hb.block b (Array.getElem?_eq_some_iff.1 h).1]; exact h
theorem BitsBox.cell0 {W : World} {b : Nat} {a : Option Addr} {len cap : Nat} {N : Int} (h : BitsBox W b a len cap N) : W.cell? ⟨b, 0, none⟩ = some (.slice a len cap) := by
  unfold BitsBox at h
  simp [World.cell?, h]
theorem BitsBox.cell1 {W : World} {b : Nat} {a : Option Addr} {len cap : Nat} {N : Int} (h : BitsBox W b a len cap N) : W.cell? ⟨b, 1, none⟩ = some (.int .i64 N) := by
  unfold BitsBox at h
  simp [World.cell?, h]
/-- wide bits from the place at on. -/
def cutBits (bs : List Nat) (at_ wide : Nat) : List Nat := (bs.drop at_).take wide
theorem cutBits_length (bs : List Nat) (at_ wide : Nat) (h : at_ + wide ≤ bs.length) : (cutBits bs at_ wide).length = wide := by simp [cutBits]; omega
theorem cutBits_take (bs : List Nat) (at_ wide j : Nat) (h : at_ + wide ≤ bs.length) (hj : j < wide) : (cutBits bs at_ wide).take (j + 1) = (cutBits bs at_ wide).take j ++ [bs.getD (at_ + j) 0] := by
  rw [List.take_succ_eq_append_getElem (by rw [cutBits_length _ _ _ h]; exact hj)]
  have : at_ + j < bs.length := by omega
  simp [cutBits, this]
theorem stretch_val (x r : Nat) (hx : x < 256) (hr : r ≤ 7) : bits .and .u64 (IntKind.u64.wrap ((x : Int) / 2 ^ (7 - r))) 1 = ((x / 2 ^ (7 - r) % 2 : Nat) : Int) := by
  have e0 : x / 2 ^ (7 - r) ≤ x := Nat.div_le_self _ _
  have key : ∀ y : Nat, y ≤ x → IntKind.u64.wrap ((y : Nat) : Int) = ((y : Nat) : Int) := fun y hy => by rw [IntKind.wrap_u64]; omega
  have e1 : IntKind.u64.wrap ((x : Int) / 2 ^ (7 - r)) = ((x / 2 ^ (7 - r) : Nat) : Int) := by
    rw [show ((x : Int) / 2 ^ (7 - r)) = ((x / 2 ^ (7 - r) : Nat) : Int) from by push_cast; rfl]; exact key _ e0
  rw [e1, digit_val _ (Nat.lt_of_le_of_lt (Nat.div_le_self _ _) (by omega))]
set_option maxRecDepth 100000 in
set_option maxHeartbeats 4000000 in
theorem stretch_stops (F : Fence) (n : Nat) (hF : F.fn 48) (hro : F.round = none) (hn : 1 ≤ n) (g base Ba Bw Bb : Nat) (a : Option Addr) (len cap : Nat) (bs : List Nat) (at_ wide : Nat) (hbs : IsBits bs) (hsm : bs.length ≤ 1099511627776) (hin : at_ + wide ≤ bs.length) (w : World)
    (h1 : BoxIs w Ba 3 (.int .i64 (at_ : Int))) (h2 : BoxIs w Bw 3 (.int .i64 (wide : Int))) (h3 : BitsBox w Bb a len cap (bs.length : Int)) (h4 : BytesAt w a len cap (pack bs)) (hg1 : Ba ≠ g) (hg2 : Bw ≠ g) (hg3 : Bb ≠ g)
    (hlow : len ≠ 0 → ∀ b o, a = some ⟨b, o, none⟩ → b < base) :
    SeqStopsK F n Try.prog 48 #[.pointer (some ⟨Ba, 0, none⟩), .pointer (some ⟨Bw, 0, none⟩), .pointer (some ⟨Bb, 0, none⟩)] encB (fun W W' => KpC g base W W' ∧ W.heap.size ≤ W'.heap.size) (fun xs => vals xs = cutBits bs at_ wide) (fun _ => True) wide w := fun l J Jx W hW _ _ hY h0 => by
  have b1 := h1.below hW
  have b2 := h2.below hW
  have b3 := h3.below hW
  have b4 := h4.mono hW
  have c1 := b1.cell
  refine callsIn_of_wp Try.func48 rfl hF ?_ hro
  simp only [Try.ntmps48, List.size_toArray, List.length_cons, List.length_nil, Nat.reduceAdd, Nat.reduceSub, Array.replicate_succ, Array.replicate_zero, List.push_toArray, List.append_toArray, List.nil_append, List.cons_append]
  gi_wp2
  gi_loopw [5] (fun p wr => ∃ (pre : List (Fin 2)) (j : Nat), j ≤ wide ∧ p = .int .i64 ((at_ : Int) + (j : Int)) ∧ Hid (vals pre = (cutBits bs at_ wide).take j) ∧ BoxIs wr Ba 3 (.int .i64 (at_ : Int)) ∧ BoxIs wr Bw 3 (.int .i64 (wide : Int)) ∧ BitsBox wr Bb a len cap (bs.length : Int) ∧ BytesAt wr a len cap (pack bs) ∧ J pre wr)
    (fun p _ => at_ + wide - (intOf p).toNat)
  case atStart =>
    exact ⟨[], 0, by omega, by simp, rfl, b1, b2, b3, b4, h0⟩
  case round =>
    obtain ⟨pre, j, hj, rfl, hpre, d1, d2, d3, d4, hJ⟩ := hrel
    have c1 := d1.cell
    have c2 := d2.cell
    have c3 := d3.cell0
    by_cases hlt : j < wide
    · have hlen := d4.len_eq
      rw [pack_length] at hlen
      have hl0 : len ≠ 0 := by omega
      obtain ⟨b, off, rfl, hbW, hcc⟩ := d4.at_.resolve_left hl0
      obtain ⟨q, hq⟩ : ∃ q : Nat, ((at_ : Int) + (j : Int)) / 8 = (q : Int) := ⟨(at_ + j) / 8, by omega⟩
      obtain ⟨r, hr⟩ : ∃ r : Nat, ((at_ : Int) + (j : Int)) % 8 = (r : Int) := ⟨(at_ + j) % 8, by omega⟩
      have hr7 : r ≤ 7 := by omega
      have hql : q < len := by omega
      have hce := hcc q hql
      have hqq : q = (at_ + j) / 8 := by omega
      have hrr : r = (at_ + j) % 8 := by omega
      have hbv := bitAt_pack hbs (at_ + j)
      unfold bitAt at hbv
      rw [← hqq, ← hrr] at hbv
      obtain ⟨x, hx⟩ : ∃ x, x = (pack bs).getD q 0 := ⟨_, rfl⟩
      rw [← hx] at hce hbv
      have hxb : x < 256 := by rw [hx, pack_getD bs q (by omega)]; exact byteOf_lt hbs q
      obtain ⟨d, hd⟩ : ∃ d, d = bs.getD (at_ + j) 0 := ⟨_, rfl⟩
      have hbit : d < 2 := by rw [hd]; exact hbs.getD _
      have hd2 : bits .and .u64 (IntKind.u64.wrap ((x : Int) / 2 ^ (7 - r))) 1 = ((d : Nat) : Int) := by rw [stretch_val x r hxb hr7, hbv, ← hd]
      have HD := Lib.hid hd
      have HLn := Lib.hid hlen
      clear hd hlen hqq hrr hbv hx hcc
      obtain ⟨fn, tmps, assign, body, hy, hR⟩ := hY pre ⟨d, hbit⟩ wr hJ (by have := congrArg List.length hpre.out; simp [vals, cutBits_length _ _ _ hin] at this; omega)
      dsimp only [encB] at hy
      gi_wp2
      refine hR.mono ?_
      rintro e W3 (⟨rfl, hJ3, hk3⟩ | ⟨rfl, hJx3⟩)
      · have d1' := d1.kp hk3.1 hg1 (by decide)
        have d2' := d2.kp hk3.1 hg2 (by decide)
        have d3' := d3.kp hk3.1 hg3
        have d4' := d4.kp hk3.1 hlow hk3.2
        gi_wp2
        go_roundw
        case rel =>
          refine ⟨pre ++ [⟨d, hbit⟩], j + 1, by omega, congrArg (Value.int IntKind.i64) (by omega), ?_, d1', d2', d3', d4', hJ3⟩
          show vals (pre ++ [⟨d, hbit⟩]) = _
          rw [vals_append, hpre.out, cutBits_take bs at_ wide j hin hlt, ← HD.out]; rfl
        case measure => simp [intOf]; omega
      · gi_wp2
        refine bodyPost_ret (results_none rfl _ _ _) rfl ?_
        exact ⟨⟨_, rfl⟩, .inr ⟨_, trivial, hJx3⟩⟩
    · obtain rfl : j = wide := by omega
      gi_wp2
      go_end0
      refine ⟨⟨_, rfl⟩, .inl ⟨pre, ?_, hJ⟩⟩
      rw [hpre.out, List.take_of_length_le (by rw [cutBits_length _ _ _ hin]; omega)]
end Go.Proofs.Ytblipgmllpniaaa
