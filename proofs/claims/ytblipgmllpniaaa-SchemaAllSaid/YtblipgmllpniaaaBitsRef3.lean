/- Contracts of scrutinyref01.list, row. -/
import Derived.Test.YtblipgmllpniaaaBitsRef2
import Derived.Test.YtblipgmllpniaaaBits2
namespace Go.Proofs.Ytblipgmllpniaaa
open Go.RowKit
set_option linter.unusedVariables false

def i64s (bs : List Nat) : List Value := bs.map fun (b : Nat) => Value.int .i64 (b : Int)
theorem i64s_snoc (bs : List Nat) (b : Nat) : i64s bs ++ [.int .i64 (b : Int)] = i64s (bs ++ [b]) := by simp [i64s]
theorem take_bit (bs : List Nat) (j : Nat) (h : j < bs.length) : bs.take j ++ [bs.getD j 0] = bs.take (j + 1) := by
  rw [List.take_succ_eq_append_getElem h]; simp [h]
/-- A row of ints of the call's own. -/
def ListOut (bs : List Nat) (base : Nat) (w : World) (e : Ending) (w' : World) : Prop :=
  ∃ v, e = .returned v ∧ w'.ownsRow base 3 1 v bs.length (i64s bs) ∧ Below base w w'
theorem BitsBox.keep {B : Nat} {W W' : World} {b : Nat} {a : Option Addr} {len cap : Nat} {N : Int} (h : BitsBox W b a len cap N) (hb : Below B W W') (hlt : b < B) : BitsBox W' b a len cap N := by
  unfold BitsBox at h ⊢
  rw [hb.block b hlt]; exact h
theorem BytesAt.keep {B : Nat} {w0 w w' : World} {a : Option Addr} {len cap : Nat} {l : List Nat} (h0 : BytesAt w0 a len cap l) (h : BytesAt w a len cap l) (hs : w0.heap.size ≤ B) (hb : Below B w w') (hB : B ≤ w.heap.size) : BytesAt w' a len cap l := by
  refine ⟨h.1, h.2, h.3, h.4, ?_⟩
  rcases h0.5 with h4 | ⟨b0, off0, ha0, hlt0, _⟩
  · exact .inl h4
  · rcases h.5 with h4 | ⟨b, off, ha, hlt, hc⟩
    · exact .inl h4
    · have e : b = b0 := by rw [ha0] at ha; simp at ha; omega
      exact .inr ⟨b, off, ha, Nat.lt_of_lt_of_le hlt hb.size, fun i hi => by rw [hb.cell (p := ⟨b, off + i, none⟩) (by simp; omega)]; exact hc i hi⟩
set_option maxHeartbeats 2000000 in
theorem list_any (w : World) (a : Option Addr) (len cap : Nat) (bs : List Nat) (hbs : IsBits bs) (hsm : bs.length ≤ 549755813888) (hl : BytesAt w a len cap (pack bs)) :
    Calls Try.prog 42 #[.agg #[.slice a len cap, .int .i64 (bs.length : Int)]] w (ListOut bs w.heap.size w) := by
  obtain ⟨B, hB⟩ : ∃ B, B = w.heap.size + 1 := ⟨_, rfl⟩
  obtain ⟨N, hN⟩ : ∃ N, N = bs.length := ⟨_, rfl⟩
  rw [← hN] at hsm ⊢
  have hbb : ∀ o : Obj, Below B (w.alloc o) (w.alloc o) := fun o => Below.refl _ _
  have bb : ∀ o : Obj, Below w.heap.size w (w.alloc o) := fun o => (Below.refl _ _).alloc (Nat.le_refl _) _
  have hbx : BitsBox (w.alloc (.cells #[.slice a len cap, .int .i64 (N : Int)] 53)) w.heap.size a len cap (N : Int) := World.alloc_heap_new _ _
  have hlen : len = (N + 7) / 8 := by rw [hN, ← pack_length, hl.len_eq]
  have hl8 : N ≤ 8 * len := by omega
  have hlsm : len ≤ 1099511627776 := by omega
  have HN := Lib.hid hN
  have HB := Lib.hid hB
  clear hN hlen hB
  go_enter Try.func42, Try.ntmps42
  go_wp2
  go_loopw [3, 4] (fun v i wr => ∃ j : Nat, j ≤ N ∧ i = .int .i64 (j : Int) ∧ wr.ownsRow B 3 1 v j (i64s (bs.take j)) ∧ Below B (w.alloc (.cells #[.slice a len cap, .int .i64 (N : Int)] 53)) wr) (fun _ i _ => N - (intOf i).toNat)
  case atStart => exact ⟨0, Nat.zero_le _, rfl, World.ownsRow_nil _ _ _ _, hbb _⟩
  case round =>
    obtain ⟨j, hj, rfl, hown, hbel⟩ := hrel
    obtain ⟨av, cv, rfl, hcv⟩ := own_slice hown
    have hBw : B ≤ wr.heap.size := by have := hbel.size; have := HB.out; simp at *; omega
    have hbx' := hbx.keep hbel (by have := HB.out; omega)
    have g0 := hbx'.cell0
    have g1 := hbx'.cell1
    have g2 : wr.heap[w.heap.size]? = some (.cells #[.slice a len cap, .int .i64 (N : Int)] 53 (0, 0)) := hbx'
    by_cases hlt : j < N
    · have hy := hl.keep (hl.mono (bb _)) (by have := HB.out; omega) hbel (by have := HB.out; simp; omega)
      go_wp2_with fail
      refine (refbit_any _ _ _ _ _ _ j (by omega) hlsm hy).mono ?_
      rintro e w2 ⟨rfl, b2⟩
      rw [bitAt_pack hbs]
      have own2 := own_below hown b2
      have hBw2 : B ≤ w2.heap.size := Nat.le_trans hBw b2.size
      have ht := take_bit bs j (by have := HN.out; omega)
      generalize bs.getD j 0 = x at *
      have HT := Lib.hid ht
      clear ht
      go_wp2_with ((at_builtin; refine append_any rfl (.tmp 11) (.tmp 15) 23 rfl B 3 (.int .i64 0) 8 Try.underlying23 Try.info_int rfl _ j (i64s (bs.take j)) rfl ?_ (some ⟨w2.heap.size, 0, none⟩) 1 1 [.int .i64 (x : Int)] rfl ?_ ?_ ?_ ?_ ?_ ?_ ?_ ?_; exact own2.alloc _; exact nofun; exact rfl; exact (fun ad ha => by obtain rfl := Option.some.inj ha; exact cell_one_new _ _ _); exact oneCell_i64 _; (unfold maxLen; omega); omega; (simp; try omega); intro v3 w3 own3 bel3))
      go_roundw
      case rel => exact ⟨j + 1, by omega, by go_num, by rw [i64s_snoc, HT.out] at own3; exact own3, (hbel.trans (b2.mono hBw)).trans (((Below.refl _ _).alloc hBw2 _).trans bel3)⟩
      case measure => simp [intOf]; omega
    · obtain rfl : j = N := by omega
      go_wp2
      go_ret
      have e1 : bs.take j = bs := by rw [HN.out, List.take_length]
      rw [e1] at hown
      exact ⟨_, rfl, by rw [← HN.out]; exact Joins.ownsRow_le hown (by have := HB.out; omega), (bb _).trans (hbel.mono (by have := HB.out; omega))⟩
end Go.Proofs.Ytblipgmllpniaaa
