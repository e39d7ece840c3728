/- Contracts of bits.Wide, Same, Right, and of what lays bits on a page. -/
import Derived.Test.YtblipgmllpniaaaOwn
import Derived.Test.YtblipgmllpniaaaBitsPure
import Derived.Test.YtblipgmllpniaaaShelf
import Derived.StillTailTactics
namespace Go.Proofs.Ytblipgmllpniaaa
open Go.RowKit
set_option linter.unusedVariables false

/-- Bytes of Nats as cells. -/
def u8s (l : List Nat) : List Value := l.map fun (c : Nat) => Value.int .u8 (c : Int)
theorem u8s_length (l : List Nat) : (u8s l).length = l.length := by simp [u8s]
theorem u8s_eq (l : List Nat) : u8s l = (l.map fun (c : Nat) => (c : Int)).map (Value.int .u8) := by simp [u8s]
/-- What a clone is. -/
def Cloned (l : List Nat) (len : Nat) (w : World) (e : Ending) (w' : World) : Prop := ∃ v, e = .returned v ∧ w'.ownsRow w.heap.size 5 1 v len (u8s l) ∧ Below w.heap.size w w'
theorem clone_any (w : World) (a : Option Addr) (len cap : Nat) (l : List Nat) (hl : BytesAt w a len cap l) (hb : len ≤ 140737488355328) :
    Calls Try.prog 45 #[.slice a len cap] w (Cloned l len w) := by
  cases a with
  | none =>
    refine (Try.bytes_Clone_nil len cap w).mono ?_
    rintro e w' ⟨rfl, rfl⟩
    obtain ⟨h0, _⟩ := hl.none_ rfl
    subst h0
    obtain rfl := List.eq_nil_of_length_eq_zero hl.len_eq
    exact ⟨_, rfl, World.ownsRow_nil _ _ _ _, Below.refl _ _⟩
  | some ad =>
    have hlen := hl.len_eq
    refine (Try.bytes_Clone_at ad len cap (l.map fun (c : Nat) => (c : Int)) w (by simpa using hlen) hb ?_).mono ?_
    · intro i hi
      rcases hl.at_ with h0 | ⟨b, off, ha, hlt, hc⟩
      · omega
      · obtain rfl := Option.some.inj ha
        rw [Addr.add_lit, hc i hi]
        have h2 : i < l.length := by omega
        simp [h2]
    · rintro e w' ⟨v, rfl, hown, _, hbel⟩
      exact ⟨v, rfl, by rw [u8s_eq]; exact hown, hbel⟩

theorem wide_any (w : World) (n : Nat) (hn : n < 18446744073709551616) : Calls Try.prog 35 #[.int .u64 (n : Int)] w fun e w' => e = .returned (.int .i64 (Lib.bitLen n : Nat)) ∧ w = w' := by
  have h1 : 0 ≤ (n : Int) := by omega
  have h2 : (n : Int) ≤ 18446744073709551615 := by omega
  go_enter Try.func35, Try.ntmps35
  go_wp2_with fail
  refine (Try.bits_Len64 _ _ h1 h2).mono ?_
  rintro e w' ⟨rfl, rfl⟩
  rw [Int.toNat_natCast]
  go_wp2
  go_ret
  exact ⟨rfl, rfl⟩

theorem bytesOf_eq (l m : List Nat) (hl : ∀ n ∈ l, n < 256) (hm : ∀ n ∈ m, n < 256) :
    (Lib.bytesOf (l.map fun (c : Nat) => (c : Int)) == Lib.bytesOf (m.map fun (c : Nat) => (c : Int))) = decide (l = m) := by
  have back : ∀ l : List Nat, (∀ n ∈ l, n < 256) → (Lib.bytesOf (l.map fun (c : Nat) => (c : Int))).map UInt8.toNat = l := by
    intro l hl
    unfold Lib.bytesOf
    rw [List.map_map, List.map_map]
    conv => rhs; rw [← List.map_id l]
    apply List.map_congr_left
    intro n hn
    have := hl n hn
    simp
    omega
  rw [Bool.eq_iff_iff, beq_iff_eq, decide_eq_true_iff]
  constructor
  · intro h; rw [← back l hl, ← back m hm, h]
  · intro h; rw [h]
/-- A page: bits laid, in a struct of two cells and a row of the call's own. -/
def PageAt (w : World) (g base : Nat) (bs : List Nat) : Prop :=
  ∃ v, w.heap[g]? = some (.cells #[v, .int .i64 (bs.length : Int)] 83 (0, 0)) ∧ w.ownsRow base 5 1 v ((bs.length + 7) / 8) (u8s (pack bs)) ∧ base ≤ g
/-- What a lay leaves alone. -/
def KeptOut (g base : Nat) (w w' : World) : Prop := ∀ k o, w.heap[k]? = some o → (k < base ∨ (k ≠ g ∧ ∀ c fr, o ≠ .cells c 5 fr)) → w'.heap[k]? = some o
structure Laid (g base : Nat) (bs : List Nat) (w w' : World) : Prop where
  page : PageAt w' g base bs
  kept : KeptOut g base w w'
  os : w'.os = w.os
  tape : w'.tape = w.tape
  output : w'.output = w.output
  size : w.heap.size ≤ w'.heap.size
def ToldOut (base : Nat) (bs : List Nat) (w : World) (e : Ending) (w' : World) : Prop :=
  ∃ a cap, e = .returned (.agg #[.slice a ((bs.length + 7) / 8) cap, .int .i64 (bs.length : Int)]) ∧ w'.ownsRow base 5 1 (.slice a ((bs.length + 7) / 8) cap) ((bs.length + 7) / 8) (u8s (pack bs)) ∧ Below w.heap.size w w'
theorem own_below {w w' : World} {base : Nat} {e : TypeId} {v : Value} {n : Nat} {xs : List Value} (h : w.ownsRow base e 1 v n xs) (hb : Below w.heap.size w w') : w'.ownsRow base e 1 v n xs := by
  obtain ⟨h1, h2⟩ := h
  refine ⟨h1, ?_⟩
  rcases h2 with h0 | ⟨g, cap, cur, hv, hg, hh, r⟩
  · exact .inl h0
  · exact .inr ⟨g, cap, cur, hv, hg, (hb.block g (Array.getElem?_eq_some_iff.1 hh).1).trans hh, r⟩
theorem told_any (w : World) (g base : Nat) (bs : List Nat) (hp : PageAt w g base bs) :
    Calls Try.prog 39 #[.pointer (some ⟨g, 0, none⟩)] w (ToldOut base bs w) := by
  obtain ⟨v, hg, hown, hbg⟩ := hp
  have c0 : w.cell? ⟨g, 0, none⟩ = some v := by simp [World.cell?, hg]
  have c1 : w.cell? ⟨g, 1, none⟩ = some (.int .i64 (bs.length : Int)) := by simp [World.cell?, hg]
  have hlt : g < w.heap.size := (Array.getElem?_eq_some_iff.1 hg).1
  clear hg
  obtain ⟨a, cap, rfl, _⟩ := own_slice hown
  go_enter Try.func39, Try.ntmps39
  go_wp2
  go_region
  go_wp2
  have bb : ∀ o : Obj, Below w.heap.size w (w.alloc o).drew := fun o => ((Below.refl _ _).alloc (Nat.le_refl _) _).drew
  exact bodyPost_ret (v := .agg #[.slice a ((bs.length + 7) / 8) cap, .int .i64 (bs.length : Int)]) (by simp [results, Try.results39, go_sem]) rfl ⟨a, cap, rfl, own_below hown (bb _), bb _⟩
end Go.Proofs.Ytblipgmllpniaaa
