/- Contract of bits.Join. -/
import Derived.Test.YtblipgmllpniaaaBits5
namespace Go.Proofs.Ytblipgmllpniaaa
open Go.RowKit Go.Shelf
set_option linter.unusedVariables false
attribute [local go_sem] Oper.semAt_some

theorem stretch_any (w : World) (a : Option Addr) (len cap : Nat) (N at_ wide : Int) :
    Calls Try.prog 43 #[.agg #[.slice a len cap, .int .i64 N], .int .i64 at_, .int .i64 wide] w fun e w' => e = .returned (.func (.func 48) #[] #[.pointer (some ⟨w.heap.size + 1, 0, none⟩), .pointer (some ⟨w.heap.size + 2, 0, none⟩), .pointer (some ⟨w.heap.size, 0, none⟩)]) ∧
      ((w.alloc (.cells #[.slice a len cap, .int .i64 N] 53)).alloc (.cells #[.int .i64 at_] 3)).alloc (.cells #[.int .i64 wide] 3) = w' := by
  go_enter Try.func43, Try.ntmps43
  go_wp2
  go_ret
  exact ⟨rfl, rfl⟩
theorem stretch_boxes (w : World) (a : Option Addr) (len cap : Nat) (N at_ wide : Int) :
    BitsBox (((w.alloc (.cells #[.slice a len cap, .int .i64 N] 53)).alloc (.cells #[.int .i64 at_] 3)).alloc (.cells #[.int .i64 wide] 3)) w.heap.size a len cap N ∧
    BoxIs (((w.alloc (.cells #[.slice a len cap, .int .i64 N] 53)).alloc (.cells #[.int .i64 at_] 3)).alloc (.cells #[.int .i64 wide] 3)) (w.heap.size + 1) 3 (.int .i64 at_) ∧
    BoxIs (((w.alloc (.cells #[.slice a len cap, .int .i64 N] 53)).alloc (.cells #[.int .i64 at_] 3)).alloc (.cells #[.int .i64 wide] 3)) (w.heap.size + 2) 3 (.int .i64 wide) := by
  have e1 := World.alloc_heap_new w (.cells #[.slice a len cap, .int .i64 N] 53)
  have e2 := World.alloc_heap_new (w.alloc (.cells #[.slice a len cap, .int .i64 N] 53)) (.cells #[.int .i64 at_] 3)
  have e3 := World.alloc_heap_new ((w.alloc (.cells #[.slice a len cap, .int .i64 N] 53)).alloc (.cells #[.int .i64 at_] 3)) (.cells #[.int .i64 wide] 3)
  simp only [World.size_alloc] at e2 e3
  refine ⟨?_, ?_, e3⟩
  · exact (Below.heap_alloc _ _ _ (by simp; omega)).trans ((Below.heap_alloc _ _ _ (by simp)).trans e1)
  · exact (Below.heap_alloc _ _ _ (by simp)).trans e2
theorem cutBits_all (bs : List Nat) : cutBits bs 0 bs.length = bs := by simp [cutBits]

def BitsOut1 (bs : List Nat) (w : World) (e : Ending) (w' : World) : Prop :=
  ∃ a len cap, e = .returned (.agg #[.slice a len cap, .int .i64 (bs.length : Int)]) ∧ BytesAt w' a len cap (pack bs) ∧ Below w.heap.size w w'
end Go.Proofs.Ytblipgmllpniaaa
