/- Pairs, as laws want them: a place is the same in all worlds; room for one more. -/
import Derived.Test.YtoffcpfebghdnaaPairHead
import Derived.Test.YtoffcpfebghdnaaPrs
import Derived.Laws.StructEq
import Derived.Laws.Tables
import Derived.Laws.Cover2
namespace Go.Proofs.Ytoffcpfebghdnaa
open Go.RowKit
set_option linter.unusedVariables false
set_option linter.unusedSimpArgs false

theorem OutP.room {cap : Int} {ks : List (List Nat)} {key : List Nat} {p : Nat} {F : Bool} {E : Int} {k1 : List (List Nat)} (h : OutP cap ks key p F E k1) (hc : (ks.length : Int) < cap) :
    F = (!decide (key ∈ ks)) ∧ E = 0 ∧ k1 = insK ks key ∧ p < k1.length ∧ k1.getD p [] = key ∧ (F = true → p = ks.length) := by
  rcases h with ⟨a1, rfl, rfl, rfl, a5, a6⟩ | ⟨a1, a2, _⟩ | ⟨a1, a2, rfl, rfl, rfl, rfl⟩
  · exact ⟨by simp [a1], rfl, by unfold insK; rw [if_pos a1], a5, a6, fun h => by cases h⟩
  · omega
  · exact ⟨by simp [a1], rfl, by unfold insK; rw [if_neg a1], by simp, by rw [List.getD_eq_getElem?_getD, List.getElem?_append_right (Nat.le_refl _), Nat.sub_self]; rfl, fun _ => rfl⟩
theorem insK_has {ks : List (List Nat)} {key k : List Nat} : decide (k ∈ insK ks key) = (decide (k ∈ ks) || decide (k = key)) := by
  rw [Bool.eq_iff_iff]
  simp [insK_mem]
theorem findP_in (ks : List (List Nat)) (hnd : ks.Nodup) (a b : Nat) (ha : a < 4294967296) (hb : b < 4294967296) : ∃ p0 : Nat, ((∀ p, p < ks.length → ks.getD p [] = pk a b → p = p0) ∧ (pk a b ∈ ks → p0 < ks.length ∧ ks.getD p0 [] = pk a b)) ∧ ∀ (w : World) (cap : Int) (ka : Option Addr) (n kc : Nat) (sa : Option Addr) (sl sc : Nat) (s : List Int) (rs : List (Nat × Nat)) (_ : TabR w ka n sa sl ks s rs),
    Calls Try.prog 10 #[.agg #[.int .i64 cap, .slice ka n kc, .slice sa sl sc], .int .u32 (a : Nat), .int .u32 (b : Nat)] w fun e w' => e = .returned (.tuple #[.int .i64 (p0 : Nat), .bool (decide (pk a b ∈ ks))]) ∧ Below w.heap.size w w' := by
  by_cases hm : pk a b ∈ ks
  · obtain ⟨p0, hp, hpk⟩ := mem_getD hm
    refine ⟨p0, ⟨fun p h1 h2 => getD_inj hnd h1 hp (by rw [h2, hpk]), fun _ => ⟨hp, hpk⟩⟩, fun w cap ka n kc sa sl sc s rs h => (findP_any w cap ka n kc sa sl sc ks s rs h a b ha hb).mono ?_⟩
    rintro e w' ⟨⟨q, rfl, h1, _⟩, hb'⟩
    obtain ⟨hq, hqk⟩ := h1 hm
    obtain rfl : p0 = q := getD_inj hnd hp hq (by rw [hqk, hpk])
    exact ⟨rfl, hb'⟩
  · refine ⟨0, ⟨fun p h1 h2 => absurd (h2 ▸ getD_mem h1) hm, fun h => absurd h hm⟩, fun w cap ka n kc sa sl sc s rs h => (findP_any w cap ka n kc sa sl sc ks s rs h a b ha hb).mono ?_⟩
    rintro e w' ⟨⟨q, rfl, _, h2⟩, hb'⟩
    rw [h2 hm]
    exact ⟨rfl, hb'⟩
theorem eq_pair (a b c d : Int) (w : World) : (Op.equalIn 10000 44 (.agg #[.int .u32 a, .int .u32 b]) (.agg #[.int .u32 c, .int .u32 d])).run Try.prog w = .ok (a == c && b == d) w := by
  have u3 := Try.underlying23
  have a3 := Try.isAgg23
  have z3 := Try.sizeOf23
  rw [show (10000 : Nat) = 9999 + 1 from rfl, Op.equalIn]
  simp only [Sem.run_bind, run_underlying Try.underlying44, Result.andThen_ok]
  simp only [Std.Legacy.Range.forIn_eq_forIn_range', Std.Legacy.Range.size, Nat.sub_zero, Nat.add_sub_cancel, Nat.div_one, List.range'_succ, List.range'_zero, List.forIn_cons, List.forIn_nil]
  go_simp
  by_cases h1 : a = c <;> by_cases h2 : b = d <;> simp [h1, h2, go_sem]
theorem pk_eq {a b c d : Nat} (ha : a < 4294967296) (hb : b < 4294967296) (hc : c < 4294967296) (hd : d < 4294967296) : (((a : Int) == (c : Int)) && ((b : Int) == (d : Int))) = decide (pk a b = pk c d) := by
  rw [Bool.eq_iff_iff]
  simp only [Bool.and_eq_true, beq_iff_eq, decide_eq_true_eq]
  constructor
  · rintro ⟨h1, h2⟩
    rw [show a = c by omega, show b = d by omega]
  · intro h
    obtain ⟨rfl, rfl⟩ := pk_inj ha hb hc hd h
    exact ⟨rfl, rfl⟩
theorem KeptT.also {w w' : World} {B : Nat} {ka : Option Addr} {n kc : Nat} {sa ka' : Option Addr} {sl sc : Nat} {n' : Nat} {sa' : Option Addr} {ks : List (List Nat)} {s : List Int} {rs : List (Nat × Nat)} (h : KeptT w w' B ka n sa ka' n' sa') (ho : TabM w' B ka n kc sa sl sc ks s rs)
    {kx : Option Addr} {nx kcx : Nat} {sx : Option Addr} {slx scx : Nat} {ksx : List (List Nat)} {xs : List Int} {rx : List (Nat × Nat)} (hx : TabM w B kx nx kcx sx slx scx ksx xs rx) (hb : (kx = ka ∧ nx = n ∧ kcx = kc ∧ sx = sa ∧ slx = sl ∧ scx = sc ∧ ksx = ks) ∨ Beside ka n sa kx nx sx) : ∃ s' rs', TabM w' B kx nx kcx sx slx scx ksx s' rs' := by
  rcases hb with ⟨rfl, rfl, rfl, rfl, rfl, rfl, rfl⟩ | hb
  · exact ⟨_, _, ho⟩
  · exact ⟨_, _, h.tabs _ _ _ _ _ _ _ _ _ hx hb⟩
end Go.Proofs.Ytoffcpfebghdnaa
