/- The document's flat store: its rows; New, place, Member (by gen06r.py). -/
import Derived.Test.YtbbdeefnooaacaaFlatD
import Derived.Test.YtbbdeefnooaacaaTabK
import Derived.Test.YtbbdeefnooaacaaFree3
namespace Go.Proofs.Ytbbdeefnooaacaa
open Go.RowKit
set_option linter.unusedVariables false
set_option linter.unusedSimpArgs false
def fv (F : List (Bool × Bool)) : List Value := F.flatMap fun p => [.bool p.1, .bool p.2]
theorem fv_len (F : List (Bool × Bool)) : (fv F).length = F.length * 2 := by
  induction F with
  | nil => rfl
  | cons p F ih =>
    show ([Value.bool p.1, .bool p.2] ++ fv F).length = _
    rw [List.length_append, ih]
    simp
    omega
theorem fv_snoc (F : List (Bool × Bool)) (p : Bool × Bool) : fv (F ++ [p]) = fv F ++ [.bool p.1, .bool p.2] := by simp [fv]
theorem fv_one (F : List (Bool × Bool)) : ∀ u ∈ fv F, u.oneCell' = true := fun u hu => by
  obtain ⟨p, _, hp⟩ := List.mem_flatMap.1 hu
  simp at hp
  rcases hp with rfl | rfl <;> rfl
structure DocF (w : World) (dk : Option Addr) (n : Nat) (vf : Value) (ks : List (List Nat)) (F : List (Bool × Bool)) : Prop where
  keys : RowsK w dk n ks
  flag : w.ownsRow 0 62 2 vf n (fv F)
  len : F.length = n
theorem ownS_bel {w w' : World} {base n size : Nat} {e : TypeId} {v : Value} {xs : List Value} (h : w.ownsRow base e size v n xs) (hb : Below w.heap.size w w') : w'.ownsRow base e size v n xs := by
  refine ⟨h.1, ?_⟩
  rcases h.2 with h0 | ⟨g, cap, cur, h1, h2, h3, h4⟩
  · exact .inl h0
  · exact .inr ⟨g, cap, cur, h1, h2, (hb.block g (Array.getElem?_eq_some_iff.1 h3).1).trans h3, h4⟩
theorem ownS_past {w w' : World} {base n size : Nat} {e : TypeId} {v : Value} {xs : List Value} (h : w.ownsRow base e size v n xs) (hb : ∀ (g : Nat) (vs : Array Value), base ≤ g → v.ownBlock = some g → w.heap[g]? = some (.cells vs e (0, 0)) → w'.heap[g]? = some (.cells vs e (0, 0))) : w'.ownsRow base e size v n xs := by
  refine ⟨h.1, ?_⟩
  rcases h.2 with h0 | ⟨g, cap, cur, h1, h2, h3, h4⟩
  · exact .inl h0
  · exact .inr ⟨g, cap, cur, h1, h2, hb g cur h2 (by rw [h1]; rfl) h3, h4⟩
theorem DocF.mono {w w' : World} {dk : Option Addr} {n : Nat} {vf : Value} {ks : List (List Nat)} {F : List (Bool × Bool)} (h : DocF w dk n vf ks F) (hb : Below w.heap.size w w') : DocF w' dk n vf ks F := ⟨h.keys.mono hb, ownS_bel h.flag hb, h.len⟩
theorem refnewF_any (w : World) (most : Int) :
    Calls Try.prog 7 #[.int .i64 most] w fun e w' => e = .returned (if 0 ≤ most ∧ most ≤ 1048576 then .tuple #[.agg #[.int .i64 most, .slice none 0 0, .slice none 0 0], .int .i64 0] else .tuple #[.agg #[.int .i64 0, .slice none 0 0, .slice none 0 0], .int .i64 1]) ∧ Below w.heap.size w w' := by
  have bA : ∀ o : Obj, Below w.heap.size w (w.alloc o) := fun o => (Below.refl _ _).alloc (Nat.le_refl _) _
  by_cases h0 : most < 0
  · have d1 : decide (most < 0) = true := by simpa using h0
    rw [if_neg (by omega)]
    go_enter Try.func7, Try.ntmps7
    go_wp2_with fail
    exact bodyPost_ret (v := .tuple #[.agg #[.int .i64 0, .slice none 0 0, .slice none 0 0], .int .i64 1]) (by simp [results, Try.results7, go_sem]) rfl ⟨rfl, bA _⟩
  · have d1 : decide (most < 0) = false := by simpa using h0
    by_cases h1 : 1048576 < most
    · have d2 : decide (1048576 < most) = true := by simpa using h1
      rw [if_neg (by omega)]
      go_enter Try.func7, Try.ntmps7
      go_wp2_with fail
      exact bodyPost_ret (v := .tuple #[.agg #[.int .i64 0, .slice none 0 0, .slice none 0 0], .int .i64 1]) (by simp [results, Try.results7, go_sem]) rfl ⟨rfl, bA _⟩
    · have d2 : decide (1048576 < most) = false := by simpa using h1
      rw [if_pos (by omega)]
      go_enter Try.func7, Try.ntmps7
      go_wp2_with fail
      exact bodyPost_ret (v := .tuple #[.agg #[.int .i64 most, .slice none 0 0, .slice none 0 0], .int .i64 0]) (by simp [results, Try.results7, go_sem]) rfl ⟨rfl, bA _⟩
set_option maxHeartbeats 1000000 in
theorem refplace_any (w : World) (cap : Int) (a : Option Addr) (n c : Nat) (fx : Option Addr) (fl fc : Nat) (ks : List (List Nat)) (h : RowsK w a n ks) (ya : Option Addr) (yl yc : Nat) (key : List Nat) (hk : BytesAt w ya yl yc key) :
    Calls Try.prog 20 #[.agg #[.int .i64 cap, .slice a n c, .slice fx fl fc], .slice ya yl yc] w fun e w' => (∃ p : Int, e = .returned (.int .i64 p) ∧ ((key ∈ ks ∧ ∃ q : Nat, p = (q : Int) ∧ q < ks.length ∧ ks.getD q [] = key) ∨ (key ∉ ks ∧ p = -1))) ∧ Below w.heap.size w w' := by
  have hn := h.small
  have hl := h.len
  have HL := Lib.hid hl
  clear hl
  have b1 : Below w.heap.size w (w.alloc (.cells #[.int .i64 cap, .slice a n c, .slice fx fl fc] 37)) := (Below.refl _ _).alloc (Nat.le_refl _) _
  have gb := heap_alloc_new w (.cells #[.int .i64 cap, .slice a n c, .slice fx fl fc] 37)
  go_enter Try.func20, Try.ntmps20
  go_upto_region 1 with fail
  obtain ⟨W1, hv⟩ : ∃ v, w.alloc (.cells #[.int .i64 cap, .slice a n c, .slice fx fl fc] 37) = v := ⟨_, rfl⟩
  obtain ⟨g, hg⟩ : ∃ g, w.heap.size = g := ⟨_, rfl⟩
  rw [hv] at b1 gb ⊢
  have h1 := h.mono b1
  have hk1 := hk.mono b1
  have b2 : Below w.heap.size w W1 := b1
  rw [hg] at gb ⊢
  clear hv b1
  go_wp2_with fail
  go_loopw [5] (fun i w' => ∃ j : Nat, j ≤ n ∧ i = .int .i64 (j : Nat) ∧ (∀ i, i < j → ks.getD i [] ≠ key) ∧ Below W1.heap.size W1 w') (fun i _ => n - (intOf i).toNat)
  case atStart => exact ⟨0, Nat.zero_le _, rfl, fun i hi => by omega, Below.refl _ _⟩
  case round =>
    obtain ⟨j, hj, rfl, hall, bel⟩ := hrel
    have gr := (bel.block g (Array.getElem?_eq_some_iff.1 gb).1).trans gb
    have gw : wr.cell? ⟨g, 1, none⟩ = some (.slice a n c) := cell_of_row _ _ 1 _ _ _ gr
    by_cases hjl : j < n
    · have f1 : decide (j < n) = true := by simpa using hjl
      obtain ⟨ba, oa, rfl, hba, hia⟩ := (h1.mono bel).at_.resolve_left (by omega)
      obtain ⟨x1, l1, c1, e1, k1⟩ := hia j hjl
      have k2 := hk1.mono bel
      have hss := str_same k1.byte k2.byte
      obtain ⟨S1, hS1⟩ : ∃ S, strOfNums ((ks.getD j []).map fun (n : Nat) => (n : Int)) = S := ⟨_, rfl⟩
      obtain ⟨S2, hS2⟩ : ∃ S, strOfNums (key.map fun (n : Nat) => (n : Int)) = S := ⟨_, rfl⟩
      have v1 : ∀ x : Later wr.heap.size wr, (convert 29 9 (.slice x1 l1 c1)).run Try.prog x.w = .ok (.string S1) x.w := fun x => by
        rw [← hS1]
        exact (k1.mono x.below).conv 29 5 9 Try.underlying29 Try.underlying5 Try.underlying9
      have v2 : ∀ x : Later wr.heap.size wr, (convert 29 9 (.slice ya yl yc)).run Try.prog x.w = .ok (.string S2) x.w := fun x => by
        rw [← hS2]
        exact (k2.mono x.below).conv 29 5 9 Try.underlying29 Try.underlying5 Try.underlying9
      rw [hS1, hS2] at hss
      obtain ⟨E, hE⟩ : ∃ E, decide (ks.getD j [] = key) = E := ⟨_, rfl⟩
      rw [hE] at hss
      have q0 : ∀ x : Later wr.heap.size wr, x.w.cell? ⟨g, 1, none⟩ = some (.slice (some ⟨ba, oa, none⟩) n c) := fun x => cell_of_row _ _ 1 _ _ _ ((x.below.block g (Array.getElem?_eq_some_iff.1 gr).1).trans gr)
      have q1 : ∀ x : Later wr.heap.size wr, x.w.cell? ⟨ba, oa + j, none⟩ = some (.slice x1 l1 c1) := fun x => (x.below.cell (p := ⟨ba, oa + j, none⟩) hba).trans e1
      have HE := Lib.hid hE
      clear hS1 hS2 e1 k1 k2 hia hE
      go_wp2_with fail
      refine wp_region_later wr.heap.size wr (by kernel_rfl) (by kernel_rfl) (Below.refl _ _) ?_
      repeat (go_big_quiet_step (fail))
      refine wpQuiet_nil ?_
      intro _ hlat
      obtain ⟨x, rfl⟩ := hlat
      clear v1 v2 q0 q1
      have bq := below_then b2 (below_then bel x.below)
      cases E with
      | true =>
        go_wp2_with fail
        go_ret
        have he : ks.getD j [] = key := of_decide_eq_true HE.out
        have hjl2 : j < ks.length := by rw [HL.out]; exact hjl
        have hm : key ∈ ks := he ▸ getD_mem hjl2
        exact ⟨⟨j, rfl, .inl ⟨hm, j, rfl, hjl2, he⟩⟩, bq⟩
      | false =>
        go_wp2_with fail
        refine ⟨⟨j + 1, by omega, by simp, fun i hi => ?_, below_then bel x.below⟩, by simp [intOf]; omega⟩
        by_cases hij : i = j
        · rw [hij]; exact of_decide_eq_false HE.out
        · exact hall i (by omega)
    · have f1 : decide (j < n) = false := by simpa using hjl
      have hno : key ∉ ks := fun hm => by
        obtain ⟨i, hi, e⟩ := mem_getD hm
        have := HL.out
        exact hall i (by omega) e
      have HNo := Lib.hid hno
      clear hno
      go_wp2_with fail
      go_ret
      exact ⟨⟨-1, rfl, .inr ⟨HNo.out, rfl⟩⟩, below_then b2 bel⟩

theorem refmemberF_any (w : World) (cap : Int) (a : Option Addr) (n c : Nat) (fx : Option Addr) (fl fc : Nat) (ks : List (List Nat)) (h : RowsK w a n ks) (ya : Option Addr) (yl yc : Nat) (key : List Nat) (hk : BytesAt w ya yl yc key) :
    Calls Try.prog 16 #[.agg #[.int .i64 cap, .slice a n c, .slice fx fl fc], .slice ya yl yc] w fun e w' => e = .returned (.bool (decide (key ∈ ks))) ∧ Below w.heap.size w w' := by
  have b1 : Below w.heap.size w (w.alloc (.cells #[.int .i64 cap, .slice a n c, .slice fx fl fc] 37)) := (Below.refl _ _).alloc (Nat.le_refl _) _
  go_enter Try.func16, Try.ntmps16
  go_wp2_with fail
  refine (refplace_any _ cap a n c fx fl fc ks (h.mono b1) ya yl yc key (hk.mono b1)).mono ?_
  rintro e w1 ⟨⟨p, rfl, hp⟩, b2⟩
  have bt := below_then b1 b2
  rcases hp with ⟨hm, q, rfl, hq, hqk⟩ | ⟨hm, rfl⟩
  · have hd := Lib.hid (decide_eq_true hm)
    have d1 : decide (0 ≤ ((q : Nat) : Int)) = true := by simp
    clear hm hqk
    go_wp2_with fail
    go_ret
    exact ⟨by rw [hd.out]; first | rfl | simp, bt⟩
  · have hd := Lib.hid (decide_eq_false hm)
    clear hm
    go_wp2_with fail
    go_ret
    exact ⟨by rw [hd.out]; first | rfl | simp, bt⟩
end Go.Proofs.Ytbbdeefnooaacaa
