/- record: a key's record is laid behind the others. -/
import Derived.Test.YtbbdeefnooaacaaTabG
import Derived.Maps.AppendAt
namespace Go.Proofs.Ytbbdeefnooaacaa
open Go.RowKit
set_option linter.unusedVariables false
set_option linter.unusedSimpArgs false

/-- An append into room, as one step of a region that draws. -/
theorem step_append_row {P : Program} {ops : Array Oper} {o : Oper} {a : Act} {w : World} {K : Act → World → Prop} {Q : Exit → Act → World → Prop} {E : Prop} (hgd : o.guard = none) (s x : Operand) (t e : TypeId)
    (ho : o.op = .call { callee := .builtin .append, args := #[s, x], argTypes := #[t, t] }) (ht : P.underlying t = some (.slice e)) (z : Value) (bytes : Nat) (hinfo : (P.info? e).map (fun i => (i.zero, i.size, i.bytes)) = some (some z, 1, bytes))
    (g n cap : Nat) (cur : List Value) (hg : w.heap[g]? = some (.cells cur.toArray e (0, 0))) (hs : a.eval s = .slice (some ⟨g, 0, none⟩) n cap)
    (ad : Addr) (m c : Nat) (news : List Value) (hx : a.eval x = .slice (some ad) m c) (hl : news.length = m) (hnews : ∀ j u, news[j]? = some u → w.cell? (ad.add j) = some u) (h1 : ∀ u ∈ news, u.oneCell' = true)
    (hroom : n + m ≤ cap) (hfit : n + m ≤ cur.length)
    (h : ∀ w', w'.heap[g]? = some (.cells (cur.take n ++ news ++ cur.drop (n + m)).toArray e (0, 0)) → w'.heap.size = w.heap.size → (∀ b, b ≠ g → w'.heap[b]? = w.heap[b]?) → Below g w w' → K (a.put o.dst (.slice (some ⟨g, 0, none⟩) (n + m) cap)) w') :
    if Region.wanted o (yielded ops a.tmps) = true then Oper.wp P o a w K Q else E := by
  have hw : Region.wanted o (yielded ops a.tmps) = true := by simp [Region.wanted, hgd]
  rw [if_pos hw]
  obtain ⟨i, hi, hz0, hz1, hz2⟩ := info_parts hinfo
  have hr := run_append_room (P := P) w t o.type e i ht hi g n cap cur.toArray hg ad m c news (by rw [hl, hz1, Nat.mul_one]) hnews h1 hroom (by rw [hz1, hl]; simpa using hfit)
  rw [hz1, Nat.mul_one, hl] at hr
  unfold Oper.wp execOp
  simp only [ho, resolve, invoke, builtin, Sem.run_bind, Sem.run_pure, Result.andThen_ok, List.map_toArray, List.map_cons, List.map_nil, hs, hx, hr]
  exact h _ (setRow_heap w g _ _ e _ hg) (by simp [World.setRow]) (fun b hb => setRow_other w g b _ hb) (below_setRow (Below.refl _ _) (Nat.le_refl _) _)
theorem row_more {cur news pre : List Value} {n m sc : Nat} (hl : cur.length = sc) (hn : n + m ≤ sc) (hm : news.length = m) (hp : cur.take n = pre) (ht : ∀ v ∈ cur, ∃ z, v = .int .i64 z) (hnt : ∀ v ∈ news, ∃ z, v = .int .i64 z) :
    (cur.take n ++ news ++ cur.drop (n + m)).length = sc ∧ (cur.take n ++ news ++ cur.drop (n + m)).take (n + m) = pre ++ news ∧ ∀ v ∈ (cur.take n ++ news ++ cur.drop (n + m)), ∃ z, v = .int .i64 z := by
  refine ⟨?_, ?_, fun v hv => ?_⟩
  · rw [List.length_append, List.length_append, List.length_take, List.length_drop]
    omega
  · have : (cur.take n ++ news).length = n + m := by rw [List.length_append, List.length_take]; omega
    rw [← this, List.take_left, hp]
  · rcases List.mem_append.1 hv with hv | hv
    · rcases List.mem_append.1 hv with hv | hv
      · exact ht v (List.mem_of_mem_take hv)
      · exact hnt v hv
    · exact ht v (List.mem_of_mem_drop hv)
theorem i64V_of (g : Nat) (hg : g < 2 ^ 64) : IntKind.i64.wrap ((g : Nat) : Int) = i64V g := by
  rw [IntKind.wrap_i64]
  unfold i64V
  split <;> omega
theorem take_rev (l : List Int) (many j : Nat) (hj : j < many) (hm : many ≤ l.length) : ((l.take many).reverse.take (many - 1 - j)) ++ [l.getD j 0] = (l.take many).reverse.take (many - j) := by
  have hlen : (l.take many).reverse.length = many := by rw [List.length_reverse, List.length_take]; omega
  have h1 : many - 1 - j < (l.take many).reverse.length := by omega
  have e : l.getD j 0 = (l.take many).reverse[many - 1 - j] := by
    rw [List.getD_eq_getElem?_getD, List.getElem_reverse, List.getElem_take, List.getElem?_eq_getElem (by omega)]
    simp
    congr 1
    omega
  rw [e, ← List.take_succ_eq_append_getElem h1]
  congr 1
  omega
theorem three_new (w : World) (x y z : Value) (t : TypeId) : ∀ j u, [x, y, z][j]? = some u → (w.alloc (.cells #[x, y, z] t)).cell? ((⟨w.heap.size, 0, none⟩ : Addr).add j) = some u := by
  intro j u hj
  rw [Addr.add_lit, Nat.zero_add, cell_of_row _ _ _ _ _ _ (heap_alloc_new w _)]
  simpa using hj
/-- What record leaves. -/
def RecOut (sb sl sc hh many place : Nat) (told : List Int) (scur : List Value) (w : World) (e : Ending) (w' : World) : Prop :=
  e = .returned (.slice (some ⟨sb, 0, none⟩) (sl + many + 3) sc) ∧ (∃ cur : List Value, w'.heap[sb]? = some (.cells cur.toArray 3 (0, 0)) ∧ cur.length = sc ∧ cur.take (sl + many + 3) = scur.take sl ++ ((told.take many).reverse ++ [((many : Nat) : Int), i64V hh, ((place : Nat) : Int)]).map (Value.int .i64) ∧ ∀ v ∈ cur, ∃ z, v = .int .i64 z) ∧
    w.heap.size ≤ w'.heap.size ∧ (∀ b, b < w.heap.size → b ≠ sb → w'.heap[b]? = w.heap[b]?) ∧ Below sb w w'
set_option maxRecDepth 100000 in
set_option maxHeartbeats 2000000 in
theorem record_any (w : World) (g sb sl sc hh many place : Nat) (at_ : Int) (here : Bool) (told : List Int) (hT : TrailAt w g at_ here hh many told) (hlen : told.length = 65) (hm65 : many ≤ 65) (hh64 : hh < 2 ^ 64) (hgs : g ≠ sb)
    (scur : List Value) (hrow : w.heap[sb]? = some (.cells scur.toArray 3 (0, 0))) (hsc : scur.length = sc) (htyp : ∀ v ∈ scur, ∃ z, v = .int .i64 z) (hroom : sl + (many + 3) ≤ sc) (hbig : sc ≤ 400000000) (hplace : place ≤ 1048576) :
    Calls Try.prog 33 #[.pointer (some ⟨g, 0, none⟩), .slice (some ⟨sb, 0, none⟩) sl sc, .int .i64 (place : Nat)] w (RecOut sb sl sc hh many place told scur w) := by
  have hz : sb < w.heap.size := (Array.getElem?_eq_some_iff.1 hrow).1
  have hgz : g < w.heap.size := hT.lt
  have c3 : w.cell? ⟨g, 3, none⟩ = some (.int .i64 (many : Nat)) := cell_of_row _ _ 3 _ _ _ hT
  have conv : ∀ wx : World, (convert 71 3 (.int .u64 (hh : Nat))).run Try.prog wx = .ok (.int .i64 (i64V hh)) wx := fun wx => by
    rw [run_convert_int (P := Try.prog) wx 71 3 .u64 _ (by kernel_rfl) (by kernel_rfl), show Try.prog.intKind 3 = IntKind.i64 from by kernel_rfl, i64V_of hh hh64]
  go_enter Try.func33, Try.ntmps33
  go_wp2_with fail
  go_loopw [1, 7] (fun v i wr => ∃ (k : Nat) (cur : List Value), k ≤ many ∧ i = .int .i64 ((many : Int) - (k : Int) - 1) ∧ v = .slice (some ⟨sb, 0, none⟩) (sl + k) sc ∧ wr.heap[sb]? = some (.cells cur.toArray 3 (0, 0)) ∧ cur.length = sc ∧ cur.take (sl + k) = scur.take sl ++ ((told.take many).reverse.take k).map (Value.int .i64) ∧ (∀ v ∈ cur, ∃ z, v = .int .i64 z) ∧ w.heap.size ≤ wr.heap.size ∧ (∀ b, b < w.heap.size → b ≠ sb → wr.heap[b]? = w.heap[b]?) ∧ Below sb w wr) (fun _ i _ => (intOf i + 1).toNat)
  case atStart => exact ⟨0, scur, Nat.zero_le _, by simp, rfl, hrow, hsc, by simp, htyp, Nat.le_refl _, fun _ _ _ => rfl, Below.refl _ _⟩
  case round =>
    obtain ⟨k, cur, hk, rfl, rfl, hr, hl, htk, hty, hsz, ho, bel⟩ := hrel
    have hT' : TrailAt wr g at_ here hh many told := (ho g hgz hgs).trans hT
    by_cases hkm : k < many
    · obtain ⟨j, hj⟩ : ∃ j, many - 1 - k = j := ⟨_, rfl⟩
      have hji : (many : Int) - (k : Int) - 1 = (j : Int) := by omega
      have f1 : decide ((0 : Int) ≤ (j : Int)) = true := by simp
      have c4 : wr.cell? ⟨g, 4 + j, none⟩ = some (.int .i64 (told.getD j 0)) := (cell_of_row _ _ _ _ _ _ hT').trans (trailRow_told _ _ _ _ _ j (by omega))
      have g1 : (0 : Int) ≤ (j : Int) := by omega
      have g2 : (j : Int) < 65 := by omega
      have g3 : j < 65 := by omega
      have hst := take_rev told many j (by omega) (by omega)
      rw [show many - 1 - j = k by omega, show many - j = k + 1 by omega] at hst
      obtain ⟨x, hx⟩ : ∃ x, told.getD j 0 = x := ⟨_, rfl⟩
      rw [hx] at c4 hst
      have HS := Lib.hid hst
      have hzr : sb < wr.heap.size := (Array.getElem?_eq_some_iff.1 hr).1
      have bA : Below wr.heap.size wr (wr.alloc (.cells #[.int .i64 x] 3)) := (Below.refl _ _).alloc (Nat.le_refl _) _
      have hra : (wr.alloc (.cells #[.int .i64 x] 3)).heap[sb]? = some (.cells cur.toArray 3 (0, 0)) := (bA.block sb hzr).trans hr
      have hm1 : (many : Int) - ((k : Int) + 1) - 1 = (j : Int) - 1 := by omega
      have HM := Lib.hid hm1
      clear hst hx hj hm1
      rw [hji]
      go_wp2_with (at_builtin; refine append_room rfl (.tmp 17) (.tmp 24) 26 3 rfl Try.underlying26 (.int .i64 0) 8 Try.info_num sb (sl + k) sc cur hra rfl ⟨wr.heap.size, 0, none⟩ 1 1 [.int .i64 x] rfl rfl (cell_one_new _ _ _) (fun u hu => by rw [List.mem_singleton.1 hu]; rfl) (by omega) (by omega) ?_; intro w6 g6 z6 o6 b6)
      obtain ⟨r1, r2, r3⟩ := row_more (m := 1) (news := [.int .i64 x]) hl (by omega) rfl htk hty (fun v hv => ⟨x, List.mem_singleton.1 hv⟩)
      refine ⟨⟨k + 1, _, by omega, ?_, by rw [Nat.add_assoc], g6, r1, ?_, r3, ?_, fun b hb hne => (o6 b hne).trans ((bA.block b (Nat.lt_of_lt_of_le hb hsz)).trans (ho b hb hne)), bel.trans ((bA.mono (by omega)).trans b6)⟩, ?_⟩
      · rw [Int.natCast_add, show ((1 : Nat) : Int) = 1 from rfl, HM.out]
      · rw [← Nat.add_assoc, r2, ← HS.out, List.map_append, List.append_assoc]
        try rfl
      · rw [z6, World.size_alloc]
        omega
      · simp [intOf]
    · obtain rfl : many = k := by omega
      have f1 : decide ((0 : Int) ≤ (many : Int) - (many : Int) - 1) = false := by simp
      have f1' : (many : Int) - (many : Int) - 1 = -1 := by omega
      have f2 : decide ((0 : Int) ≤ -1) = false := by decide
      have c3' : wr.drew.cell? ⟨g, 3, none⟩ = some (.int .i64 (many : Nat)) := cell_of_row wr _ 3 _ _ _ hT'
      have c2' : wr.drew.cell? ⟨g, 2, none⟩ = some (.int .u64 (hh : Nat)) := cell_of_row wr _ 2 _ _ _ hT'
      have hzr : sb < wr.heap.size := (Array.getElem?_eq_some_iff.1 hr).1
      have bA : Below wr.heap.size wr (wr.drew.alloc (.cells #[.int .i64 (many : Nat), .int .i64 (i64V hh), .int .i64 (place : Nat)] 3)) := ((Below.refl _ _).drew).alloc (Nat.le_refl _) _
      have hra : (wr.drew.alloc (.cells #[.int .i64 (many : Nat), .int .i64 (i64V hh), .int .i64 (place : Nat)] 3)).heap[sb]? = some (.cells cur.toArray 3 (0, 0)) := (bA.block sb hzr).trans hr
      have htl : (told.take many).reverse.take many = (told.take many).reverse := List.take_of_length_le (by rw [List.length_reverse, List.length_take]; omega)
      rw [f1']
      go_wp2_with fail
      go_region_law (refine step_append_row rfl (.tmp 26) (.tmp 37) 26 3 rfl Try.underlying26 (.int .i64 0) 8 Try.info_num sb (sl + many) sc cur hra (by simp [Act.eval, Act.put]) ⟨wr.heap.size, 0, none⟩ 3 3 [.int .i64 (many : Nat), .int .i64 (i64V hh), .int .i64 (place : Nat)] (by simp [Act.eval, Act.put]) rfl (three_new _ _ _ _ _) (fun u hu => by simp at hu; rcases hu with rfl | rfl | rfl <;> rfl) (by omega) (by omega) ?_; intro w6 g6 z6 o6 b6)
      all_goals
        obtain ⟨r1, r2, r3⟩ := row_more (m := 3) (news := [.int .i64 (many : Nat), .int .i64 (i64V hh), .int .i64 (place : Nat)]) hl (by omega) rfl htk hty (fun v hv => by simp at hv; rcases hv with rfl | rfl | rfl <;> exact ⟨_, rfl⟩)
        go_wp2_with fail
        go_ret
        refine ⟨rfl, ⟨_, g6, r1, ?_, r3⟩, ?_, fun b hb hne => (o6 b hne).trans ((bA.block b (Nat.lt_of_lt_of_le hb hsz)).trans (ho b hb hne)), bel.trans ((bA.mono (by omega)).trans b6)⟩
        · rw [r2, htl, List.map_append, List.append_assoc]
          try rfl
        · rw [z6]
          exact Nat.le_trans hsz bA.size
end Go.Proofs.Ytbbdeefnooaacaa
