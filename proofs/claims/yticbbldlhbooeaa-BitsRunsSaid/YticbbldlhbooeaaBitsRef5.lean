/- Contracts of scrutinyref01.Join. -/
import Derived.Test.YticbbldlhbooeaaBitsRef4
import Derived.Test.YticbbldlhbooeaaBits8
namespace Go.Proofs.Yticbbldlhbooeaa
open Go.RowKit
set_option linter.unusedVariables false

/-- append onto a row of the call's own, as a step of a region that draws its order. -/
theorem step_any {P : Program} {w : World} {ops : Array Oper} {o : Oper} {a : Act} {K : Act → World → Prop} {Q : Exit → Act → World → Prop} {E : Prop} (hgd : o.guard = none) (s x : Operand) (t : TypeId)
    (ho : o.op = .call { callee := .builtin .append, args := #[s, x], argTypes := #[t, t] })
    (base : Nat) (e : TypeId) (z : Value) (bytes : Nat) (ht : P.underlying t = some (.slice e)) (hinfo : (P.info? e).map (fun i => (i.zero, i.size, i.bytes)) = some (some z, 1, bytes)) (hz : z.cells.size = 1)
    (v : Value) (n : Nat) (xs : List Value) (hs : a.eval s = v) (hown : w.ownsRow base e 1 v n xs)
    (ao : Option Addr) (m c : Nat) (news : List Value) (hx : a.eval x = .slice ao m c) (hnone : ao = none → m = 0 ∧ c = 0) (hl : news.length = m) (hnews : ∀ ad, ao = some ad → ∀ j u, news[j]? = some u → w.cell? (ad.add j) = some u) (h1 : ∀ u ∈ news, u.oneCell' = true)
    (h63 : n + m ≤ maxLen) (hbytes : (n + m) * bytes ≤ 140737488355328) (hbase : base ≤ w.heap.size)
    (h : ∀ v' w', w'.ownsRow base e 1 v' (n + m) (xs ++ news) → Below base w w' → K (a.put o.dst v') w') :
    if Region.wanted o (yielded ops a.tmps) = true then Oper.wp P o a w K Q else E := by
  have hw : Region.wanted o (yielded ops a.tmps) = true := by simp [Region.wanted, hgd]
  rw [if_pos hw]
  obtain ⟨i, hi, hz0, hz1, hz2⟩ := info_parts hinfo
  cases ao with
  | some ad => exact wp_append_own w s x t ho base e i z 1 bytes ht hi hz0 hz1 hz2 hz (by decide) v n xs hs hown ad m c news hx (by rw [hl, Nat.mul_one]) (hnews ad rfl) h1 h63 hbytes hbase (fun v' w' h2 h3 _ => h v' w' h2 ((Below.refl _ _).grown h3 hbase (fun k hk => (hown.lt k hk).1)))
  | none =>
    obtain ⟨rfl, rfl⟩ := hnone rfl
    obtain rfl := List.eq_nil_of_length_eq_zero hl
    have hrun := run_append_owned_none (P := P) (w := w) base t o.type e i 1 ht hi v n xs hown
    unfold Oper.wp
    simp [execOp, ho, resolve, invoke, builtin, hs, hx, hrun, Result.andThen]
    exact h v w (by simpa using hown) (Below.refl _ _)
theorem i64s_ints (bs : List Nat) : i64s bs = (bs.map fun (b : Nat) => (b : Int)).map (Value.int .i64) := by simp [i64s]
theorem i64s_length (bs : List Nat) : (i64s bs).length = bs.length := by simp [i64s]
theorem i64s_append (bs cs : List Nat) : i64s bs ++ i64s cs = i64s (bs ++ cs) := by simp [i64s]
theorem i64s_one (bs : List Nat) : ∀ u ∈ i64s bs, u.oneCell' = true := by
  intro u hu
  obtain ⟨_, _, rfl⟩ := List.mem_map.1 hu
  rfl
/-- A row of ints of the call's own, to be read. -/
theorem own_source {w : World} {base : Nat} {v : Value} {bs : List Nat} (h : w.ownsRow base 3 1 v bs.length (i64s bs)) (hs : bs.length ≤ 9223372036854775807) :
    ∃ a cap, v = .slice a bs.length cap ∧ IntsAt w a bs.length (bs.map fun (b : Nat) => (b : Int)) ∧ (a = none → bs.length = 0 ∧ cap = 0) := by
  obtain ⟨h1, h2⟩ := h
  have h' : w.ownsRow base 3 1 v bs.length ((bs.map fun (b : Nat) => (b : Int)).map (Value.int .i64)) := by rw [← i64s_ints]; exact ⟨h1, h2⟩
  obtain ⟨a, cap, rfl, hi⟩ := ownInts h' hs
  refine ⟨a, cap, rfl, hi, fun ha => ?_⟩
  rcases h2 with ⟨h3, h4⟩ | ⟨g, cp, cur, h3, _⟩
  · exact ⟨by have := congrArg (fun v => match v with | Value.slice _ n _ => n | _ => 0) h3; simpa using this, by have := congrArg (fun v => match v with | Value.slice _ _ n => n | _ => 0) h3; simpa using this⟩
  · simp at h3; rw [ha] at h3; simp at h3
theorem IntsAt.news {w : World} {a : Option Addr} {len : Nat} {l : List Int} (h : IntsAt w a len l) : ∀ ad, a = some ad → ∀ j u, (l.map (Value.int .i64))[j]? = some u → w.cell? (ad.add j) = some u := by
  intro ad ha j u hu
  have hj : j < l.length := by have := (List.getElem?_eq_some_iff.1 hu).1; simpa using this
  rcases h.3 with h0 | ⟨b, off, rfl, _, hc⟩
  · have := h.1; omega
  · obtain rfl := Option.some.inj ha
    rw [Addr.add_lit, hc j (by rw [← h.1]; exact hj), ← hu]
    simp [hj]
theorem BitsBox.frozen {W : World} {b : Nat} {a : Option Addr} {len cap : Nat} {N : Int} (h : BitsBox W b a len cap N) (i : Nat) : W.frozen? ⟨b, i, none⟩ = false := by
  unfold BitsBox at h
  simp [World.frozen?, h]
/-- Bytes lie in no struct of bits. -/
theorem BytesAt.setBits {w : World} {a : Option Addr} {n c : Nat} {l : List Nat} {g : Nat} {a' : Option Addr} {len cap : Nat} {N : Int} (h : BytesAt w a n c l) (hx : BitsBox w g a' len cap N) (i : Nat) (v : Value) : BytesAt (w.setCell ⟨g, i, none⟩ v) a n c l := by
  refine ⟨h.1, h.2, h.3, h.4, ?_⟩
  rcases h.5 with h0 | ⟨b, off, rfl, hlt, hc⟩
  · exact .inl h0
  · by_cases h0 : n = 0
    · exact .inl h0
    have hne : b ≠ g := by
      rintro rfl
      have h1 := hc 0 (by omega)
      unfold BitsBox at hx
      rw [cur_cell hx] at h1
      rcases off with _ | _ | off <;> simp at h1
    refine .inr ⟨b, off, rfl, by simpa [World.setCell] using hlt, fun j hj => ?_⟩
    rw [← hc j hj]
    have := Below.heap_setCell w ⟨g, i, none⟩ v b hne
    simp [World.cell?, this]
theorem BitsBox.set0 {W : World} {b : Nat} {a : Option Addr} {len cap : Nat} {N : Int} (h : BitsBox W b a len cap N) (a' : Option Addr) (len' cap' : Nat) : BitsBox (W.setCell ⟨b, 0, none⟩ (.slice a' len' cap')) b a' len' cap' N := (Joins.block_setCell (i := 0) h _).trans (by simp)
/-- What stands in memory while both lists are made. -/
structure JoinAt (w0 w : World) (g : Nat) (a : Option Addr) (len cap : Nat) (bs : List Nat) (b : Option Addr) (len' cap' : Nat) (cs : List Nat) (N M : Int) : Prop where
  x1 : BitsBox w g a len cap N
  x2 : BitsBox w (g + 1) b len' cap' M
  x3 : BitsBox w (g + 2) none 0 0 0
  y1 : BytesAt w a len cap (pack bs)
  y2 : BytesAt w b len' cap' (pack cs)
  bel : Below w0.heap.size w0 w
theorem JoinAt.below {w0 w w' : World} {g : Nat} {a : Option Addr} {len cap : Nat} {bs : List Nat} {b : Option Addr} {len' cap' : Nat} {cs : List Nat} {N M : Int} (h : JoinAt w0 w g a len cap bs b len' cap' cs N M) (hb : Below w.heap.size w w') : JoinAt w0 w' g a len cap bs b len' cap' cs N M :=
  ⟨h.x1.below hb, h.x2.below hb, h.x3.below hb, h.y1.mono hb, h.y2.mono hb, h.bel.trans (hb.mono h.bel.size)⟩
theorem list_at (w : World) (a : Option Addr) (len cap : Nat) (bs : List Nat) (hbs : IsBits bs) (hsm : bs.length ≤ 549755813888) (hl : BytesAt w a len cap (pack bs)) (N : Int) (hN : N = (bs.length : Int)) :
    Calls Try.prog 32 #[.agg #[.slice a len cap, .int .i64 N]] w fun e w' => ∃ p c, e = .returned (.slice p bs.length c) ∧ w'.ownsRow w.heap.size 3 1 (.slice p bs.length c) bs.length (i64s bs) ∧ Below w.heap.size w w' ∧ IntsAt w' p bs.length (bs.map fun (b : Nat) => (b : Int)) ∧ (p = none → bs.length = 0 ∧ c = 0) := by
  subst hN
  refine (list_any w a len cap bs hbs hsm hl).mono ?_
  rintro e w' ⟨v, rfl, hown, hb⟩
  obtain ⟨p, c, rfl, hi, hn⟩ := own_source hown (by omega)
  exact ⟨p, c, rfl, hown, hb, hi, hn⟩
theorem row_at (w : World) (v : Value) (base : Nat) (ds : List Nat) (hds : IsBits ds) (hsm : ds.length ≤ 549755813888) (hown : w.ownsRow base 3 1 v ds.length (i64s ds)) :
    Calls Try.prog 31 #[v] w (BitsOut1 ds w) := by
  obtain ⟨p, c, rfl, hi, hn⟩ := own_source hown (by omega)
  exact row_any w p ds.length c ds hds hsm hi
set_option maxHeartbeats 8000000 in
theorem refjoin_any (w : World) (a b : Option Addr) (len cap len' cap' : Nat) (bs cs : List Nat) (hbs : IsBits bs) (hcs : IsBits cs) (hsm : bs.length ≤ 137438953472) (hsm' : cs.length ≤ 137438953472) (hl : BytesAt w a len cap (pack bs)) (hl' : BytesAt w b len' cap' (pack cs)) (N M : Int) (hN : N = (bs.length : Int)) (hM : M = (cs.length : Int)) :
    Calls Try.prog 23 #[.agg #[.slice a len cap, .int .i64 N], .agg #[.slice b len' cap', .int .i64 M]] w (BitsOut1 (bs ++ cs) w) := by
  have HN := Lib.hid hN
  have HM := Lib.hid hM
  have hds := hbs.append hcs
  have hdl : (bs ++ cs).length ≤ 549755813888 := by rw [List.length_append]; omega
  have J0 : ∀ o o' , o = Obj.cells #[.slice a len cap, .int .i64 N] 24 → o' = Obj.cells #[.slice b len' cap', .int .i64 M] 24 → JoinAt w (((w.alloc o).alloc o').alloc (.cells #[.slice none 0 0, .int .i64 0] 24)).drew w.heap.size a len cap bs b len' cap' cs N M := by
    intro o o' ho ho'
    have b1 : Below w.heap.size w (((w.alloc o).alloc o').alloc (.cells #[.slice none 0 0, .int .i64 0] 24)).drew := ((((Below.refl _ _).alloc (Nat.le_refl _) _).alloc (by simp) _).alloc (by simp; omega) _).drew
    refine ⟨?_, ?_, ?_, hl.mono b1, hl'.mono b1, b1⟩
    · subst ho
      exact ((Below.heap_alloc _ _ _ (by simp; omega)).trans (Below.heap_alloc _ _ _ (by simp))).trans (World.alloc_heap_new _ _)
    · subst ho'
      refine (Below.heap_alloc _ _ _ (by simp)).trans ?_
      have := World.alloc_heap_new (w.alloc o) (Obj.cells #[.slice b len' cap', .int .i64 M] 24)
      simpa using this
    · have := World.alloc_heap_new ((w.alloc o).alloc o') (Obj.cells #[.slice none 0 0, .int .i64 0] 24)
      rw [show ((w.alloc o).alloc o').heap.size = w.heap.size + 2 from by simp] at this
      exact this
  have J := J0 _ _ rfl rfl
  have q0 := J.x1.cell0
  have q1 := J.x1.cell1
  have q2 := J.x2.cell0
  have q3 := J.x2.cell1
  clear hN hM J0
  go_enter Try.func23, Try.ntmps23
  go_wp2
  go_region_held3 (fun w' => w'.cell? ⟨w.heap.size, 0, none⟩ = some (.slice a len cap) ∧ w'.cell? ⟨w.heap.size, 1, none⟩ = some (.int .i64 N) ∧ w'.cell? ⟨w.heap.size + 1, 0, none⟩ = some (.slice b len' cap') ∧ w'.cell? ⟨w.heap.size + 1, 1, none⟩ = some (.int .i64 M))
    (first | exact ⟨q0, q1, q2, q3⟩ | exact ⟨r0, r1, r2, r3⟩ | exact ⟨by simpa [go_sem] using r0, by simpa [go_sem] using r1, by simpa [go_sem] using r2, by simpa [go_sem] using r3⟩)
    (first | (go_at_call_of 32 a; refine (list_at _ _ _ _ bs hbs (by omega) J.y1 _ HN.out).mono ?_; rintro e wa ⟨p1, k1, rfl, own1, bl1, it1, nn1⟩; have J1 := J.below bl1; have r0 := J1.x1.cell0; have r1 := J1.x1.cell1; have r2 := J1.x2.cell0; have r3 := J1.x2.cell1) | (go_at_call_of 32 b; refine (list_at _ _ _ _ cs hcs (by omega) J1.y2 _ HM.out).mono ?_; rintro e wb ⟨p2, k2, rfl, own2, bl2, it2, nn2⟩; have J2 := J1.below bl2; have own1' := own_below own1 bl2; have r0 := J2.x1.cell0; have r1 := J2.x1.cell1; have r2 := J2.x2.cell0; have r3 := J2.x2.cell1) | (go_at_call 31; refine (row_at _ _ _ (bs ++ cs) hds hdl own3).mono ?_; rintro e wr ⟨p4, l4, k4, rfl, y4, bl4⟩; have J4 := J3.below bl4; have r0 := J4.x1.cell0; have r1 := J4.x1.cell1; have r2 := J4.x2.cell0; have r3 := J4.x2.cell1; have z0 := J4.x3.cell0; have z1 := J4.x3.cell1; have z2 := J4.x3.frozen 0; have z3 := J4.x3.frozen 1) | (refine step_any rfl (.tmp 6) (.tmp 8) 68 rfl _ 3 (.int .i64 0) 8 Try.underlying68 Try.info_int rfl _ bs.length (i64s bs) rfl own1' p2 cs.length k2 (i64s cs) rfl nn2 (i64s_length _) (by rw [i64s_ints]; exact it2.news) (i64s_one _) (by unfold maxLen; omega) (by omega) (Nat.le_trans bl1.size bl2.size) ?_; intro v3 w3 own3 bl3; have J3 := JoinAt.below J ((below_then bl1 bl2).trans bl3); rw [← List.length_append, i64s_append] at own3; have r0 := J3.x1.cell0; have r1 := J3.x1.cell1; have r2 := J3.x2.cell0; have r3 := J3.x2.cell1))
  go_wp2
  have e1 : (bs.length : Int) + (cs.length : Int) = ((bs ++ cs).length : Int) := by rw [List.length_append]; omega
  have hb4 := J4.bel
  refine bodyPost_ret (v := .agg #[.slice p4 l4 k4, .int .i64 ((bs.length : Int) + (cs.length : Int))]) (by simp [results, Try.results23, go_sem, z0, z1]) rfl ⟨p4, l4, k4, by rw [e1], (y4.setBits J4.x3 0 _).setBits (J4.x3.set0 _ _ _) 1 _, ?_⟩
  exact (hb4.setCell (by simp; omega) _).setCell (by simp; omega) _
end Go.Proofs.Yticbbldlhbooeaa
