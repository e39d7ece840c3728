/- Contracts of scrutinyref01.Join. -/
import Derived.Test.YtblipgmllpniaaaBitsRef4
import Derived.Test.YtblipgmllpniaaaBits8
namespace Go.Proofs.Ytblipgmllpniaaa
open Go.RowKit
set_option linter.unusedVariables false

/-- append onto a row of the call's own, as a step of a region that draws its order. -/
theorem step_any {P : Program} {w : World} {ops : Array Oper} {o : Oper} {a : Act} {K : Act → World → Prop} {Q : Exit → Act → World → Prop} {E : Prop} (hgd : o.guard = none) (s x : Operand) (t : TypeId)
    (ho : o.op = .call { callee := .builtin .append, args := #[s, x], argTypes := #[t, t] })
    (base : Nat) (e : TypeId) (z : Value) (bytes : Nat) (ht : P.underlying t = some (.slice e)) (hinfo : (P.info? e).map (fun i => (i.zero, i.size, i.bytes)) = some (some z, 1, bytes)) (hz : z.cells.size = 1)
    (v : Value) (n : Nat) (xs : List Value) (hs : a.eval s = v) (hown : w.ownsRow base e 1 v n xs)
    (ao : Option Addr) (m c : Nat) (news : List Value) (hx : a.eval x = .slice ao m c) (hnone : ao = none → m = 0 ∧ c = 0) (hl : news.length = m) (hnews : ∀ ad, ao = some ad → ∀ j u, news[j]? = some u → w.cell? (ad.add j) = some u) (h1 : ∀ u ∈ news, u.oneCell' = true)
    (h63 : n + m ≤ maxLen) (hbytes : (n + m) * bytes ≤ 140737488355328) (hbase : base ≤ w.heap.size)
    (h : ∀ v' w', w'.ownsRow base e 1 v' (n + m) (xs ++ news) → Below base w w' → K (a.put o.dst v') w') :
    if Region.wanted o (yielded ops a.tmps) = true then Oper.wp P o a w K Q else E := by
  have hw : Region.wanted o (yielded ops a.tmps) = true := by simp [Region.wanted, hgd]
  rw [if_pos hw]
  obtain ⟨i, hi, hz0, hz1, hz2⟩ := info_parts hinfo
  cases ao with
  | some ad => exact wp_append_own w s x t ho base e i z 1 bytes ht hi hz0 hz1 hz2 hz (by decide) v n xs hs hown ad m c news hx (by rw [hl, Nat.mul_one]) (hnews ad rfl) h1 h63 hbytes hbase (fun v' w' h2 h3 _ => h v' w' h2 ((Below.refl _ _).grown h3 hbase (fun k hk => (hown.lt k hk).1)))
  | none =>
    obtain ⟨rfl, rfl⟩ := hnone rfl
    obtain rfl := List.eq_nil_of_length_eq_zero hl
    have hrun := run_append_owned_none (P := P) (w := w) base t o.type e i 1 ht hi v n xs hown
    unfold Oper.wp
    simp [execOp, ho, resolve, invoke, builtin, hs, hx, hrun, Result.andThen]
    exact h v w (by simpa using hown) (Below.refl _ _)
theorem i64s_ints (bs : List Nat) : i64s bs = (bs.map fun (b : Nat) => (b : Int)).map (Value.int .i64) := by simp [i64s]
theorem i64s_length (bs : List Nat) : (i64s bs).length = bs.length := by simp [i64s]
theorem i64s_append (bs cs : List Nat) : i64s bs ++ i64s cs = i64s (bs ++ cs) := by simp [i64s]
theorem i64s_one (bs : List Nat) : ∀ u ∈ i64s bs, u.oneCell' = true := by
  intro u hu
  obtain ⟨_, _, rfl⟩ := List.mem_map.1 hu
  rfl
/-- A row of ints of the call's own, to be read. -/
theorem own_source {w : World} {base : Nat} {v : Value} {bs : List Nat} (h : w.ownsRow base 3 1 v bs.length (i64s bs)) (hs : bs.length ≤ 9223372036854775807) :
    ∃ a cap, v = .slice a bs.length cap ∧ IntsAt w a bs.length (bs.map fun (b : Nat) => (b : Int)) ∧ (a = none → bs.length = 0 ∧ cap = 0) := by
  obtain ⟨h1, h2⟩ := h
  have h' : w.ownsRow base 3 1 v bs.length ((bs.map fun (b : Nat) => (b : Int)).map (Value.int .i64)) := by rw [← i64s_ints]; exact ⟨h1, h2⟩
  obtain ⟨a, cap, rfl, hi⟩ := ownInts h' hs
  refine ⟨a, cap, rfl, hi, fun ha => ?_⟩
  rcases h2 with ⟨h3, h4⟩ | ⟨g, cp, cur, h3, _⟩
  · exact ⟨by have := congrArg (fun v => match v with | Value.slice _ n _ => n | _ => 0) h3; simpa using this, by have := congrArg (fun v => match v with | Value.slice _ _ n => n | _ => 0) h3; simpa using this⟩
  · simp at h3; rw [ha] at h3; simp at h3
theorem IntsAt.news {w : World} {a : Option Addr} {len : Nat} {l : List Int} (h : IntsAt w a len l) : ∀ ad, a = some ad → ∀ j u, (l.map (Value.int .i64))[j]? = some u → w.cell? (ad.add j) = some u := by
  intro ad ha j u hu
  have hj : j < l.length := by have := (List.getElem?_eq_some_iff.1 hu).1; simpa using this
  rcases h.3 with h0 | ⟨b, off, rfl, _, hc⟩
  · have := h.1; omega
  · obtain rfl := Option.some.inj ha
    rw [Addr.add_lit, hc j (by rw [← h.1]; exact hj), ← hu]
    simp [hj]
theorem BitsBox.frozen {W : World} {b : Nat} {a : Option Addr} {len cap : Nat} {N : Int} (h : BitsBox W b a len cap N) (i : Nat) : W.frozen? ⟨b, i, none⟩ = false := by
  unfold BitsBox at h
  simp [World.frozen?, h]
/-- Bytes lie in no struct of bits. -/
theorem BytesAt.setBits {w : World} {a : Option Addr} {n c : Nat} {l : List Nat} {g : Nat} {a' : Option Addr} {len cap : Nat} {N : Int} (h : BytesAt w a n c l) (hx : BitsBox w g a' len cap N) (i : Nat) (v : Value) : BytesAt (w.setCell ⟨g, i, none⟩ v) a n c l := by
  refine ⟨h.1, h.2, h.3, h.4, ?_⟩
  rcases h.5 with h0 | ⟨b, off, rfl, hlt, hc⟩
  · exact .inl h0
  · by_cases h0 : n = 0
    · exact .inl h0
    have hne : b ≠ g := by
      rintro rfl
      have h1 := hc 0 (by omega)
      unfold BitsBox at hx
      rw [cur_cell hx] at h1
      rcases off with _ | _ | off <;> simp at h1
    refine .inr ⟨b, off, rfl, by simpa [World.setCell] using hlt, fun j hj => ?_⟩
    rw [← hc j hj]
    have := Below.heap_setCell w ⟨g, i, none⟩ v b hne
    simp [World.cell?, this]
theorem BitsBox.set0 {W : World} {b : Nat} {a : Option Addr} {len cap : Nat} {N : Int} (h : BitsBox W b a len cap N) (a' : Option Addr) (len' cap' : Nat) : BitsBox (W.setCell ⟨b, 0, none⟩ (.slice a' len' cap')) b a' len' cap' N := (Joins.block_setCell (i := 0) h _).trans (by simp)
/-- What stands in memory while both lists are made. -/
structure JoinAt (w0 w : World) (g : Nat) (a : Option Addr) (len cap : Nat) (bs : List Nat) (b : Option Addr) (len' cap' : Nat) (cs : List Nat) (N M : Int) : Prop where
  x1 : BitsBox w g a len cap N
  x2 : BitsBox w (g + 1) b len' cap' M
  x3 : BitsBox w (g + 2) none 0 0 0
  y1 : BytesAt w a len cap (pack bs)
  y2 : BytesAt w b len' cap' (pack cs)
  bel : Below w0.heap.size w0 w
theorem JoinAt.below {w0 w w' : World} {g : Nat} {a : Option Addr} {len cap : Nat} {bs : List Nat} {b : Option Addr} {len' cap' : Nat} {cs : List Nat} {N M : Int} (h : JoinAt w0 w g a len cap bs b len' cap' cs N M) (hb : Below w.heap.size w w') : JoinAt w0 w' g a len cap bs b len' cap' cs N M :=
  ⟨h.x1.below hb, h.x2.below hb, h.x3.below hb, h.y1.mono hb, h.y2.mono hb, h.bel.trans (hb.mono h.bel.size)⟩
theorem list_at (w : World) (a : Option Addr) (len cap : Nat) (bs : List Nat) (hbs : IsBits bs) (hsm : bs.length ≤ 549755813888) (hl : BytesAt w a len cap (pack bs)) (N : Int) (hN : N = (bs.length : Int)) :
    Calls Try.prog 42 #[.agg #[.slice a len cap, .int .i64 N]] w fun e w' => ∃ p c, e = .returned (.slice p bs.length c) ∧ w'.ownsRow w.heap.size 3 1 (.slice p bs.length c) bs.length (i64s bs) ∧ Below w.heap.size w w' ∧ IntsAt w' p bs.length (bs.map fun (b : Nat) => (b : Int)) ∧ (p = none → bs.length = 0 ∧ c = 0) := by
  subst hN
  refine (list_any w a len cap bs hbs hsm hl).mono ?_
  rintro e w' ⟨v, rfl, hown, hb⟩
  obtain ⟨p, c, rfl, hi, hn⟩ := own_source hown (by omega)
  exact ⟨p, c, rfl, hown, hb, hi, hn⟩
theorem row_at (w : World) (v : Value) (base : Nat) (ds : List Nat) (hds : IsBits ds) (hsm : ds.length ≤ 549755813888) (hown : w.ownsRow base 3 1 v ds.length (i64s ds)) :
    Calls Try.prog 41 #[v] w (BitsOut1 ds w) := by
  obtain ⟨p, c, rfl, hi, hn⟩ := own_source hown (by omega)
  exact row_any w p ds.length c ds hds hsm hi
end Go.Proofs.Ytblipgmllpniaaa
