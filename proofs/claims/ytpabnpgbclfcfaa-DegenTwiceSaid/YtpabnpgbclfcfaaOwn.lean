/- Rows of memory: bytes and ints that came in, or that a call made; append onto a row of the call's own. -/
import Derived.Test.YtpabnpgbclfcfaaChecked
import Derived.Test.YtpabnpgbclfcfaaLater
import Derived.Deep.OwnRows
import Derived.Laws.AppendOwnNone
import Derived.Lib.SlBytesConst
import Derived.Maps.AppendAt
import Derived.Laws.BytesArg
import Derived.Lib.Bytes
import Derived.Shelf.Bytes.SlSmallAll
namespace Go.Proofs.Ytpabnpgbclfcfaa
open Go.RowKit
set_option linter.unusedVariables false
set_option linter.unusedSimpArgs false

/-- What a walk is told of bytes that came in. -/
structure BytesAt (w : World) (a : Option Addr) (len cap : Nat) (l : List Nat) : Prop where
  len_eq : l.length = len
  small : len ≤ 9223372036854775807
  byte : ∀ n ∈ l, n < 256
  none_ : a = none → len = 0 ∧ cap = 0
  at_ : len = 0 ∨ ∃ b off, a = some ⟨b, off, none⟩ ∧ b < w.heap.size ∧ ∀ i, i < len → w.cell? ⟨b, off + i, none⟩ = some (.int .u8 (l.getD i 0 : Nat))

theorem BytesAt.mono {w w' : World} {a : Option Addr} {len cap : Nat} {l : List Nat} (h : BytesAt w a len cap l) (hb : Below w.heap.size w w') : BytesAt w' a len cap l := by
  refine ⟨h.1, h.2, h.3, h.4, ?_⟩
  rcases h.5 with h4 | ⟨b, off, ha, hlt, hc⟩
  · exact .inl h4
  · exact .inr ⟨b, off, ha, Nat.lt_of_lt_of_le hlt hb.size, fun i hi => by rw [hb.cell (p := ⟨b, off + i, none⟩) hlt]; exact hc i hi⟩
theorem Try.info_u8 : (Try.prog.info? 5).map (fun i => (i.zero, i.size, i.bytes)) = some (some (.int .u8 0), 1, 1) := by kernel_rfl
/-- A row of the call's own, read as bytes. -/
theorem ownBytes {w : World} {base : Nat} {v : Value} {n : Nat} {l : List Nat} (h : w.ownsRow base 5 1 v n (l.map fun (c : Nat) => Value.int .u8 (c : Int))) (hb : ∀ c ∈ l, c < 256) (hn : n ≤ 9223372036854775807) :
    ∃ a cap, v = .slice a n cap ∧ BytesAt w a n cap l := by
  obtain ⟨h1, h2⟩ := h
  rw [List.length_map] at h1
  rcases h2 with ⟨rfl, rfl⟩ | ⟨g, cap, cur, rfl, hbg, hg, hnc, hcm, hsz, htake⟩
  · exact ⟨none, 0, rfl, by omega, by omega, hb, fun _ => ⟨rfl, rfl⟩, .inl rfl⟩
  · refine ⟨_, _, rfl, by omega, hn, hb, nofun, .inr ⟨g, 0, rfl, (Array.getElem?_eq_some_iff.1 hg).1, fun i hi => ?_⟩⟩
    have hlt : i < l.length := by omega
    have e := congrArg (fun x => x[i]?) htake
    simp only [List.getElem?_map, Nat.mul_one] at e
    rw [List.getElem?_take, if_pos hi, Array.getElem?_toList, List.getElem?_eq_getElem hlt] at e
    rw [Nat.zero_add]
    simp [World.cell?, hg, e, hlt]

/-- append onto a row of the call's own, from whatever source. -/
theorem append_any {P : Program} {w : World} {ops : Array Oper} {rest : List Oper} {o : Oper} {a : Act} {Q : Exit → Act → World → Prop} (hgd : o.guard = none) (s x : Operand) (t : TypeId)
    (ho : o.op = .call { callee := .builtin .append, args := #[s, x], argTypes := #[t, t] })
    (base : Nat) (e : TypeId) (z : Value) (bytes : Nat) (ht : P.underlying t = some (.slice e)) (hinfo : (P.info? e).map (fun i => (i.zero, i.size, i.bytes)) = some (some z, 1, bytes)) (hz : z.cells.size = 1)
    (v : Value) (n : Nat) (xs : List Value) (hs : a.eval s = v) (hown : w.ownsRow base e 1 v n xs)
    (ao : Option Addr) (m c : Nat) (news : List Value) (hx : a.eval x = .slice ao m c) (hnone : ao = none → m = 0 ∧ c = 0) (hl : news.length = m) (hnews : ∀ ad, ao = some ad → ∀ j u, news[j]? = some u → w.cell? (ad.add j) = some u) (h1 : ∀ u ∈ news, u.oneCell' = true)
    (h63 : n + m ≤ maxLen) (hbytes : (n + m) * bytes ≤ 140737488355328) (hbase : base ≤ w.heap.size)
    (h : ∀ v' w', w'.ownsRow base e 1 v' (n + m) (xs ++ news) → Below base w w' → wpList P ops Q rest (a.put o.dst v') w') : wpList P ops Q (o :: rest) a w := by
  obtain ⟨i, hi, hz0, hz1, hz2⟩ := info_parts hinfo
  cases ao with
  | some ad => exact wpList_append_own w hgd s x t ho base e i z 1 bytes ht hi hz0 hz1 hz2 hz (by decide) v n xs hs hown ad m c news hx (by rw [hl, Nat.mul_one]) (hnews ad rfl) h1 h63 hbytes hbase (fun v' w' h2 h3 _ => h v' w' h2 ((Below.refl _ _).grown h3 hbase (fun k hk => (hown.lt k hk).1)))
  | none =>
    obtain ⟨rfl, rfl⟩ := hnone rfl
    obtain rfl := List.eq_nil_of_length_eq_zero hl
    refine wpList_append_own_none hgd s x t ho base e i 1 ht hi v n xs hs hown hx ?_
    exact h v w (by simpa using hown) (Below.refl _ _)
/-- Bytes as the source of an append. -/
theorem BytesAt.news {w : World} {a : Option Addr} {len cap : Nat} {l : List Nat} (h : BytesAt w a len cap l) :
    ∀ ad, a = some ad → ∀ j u, (l.map fun (c : Nat) => Value.int .u8 (c : Int))[j]? = some u → w.cell? (ad.add j) = some u := by
  intro ad ha j u hu
  have hj : j < l.length := by have := (List.getElem?_eq_some_iff.1 hu).1; simpa using this
  rcases h.5 with h0 | ⟨b, off, rfl, _, hc⟩
  · have := h.1; omega
  · obtain rfl := Option.some.inj ha
    rw [Addr.add_lit, hc j (by rw [← h.1]; exact hj), ← hu]
    simp [hj]
theorem bytes_oneCell (l : List Nat) : ∀ u ∈ (l.map fun (c : Nat) => Value.int .u8 (c : Int)), u.oneCell' = true := by
  intro u hu
  obtain ⟨_, _, rfl⟩ := List.mem_map.1 hu
  rfl

/-- The same, told by what has grown. -/
theorem append_grown {P : Program} {w : World} {ops : Array Oper} {rest : List Oper} {o : Oper} {a : Act} {Q : Exit → Act → World → Prop} (hgd : o.guard = none) (s x : Operand) (t : TypeId)
    (ho : o.op = .call { callee := .builtin .append, args := #[s, x], argTypes := #[t, t] })
    (base : Nat) (e : TypeId) (z : Value) (bytes : Nat) (ht : P.underlying t = some (.slice e)) (hinfo : (P.info? e).map (fun i => (i.zero, i.size, i.bytes)) = some (some z, 1, bytes)) (hz : z.cells.size = 1)
    (v : Value) (n : Nat) (xs : List Value) (hs : a.eval s = v) (hown : w.ownsRow base e 1 v n xs)
    (ao : Option Addr) (m c : Nat) (news : List Value) (hx : a.eval x = .slice ao m c) (hnone : ao = none → m = 0 ∧ c = 0) (hl : news.length = m) (hnews : ∀ ad, ao = some ad → ∀ j u, news[j]? = some u → w.cell? (ad.add j) = some u) (h1 : ∀ u ∈ news, u.oneCell' = true)
    (h63 : n + m ≤ maxLen) (hbytes : (n + m) * bytes ≤ 140737488355328) (hbase : base ≤ w.heap.size)
    (h : ∀ v' w', w'.ownsRow base e 1 v' (n + m) (xs ++ news) → w.grownBy w' v.ownBlock → wpList P ops Q rest (a.put o.dst v') w') : wpList P ops Q (o :: rest) a w := by
  obtain ⟨i, hi, hz0, hz1, hz2⟩ := info_parts hinfo
  cases ao with
  | some ad => exact wpList_append_own w hgd s x t ho base e i z 1 bytes ht hi hz0 hz1 hz2 hz (by decide) v n xs hs hown ad m c news hx (by rw [hl, Nat.mul_one]) (hnews ad rfl) h1 h63 hbytes hbase (fun v' w' h2 h3 _ => h v' w' h2 h3)
  | none =>
    obtain ⟨rfl, rfl⟩ := hnone rfl
    obtain rfl := List.eq_nil_of_length_eq_zero hl
    refine wpList_append_own_none hgd s x t ho base e i 1 ht hi v n xs hs hown hx ?_
    exact h v w (by simpa using hown) (World.grownBy.refl _ _)
theorem cellAlloc (w : World) (o : Obj) {a : Addr} {v : Value} (h : w.cell? a = some v) : (w.alloc o).cell? a = some v := Lib.cell?_alloc_marked o h
theorem oneCell_u8 (n : Int) : ∀ u ∈ [Value.int .u8 n], u.oneCell' = true := by
  intro u hu
  obtain rfl := List.mem_singleton.1 hu
  rfl
theorem ownSnoc {w : World} {base : Nat} {v : Value} {len : Nat} {l : List Nat} {c : Nat} (h : w.ownsRow base 5 1 v (len + 1) ((l.map fun (c : Nat) => Value.int .u8 (c : Int)) ++ [.int .u8 (c : Int)]))
    (hb : ∀ c ∈ l, c < 256) (hc : c < 256) (hn : len + 1 ≤ 9223372036854775807) (hl : l.length = len) : ∃ a cap, v = .slice a (len + 1) cap ∧ BytesAt w a (len + 1) cap (l ++ [c]) := by
  refine ownBytes (l := l ++ [c]) (by rw [List.map_append]; exact h) ?_ hn
  intro x hx
  rcases List.mem_append.1 hx with h | h
  · exact hb x h
  · obtain rfl := List.mem_singleton.1 h; exact hc
/-! ints -/
/-- What a walk is told of a row of ints. -/
structure IntsAt (w : World) (a : Option Addr) (len : Nat) (l : List Int) : Prop where
  len_eq : l.length = len
  small : len ≤ 9223372036854775807
  at_ : len = 0 ∨ ∃ b off, a = some ⟨b, off, none⟩ ∧ b < w.heap.size ∧ ∀ i, i < len → w.cell? ⟨b, off + i, none⟩ = some (.int .i64 (l.getD i 0))
theorem IntsAt.mono {w w' : World} {a : Option Addr} {len : Nat} {l : List Int} (h : IntsAt w a len l) (hb : Below w.heap.size w w') : IntsAt w' a len l := by
  refine ⟨h.1, h.2, ?_⟩
  rcases h.3 with h4 | ⟨b, off, ha, hlt, hc⟩
  · exact .inl h4
  · exact .inr ⟨b, off, ha, Nat.lt_of_lt_of_le hlt hb.size, fun i hi => by rw [hb.cell (p := ⟨b, off + i, none⟩) hlt]; exact hc i hi⟩
theorem ownInts {w : World} {base : Nat} {v : Value} {n : Nat} {l : List Int} (h : w.ownsRow base 3 1 v n (l.map (Value.int .i64))) (hn : n ≤ 9223372036854775807) : ∃ a cap, v = .slice a n cap ∧ IntsAt w a n l := by
  obtain ⟨h1, h2⟩ := h
  rw [List.length_map] at h1
  rcases h2 with ⟨rfl, rfl⟩ | ⟨g, cap, cur, rfl, hbg, hg, hnc, hcm, hsz, htake⟩
  · exact ⟨none, 0, rfl, by omega, by omega, .inl rfl⟩
  · refine ⟨_, _, rfl, by omega, hn, .inr ⟨g, 0, rfl, (Array.getElem?_eq_some_iff.1 hg).1, fun i hi => ?_⟩⟩
    have hlt : i < l.length := by omega
    have e := congrArg (fun x => x[i]?) htake
    simp only [List.getElem?_map, Nat.mul_one] at e
    rw [List.getElem?_take, if_pos hi, Array.getElem?_toList, List.getElem?_eq_getElem hlt] at e
    rw [Nat.zero_add]
    simp [World.cell?, hg, e, hlt]
theorem oneCell_i64 (n : Int) : ∀ u ∈ [Value.int .i64 n], u.oneCell' = true := by
  intro u hu
  obtain rfl := List.mem_singleton.1 hu
  rfl
theorem Try.info_int : (Try.prog.info? 3).map (fun i => (i.zero, i.size, i.bytes)) = some (some (.int .i64 0), 1, 8) := by kernel_rfl

theorem BytesAt.conv {w : World} {a : Option Addr} {len cap : Nat} {l : List Nat} (h : BytesAt w a len cap l) {P : Program} (src e dst : TypeId) (hs : P.underlying src = some (.slice e)) (he : P.underlying e = some (.int .u8)) (hd : P.underlying dst = some .string) :
    (convert src dst (.slice a len cap)).run P w = .ok (.string (strOfNums (l.map fun (c : Nat) => (c : Int)))) w := by
  have hlen := h.len_eq
  rcases h.at_ with h0 | ⟨b, off, rfl, _, hc⟩
  · subst h0
    obtain rfl := List.eq_nil_of_length_eq_zero hlen
    exact run_convert_bytes_zero w src e hs he a cap dst hd
  · refine run_convert_bytes_arg (P := P) w src e hs he b off len cap _ (by simpa using hlen) ?_ dst hd
    intro i hi
    rw [hc i hi]
    have h2 : i < l.length := by omega
    simp [h2]
theorem own_slice {w : World} {base : Nat} {e : TypeId} {v : Value} {n : Nat} {xs : List Value} (h : w.ownsRow base e 1 v n xs) : ∃ a cap, v = .slice a n cap ∧ n ≤ cap := by
  rcases h.2 with ⟨rfl, rfl⟩ | ⟨g, cap, cur, rfl, _, _, hc, _⟩
  · exact ⟨_, _, rfl, Nat.le_refl _⟩
  · exact ⟨_, _, rfl, hc⟩
theorem ret_int {k : IntKind} {a b : Int} (h : a = b) : Ending.returned (.int k a) = .returned (.int k b) := by rw [h]
end Go.Proofs.Ytpabnpgbclfcfaa
