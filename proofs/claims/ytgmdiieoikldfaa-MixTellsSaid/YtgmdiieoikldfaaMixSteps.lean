/- MixSteps returns true for every input: two texts that differ in their last byte, and two seeds, have different hashes. No condition. -/
import Derived.Test.YtgmdiieoikldfaaMixShown
import Derived.Test.YtgmdiieoikldfaaMixMath
import Derived.Laws.AppendOwnNone
namespace Go.Proofs.Ytgmdiieoikldfaa
open Go.RowKit
set_option linter.unusedVariables false

theorem Try.info_u8 : (Try.prog.info? 5).map (fun i => (i.zero, i.size, i.bytes)) = some (some (.int .u8 0), 1, 1) := by kernel_rfl
/-- A row of the call's own, read as bytes. -/
theorem ownBytes {w : World} {base : Nat} {v : Value} {n : Nat} {l : List Nat} (h : w.ownsRow base 5 1 v n (l.map fun (c : Nat) => Value.int .u8 (c : Int))) (hb : ∀ c ∈ l, c < 256) (hn : n ≤ 9223372036854775807) :
    ∃ a cap, v = .slice a n cap ∧ BytesAt w a n cap l := by
  obtain ⟨h1, h2⟩ := h
  rw [List.length_map] at h1
  rcases h2 with ⟨rfl, rfl⟩ | ⟨g, cap, cur, rfl, hbg, hg, hnc, hcm, hsz, htake⟩
  · exact ⟨none, 0, rfl, by omega, by omega, hb, fun _ => ⟨rfl, rfl⟩, .inl rfl⟩
  · refine ⟨_, _, rfl, by omega, hn, hb, nofun, .inr ⟨g, 0, rfl, (Array.getElem?_eq_some_iff.1 hg).1, fun i hi => ?_⟩⟩
    have hlt : i < l.length := by omega
    have e := congrArg (fun x => x[i]?) htake
    simp only [List.getElem?_map, Nat.mul_one] at e
    rw [List.getElem?_take, if_pos hi, Array.getElem?_toList, List.getElem?_eq_getElem hlt] at e
    rw [Nat.zero_add]
    simp [World.cell?, hg, e, hlt]

/-- append onto a row of the call's own, from whatever source. -/
theorem append_any {P : Program} {w : World} {ops : Array Oper} {rest : List Oper} {o : Oper} {a : Act} {Q : Exit → Act → World → Prop} (hgd : o.guard = none) (s x : Operand) (t : TypeId)
    (ho : o.op = .call { callee := .builtin .append, args := #[s, x], argTypes := #[t, t] })
    (base : Nat) (e : TypeId) (z : Value) (bytes : Nat) (ht : P.underlying t = some (.slice e)) (hinfo : (P.info? e).map (fun i => (i.zero, i.size, i.bytes)) = some (some z, 1, bytes)) (hz : z.cells.size = 1)
    (v : Value) (n : Nat) (xs : List Value) (hs : a.eval s = v) (hown : w.ownsRow base e 1 v n xs)
    (ao : Option Addr) (m c : Nat) (news : List Value) (hx : a.eval x = .slice ao m c) (hnone : ao = none → m = 0 ∧ c = 0) (hl : news.length = m) (hnews : ∀ ad, ao = some ad → ∀ j u, news[j]? = some u → w.cell? (ad.add j) = some u) (h1 : ∀ u ∈ news, u.oneCell' = true)
    (h63 : n + m ≤ maxLen) (hbytes : (n + m) * bytes ≤ 140737488355328) (hbase : base ≤ w.heap.size)
    (h : ∀ v' w', w'.ownsRow base e 1 v' (n + m) (xs ++ news) → Below base w w' → wpList P ops Q rest (a.put o.dst v') w') : wpList P ops Q (o :: rest) a w := by
  obtain ⟨i, hi, hz0, hz1, hz2⟩ := info_parts hinfo
  cases ao with
  | some ad => exact wpList_append_own w hgd s x t ho base e i z 1 bytes ht hi hz0 hz1 hz2 hz (by decide) v n xs hs hown ad m c news hx (by rw [hl, Nat.mul_one]) (hnews ad rfl) h1 h63 hbytes hbase (fun v' w' h2 h3 _ => h v' w' h2 ((Below.refl _ _).grown h3 hbase (fun k hk => (hown.lt k hk).1)))
  | none =>
    obtain ⟨rfl, rfl⟩ := hnone rfl
    obtain rfl := List.eq_nil_of_length_eq_zero hl
    refine wpList_append_own_none hgd s x t ho base e i 1 ht hi v n xs hs hown hx ?_
    exact h v w (by simpa using hown) (Below.refl _ _)
/-- Bytes as the source of an append. -/
theorem BytesAt.news {w : World} {a : Option Addr} {len cap : Nat} {l : List Nat} (h : BytesAt w a len cap l) :
    ∀ ad, a = some ad → ∀ j u, (l.map fun (c : Nat) => Value.int .u8 (c : Int))[j]? = some u → w.cell? (ad.add j) = some u := by
  intro ad ha j u hu
  have hj : j < l.length := by have := (List.getElem?_eq_some_iff.1 hu).1; simpa using this
  rcases h.5 with h0 | ⟨b, off, rfl, _, hc⟩
  · have := h.1; omega
  · obtain rfl := Option.some.inj ha
    rw [Addr.add_lit, hc j (by rw [← h.1]; exact hj), ← hu]
    simp [hj]
theorem bytes_oneCell (l : List Nat) : ∀ u ∈ (l.map fun (c : Nat) => Value.int .u8 (c : Int)), u.oneCell' = true := by
  intro u hu
  obtain ⟨_, _, rfl⟩ := List.mem_map.1 hu
  rfl

theorem n5news (l : List Nat) (a : Option Addr) (len cap : Nat) (w : World) (h : BytesAt w a len cap l) :
    ∀ ad, a = some ad → ∀ j u, (l.map fun (c : Nat) => Value.int .u8 (c : Int))[j]? = some u → w.cell? (ad.add j) = some u := h.news
theorem cellAlloc (w : World) (o : Obj) {a : Addr} {v : Value} (h : w.cell? a = some v) : (w.alloc o).cell? a = some v := Lib.cell?_alloc_marked o h
theorem oneCell_u8 (n : Int) : ∀ u ∈ [Value.int .u8 n], u.oneCell' = true := by
  intro u hu
  obtain rfl := List.mem_singleton.1 hu
  rfl
theorem ownSnoc {w : World} {base : Nat} {v : Value} {len : Nat} {l : List Nat} {c : Nat} (h : w.ownsRow base 5 1 v (len + 1) ((l.map fun (c : Nat) => Value.int .u8 (c : Int)) ++ [.int .u8 (c : Int)]))
    (hb : ∀ c ∈ l, c < 256) (hc : c < 256) (hn : len + 1 ≤ 9223372036854775807) (hl : l.length = len) : ∃ a cap, v = .slice a (len + 1) cap ∧ BytesAt w a (len + 1) cap (l ++ [c]) := by
  refine ownBytes (l := l ++ [c]) (by rw [List.map_append]; exact h) ?_ hn
  intro x hx
  rcases List.mem_append.1 hx with h | h
  · exact hb x h
  · obtain rfl := List.mem_singleton.1 h; exact hc
set_option maxHeartbeats 1000000 in
theorem steps_short (w : World) (a : Option Addr) (len cap : Nat) (l : List Nat) (c d seed other : Nat) (hc : c < 256) (hd : d < 256) (hs : seed < 18446744073709551616) (ho : other < 18446744073709551616) (hl : BytesAt w a len cap l) (hlen : len ≤ 1000) :
    Calls Try.prog 5 #[.agg #[.slice a len cap, .int .u8 (c : Int), .int .u8 (d : Int), .int .u64 (seed : Int), .int .u64 (other : Int)]] w fun e w' => e = .returned (.bool true) ∧ Below w.heap.size w w' := by
  have hl0 := hl
  obtain ⟨h1, h2, h3, hnone, h4⟩ := hl
  go_enter Try.func5, Try.ntmps5
  go_wp2_with fail
  refine (shown_any _).mono ?_
  rintro e w1 ⟨rfl, b1⟩
  have hs1 := b1.size
  simp at hs1
  have hs1' : w.heap.size ≤ w1.heap.size := by omega
  have bb1 : Below w.heap.size w w1 := ((Below.refl _ _).alloc (Nat.le_refl _) _).trans (b1.mono (by simp))
  have hb1 := hl0.mono bb1
  obtain ⟨n1, n2, n3, n4, n5⟩ := hb1
  have hN1 := Lib.hid (hl0.mono bb1).news
  have hL1 := Lib.hid (show (l.map fun (c : Nat) => Value.int .u8 (c : Int)).length = len by simpa using h1)
  have hA : (((hashS (l ++ [c]) seed : Nat) : Int) == ((hashS (l ++ [d]) seed : Nat) : Int)) = ((c : Int) == (d : Int)) := by
    rw [Bool.eq_iff_iff, beq_iff_eq, beq_iff_eq]
    have := hashS_last l seed c d hs hc hd
    omega
  have hB : (((hashS l seed : Nat) : Int) == ((hashS l other : Nat) : Int)) = ((seed : Int) == (other : Int)) := by
    rw [Bool.eq_iff_iff, beq_iff_eq, beq_iff_eq]
    have := hashS_seed l seed other hs ho h3
    omega
  go_wp2_with (first
    | (at_builtin; refine append_any rfl (.tmp 26) (.tmp 27) 22 rfl w1.heap.size 5 (.int .u8 0) 1 Try.underlying22 Try.info_u8 rfl _ 0 [] rfl ?_ a len cap (l.map fun (c : Nat) => Value.int .u8 (c : Int)) rfl ?_ ?_ ?_ ?_ ?_ ?_ ?_ ?_; exact (World.ownsRow_made w1 #[] 0 (Nat.le_refl _) (by unfold maxLen; omega) rfl); exact hnone; exact hL1.out; exact (fun ad ha j u hu => cellAlloc w1 _ (hN1.out ad ha j u hu)); exact (bytes_oneCell l); (unfold maxLen; omega); omega; (simp; try omega); intro vc1 wc1 ownc1 belc1; have sizc1 := belc1.size; simp only [Nat.zero_add, List.nil_append] at ownc1; simp at sizc1)
    | (at_builtin; refine append_any rfl (.tmp 28) (.tmp 30) 22 rfl w1.heap.size 5 (.int .u8 0) 1 Try.underlying22 Try.info_u8 rfl _ len (l.map fun (c : Nat) => Value.int .u8 (c : Int)) rfl ?_ (some ⟨wc1.heap.size, 0, none⟩) 1 1 [.int .u8 (c : Int)] rfl ?_ ?_ ?_ ?_ ?_ ?_ ?_ ?_; exact (ownc1.alloc _); exact nofun; exact rfl; exact (fun ad ha => by obtain rfl := Option.some.inj ha; exact cell_one_new _ _ _); exact oneCell_u8 _; (unfold maxLen; omega); omega; (simp; omega); intro vc2 wc2 ownc2 belc2; have sizc2 := belc2.size; simp at sizc2; obtain ⟨pc, qc, rfl, byc⟩ := ownSnoc ownc2 h3 hc (by omega) h1; have totc : Below w1.heap.size w1 wc2 := (((Below.refl _ _).alloc (Nat.le_refl _) _).trans belc1).alloc (by omega) _ |>.trans belc2; have hN2 := Lib.hid ((hl0.mono bb1).mono totc).news)
    | (at_builtin; refine append_any rfl (.tmp 32) (.tmp 33) 22 rfl wc2.heap.size 5 (.int .u8 0) 1 Try.underlying22 Try.info_u8 rfl _ 0 [] rfl ?_ a len cap (l.map fun (c : Nat) => Value.int .u8 (c : Int)) rfl ?_ ?_ ?_ ?_ ?_ ?_ ?_ ?_; exact (World.ownsRow_made wc2 #[] 0 (Nat.le_refl _) (by unfold maxLen; omega) rfl); exact hnone; exact hL1.out; exact (fun ad ha j u hu => cellAlloc wc2 _ (hN2.out ad ha j u hu)); exact (bytes_oneCell l); (unfold maxLen; omega); omega; (simp; try omega); intro vd1 wd1 ownd1 beld1; have sizd1 := beld1.size; simp only [Nat.zero_add, List.nil_append] at ownd1; simp at sizd1)
    | (at_builtin; refine append_any rfl (.tmp 34) (.tmp 36) 22 rfl wc2.heap.size 5 (.int .u8 0) 1 Try.underlying22 Try.info_u8 rfl _ len (l.map fun (c : Nat) => Value.int .u8 (c : Int)) rfl ?_ (some ⟨wd1.heap.size, 0, none⟩) 1 1 [.int .u8 (d : Int)] rfl ?_ ?_ ?_ ?_ ?_ ?_ ?_ ?_; exact (ownd1.alloc _); exact nofun; exact rfl; exact (fun ad ha => by obtain rfl := Option.some.inj ha; exact cell_one_new _ _ _); exact oneCell_u8 _; (unfold maxLen; omega); omega; (simp; omega); intro vd2 wd2 ownd2 beld2; have sizd2 := beld2.size; simp at sizd2; obtain ⟨pd, qd, rfl, byd⟩ := ownSnoc ownd2 h3 hd (by omega) h1; have totd : Below wc2.heap.size wc2 wd2 := (((Below.refl _ _).alloc (Nat.le_refl _) _).trans beld1).alloc (by omega) _ |>.trans beld2; have byc2 := byc.mono totd; have byl := ((hl0.mono bb1).mono totc).mono (totd.mono (by omega))))
  refine (mixHash_any _ _ _ _ _ _ hs byc2).mono ?_
  rintro e w5 ⟨rfl, b5⟩
  have byd5 := byd.mono b5
  have byl5 := byl.mono b5
  go_wp2_with fail
  refine (mixHash_any _ _ _ _ _ _ hs byd5).mono ?_
  rintro e w6 ⟨rfl, b6⟩
  have byl6 := byl5.mono b6
  go_wp2_with fail
  refine (mixHash_any _ _ _ _ _ _ hs byl6).mono ?_
  rintro e w7 ⟨rfl, b7⟩
  have byl7 := byl6.mono b7
  go_wp2_with fail
  refine (mixHash_any _ _ _ _ _ _ ho byl7).mono ?_
  rintro e w8 ⟨rfl, b8⟩
  have s5 := b5.size
  have s6 := b6.size
  have s7 := b7.size
  have zc := totc.size
  have zd := totd.size
  go_wp2
  go_ret
  exact ⟨rfl, bb1.trans ((totc.mono hs1').trans ((totd.mono (by omega)).trans ((b5.mono (by omega)).trans ((b6.mono (by omega)).trans ((b7.mono (by omega)).trans (b8.mono (by omega)))))))⟩
/-- Too long a text is asked nothing but the head. -/
theorem steps_long (w : World) (a : Option Addr) (len cap : Nat) (c d seed other : Int) (hlen : ¬ len ≤ 1000) (hm : len ≤ 9223372036854775807) :
    Calls Try.prog 5 #[.agg #[.slice a len cap, .int .u8 c, .int .u8 d, .int .u64 seed, .int .u64 other]] w fun e w' => e = .returned (.bool true) ∧ Below w.heap.size w w' := by
  have hlt : (1000 : Int) < (len : Int) := by omega
  go_enter Try.func5, Try.ntmps5
  go_wp2_with fail
  refine (shown_any _).mono ?_
  rintro e w1 ⟨rfl, b1⟩
  go_wp2
  go_ret
  exact ⟨rfl, ((Below.refl _ _).alloc (Nat.le_refl _) _).trans (b1.mono (by simp))⟩
theorem steps_any (w : World) (a : Option Addr) (len cap : Nat) (l : List Nat) (c d seed other : Nat) (hc : c < 256) (hd : d < 256) (hs : seed < 18446744073709551616) (ho : other < 18446744073709551616) (hl : BytesAt w a len cap l) :
    Calls Try.prog 5 #[.agg #[.slice a len cap, .int .u8 (c : Int), .int .u8 (d : Int), .int .u64 (seed : Int), .int .u64 (other : Int)]] w fun e w' => e = .returned (.bool true) ∧ Below w.heap.size w w' := by
  by_cases h : len ≤ 1000
  · exact steps_short w a len cap l c d seed other hc hd hs ho hl h
  · exact steps_long w a len cap c d seed other h hl.2
end Go.Proofs.Ytgmdiieoikldfaa
