/- Contract of (*page).lay: one bit more on the page. -/
import Derived.Test.YtblipgmllpniaaaBits1
import Derived.Lib.SmallJoins
namespace Go.Proofs.Ytblipgmllpniaaa
open Go.RowKit
set_option linter.unusedVariables false

theorem own_head {w : World} {base : Nat} {e : TypeId} {v : Value} {n : Nat} {xs : List Value} (h : w.ownsRow base e 1 v n xs) (hn : 0 < n) :
    ∃ g cap cur, v = .slice (some ⟨g, 0, none⟩) n cap ∧ base ≤ g ∧ w.heap[g]? = some (.cells cur e (0, 0)) ∧ n ≤ cap ∧ cap ≤ maxLen ∧ cur.size = cap ∧ cur.toList.take n = xs := by
  rcases h.2 with ⟨_, h0⟩ | ⟨g, cap, cur, hv, hb, hh, h1, h2, h3, h4⟩
  · omega
  · exact ⟨g, cap, cur, hv, hb, hh, h1, h2, by simpa using h3, by simpa using h4⟩
theorem cur_cell {w : World} {g : Nat} {cur : Array Value} {e : TypeId} {fr : Nat × Nat} (h : w.heap[g]? = some (.cells cur e fr)) (i : Nat) : w.cell? ⟨g, i, none⟩ = cur[i]? := by simp [World.cell?, h]
theorem take_getElem? {cur : Array Value} {n : Nat} {xs : List Value} (h : cur.toList.take n = xs) (i : Nat) (hi : i < n) : cur[i]? = xs[i]? := by
  rw [← h, List.getElem?_take, if_pos hi, Array.getElem?_toList]

theorem or_table : ∀ (x : Fin 256) (r : Fin 8) (b : Fin 2), x.val / 2 ^ (7 - r.val) % 2 = 0 → x.val ||| (b.val * 2 ^ (7 - r.val)) = x.val + b.val * 2 ^ (7 - r.val) := by decide +kernel
theorem lay_val (x b r : Nat) (hx : x < 256) (hr : r ≤ 7) (hb : b < 2) (h0 : x / 2 ^ (7 - r) % 2 = 0) :
    bits .or .u8 (x : Int) (IntKind.u64.wrap ((b : Int) * 2 ^ (7 - r)) % 256) = ((x + b * 2 ^ (7 - r) : Nat) : Int) := by
  have hp : 2 ^ (7 - r) ≤ 2 ^ 7 := Nat.pow_le_pow_right (by omega) (by omega)
  have hp' : b * 2 ^ (7 - r) ≤ 128 := by
    have h2 : b = 0 ∨ b = 1 := by omega
    rcases h2 with rfl | rfl <;> simp at hp ⊢
    exact hp
  have e : IntKind.u64.wrap ((b : Int) * 2 ^ (7 - r)) % 256 = ((b * 2 ^ (7 - r) : Nat) : Int) := by
    rw [show ((b : Int) * 2 ^ (7 - r)) = ((b * 2 ^ (7 - r) : Nat) : Int) from by push_cast; rfl, IntKind.wrap_u64]
    omega
  rw [e, u8_or_nat _ _ hx (by omega)]
  have := or_table ⟨x, hx⟩ ⟨r, by omega⟩ ⟨b, hb⟩ h0
  simp only at this
  rw [this]
theorem byte_free (bs : List Nat) (hbs : IsBits bs) : byteOf bs (bs.length / 8) / 2 ^ (7 - bs.length % 8) % 2 = 0 := by
  have h := bitAt_pack hbs bs.length
  rw [getD_end bs _ (Nat.le_refl _)] at h
  by_cases hk : bs.length / 8 < (bs.length + 7) / 8
  · unfold bitAt at h
    rw [pack_getD bs _ hk] at h
    exact h
  · rw [byteOf_end bs _ (by omega)]; simp
theorem own_set {w : World} {base g n cap q : Nat} {e : TypeId} {cur : Array Value} {xs : List Value} {y : Value} (hl : xs.length = n) (hb : base ≤ g) (hh : w.heap[g]? = some (.cells cur e (0, 0))) (h1 : n ≤ cap) (h2 : cap ≤ maxLen) (h3 : cur.size = cap) (h4 : cur.toList.take n = xs) :
    (w.setCell ⟨g, q, none⟩ y).ownsRow base e 1 (.slice (some ⟨g, 0, none⟩) n cap) n (xs.set q y) := by
  refine ⟨by rw [List.length_set]; omega, .inr ⟨g, cap, cur.setIfInBounds q y, rfl, hb, Joins.block_setCell hh y, h1, h2, by simpa using h3, ?_⟩⟩
  rw [Array.toList_setIfInBounds, Nat.mul_one, List.take_set, h4]
theorem kept_set {g base h q : Nat} {w : World} {cur : Array Value} {fr : Nat × Nat} {y : Value} (hbh : base ≤ h) (hh : w.heap[h]? = some (.cells cur 5 fr)) : KeptOut g base w (w.setCell ⟨h, q, none⟩ y) := by
  intro k o ho hk
  by_cases e : k = h
  · subst e
    rw [hh] at ho
    simp at ho
    subst ho
    rcases hk with hk | ⟨_, hk⟩
    · omega
    · exact absurd rfl (hk cur fr)
  · rw [Below.heap_setCell _ _ _ _ e]; exact ho
theorem kept_page {g base i : Nat} {w : World} {y : Value} (hbg : base ≤ g) : KeptOut g base w (w.setCell ⟨g, i, none⟩ y) := by
  intro k o ho hk
  have e : k ≠ g := by rcases hk with hk | ⟨hk, _⟩ <;> omega
  rw [Below.heap_setCell _ _ _ _ e]; exact ho
theorem KeptOut.trans {g base : Nat} {a b c : World} (h : KeptOut g base a b) (k : KeptOut g base b c) : KeptOut g base a c := fun i o ho hi => k i o (h i o ho hi) hi
theorem KeptOut.drew {g base : Nat} {a b : World} (h : KeptOut g base a b) : KeptOut g base a b.drew := h
theorem KeptOut.refl (g base : Nat) (a : World) : KeptOut g base a a := fun _ _ h _ => h
set_option maxHeartbeats 2000000 in
theorem lay_within (w : World) (g base : Nat) (bs : List Nat) (b : Nat) (hb : b < 2) (hbs : IsBits bs) (hp : PageAt w g base bs) (hr0 : bs.length % 8 ≠ 0) (hsmall : bs.length ≤ 1099511627776) :
    Calls Try.prog 46 #[.pointer (some ⟨g, 0, none⟩), .int .u64 (b : Int)] w fun e w' => e = .returned (.tuple #[]) ∧ Laid g base (bs ++ [b]) w w' := by
  obtain ⟨v, hg, hown, hbg⟩ := hp
  have c0 : w.cell? ⟨g, 0, none⟩ = some v := by simp [World.cell?, hg]
  have c1 : w.cell? ⟨g, 1, none⟩ = some (.int .i64 (bs.length : Int)) := by simp [World.cell?, hg]
  have f1 : w.frozen? ⟨g, 1, none⟩ = false := by simp [World.frozen?, hg]
  have hlt : g < w.heap.size := (Array.getElem?_eq_some_iff.1 hg).1
  obtain ⟨h, cap, cur, rfl, hbh, hh, hnc, hcm, hsz, htake⟩ := own_head hown (by omega)
  obtain ⟨N, hN⟩ : ∃ N, N = bs.length := ⟨_, rfl⟩
  obtain ⟨r, hr⟩ : ∃ r : Nat, (N : Int) % 8 = (r : Int) := ⟨N % 8, by omega⟩
  obtain ⟨q, hq⟩ : ∃ q : Nat, (N : Int) / 8 = (q : Int) := ⟨N / 8, by omega⟩
  obtain ⟨x, hx⟩ : ∃ x, x = byteOf bs (bs.length / 8) := ⟨_, rfl⟩
  have hqN : q = bs.length / 8 := by omega
  have hxb : x < 256 := by rw [hx]; exact byteOf_lt hbs _
  have ce : w.cell? ⟨h, q, none⟩ = some (.int .u8 (x : Int)) := by
    rw [cur_cell hh, take_getElem? htake q (by omega), u8s, List.getElem?_map]
    have : (pack bs)[q]? = some x := by
      rw [hx, hqN, List.getElem?_eq_getElem (by rw [pack_length]; omega)]
      simp [pack]
    rw [this]; rfl
  have fe : w.frozen? ⟨h, q, none⟩ = false := by simp [World.frozen?, hh]
  have hr1 : 1 ≤ r := by omega
  have hr7 : r ≤ 7 := by omega
  have hqL : q < (bs.length + 7) / 8 := by omega
  have hne : ((r : Int) == 0) = false := by simp; omega
  have hhg : h ≠ g := by
    intro e; rw [e] at hh; rw [hh] at hg; simp at hg
  rw [← hN] at c0 c1
  obtain ⟨L, hL⟩ : ∃ L, L = (N + 7) / 8 := ⟨_, rfl⟩
  rw [← hL] at c0
  rw [← hN, ← hL] at hqL
  have HN := Lib.hid hN
  have HL := Lib.hid hL
  have HX := Lib.hid hx
  have HQ := Lib.hid hqN
  have HG := Lib.hid hg
  have HH := Lib.hid hh
  have HT := Lib.hid htake
  have HS := Lib.hid hsz
  clear hN hL hx hqN hg hh htake hsz
  have hNs : N ≤ 1099511627776 := by rw [HN.out]; exact hsmall
  go_enter Try.func46, Try.ntmps46
  go_wp2
  go_region
  go_wp2
  go_end0
  have hNn := HN.out
  have hrN : r = bs.length % 8 := by omega
  have hval := lay_val x b r hxb hr7 hb (by rw [HX.out, hrN]; exact byte_free bs hbs)
  rw [hval]
  have hset : u8s (pack (bs ++ [b])) = (u8s (pack bs)).set q (.int .u8 ((x + b * 2 ^ (7 - r) : Nat) : Int)) := by
    rw [pack_snoc_within bs b hr0, HX.out, HQ.out, hrN]; simp [u8s]
  have hlen : (bs ++ [b]).length = N + 1 := by rw [List.length_append, List.length_singleton]; omega
  have hL1 : ((bs ++ [b]).length + 7) / 8 = L := by rw [hlen, HL.out]; omega
  have hLL : (bs.length + 7) / 8 = L := by rw [HL.out, hNn]
  refine ⟨rfl, ⟨⟨.slice (some ⟨h, 0, none⟩) L cap, ?_, ?_, hbg⟩, ?_, rfl, rfl, rfl, by simp [World.setCell]⟩⟩
  · have hg2 : (w.setCell ⟨h, q, none⟩ (.int .u8 ((x + b * 2 ^ (7 - r) : Nat) : Int))).heap[g]? = some (.cells #[.slice (some ⟨h, 0, none⟩) L cap, .int .i64 (N : Int)] 83 (0, 0)) := by
      rw [Below.heap_setCell _ _ _ _ (fun e => hhg e.symm)]
      have := HG.out
      rw [this, hLL, hNn]
    have hg3 := Joins.block_setCell (i := 1) hg2 (.int .i64 ((N : Int) + 1))
    rw [hlen]
    refine Eq.trans hg3 ?_
    simp
  · rw [hL1, hset]
    have ho := own_set (q := q) (y := .int .u8 ((x + b * 2 ^ (7 - r) : Nat) : Int)) (by rw [u8s_length, pack_length, hLL]) hbh HH.out (by omega) hcm HS.out (by rw [← hLL]; exact HT.out)
    obtain ⟨ho1, ho2⟩ := ho
    refine ⟨ho1, ?_⟩
    rcases ho2 with ⟨hv, _⟩ | ⟨g', cap', cur', hv, hb', hh', r1, r2, r3, r4⟩
    · simp at hv
    · simp at hv
      obtain ⟨rfl, rfl⟩ := hv
      exact .inr ⟨_, _, cur', rfl, hb', (Below.heap_setCell _ _ _ _ hhg).trans hh', r1, r2, r3, r4⟩
  · exact (kept_set hbh HH.out).drew.trans (kept_page hbg)
theorem own_not {w : World} {base g : Nat} {e t : TypeId} {v : Value} {n : Nat} {xs : List Value} {cs : Array Value} {fr : Nat × Nat} (h : w.ownsRow base e 1 v n xs) (hg : w.heap[g]? = some (.cells cs t fr)) (hne : t ≠ e) : some g ≠ v.ownBlock := by
  rcases h.2 with ⟨rfl, _⟩ | ⟨k, cap, cur, rfl, _, hh, _⟩
  · simp [Value.ownBlock]
  · intro e'
    simp [Value.ownBlock] at e'
    subst e'
    rw [hh] at hg
    simp at hg
    exact hne hg.2.1.symm
theorem kept_grown {g base : Nat} {w w' : World} {v : Value} {n : Nat} {xs : List Value} (hown : w.ownsRow base 5 1 v n xs) (hg : w.grownBy w' v.ownBlock) : KeptOut g base w w' := by
  intro k o ho hk
  have hlt : k < w.heap.size := (Array.getElem?_eq_some_iff.1 ho).1
  rw [hg.block k hlt ?_]
  · exact ho
  · intro e
    rcases hk with hk | ⟨_, hk⟩
    · have := (hown.lt k e.symm).1; omega
    · rcases hown.2 with ⟨rfl, _⟩ | ⟨h, cap, cur, rfl, _, hh, _⟩
      · simp [Value.ownBlock] at e
      · simp [Value.ownBlock] at e
        subst e
        rw [hh] at ho
        simp at ho
        exact hk cur (0, 0) ho.symm
theorem kept_alloc {g base : Nat} {w : World} (o : Obj) : KeptOut g base w (w.alloc o) := fun k o' ho _ => by
  rw [Below.heap_alloc _ _ _ (Array.getElem?_eq_some_iff.1 ho).1]; exact ho
theorem own_setOther {w : World} {base h : Nat} {e : TypeId} {v : Value} {n : Nat} {xs : List Value} {q : Nat} {y : Value} (ho : w.ownsRow base e 1 v n xs) (hne : some h ≠ v.ownBlock) : (w.setCell ⟨h, q, none⟩ y).ownsRow base e 1 v n xs := by
  obtain ⟨h1, h2⟩ := ho
  refine ⟨h1, ?_⟩
  rcases h2 with h0 | ⟨k, cap, cur, rfl, hb, hh, r⟩
  · exact .inl h0
  · refine .inr ⟨k, cap, cur, rfl, hb, ?_, r⟩
    rw [Below.heap_setCell _ _ _ _ (fun e => hne (by simp [Value.ownBlock, e]))]; exact hh
theorem ne_of_types {w : World} {h g : Nat} {c1 c2 : Array Value} {t1 t2 : TypeId} {f1 f2 : Nat × Nat} (h1 : w.heap[h]? = some (.cells c1 t1 f1)) (h2 : w.heap[g]? = some (.cells c2 t2 f2)) (ht : t1 ≠ t2) : h ≠ g := by
  intro e
  rw [e, h2] at h1
  simp at h1
  exact ht h1.2.1.symm
theorem pageEnd {w : World} {h q : Nat} {bs : List Nat} {cur : Array Value} {e : TypeId} {fr : Nat × Nat} (hh : w.heap[h]? = some (.cells cur e fr)) (ht : cur.toList.take (q + 1) = u8s (pack bs) ++ [.int .u8 0]) (hq : q = (u8s (pack bs)).length) :
    w.cell? ⟨h, q, none⟩ = some (.int .u8 0) := by
  rw [cur_cell hh, take_getElem? ht q (by omega), hq]; simp
set_option maxHeartbeats 4000000 in
theorem lay_new (w : World) (g base : Nat) (bs : List Nat) (b : Nat) (hb : b < 2) (hbs : IsBits bs) (hp : PageAt w g base bs) (hr0 : bs.length % 8 = 0) (hsmall : bs.length ≤ 1099511627776) (hbase : base ≤ w.heap.size) :
    Calls Try.prog 46 #[.pointer (some ⟨g, 0, none⟩), .int .u64 (b : Int)] w fun e w' => e = .returned (.tuple #[]) ∧ Laid g base (bs ++ [b]) w w' := by
  obtain ⟨v, hg, hown, hbg⟩ := hp
  have c0 : w.cell? ⟨g, 0, none⟩ = some v := by simp [World.cell?, hg]
  have c1 : w.cell? ⟨g, 1, none⟩ = some (.int .i64 (bs.length : Int)) := by simp [World.cell?, hg]
  have f0 : w.frozen? ⟨g, 0, none⟩ = false := by simp [World.frozen?, hg]
  have f1 : w.frozen? ⟨g, 1, none⟩ = false := by simp [World.frozen?, hg]
  have hlt : g < w.heap.size := (Array.getElem?_eq_some_iff.1 hg).1
  have hgv := own_not hown hg (by decide)
  obtain ⟨av, cv, rfl, hlc⟩ := own_slice hown
  obtain ⟨N, hN⟩ : ∃ N, N = bs.length := ⟨_, rfl⟩
  have hr : (N : Int) % 8 = 0 := by omega
  obtain ⟨q, hq⟩ : ∃ q : Nat, (N : Int) / 8 = (q : Int) := ⟨N / 8, by omega⟩
  have hqN : q = bs.length / 8 := by omega
  have hqL : (bs.length + 7) / 8 = q := by omega
  rw [hqL] at c0 hown hlc hg hgv
  rw [← hN] at c1 hg
  have HN := Lib.hid hN
  have HQ := Lib.hid hqN
  have HL := Lib.hid hqL
  have HG := Lib.hid hg
  have HU := Lib.hid (show q = (u8s (pack bs)).length by rw [u8s_length, pack_length]; omega)
  have HO := Lib.hid hown
  have HV := Lib.hid hgv
  have hNs : N ≤ 1099511627776 := by rw [hN]; exact hsmall
  have hqs : q ≤ 1099511627776 := by omega
  clear hN hqN hqL hg hown hgv
  go_enter Try.func46, Try.ntmps46
  go_wp2_with (first
    | (at_builtin; refine append_grown rfl (.tmp 14) (.tmp 15) 24 rfl base 5 (.int .u8 0) 1 Try.underlying24 Try.info_u8 rfl _ q (u8s (pack bs)) rfl ?_ (some ⟨w.heap.size, 0, none⟩) 1 1 [.int .u8 0] rfl ?_ ?_ ?_ ?_ ?_ ?_ ?_ ?_; exact HO.out.alloc _; exact nofun; exact rfl; exact (fun ad ha => by obtain rfl := Option.some.inj ha; exact cell_one_new _ _ _); exact oneCell_u8 _; (unfold maxLen; omega); omega; (simp; try omega); intro v2 w2 own2 grow2; obtain ⟨h, cap, cur, rfl, hbh, hh, hnc, hcm, hsz, htake⟩ := own_head own2 (by omega); have k0 : w2.cell? ⟨g, 0, none⟩ = some (.slice av q cv) := grow2.cell (cellAlloc w _ c0) HV.out; have k1 : w2.cell? ⟨g, 1, none⟩ = some (.int .i64 (N : Int)) := grow2.cell (cellAlloc w _ c1) HV.out; have hgg : w2.heap[g]? = w.heap[g]? := (grow2.block g (by simp; omega) HV.out).trans (Below.heap_alloc _ _ _ hlt); have kf : w2.frozen? ⟨g, 0, none⟩ = false := (World.frozen?_of_block (w := w) (a := ⟨g, 0, none⟩) hgg).trans f0; have kf1 : w2.frozen? ⟨g, 1, none⟩ = false := (World.frozen?_of_block (w := w) (a := ⟨g, 1, none⟩) hgg).trans f1; have HH := Lib.hid hh; have HT := Lib.hid htake; have HS := Lib.hid hsz; have OW := Lib.hid own2; have GR := Lib.hid grow2; have GG := Lib.hid (hgg.trans HG.out); clear hh htake hsz own2 grow2 hgg; have ce : w2.cell? ⟨h, q, none⟩ = some (.int .u8 0) := pageEnd HH.out HT.out HU.out; have fe : w2.frozen? ⟨h, q, none⟩ = false := (by simp [World.frozen?, HH.out]); have hhg : h ≠ g := ne_of_types HH.out GG.out (by decide)))
  go_region
  go_wp2
  go_end0
  have hy : bits .or .u8 0 ((b : Int) * 128) = ((b * 128 : Nat) : Int) := by
    have h2 : b = 0 ∨ b = 1 := by omega
    rcases h2 with rfl | rfl <;> decide
  rw [hy]
  have hNn := HN.out
  have hlen : (bs ++ [b]).length = N + 1 := by rw [List.length_append, List.length_singleton]; omega
  have hq1 : ((bs ++ [b]).length + 7) / 8 = q + 1 := by rw [hlen]; have := HL.out; omega
  have hset : u8s (pack (bs ++ [b])) = (u8s (pack bs) ++ [Value.int .u8 0]).set q (.int .u8 ((b * 128 : Nat) : Int)) := by
    have hql := HU.out
    rw [u8s_length] at hql
    rw [pack_snoc_new bs b hr0]; simp [u8s, hql]
  have g1 := Joins.block_setCell (i := 0) GG.out (.slice (some ⟨h, 0, none⟩) (q + 1) cap)
  have h1 := (Below.heap_setCell w2 ⟨g, 0, none⟩ (.slice (some ⟨h, 0, none⟩) (q + 1) cap) h hhg).trans HH.out
  have g2 := (Below.heap_setCell (w2.setCell ⟨g, 0, none⟩ (.slice (some ⟨h, 0, none⟩) (q + 1) cap)) ⟨h, q, none⟩ (.int .u8 ((b * 128 : Nat) : Int)) g (fun e => hhg e.symm)).trans g1
  have g3 := Joins.block_setCell (i := 1) g2 (.int .i64 ((N : Int) + 1))
  refine ⟨rfl, ⟨⟨.slice (some ⟨h, 0, none⟩) (q + 1) cap, ?_, ?_, hbg⟩, ?_, ?_, ?_, ?_, ?_⟩⟩
  · rw [hlen]
    refine Eq.trans g3 ?_
    simp
  · rw [hq1, hset]
    have ho := own_set (q := q) (y := .int .u8 ((b * 128 : Nat) : Int)) (by rw [List.length_append, List.length_singleton, ← HU.out]) hbh h1 hnc hcm HS.out HT.out
    have ho3 := own_setOther (q := 1) (y := .int .i64 ((N : Int) + 1)) ho (h := g) (by simp [Value.ownBlock]; exact fun e => hhg e.symm)
    exact ho3
  · exact ((((kept_alloc _).trans (kept_grown (HO.out.alloc _) GR.out)).trans (kept_page hbg)).trans (kept_set hbh h1)).trans (kept_page hbg)
  · exact GR.out.os
  · exact GR.out.tape
  · exact GR.out.output
  · have := GR.out.size
    simp at this
    simp [World.setCell]; omega
theorem lay_any (w : World) (g base : Nat) (bs : List Nat) (b : Nat) (hb : b < 2) (hbs : IsBits bs) (hp : PageAt w g base bs) (hsmall : bs.length ≤ 1099511627776) (hbase : base ≤ w.heap.size) :
    Calls Try.prog 46 #[.pointer (some ⟨g, 0, none⟩), .int .u64 (b : Int)] w fun e w' => e = .returned (.tuple #[]) ∧ Laid g base (bs ++ [b]) w w' := by
  by_cases h : bs.length % 8 = 0
  · exact lay_new w g base bs b hb hbs hp h hsmall hbase
  · exact lay_within w g base bs b hb hbs hp h hsmall
end Go.Proofs.Ytblipgmllpniaaa
