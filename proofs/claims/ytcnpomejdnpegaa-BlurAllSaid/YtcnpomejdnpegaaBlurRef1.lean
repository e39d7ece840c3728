/- The document's rows of places: in, all, with. -/
import Derived.Test.YtcnpomejdnpegaaBlurB
import Derived.Test.YtcnpomejdnpegaaMixTells
namespace Go.Proofs.Ytcnpomejdnpegaa
open Go.RowKit
set_option linter.unusedVariables false

/-- Natural numbers as the program's. -/
def natI (l : List Nat) : List Int := l.map (fun (p : Nat) => (p : Int))
theorem natI_length (l : List Nat) : (natI l).length = l.length := List.length_map ..
theorem natI_getD (l : List Nat) (i : Nat) : (natI l).getD i 0 = ((l.getD i 0 : Nat) : Int) := by
  unfold natI
  simp only [List.getD_eq_getElem?_getD, List.getElem?_map]
  cases l[i]? <;> simp
theorem natI_snoc (l : List Nat) (p : Nat) : natI (l ++ [p]) = natI l ++ [(p : Int)] := by simp [natI]
theorem mem_getD (on : List Nat) (p : Nat) : p ∈ on ↔ ∃ i, i < on.length ∧ on.getD i 0 = p := by
  rw [List.mem_iff_getElem]
  constructor
  · rintro ⟨i, hi, h⟩
    exact ⟨i, hi, by rw [List.getD_eq_getElem?_getD, List.getElem?_eq_getElem hi]; exact h⟩
  · rintro ⟨i, hi, h⟩
    refine ⟨i, hi, ?_⟩
    rw [List.getD_eq_getElem?_getD, List.getElem?_eq_getElem hi] at h
    exact h
theorem withV_snoc : ∀ (ps on : List Nat) (p : Nat), withV on (ps ++ [p]) = if p ∈ withV on ps then withV on ps else withV on ps ++ [p]
  | [], on, p => rfl
  | q :: r, on, p => by
    show withV (if q ∈ on then on else on ++ [q]) (r ++ [p]) = _
    rw [withV_snoc r]
    rfl
theorem take_snoc (l : List Nat) (j : Nat) (h : j < l.length) : l.take (j + 1) = l.take j ++ [l.getD j 0] := by
  rw [List.take_add_one, List.getD_eq_getElem?_getD, List.getElem?_eq_getElem h]
  rfl
/-- A row of places in memory. -/
structure NatsAt (w : World) (a : Option Addr) (len cap : Nat) (on : List Nat) : Prop where
  ints : IntsAt w a len (natI on)
  nil : a = none → len = 0 ∧ cap = 0
theorem NatsAt.mono {w w' : World} {a : Option Addr} {len cap : Nat} {on : List Nat} (h : NatsAt w a len cap on) (hb : Below w.heap.size w w') : NatsAt w' a len cap on := ⟨h.ints.mono hb, h.nil⟩
theorem NatsAt.len_eq {w : World} {a : Option Addr} {len cap : Nat} {on : List Nat} (h : NatsAt w a len cap on) : on.length = len := by
  have := h.ints.len_eq
  rwa [natI_length] at this
theorem NatsAt.small {w : World} {a : Option Addr} {len cap : Nat} {on : List Nat} (h : NatsAt w a len cap on) : len ≤ 9223372036854775807 := h.ints.small
theorem NatsAt.at_ {w : World} {a : Option Addr} {len cap : Nat} {on : List Nat} (h : NatsAt w a len cap on) : len = 0 ∨ ∃ b off, a = some ⟨b, off, none⟩ ∧ b < w.heap.size ∧ ∀ i, i < len → w.cell? ⟨b, off + i, none⟩ = some (.int .i64 (on.getD i 0 : Nat)) := by
  rcases h.ints.at_ with h0 | ⟨b, off, ha, hb, hi⟩
  · exact .inl h0
  · exact .inr ⟨b, off, ha, hb, fun i hil => by rw [hi i hil, natI_getD]⟩
def natV (l : List Nat) : List Value := l.map (fun (p : Nat) => Value.int .i64 (p : Int))
theorem natV_snoc (l : List Nat) (p : Nat) : natV (l ++ [p]) = natV l ++ [.int .i64 (p : Int)] := by simp [natV]
theorem natV_eq (l : List Nat) : natV l = (natI l).map (Value.int .i64) := by simp [natV, natI]
theorem natV_len (l : List Nat) : (natV l).length = l.length := by simp [natV]
theorem natV_one (l : List Nat) : ∀ u ∈ natV l, u.oneCell' = true := by
  intro u hu
  obtain ⟨p, _, rfl⟩ := List.mem_map.1 hu
  rfl
theorem NatsAt.news {w : World} {a : Option Addr} {len cap : Nat} {on : List Nat} (h : NatsAt w a len cap on) : ∀ ad, a = some ad → ∀ j u, (natV on)[j]? = some u → w.cell? (ad.add j) = some u := by
  intro ad ha j u hu
  have hj : j < on.length := by have := (List.getElem?_eq_some_iff.1 hu).1; rwa [natV_len] at this
  have hlen := h.len_eq
  rcases h.at_ with h0 | ⟨b, off, rfl, _, hc⟩
  · omega
  · obtain rfl := Option.some.inj ha
    rw [Addr.add_lit, hc j (by omega)]
    simp only [natV, List.getElem?_map, List.getElem?_eq_getElem hj, Option.map_some, Option.some.injEq] at hu
    rw [← hu, List.getD_eq_getElem?_getD, List.getElem?_eq_getElem hj]
    rfl
theorem ownNats {w : World} {base : Nat} {v : Value} {l : List Nat} (h : w.ownsRow base 3 1 v l.length (natV l)) (hn : l.length ≤ 9223372036854775807) : ∃ a cap, v = .slice a l.length cap ∧ NatsAt w a l.length cap l ∧ ∀ x, a = some x → base ≤ x.block := by
  have h' := h
  rw [natV_eq] at h'
  obtain ⟨a, cap, rfl, hi⟩ := ownInts h' hn
  refine ⟨a, cap, rfl, ⟨hi, fun ha => ?_⟩, fun x hx => ?_⟩
  · subst ha
    rcases h.2 with ⟨he, hn0⟩ | ⟨g, cap', cur, he, _⟩
    · injection he with _ e1 e2
      exact ⟨e1, e2⟩
    · injection he with e0 e1 e2
      cases e0
  · subst hx
    rcases h.2 with ⟨he, hn0⟩ | ⟨g, cap', cur, he, hbg, _⟩
    · injection he with e0 e1 e2
      cases e0
    · injection he with e0 e1 e2
      cases e0
      exact hbg
theorem NatsAt.off {w w' : World} {a : Option Addr} {len cap : Nat} {on : List Nat} (h : NatsAt w a len cap on) (ho : ∀ x, a = some x → w'.heap[x.block]? = w.heap[x.block]?) (hz : w.heap.size ≤ w'.heap.size) : NatsAt w' a len cap on := by
  refine ⟨⟨h.ints.len_eq, h.ints.small, ?_⟩, h.nil⟩
  rcases h.ints.at_ with h0 | ⟨b, off, ha, hlt, hc⟩
  · exact .inl h0
  · exact .inr ⟨b, off, ha, Nat.lt_of_lt_of_le hlt hz, fun i hi => (World.cell?_of_block (a := ⟨b, off + i, none⟩) (ho ⟨b, off, none⟩ ha)).trans (hc i hi)⟩

set_option maxHeartbeats 1000000 in
theorem in_any (w : World) (a : Option Addr) (len cap : Nat) (on : List Nat) (p : Nat) (h : NatsAt w a len cap on) :
    Calls Try.prog 32 #[.slice a len cap, .int .i64 (p : Nat)] w fun e w' => e = .returned (.bool (decide (p ∈ on))) ∧ w = w' := by
  have hm := h.small
  have hlen := h.len_eq
  obtain ⟨T, hT⟩ : ∃ T, decide (p ∈ on) = T := ⟨_, rfl⟩
  rw [hT]
  have HT := Lib.hid hT
  clear hT
  go_enter Try.func32, Try.ntmps32
  go_wp2_with fail
  go_loop [5] (fun i => ∃ j : Nat, j ≤ len ∧ i = .int .i64 (j : Nat) ∧ ∀ i, i < j → on.getD i 0 ≠ p) (fun i => len - (intOf i).toNat)
  case atStart => exact ⟨0, Nat.zero_le _, rfl, fun i hi => by omega⟩
  case round =>
    obtain ⟨j, hj, rfl, hall⟩ := hrel
    by_cases hjl : j < len
    · have f1 : decide (j < len) = true := by simpa using hjl
      obtain ⟨b, off, rfl, hbs, hat⟩ := h.at_.resolve_left (by omega)
      have hx := hat j hjl
      obtain ⟨q, hq⟩ : ∃ q, on.getD j 0 = q := ⟨_, rfl⟩
      rw [hq] at hx
      by_cases hqp : q = p
      · have f2 : decide (q = p) = true := by simpa using hqp
        have hT : T = true := by
          rw [← HT.out]
          exact decide_eq_true ((mem_getD on p).2 ⟨j, by omega, hq.trans hqp⟩)
        clear hat hall hq f2 hlen
        subst hT
        subst hqp
        go_wp2_with fail
        go_ret
        exact ⟨rfl, rfl⟩
      · have f2 : decide (q = p) = false := by simpa using hqp
        clear hat hlen
        have HQ := Lib.hid hq
        clear hq
        go_wp2_with fail
        refine ⟨⟨j + 1, by omega, by simp, fun i hi => ?_⟩, by simp [intOf]; omega⟩
        by_cases he : i = j
        · rw [he, HQ.out]; exact hqp
        · exact hall i (by omega)
    · have f1 : decide (j < len) = false := by simpa using hjl
      have hT : T = false := by
        rw [← HT.out]
        refine decide_eq_false fun hmem => ?_
        obtain ⟨i, hi, he⟩ := (mem_getD on p).1 hmem
        exact hall i (by omega) he
      clear hall hlen
      subst hT
      go_wp2_with fail
      go_ret
      exact ⟨rfl, rfl⟩

set_option maxHeartbeats 1000000 in
theorem all_any (w : World) (a : Option Addr) (len cap : Nat) (on : List Nat) (pa : Option Addr) (pl pc : Nat) (ps : List Nat) (h : NatsAt w a len cap on) (hp : NatsAt w pa pl pc ps) :
    Calls Try.prog 25 #[.slice a len cap, .slice pa pl pc] w fun e w' => e = .returned (.bool (ps.all (fun p => decide (p ∈ on)))) ∧ w = w' := by
  have hm := hp.small
  have hlen := hp.len_eq
  obtain ⟨T, hT⟩ : ∃ T, ps.all (fun p => decide (p ∈ on)) = T := ⟨_, rfl⟩
  rw [hT]
  have HT := Lib.hid hT
  clear hT
  go_enter Try.func25, Try.ntmps25
  go_wp2_with fail
  go_loop [5] (fun i => ∃ j : Nat, j ≤ pl ∧ i = .int .i64 (j : Nat) ∧ ∀ i, i < j → ps.getD i 0 ∈ on) (fun i => pl - (intOf i).toNat)
  case atStart => exact ⟨0, Nat.zero_le _, rfl, fun i hi => by omega⟩
  case round =>
    obtain ⟨j, hj, rfl, hall⟩ := hrel
    by_cases hjl : j < pl
    · have f1 : decide (j < pl) = true := by simpa using hjl
      obtain ⟨b, off, rfl, hbs, hat⟩ := hp.at_.resolve_left (by omega)
      have hx := hat j hjl
      obtain ⟨q, hq⟩ : ∃ q, ps.getD j 0 = q := ⟨_, rfl⟩
      rw [hq] at hx
      have hin := in_any w a len cap on q h
      have HQ := Lib.hid hq
      have HL := Lib.hid hlen
      clear hq hat hlen
      by_cases hqp : q ∈ on
      · have f2 : decide (q ∈ on) = true := by simpa using hqp
        rw [f2] at hin
        clear f2
        go_wp2_with fail
        refine hin.mono ?_
        rintro e _ ⟨rfl, rfl⟩
        go_wp2_with fail
        refine ⟨⟨j + 1, by omega, by simp, fun i hi => ?_⟩, by simp [intOf]; omega⟩
        by_cases he : i = j
        · rw [he, HQ.out]; exact hqp
        · exact hall i (by omega)
      · have f2 : decide (q ∈ on) = false := by simpa using hqp
        rw [f2] at hin
        have hT : T = false := by
          rw [← HT.out]
          rw [List.all_eq_false]
          exact ⟨q, (mem_getD ps q).2 ⟨j, by rw [HL.out]; exact hjl, HQ.out⟩, by simp [hqp]⟩
        clear f2
        subst hT
        go_wp2_with fail
        refine hin.mono ?_
        rintro e _ ⟨rfl, rfl⟩
        go_wp2_with fail
        go_ret
        exact ⟨rfl, rfl⟩
    · have f1 : decide (j < pl) = false := by simpa using hjl
      have hT : T = true := by
        rw [← HT.out]
        rw [List.all_eq_true]
        intro p hmem
        obtain ⟨i, hi, he⟩ := (mem_getD ps p).1 hmem
        have := hall i (by omega)
        rw [he] at this
        exact decide_eq_true this
      clear hall hlen
      subst hT
      go_wp2_with fail
      go_ret
      exact ⟨rfl, rfl⟩

def NatsOut (on : List Nat) (B : Nat) (w : World) (e : Ending) (w' : World) : Prop := ∃ a n cap, e = .returned (.slice a n cap) ∧ NatsAt w' a n cap on ∧ Below B w w' ∧ ∀ x, a = some x → B ≤ x.block

set_option maxHeartbeats 1000000 in
theorem with_any (w : World) (a : Option Addr) (len cap : Nat) (on : List Nat) (pa : Option Addr) (pl pc : Nat) (ps : List Nat) (h : NatsAt w a len cap on) (hp : NatsAt w pa pl pc ps) (hs : len + pl ≤ 1000000) :
    Calls Try.prog 23 #[.slice a len cap, .slice pa pl pc] w (NatsOut (withV on ps) w.heap.size w) := by
  have hm := hp.small
  have LN := Lib.hid h.len_eq
  have PN := Lib.hid hp.len_eq
  have zb : Below w.heap.size w (w.alloc (.cells #[] 3)) := (Below.refl _ _).alloc (Nat.le_refl _) _
  have nws : ∀ ad, a = some ad → ∀ j u, (natV on)[j]? = some u → (w.alloc (.cells #[] 3)).cell? (ad.add j) = some u := fun ad ha j u hj => cellAlloc w _ (h.news ad ha j u hj)
  go_enter Try.func23, Try.ntmps23
  go_wp2_with (first | (at_builtin; refine append_any rfl (.tmp 8) (.tmp 9) 35 rfl w.heap.size 3 (.int .i64 0) 8 Try.underlying35 Try.info_int rfl _ 0 [] rfl ?_ a len cap (natV on) rfl ?_ ?_ ?_ ?_ ?_ ?_ ?_ ?_; exact (World.ownsRow_made w #[] 0 (Nat.le_refl _) (by unfold maxLen; omega) rfl); exact h.nil; exact (by rw [natV_len]; exact LN.out); exact nws; exact natV_one _; (unfold maxLen; omega); omega; (first | omega | (simp; try omega)); intro v1 w1 own1 bel1; simp only [Nat.zero_add, List.nil_append] at own1; have bel := zb.trans bel1; clear zb bel1 nws))
  rw [← LN.out] at own1
  go_loopw [5, 6] (fun v i wr => ∃ j : Nat, j ≤ pl ∧ i = .int .i64 (j : Nat) ∧ wr.ownsRow w.heap.size 3 1 v (withV on (ps.take j)).length (natV (withV on (ps.take j))) ∧ Below w.heap.size w wr) (fun _ i _ => pl - (intOf i).toNat)
  case atStart => exact ⟨0, Nat.zero_le _, rfl, own1, bel⟩
  case round =>
    clear own1 bel
    obtain ⟨j, hj, rfl, own, bel⟩ := hrel
    have hle := (withV_le (ps.take j) on).1
    have hln := LN.out
    have hpn := PN.out
    rw [List.length_take] at hle
    by_cases hjl : j < pl
    · have f1 : decide (j < pl) = true := by simpa using hjl
      have hst : withV on (ps.take (j + 1)) = if ps.getD j 0 ∈ withV on (ps.take j) then withV on (ps.take j) else withV on (ps.take j) ++ [ps.getD j 0] := by rw [take_snoc ps j (by omega), withV_snoc]
      obtain ⟨b, off, rfl, hbs, hat⟩ := (hp.mono bel).at_.resolve_left (by omega)
      have hx := hat j hjl
      obtain ⟨q, hq⟩ : ∃ q, ps.getD j 0 = q := ⟨_, rfl⟩
      obtain ⟨R, hR⟩ : ∃ R, withV on (ps.take j) = R := ⟨_, rfl⟩
      rw [hq, hR] at hst
      rw [hq] at hx
      rw [hR] at own hle
      obtain ⟨va, vc, rfl, hN, _⟩ := ownNats own (by omega)
      have hin := in_any wr va R.length vc R q hN
      obtain ⟨n, hn⟩ : ∃ n, R.length = n := ⟨_, rfl⟩
      rw [hn] at hin own hle ⊢
      have HN := Lib.hid hn
      have nb : n < 1000000 := by omega
      clear hq hR hat hN hn hln hpn
      by_cases hqp : q ∈ R
      · have f2 : decide (q ∈ R) = true := by simpa using hqp
        rw [if_pos hqp] at hst
        rw [f2] at hin
        have HS := Lib.hid hst
        clear f2 hst hqp
        go_wp2_with fail
        refine hin.mono ?_
        rintro e _ ⟨rfl, rfl⟩
        go_wp2_with fail
        refine ⟨⟨j + 1, by omega, by simp, ?_, bel⟩, by simp [intOf]; omega⟩
        rw [HS.out, HN.out]
        exact own
      · have f2 : decide (q ∈ R) = false := by simpa using hqp
        rw [if_neg hqp] at hst
        rw [f2] at hin
        have HS := Lib.hid hst
        clear f2 hst hqp
        have hsz := bel.size
        go_wp2_with fail
        refine hin.mono ?_
        rintro e _ ⟨rfl, rfl⟩
        go_wp2_with (first | (at_builtin; refine append_any rfl (.tmp 25) (.tmp 30) 35 rfl w.heap.size 3 (.int .i64 0) 8 Try.underlying35 Try.info_int rfl _ n (natV R) rfl ?_ (some ⟨wr.heap.size, 0, none⟩) 1 1 [.int .i64 (q : Nat)] rfl ?_ ?_ ?_ ?_ ?_ ?_ ?_ ?_; exact own.alloc _; exact nofun; exact rfl; exact (fun ad ha => by obtain rfl := Option.some.inj ha; exact cell_one_new _ _ _); exact oneCell_i64 _; (unfold maxLen; omega); omega; (first | omega | (simp; try omega)); intro v2 w2 own2 bel2))
        refine ⟨⟨j + 1, by omega, by simp, ?_, (bel.alloc hsz _).trans bel2⟩, by simp [intOf]; omega⟩
        rw [HS.out, List.length_append, HN.out, natV_snoc]
        exact own2
    · obtain rfl : j = pl := by omega
      rw [List.take_of_length_le (by omega)] at own hle
      obtain ⟨va, vc, rfl, hN, hfr⟩ := ownNats own (by omega)
      clear hle hln hpn
      go_wp2_with fail
      go_ret
      exact ⟨va, _, vc, rfl, hN, bel, hfr⟩
end Go.Proofs.Ytcnpomejdnpegaa
