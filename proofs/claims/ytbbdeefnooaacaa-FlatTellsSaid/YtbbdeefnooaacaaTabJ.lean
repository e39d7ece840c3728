/- Insert's three ways; a table that was stays as it was; Key (by gen04j.py). -/
import Derived.Test.YtbbdeefnooaacaaTabI
namespace Go.Proofs.Ytbbdeefnooaacaa
open Go.RowKit
set_option linter.unusedVariables false
set_option linter.unusedSimpArgs false

theorem getD_mem {ks : List (List Nat)} {i : Nat} (hi : i < ks.length) : ks.getD i [] ∈ ks := by
  rw [List.getD_eq_getElem?_getD, List.getElem?_eq_getElem hi]
  exact List.getElem_mem _
theorem mem_getD {ks : List (List Nat)} {k : List Nat} (h : k ∈ ks) : ∃ i, i < ks.length ∧ ks.getD i [] = k := by
  obtain ⟨i, hi, rfl⟩ := List.getElem_of_mem h
  exact ⟨i, hi, by rw [List.getD_eq_getElem?_getD, List.getElem?_eq_getElem hi]; rfl⟩
theorem nodup_inj {ks : List (List Nat)} (hnd : ks.Nodup) {p q : Nat} (hp : p < ks.length) (hq : q < ks.length) (h : ks[p] = ks[q]) : p = q := by
  have hpw := List.pairwise_iff_getElem.1 hnd
  rcases Nat.lt_trichotomy p q with h1 | h1 | h1
  · exact absurd h (hpw p q hp hq h1)
  · exact h1
  · exact absurd h.symm (hpw q p hq hp h1)
theorem insert_new (w : World) (cap : Int) (hcap0 : 0 ≤ cap) (hcap : cap ≤ 1048576) (B : Nat) (ka : Option Addr) (n kc : Nat) (sa : Option Addr) (sl sc : Nat) (ks : List (List Nat)) (s : List Int) (rs : List (Nat × Nat)) (h : TabM w B ka n kc sa sl sc ks s rs) (hB : B ≤ w.heap.size) (ya : Option Addr) (yl yc : Nat) (key : List Nat) (hk : BytesAt w ya yl yc key) (hyl : yl ≤ 1000000) (hno : key ∉ ks) (hlt : (n : Nat) < cap) :
    Calls Try.prog 19 #[.agg #[.int .i64 cap, .slice ka n kc, .slice sa sl sc], .slice ya yl yc] w fun e w' => ∃ kb kc' sb sl' sc', e = .returned (.tuple #[.agg #[.int .i64 cap, .slice (some ⟨kb, 0, none⟩) (n + 1) kc', .slice (some ⟨sb, 0, none⟩) sl' sc'], .int .i64 (n : Nat), .bool true, .int .i64 0]) ∧ Grown w w' B ka n kc sa sl sc kb kc' sb sl' sc' ks key := by
  refine (insert_any w cap hcap0 hcap B ka n kc sa sl sc ks s rs h hB ya yl yc key hk hyl).mono ?_
  rintro e w' (⟨p, hp, he, _⟩ | ⟨_, hc, _⟩ | ⟨_, _, h⟩)
  · exact absurd (he ▸ getD_mem hp) hno
  · omega
  · exact h
theorem insert_old (w : World) (cap : Int) (hcap0 : 0 ≤ cap) (hcap : cap ≤ 1048576) (B : Nat) (ka : Option Addr) (n kc : Nat) (sa : Option Addr) (sl sc : Nat) (ks : List (List Nat)) (s : List Int) (rs : List (Nat × Nat)) (h : TabM w B ka n kc sa sl sc ks s rs) (hB : B ≤ w.heap.size) (ya : Option Addr) (yl yc : Nat) (key : List Nat) (hk : BytesAt w ya yl yc key) (hyl : yl ≤ 1000000) (hnd : ks.Nodup) (p : Nat) (hp : p < ks.length) (hpk : ks.getD p [] = key) :
    Calls Try.prog 19 #[.agg #[.int .i64 cap, .slice ka n kc, .slice sa sl sc], .slice ya yl yc] w fun e w' => e = .returned (.tuple #[.agg #[.int .i64 cap, .slice ka n kc, .slice sa sl sc], .int .i64 (p : Nat), .bool false, .int .i64 0]) ∧ Below w.heap.size w w' := by
  refine (insert_any w cap hcap0 hcap B ka n kc sa sl sc ks s rs h hB ya yl yc key hk hyl).mono ?_
  rintro e w' (⟨q, hq, he, h1, h2⟩ | ⟨hno, _⟩ | ⟨hno, _⟩)
  · have : q = p := by
      have e1 : ks[q] = ks[p] := by
        have a1 : ks.getD q [] = ks[q] := by rw [List.getD_eq_getElem?_getD, List.getElem?_eq_getElem hq]; rfl
        have a2 : ks.getD p [] = ks[p] := by rw [List.getD_eq_getElem?_getD, List.getElem?_eq_getElem hp]; rfl
        rw [← a1, ← a2, he, hpk]
      exact nodup_inj hnd hq hp e1
    subst this
    exact ⟨h1, h2⟩
  · exact absurd hpk (hno p hp)
  · exact absurd hpk (hno p hp)
theorem insert_full (w : World) (cap : Int) (hcap0 : 0 ≤ cap) (hcap : cap ≤ 1048576) (B : Nat) (ka : Option Addr) (n kc : Nat) (sa : Option Addr) (sl sc : Nat) (ks : List (List Nat)) (s : List Int) (rs : List (Nat × Nat)) (h : TabM w B ka n kc sa sl sc ks s rs) (hB : B ≤ w.heap.size) (ya : Option Addr) (yl yc : Nat) (key : List Nat) (hk : BytesAt w ya yl yc key) (hyl : yl ≤ 1000000) (hno : key ∉ ks) (hge : cap ≤ (n : Nat)) :
    Calls Try.prog 19 #[.agg #[.int .i64 cap, .slice ka n kc, .slice sa sl sc], .slice ya yl yc] w fun e w' => e = .returned (.tuple #[.agg #[.int .i64 cap, .slice ka n kc, .slice sa sl sc], .int .i64 0, .bool false, .int .i64 7]) ∧ Below w.heap.size w w' := by
  refine (insert_any w cap hcap0 hcap B ka n kc sa sl sc ks s rs h hB ya yl yc key hk hyl).mono ?_
  rintro e w' (⟨q, hq, he, h1, h2⟩ | ⟨_, _, h1, h2⟩ | ⟨_, hc, _⟩)
  · exact absurd (he ▸ getD_mem hq) hno
  · exact ⟨h1, h2⟩
  · omega
theorem TabM.empty (w : World) (B : Nat) : TabM w B none 0 0 none 0 0 [] [] [] :=
  ⟨⟨⟨rfl, by omega, .inl rfl⟩, .inl rfl, rfl, .nil, rfl, by omega⟩, .inl ⟨rfl, rfl, rfl, rfl, rfl, rfl⟩⟩
/-- Where a table's rows lie. -/
theorem TabM.lt {w : World} {B : Nat} {ka : Option Addr} {n kc : Nat} {sa : Option Addr} {sl sc : Nat} {ks : List (List Nat)} {s : List Int} {rs : List (Nat × Nat)} (h : TabM w B ka n kc sa sl sc ks s rs) : (∀ x, ka = some x → x.block < w.heap.size ∧ B ≤ x.block) ∧ (∀ x, sa = some x → x.block < w.heap.size ∧ B ≤ x.block) := by
  rcases h.mem with ⟨_, e1, _, e2, _⟩ | ⟨kb, sb, kcur, scur, e1, e2, r⟩
  · exact ⟨(fun x hx => by rw [e1] at hx; cases hx), (fun x hx => by rw [e2] at hx; cases hx)⟩
  · refine ⟨fun x hx => ?_, fun x hx => ?_⟩
    · rw [e1] at hx
      cases hx
      exact ⟨(Array.getElem?_eq_some_iff.1 r.rowk).1, r.lowk⟩
    · rw [e2] at hx
      cases hx
      exact ⟨(Array.getElem?_eq_some_iff.1 r.rows).1, r.lows⟩
/-- What holds of all blocks that Insert may write to: no bytes lie there. -/
theorem Grown.bytes {w w' : World} {B : Nat} {ka : Option Addr} {n kc : Nat} {sa : Option Addr} {sl sc kb kc' sb sl' sc' : Nat} {ks : List (List Nat)} {key : List Nat} (G : Grown w w' B ka n kc sa sl sc kb kc' sb sl' sc' ks key) {s : List Int} {rs : List (Nat × Nat)} (h : TabM w B ka n kc sa sl sc ks s rs) {a : Option Addr} {l c : Nat} {y : List Nat} (hb : BytesAt w a l c y) : BytesAt w' a l c y := by
  rcases G.place with ⟨e1, e2, _⟩ | ⟨h1, h2⟩
  · rcases h.mem with ⟨_, e, _⟩ | ⟨kb0, sb0, kcur, scur, e3, e4, r⟩
    · rw [e1] at e
      cases e
    · rw [e1] at e3
      rw [e2] at e4
      cases e3
      cases e4
      refine hb.past (bad := fun b => b = kb ∨ b = sb) (fun b hb => ?_) G.size fun b hb1 hb2 => G.other b hb1 (fun e => hb2 (.inl e)) (fun e => hb2 (.inr e))
      rcases hb with rfl | rfl
      · exact noU8_row r.rowk fun v hv m => by rcases r.typk v hv with rfl | ⟨_, _, _, rfl⟩ <;> simp
      · exact noU8_row r.rows fun v hv m => by obtain ⟨z, rfl⟩ := r.typs v hv; simp
  · exact hb.past (bad := fun _ => False) (fun b hb => hb.elim) G.size fun b hb1 _ => G.other b hb1 (by omega) (by omega)
/-- A table that was stays as it was. -/
theorem Grown.old {w w' : World} {B : Nat} {ka : Option Addr} {n kc : Nat} {sa : Option Addr} {sl sc kb kc' sb sl' sc' : Nat} {ks : List (List Nat)} {key : List Nat} (G : Grown w w' B ka n kc sa sl sc kb kc' sb sl' sc' ks key) {s : List Int} {rs : List (Nat × Nat)} (h : TabM w B ka n kc sa sl sc ks s rs) : TabM w' B ka n kc sa sl sc ks s rs := by
  have hbytes := fun {a : Option Addr} {l c : Nat} {y : List Nat} (hb : BytesAt w a l c y) => G.bytes h hb
  have hlt := h.lt
  have hsize := G.size
  have rd' : TabR w' ka n sa sl ks s rs := by
    refine ⟨⟨h.rd.slots.1, h.rd.slots.2, ?_⟩, ?_, h.rd.len, h.rd.row, h.rd.hash, h.rd.small⟩
    · rcases h.rd.slots.3 with h0 | ⟨b, off, ha, hb, hc⟩
      · exact .inl h0
      · by_cases hsl : sl = 0
        · exact .inl hsl
        refine .inr ⟨b, off, ha, by omega, fun i hi => ?_⟩
        rw [← hc i hi]
        rcases G.place with ⟨e1, e2, _⟩ | ⟨h1, h2⟩
        · rw [e2] at ha
          cases ha
          rw [Nat.zero_add]
          exact G.slots i hb hi
        · exact World.cell?_of_block (a := ⟨b, off + i, none⟩) (G.other b hb (by omega) (by omega))
    · rcases h.rd.keys with h0 | ⟨b, ha, hb, hc⟩
      · exact .inl h0
      · refine .inr ⟨b, ha, by omega, fun i hi => ?_⟩
        obtain ⟨a, l, c, h1, h2, h3⟩ := hc i hi
        refine ⟨a, l, c, ?_, hbytes h2, h3⟩
        rw [← h1]
        rcases G.place with ⟨e1, e2, _⟩ | ⟨h1, h2⟩
        · rw [e1] at ha
          cases ha
          exact G.keys i hb (by omega)
        · exact World.cell?_of_block (a := ⟨b, i, none⟩) (G.other b hb (by omega) (by omega))
  refine ⟨rd', ?_⟩
  rcases h.mem with h0 | ⟨kb0, sb0, kcur, scur, e3, e4, r⟩
  · exact .inl h0
  · have h5 := (Array.getElem?_eq_some_iff.1 r.rowk).1
    have h6 := (Array.getElem?_eq_some_iff.1 r.rows).1
    rcases G.place with ⟨e1, e2, e5, e6, _⟩ | ⟨h1, h2⟩
    · obtain ⟨s', rs', T⟩ := G.tab
      rcases T.mem with ⟨e, _⟩ | ⟨kb1, sb1, kcur1, scur1, e7, e8, r1⟩
      · omega
      · cases e7
        cases e8
        have f1 := r.fitk
        have f2 := r.fits
        rw [e5, e6] at r1
        exact .inr ⟨_, _, kcur1, scur1, e1, e2, ⟨r1.1, r1.2, r1.3, r1.4, r1.5, r1.6, r1.7, f1, f2, r1.10, r1.11, r1.12, r1.13⟩⟩
    · exact .inr ⟨kb0, sb0, kcur, scur, e3, e4, ⟨r.1, r.2, r.3, (G.other _ h5 (by omega) (by omega)).trans r.4, (G.other _ h6 (by omega) (by omega)).trans r.5, r.6, r.7, r.8, r.9, r.10, r.11, r.12, r.13⟩⟩
end Go.Proofs.Ytbbdeefnooaacaa
