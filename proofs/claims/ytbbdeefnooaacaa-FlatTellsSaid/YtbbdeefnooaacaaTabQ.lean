/- Insert beside another table; the keys that came, in order (by gen04q.py). -/
import Derived.Test.YtbbdeefnooaacaaTabN
import Derived.Test.YtbbdeefnooaacaaTabMany
namespace Go.Proofs.Ytbbdeefnooaacaa
open Go.RowKit
set_option linter.unusedVariables false
set_option linter.unusedSimpArgs false

/-- Insert, where there is room. -/
theorem insert_le2 (w : World) (cap : Int) (hcap0 : 0 ≤ cap) (hcap : cap ≤ 1048576) (B : Nat) (ka : Option Addr) (n kc : Nat) (sa : Option Addr) (sl sc : Nat) (ks : List (List Nat)) (s : List Int) (rs : List (Nat × Nat)) (h : TabM w B ka n kc sa sl sc ks s rs) (hB : B ≤ w.heap.size) (ya : Option Addr) (yl yc : Nat) (key : List Nat) (hk : BytesAt w ya yl yc key) (hyl : yl ≤ 1000000) (hnd : ks.Nodup) (hnf : (n : Nat) < cap) :
    Calls Try.prog 19 #[.agg #[.int .i64 cap, .slice ka n kc, .slice sa sl sc], .slice ya yl yc] w fun e w' => ∃ (ka' : Option Addr) (n' kc' : Nat) (sa' : Option Addr) (sl' sc' : Nat) (s' : List Int) (rs' : List (Nat × Nat)) (p : Nat), e = .returned (.tuple #[.agg #[.int .i64 cap, .slice ka' n' kc', .slice sa' sl' sc'], .int .i64 (p : Nat), .bool (!decide (key ∈ ks)), .int .i64 0]) ∧
      TabM w' B ka' n' kc' sa' sl' sc' (insK ks key) s' rs' ∧ TabM w' B ka n kc sa sl sc ks s rs ∧ Below B w w' ∧ n' = n + (!decide (key ∈ ks)).toNat ∧
      (∀ (g : Nat) (vs : Array Value) (t : TypeId) (fr : Nat × Nat), w.heap[g]? = some (.cells vs t fr) → t ≠ 29 → t ≠ 3 → w'.heap[g]? = some (.cells vs t fr)) ∧
      (∀ (kx : Option Addr) (nx kcx : Nat) (sx : Option Addr) (slx scx : Nat) (kx' : List (List Nat)) (sx' : List Int) (rx : List (Nat × Nat)), TabM w B kx nx kcx sx slx scx kx' sx' rx → Beside ka n sa kx nx sx → TabM w' B kx nx kcx sx slx scx kx' sx' rx) ∧
      ((ka' = ka ∧ n' = n ∧ kc' = kc ∧ sa' = sa ∧ sl' = sl ∧ sc' = sc ∧ s' = s ∧ rs' = rs ∧ key ∈ ks) ∨ Beside ka n sa ka' n' sa') ∧ (p < (insK ks key).length ∧ (insK ks key).getD p [] = key) ∧
      (∀ (a : Option Addr) (l c : Nat) (y : List Nat), BytesAt w a l c y → BytesAt w' a l c y) ∧ (w.heap.size ≤ w'.heap.size ∧ ∀ b, b < w.heap.size → (∀ x, ka = some x → x.block ≠ b) → (∀ x, sa = some x → x.block ≠ b) → w'.heap[b]? = w.heap[b]?) ∧ (∀ y : Addr, (ka' = some y ∨ sa' = some y) → (ka = some y ∨ sa = some y) ∨ w.heap.size ≤ y.block) := by
  by_cases hm : key ∈ ks
  · obtain ⟨p, hp, hpk⟩ := mem_getD hm
    have e1 : insK ks key = ks := by unfold insK; rw [if_pos hm]
    rw [e1, decide_eq_true hm]
    refine (insert_old w cap hcap0 hcap B ka n kc sa sl sc ks s rs h hB ya yl yc key hk hyl hnd p hp hpk).mono ?_
    rintro e w' ⟨rfl, b⟩
    have hM := h.mono b
    exact ⟨ka, n, kc, sa, sl, sc, s, rs, p, rfl, hM, hM, b.mono hB, rfl, fun g vs t fr hg _ _ => (b.block g (Array.getElem?_eq_some_iff.1 hg).1).trans hg, fun kx nx kcx sx slx scx kx' sx' rx hx _ => hx.mono b, .inl ⟨rfl, rfl, rfl, rfl, rfl, rfl, rfl, rfl, hm⟩, ⟨hp, hpk⟩, (fun _ _ _ _ hb => hb.mono b), ⟨b.size, fun x hx _ _ => b.block x hx⟩, fun y hy => .inl hy⟩
  · have e1 : insK ks key = ks ++ [key] := by unfold insK; rw [if_neg hm]
    rw [e1, decide_eq_false hm]
    refine (insert_new w cap hcap0 hcap B ka n kc sa sl sc ks s rs h hB ya yl yc key hk hyl hm hnf).mono ?_
    rintro e w' ⟨kb, kc', sb, sl', sc', rfl, G⟩
    obtain ⟨s', rs', T⟩ := G.tab
    have hkl := h.rd.len
    refine ⟨_, _, _, _, _, _, s', rs', n, rfl, T, G.old h, G.bel hB, rfl, fun g vs t fr hg h1 h2 => G.row h hg h1 h2, fun kx nx kcx sx slx scx kx' sx' rx hx hb => G.beside h hx hb, .inr ?_, ⟨by rw [List.length_append, hkl]; simp, by rw [List.getD_eq_getElem?_getD, List.getElem?_append_right (by omega), hkl]; simp⟩, (fun _ _ _ _ hb => G.bytes h hb), ⟨G.size, fun b hb h1 h2 => ?_⟩, fun y hy => ?_⟩
    case refine_3 =>
      rcases G.place with ⟨e1, e2, _⟩ | ⟨h3, h4⟩
      · exact .inl (hy.imp (fun h => e1.trans h) (fun h => e2.trans h))
      · refine .inr ?_
        rcases hy with hy | hy
        · cases hy
          exact h3
        · cases hy
          exact h4
    case refine_2 =>
      rcases G.place with ⟨e1, e2, _⟩ | ⟨h3, h4⟩
      · exact G.other b hb (fun e => h1 _ e1 e.symm) (fun e => h2 _ e2 e.symm)
      · exact G.other b hb (by omega) (by omega)
    rcases G.place with ⟨e1, e2, _⟩ | ⟨h1, h2⟩
    · exact .inl ⟨e1.symm, e2.symm, by omega⟩
    · refine .inr fun x y hx hy => ?_
      have hx' : x.block < w.heap.size := by
        rcases hx with hx | hx
        · exact (h.lt.1 x hx).1
        · exact (h.lt.2 x hx).1
      rcases hy with hy | hy
      · cases hy
        show x.block ≠ kb
        omega
      · cases hy
        show x.block ≠ sb
        omega

/-- The keys that came, each once, in order. -/
def keysL (f : Nat → KeyD) : Nat → List (List Nat)
  | 0 => []
  | j + 1 => insK (keysL f j) (f j).key
theorem insK_prefix (ks : List (List Nat)) (k : List Nat) : ks <+: insK ks k := by
  unfold insK
  split
  · exact List.prefix_refl _
  · exact List.prefix_append _ _
theorem keysL_prefix (f : Nat → KeyD) : ∀ (i j : Nat), i ≤ j → keysL f i <+: keysL f j
  | i, 0, h => by
    obtain rfl : i = 0 := Nat.le_zero.1 h
    exact List.prefix_refl _
  | i, j + 1, h => by
    by_cases he : i = j + 1
    · subst he; exact List.prefix_refl _
    · exact (keysL_prefix f i j (by omega)).trans (insK_prefix _ _)
theorem keysL_nodup (f : Nat → KeyD) : ∀ j, (keysL f j).Nodup
  | 0 => List.nodup_nil
  | j + 1 => insK_nodup (keysL_nodup f j)
theorem keysL_len (f : Nat → KeyD) : ∀ j, (keysL f j).length ≤ j
  | 0 => Nat.le_refl _
  | j + 1 => by
    have := keysL_len f j
    show (insK _ _).length ≤ _
    rw [insK_len]
    cases decide ((f j).key ∈ keysL f j) <;> simp <;> omega
theorem prefix_getD {xs ys : List (List Nat)} (h : xs <+: ys) {p : Nat} (hp : p < xs.length) : xs.getD p [] = ys.getD p [] := by
  obtain ⟨zs, rfl⟩ := h
  rw [List.getD_eq_getElem?_getD, List.getD_eq_getElem?_getD, List.getElem?_append_left hp]
theorem getD_inj {ks : List (List Nat)} (hnd : ks.Nodup) {p q : Nat} (hp : p < ks.length) (hq : q < ks.length) (h : ks.getD p [] = ks.getD q []) : p = q := by
  rw [List.getD_eq_getElem?_getD, List.getD_eq_getElem?_getD, List.getElem?_eq_getElem hp, List.getElem?_eq_getElem hq] at h
  exact nodup_inj hnd hp hq h
/-- Where a key stands among all of them: no further than those ahead of it. -/
theorem keysL_place (f : Nat → KeyD) {i n : Nat} (hi : i < n) {p : Nat} (hp : p < (keysL f n).length) (hk : (keysL f n).getD p [] = (f i).key) :
    p ≤ (keysL f i).length ∧ (p = (keysL f i).length → (keysL f (i + 1)).length = (keysL f i).length + 1) ∧ (p ≠ (keysL f i).length → (keysL f (i + 1)).length = (keysL f i).length) := by
  have h1 := keysL_prefix f (i + 1) n (by omega)
  have h0 := keysL_prefix f i n (by omega)
  have hnd := keysL_nodup f n
  have hin : (f i).key ∈ keysL f (i + 1) := insK_mem.2 (.inr rfl)
  obtain ⟨q, hq, hqk⟩ := mem_getD hin
  have hle1 := h1.length_le
  have hle0 := h0.length_le
  have hqp : q = p := getD_inj hnd (by omega) hp (by rw [← prefix_getD h1 hq, hqk, hk])
  subst hqp
  have hl : (keysL f (i + 1)).length = (keysL f i).length + (!decide ((f i).key ∈ keysL f i)).toNat := insK_len
  by_cases hm : (f i).key ∈ keysL f i
  · rw [decide_eq_true hm] at hl
    obtain ⟨r, hr, hrk⟩ := mem_getD hm
    have : r = q := getD_inj hnd (by omega) (by omega) (by rw [← prefix_getD h0 hr, hrk, ← hk])
    subst this
    simp at hl
    exact ⟨by omega, fun h => by omega, fun _ => hl⟩
  · rw [decide_eq_false hm] at hl
    simp at hl
    have hge : (keysL f i).length ≤ q := by
      refine Nat.le_of_not_lt fun hlt => hm ?_
      have := prefix_getD h0 hlt
      rw [hk] at this
      exact this ▸ getD_mem hlt
    exact ⟨by omega, fun _ => hl, fun h => by omega⟩
theorem ApartT.grow {ka sa ka' sa' kx sx : Option Addr} {B : Nat} (h : ApartT ka sa kx sx) (hloc : ∀ y : Addr, (ka' = some y ∨ sa' = some y) → (ka = some y ∨ sa = some y) ∨ B ≤ y.block) (hx : ∀ y : Addr, (kx = some y ∨ sx = some y) → y.block < B) : ApartT ka' sa' kx sx := fun x y h1 h2 => by
  rcases hloc x h1 with h3 | h3
  · exact h x y h3 h2
  · have := hx y h2
    omega
theorem ApartT.symm {ka sa kx sx : Option Addr} (h : ApartT ka sa kx sx) : ApartT kx sx ka sa := fun x y h1 h2 => (h y x h2 h1).symm
theorem TabM.ltAll {w : World} {B : Nat} {ka : Option Addr} {n kc : Nat} {sa : Option Addr} {sl sc : Nat} {ks : List (List Nat)} {s : List Int} {rs : List (Nat × Nat)} (h : TabM w B ka n kc sa sl sc ks s rs) : ∀ y : Addr, (ka = some y ∨ sa = some y) → y.block < w.heap.size := fun y hy => by
  rcases hy with hy | hy
  · exact (h.lt.1 y hy).1
  · exact (h.lt.2 y hy).1
end Go.Proofs.Ytbbdeefnooaacaa
