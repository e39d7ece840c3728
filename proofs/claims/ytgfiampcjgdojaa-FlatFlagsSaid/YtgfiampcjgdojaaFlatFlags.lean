/- FlatFlags returns true (by gen06g.py). -/
import Derived.Test.YtgfiampcjgdojaaFlatM
namespace Go.Proofs.Ytgfiampcjgdojaa
open Go.RowKit Go.Maps
set_option linter.unusedVariables false
set_option linter.unusedSimpArgs false

theorem InMap.same {w w' : World} {b n : Nat} {ks : List (List Nat)} (h : InMap w b n ks) (hb : w'.heap[b]? = w.heap[b]?) : InMap w' b n ks := by
  obtain ⟨es, cl, hm⟩ := h.map
  exact h.block hm (hb.trans hm)
/-- A key and a flag, as one text. -/
def fkey (k : List Nat) (f : Nat) : List Nat := k ++ [48 + f]
theorem fkey_inj {k l : List Nat} {f g : Nat} (h : fkey k f = fkey l g) : k = l ∧ f = g := by
  unfold fkey at h
  have := List.append_inj' h rfl
  simp at this
  exact this
theorem fkey_byte {k : List Nat} {f : Nat} (hk : ∀ n ∈ k, n < 256) (hf : f < 2) : ∀ n ∈ fkey k f, n < 256 := by
  intro n hn
  rcases List.mem_append.1 hn with h | h
  · exact hk n h
  · rw [List.mem_singleton.1 h]; omega
def strN (k : List Nat) : ByteArray := strOfNums (k.map fun (n : Nat) => (n : Int))
theorem strN_app (k l : List Nat) : strN (k ++ l) = strN k ++ strN l := by
  unfold strN strOfNums
  rw [List.map_append, List.map_append, ByteArray.mk_append_mk]
theorem strN_size (k : List Nat) : (strN k).size = k.length := by
  unfold strN
  rw [strOfNums_size, List.length_map]
theorem run_fkey (w : World) (k : List Nat) (f : Nat) (hk : k.length ≤ 1000) : (Op.stringOp .add (strN k) (strN [48 + f])).run Try.prog w = .ok (.string (strN (fkey k f))) w := by
  rw [run_string_add_sum w _ _ (by rw [strN_size, strN_size]; simp; omega)]
  unfold fkey
  rw [strN_app]
theorem rune_str (w : World) {f : Nat} (hf : f < 2) : (convert 21 9 (.int .i32 (48 + (f : Int)))).run Try.prog w = .ok (.string (strN [48 + f])) w := by
  rcases (by omega : f = 0 ∨ f = 1) with rfl | rfl
  · kernel_rfl
  · kernel_rfl
/-- The flags are those that were set. -/
structure FlagsIn (L : List Nat) (KS FS : List (List Nat)) : Prop where
  len : L.length ≤ KS.length
  at_ : ∀ p f, p < KS.length → f < 2 → hasB L p f = decide (fkey (KS.getD p []) f ∈ FS)
  sub : ∀ q ∈ FS, ∃ k f, k ∈ KS ∧ f < 2 ∧ q = fkey k f
theorem FlagsIn.nil : FlagsIn [] [] [] := ⟨Nat.le_refl _, fun p f hp _ => by simp at hp, fun q hq => by cases hq⟩
theorem FlagsIn.ins {L : List Nat} {KS FS : List (List Nat)} (h : FlagsIn L KS FS) (key : List Nat) : FlagsIn L (insK KS key) FS := by
  by_cases hm : key ∈ KS
  · unfold insK
    rw [if_pos hm]
    exact h
  · unfold insK
    rw [if_neg hm]
    refine ⟨by have := h.len; simp; omega, fun p f hp hf => ?_, fun q hq => ?_⟩
    · by_cases hpk : p < KS.length
      · rw [h.at_ p f hpk hf]
        simp only [List.getD_eq_getElem?_getD]
        rw [List.getElem?_append_left hpk]
      · have hpe : p = KS.length := by simp at hp; omega
        subst hpe
        have hlen := h.len
        rw [hasB_out (by omega)]
        simp only [List.getD_eq_getElem?_getD]
        rw [List.getElem?_append_right (Nat.le_refl _), Nat.sub_self]
        symm
        apply decide_eq_false
        intro hin
        obtain ⟨k, g, hk, _, he⟩ := h.sub _ hin
        obtain ⟨rfl, _⟩ := fkey_inj he
        exact hm (by simpa using hk)
    · obtain ⟨k, f, hk, hf, rfl⟩ := h.sub q hq
      exact ⟨k, f, List.mem_append_left _ hk, hf, rfl⟩
theorem FlagsIn.mark {L L' : List Nat} {KS FS : List (List Nat)} (h : FlagsIn L KS FS) (hnd : KS.Nodup) {p f : Nat} (hp : p < KS.length) (hf : f < 2) {key : List Nat} (hk : KS.getD p [] = key) (hM : Marked L L' p f) : FlagsIn L' KS (insK FS (fkey key f)) := by
  refine ⟨by have := hM.2; have := h.len; omega, fun q g hq hg => ?_, fun q hq => ?_⟩
  · rw [hM.1 q g hg, h.at_ q g hq hg, insK_has]
    congr 1
    rw [← Bool.decide_and]
    apply decide_eq_decide.2
    constructor
    · rintro ⟨rfl, rfl⟩
      rw [hk]
    · intro he
      obtain ⟨h1, h2⟩ := fkey_inj he
      exact ⟨getD_inj hnd hq hp (by rw [h1, hk]), h2⟩
  · rcases (insK_mem).1 hq with h1 | h1
    · exact h.sub q h1
    · subst h1
      refine ⟨key, f, ?_, hf, rfl⟩
      rw [← hk, List.getD_eq_getElem?_getD, List.getElem?_eq_getElem hp]
      exact List.getElem_mem hp

set_option maxRecDepth 100000 in
set_option maxHeartbeats 8000000 in
theorem flatflags_any (w : World) (al : Option Addr) (n cl : Nat) (fA : Nat → ActD) (hA : ActsAt w al n fA) :
    Calls Try.prog 4 #[.slice al n cl] w fun e w' => e = .returned (.bool true) ∧ Below w.heap.size w w' := by
  have nb := hA.small
  have hmm := @run_makeMap Try.prog
  go_enter Try.func4, Try.ntmps4
  go_wp2_with fail
  refine (shown_any _).mono ?_
  rintro e w0 ⟨rfl, bt⟩
  go_wp2_with fail
  refine (few_any _ al n cl fA 60 (hA.mono bt)).mono ?_
  rintro e w00 ⟨⟨fb, rfl, hfew⟩, rfl⟩
  cases fb with
  | false =>
    go_wp2_with fail
    go_ret
    exact ⟨rfl, bt⟩
  | true =>
  obtain ⟨hn60, hkl⟩ := hfew rfl
  have HKL := Lib.hid hkl
  clear hfew hkl
  go_wp2_with fail
  refine (newF_ok _ 100 (by decide)).mono ?_
  rintro e w1 ⟨rfl, b1⟩
  replace bt := below_then bt b1
  clear b1
  have hB := bt.size
  have A := (Below.refl w1.heap.size w1).alloc (Nat.le_refl _) (.cells #[.int .i64 100, .slice none 0 0, .slice none 0 0, .slice none 0 0] 31)
  have pt : (w1.alloc (.cells #[.int .i64 100, .slice none 0 0, .slice none 0 0, .slice none 0 0] 31)).heap[w1.heap.size]? = some (.cells #[.int .i64 100, .slice none 0 0, .slice none 0 0, .slice none 0 0] 31 (0, 0)) := heap_alloc_new _ _
  replace bt := below_then bt A
  go_upto_region 5 with (first | fail)
  obtain ⟨v1, hv⟩ : ∃ v, w1.alloc (.cells #[.int .i64 100, .slice none 0 0, .slice none 0 0, .slice none 0 0] 31) = v := ⟨_, rfl⟩
  obtain ⟨gt, hg⟩ : ∃ g, w1.heap.size = g := ⟨_, rfl⟩
  rw [hv] at pt bt ⊢
  rw [hg] at pt ⊢
  have hB2 := hB
  rw [hg] at hB2
  clear hv hg A hB
  have hne : gt ≠ v1.heap.size := Nat.ne_of_lt (Array.getElem?_eq_some_iff.1 pt).1
  have A := (Below.refl v1.heap.size v1).alloc (Nat.le_refl _) (.map #[] 0)
  have hM := InMap.made v1
  have hBm := bt.size
  replace pt := (A.block gt (Array.getElem?_eq_some_iff.1 pt).1).trans pt
  replace bt := below_then bt A
  go_upto_region 6 with fail
  obtain ⟨v2, hv⟩ : ∃ v, v1.alloc (.map #[] 0) = v := ⟨_, rfl⟩
  obtain ⟨gm, hg⟩ : ∃ g, v1.heap.size = g := ⟨_, rfl⟩
  rw [hv] at pt bt hM ⊢
  rw [hg] at hne hM hBm ⊢
  clear hv hg A
  have hnes : gt ≠ v2.heap.size := Nat.ne_of_lt (Array.getElem?_eq_some_iff.1 pt).1
  have hnms : gm ≠ v2.heap.size := Nat.ne_of_lt hM.lt
  have A := (Below.refl v2.heap.size v2).alloc (Nat.le_refl _) (.map #[] 0)
  have hQ := InMap.made v2
  have hBs := bt.size
  replace pt := (A.block gt (Array.getElem?_eq_some_iff.1 pt).1).trans pt
  replace hM := hM.mono A
  replace bt := below_then bt A
  have Mt := TabM.empty (v2.alloc (.map #[] 0)) w.heap.size
  go_upto_region 7 with fail
  obtain ⟨v3, hv⟩ : ∃ v, v2.alloc (.map #[] 0) = v := ⟨_, rfl⟩
  obtain ⟨gs, hg⟩ : ∃ g, v2.heap.size = g := ⟨_, rfl⟩
  rw [hv] at pt bt Mt hM hQ ⊢
  rw [hg] at hnes hnms hQ hBs ⊢
  clear hv hg A
  have hL0 : BytesAt v3 none 0 0 [] := .none_nil _
  go_wp2_with fail
  go_loopw [8] (fun i w' => ∃ (j m : Nat) (ka : Option Addr) (kc : Nat) (sa : Option Addr) (sl sc : Nat) (fa : Option Addr) (fl fc : Nat) (KS FS : List (List Nat)) (s : List Int) (rs : List (Nat × Nat)) (L : List Nat), j ≤ n ∧ i = .int .i64 (j : Nat) ∧ KS.Nodup ∧ KS.length ≤ j ∧ (∀ i, i < j → (fA i).key ∈ KS) ∧ FlagsIn L KS FS ∧ w'.heap[gt]? = some (.cells #[.int .i64 100, .slice ka m kc, .slice sa sl sc, .slice fa fl fc] 31 (0, 0)) ∧ TabM w' w.heap.size ka m kc sa sl sc KS s rs ∧ BytesAt w' fa fl fc L ∧ InMap w' gm j KS ∧ InMap w' gs j FS ∧ Below w.heap.size w w') (fun i _ => n - (intOf i).toNat)
  case atStart => exact ⟨0, 0, none, 0, none, 0, 0, none, 0, 0, [], [], [], [], [], Nat.zero_le _, rfl, List.nodup_nil, Nat.le_refl _, (fun i hi => absurd hi (Nat.not_lt_zero i)), FlagsIn.nil, pt, Mt, hL0, hM, hQ, bt⟩
  case round =>
    clear pt Mt hM hQ hL0 bt
    obtain ⟨j, m, ka, kc, sa, sl, sc, fa, fl, fc, KS, FS, s, rs, L, hj, rfl, hnd, hkj, hall, hfin, pt, Mt, hL, hM, hQ, bt⟩ := hrel
    have HALL := Lib.hid hall
    have HFIN := Lib.hid hfin
    have hfl := hL.len_eq
    have hfl2 := hfin.len
    have hfl6 : fl ≤ 60 := by omega
    clear hall hfin hfl hfl2
    by_cases hjn : j < n
    · have f3 : decide (j < n) = true := by simpa using hjn
      obtain ⟨bl, ol, rfl, hbl, hact⟩ := hA.at_.resolve_left (by omega)
      have hx := hact j hjn
      have hxl := HKL.out j hjn
      have hxk := HALL.out
      obtain ⟨⟨kd, xa, xl, xc, xk, xf⟩, hu⟩ : ∃ u, fA j = u := ⟨_, rfl⟩
      have HU := Lib.hid hu
      rw [hu] at hx hxl
      simp only [] at hxl
      have hblr : bl < wr.heap.size := Nat.lt_of_lt_of_le hbl bt.size
      have hkx : BytesAt wr xa xl xc xk := hx.key.mono bt
      have hyl2 := hkx.len_eq
      have hby := hkx.byte
      have HX := Lib.hid hx
      have y0 : wr.cell? ⟨bl, ol + j * 3 + 1, none⟩ = some (.slice xa xl xc) := (bt.cell (p := ⟨bl, ol + j * 3 + 1, none⟩) hbl).trans hx.c1
      have hKO := keyOf_k (k := xk) (by omega)
      have hcv := hkx.conv 29 5 9 Try.underlying29 Try.underlying5 Try.underlying9
      obtain ⟨S, hS⟩ : ∃ S, strOfNums (xk.map fun (n : Nat) => (n : Int)) = S := ⟨_, rfl⟩
      rw [hS] at hKO hcv
      have HS := Lib.hid hS
      obtain ⟨es, cl2, mp⟩ := hM.map
      obtain ⟨es3, cl3, mq⟩ := hQ.map
      clear hact hu hx hS hxk
      go_upto_region 11 with fail
      go_cut [10, 11, 12] from 31 to 100 (fun v10 v11 v12 w' => ∃ (gx : Nat) (ka' : Option Addr) (n' kc' : Nat) (sa' : Option Addr) (sl' sc' : Nat) (KS' : List (List Nat)) (s' : List Int) (rs' : List (Nat × Nat)) (p : Nat) (F : Bool) (E : Int), v10 = .pointer (some ⟨gx, 0, none⟩) ∧ v11 = .bool F ∧ v12 = .int .i64 E ∧ wr.heap.size ≤ gx ∧ w'.heap[gx]? = some (.cells #[.int .i64 100, .slice ka' n' kc', .slice sa' sl' sc', .slice fa fl fc] 31 (0, 0)) ∧ TabM w' w.heap.size ka' n' kc' sa' sl' sc' KS' s' rs' ∧ TabM w' w.heap.size ka m kc sa sl sc KS s rs ∧ Below w.heap.size w w' ∧ KeptT wr w' w.heap.size ka m sa ka' n' sa' ∧ OutP 100 KS xk p F E KS' ∧ StayT wr w' F (ka' = ka ∧ n' = m ∧ kc' = kc ∧ sa' = sa ∧ sl' = sl ∧ sc' = sc))
      case first =>
        have bD : Below wr.heap.size wr wr.drew := (Below.refl _ _).drew
        have bAA : Below wr.heap.size wr (wr.alloc (.cells #[.int .i64 0, .slice none 0 0, .slice none 0 0, .slice none 0 0] 31)).drew := ((Below.refl _ _).alloc (Nat.le_refl _) _).drew
        have ptD : wr.drew.heap[gt]? = some (.cells #[.int .i64 100, .slice ka m kc, .slice sa sl sc, .slice fa fl fc] 31 (0, 0)) := pt
        have gtl : gt < wr.heap.size := (Array.getElem?_eq_some_iff.1 pt).1
        have ptA := (bAA.block gt gtl).trans pt
        have MD := Mt.mono bD
        have MA := Mt.mono bAA
        have hBD := Nat.le_trans bt.size bD.size
        have hBA := Nat.le_trans bt.size bAA.size
        have hnt : gt ≠ wr.heap.size := Nat.ne_of_lt gtl
        have hnb : bl ≠ wr.heap.size := Nat.ne_of_lt hblr
        have gD0 : wr.drew.cell? ⟨gt, 0, none⟩ = some (.int .i64 100) := cell_of_row _ _ 0 _ _ _ ptD
        have gA0 : (wr.alloc (.cells #[.int .i64 0, .slice none 0 0, .slice none 0 0, .slice none 0 0] 31)).drew.cell? ⟨gt, 0, none⟩ = some (.int .i64 100) := cell_of_row _ _ 0 _ _ _ ptA
        have gD1 : wr.drew.cell? ⟨gt, 1, none⟩ = some (.slice ka m kc) := cell_of_row _ _ 1 _ _ _ ptD
        have gA1 : (wr.alloc (.cells #[.int .i64 0, .slice none 0 0, .slice none 0 0, .slice none 0 0] 31)).drew.cell? ⟨gt, 1, none⟩ = some (.slice ka m kc) := cell_of_row _ _ 1 _ _ _ ptA
        have gD2 : wr.drew.cell? ⟨gt, 2, none⟩ = some (.slice sa sl sc) := cell_of_row _ _ 2 _ _ _ ptD
        have gA2 : (wr.alloc (.cells #[.int .i64 0, .slice none 0 0, .slice none 0 0, .slice none 0 0] 31)).drew.cell? ⟨gt, 2, none⟩ = some (.slice sa sl sc) := cell_of_row _ _ 2 _ _ _ ptA
        have gD3 : wr.drew.cell? ⟨gt, 3, none⟩ = some (.slice fa fl fc) := cell_of_row _ _ 3 _ _ _ ptD
        have gA3 : (wr.alloc (.cells #[.int .i64 0, .slice none 0 0, .slice none 0 0, .slice none 0 0] 31)).drew.cell? ⟨gt, 3, none⟩ = some (.slice fa fl fc) := cell_of_row _ _ 3 _ _ _ ptA
        have yD0 : wr.drew.cell? ⟨bl, ol + j * 3 + 1, none⟩ = some (.slice xa xl xc) := y0
        have yA0 : (wr.alloc (.cells #[.int .i64 0, .slice none 0 0, .slice none 0 0, .slice none 0 0] 31)).drew.cell? ⟨bl, ol + j * 3 + 1, none⟩ = some (.slice xa xl xc) := (bAA.cell (p := ⟨bl, ol + j * 3 + 1, none⟩) hblr).trans y0
        have zrowA : (wr.alloc (.cells #[.int .i64 0, .slice none 0 0, .slice none 0 0, .slice none 0 0] 31)).drew.heap[wr.heap.size]? = some (.cells #[.int .i64 0, .slice none 0 0, .slice none 0 0, .slice none 0 0] 31 (0, 0)) := heap_alloc_new wr _
        have hI1 := insertF_all wr.drew 100 (by decide) (by decide) w.heap.size ka m kc sa sl sc fa fl fc KS s rs MD hBD xa xl xc xk (hkx.mono bD) (by omega) hnd
        have hI2 := insertF_all (wr.alloc (.cells #[.int .i64 0, .slice none 0 0, .slice none 0 0, .slice none 0 0] 31)).drew 100 (by decide) (by decide) w.heap.size ka m kc sa sl sc fa fl fc KS s rs MA hBA xa xl xc xk (hkx.mono bAA) (by omega) hnd
        clear MD MA pt Mt
        go_region_held3 (fun w' => w'.cell? ⟨gt, 0, none⟩ = some (.int .i64 100) ∧ w'.cell? ⟨gt, 1, none⟩ = some (.slice ka m kc) ∧ w'.cell? ⟨gt, 2, none⟩ = some (.slice sa sl sc) ∧ w'.cell? ⟨gt, 3, none⟩ = some (.slice fa fl fc) ∧ w'.cell? ⟨bl, ol + j * 3 + 1, none⟩ = some (.slice xa xl xc))
          (first | (refine ⟨?_, ?_, ?_, ?_, ?_⟩ <;> with_reducible assumption) | (refine ⟨?_, ?_, ?_, ?_, ?_⟩; with_reducible exact cellAlloc _ _ r0; with_reducible exact cellAlloc _ _ r1; with_reducible exact cellAlloc _ _ r2; with_reducible exact cellAlloc _ _ r3; with_reducible exact cellAlloc _ _ ry0) | (refine ⟨?_, ?_, ?_, ?_, ?_⟩; with_reducible exact four_cellU _ _ _ _ _ _ _ _ hnt r0; with_reducible exact four_cellU _ _ _ _ _ _ _ _ hnt r1; with_reducible exact four_cellU _ _ _ _ _ _ _ _ hnt r2; with_reducible exact four_cellU _ _ _ _ _ _ _ _ hnt r3; with_reducible exact four_cellU _ _ _ _ _ _ _ _ hnb ry0))
          (first | (go_at_call 12; (with_reducible refine hI1.mono ?_); rintro e ws ⟨ka', n', kc', sa', sl', sc', KS', s', rs', p, F, E, rfl, Hx, Ho, bx, HT, hout, hst⟩; have HO := Lib.hid hout; clear hout; have rt := HT.recd gt _ _ _ ptD (by decide) (by decide); have r0 : ws.cell? ⟨gt, 0, none⟩ = some (.int .i64 100) := cell_of_row _ _ 0 _ _ _ rt; have r1 : ws.cell? ⟨gt, 1, none⟩ = some (.slice ka m kc) := cell_of_row _ _ 1 _ _ _ rt; have r2 : ws.cell? ⟨gt, 2, none⟩ = some (.slice sa sl sc) := cell_of_row _ _ 2 _ _ _ rt; have r3 : ws.cell? ⟨gt, 3, none⟩ = some (.slice fa fl fc) := cell_of_row _ _ 3 _ _ _ rt; have ry0 : ws.cell? ⟨bl, ol + j * 3 + 1, none⟩ = some (.slice xa xl xc) := (bx.cell (p := ⟨bl, ol + j * 3 + 1, none⟩) (by first | assumption | omega)).trans yD0; have HTW := HT.pre bD; have HST := hst.pre bD; clear hst; have bw : Below w.heap.size w ws := (bt.trans (bD.mono bt.size)).trans bx) | (go_at_call 12; (with_reducible refine hI2.mono ?_); rintro e ws ⟨ka', n', kc', sa', sl', sc', KS', s', rs', p, F, E, rfl, Hx, Ho, bx, HT, hout, hst⟩; have HO := Lib.hid hout; clear hout; have rt := HT.recd gt _ _ _ ptA (by decide) (by decide); have r0 : ws.cell? ⟨gt, 0, none⟩ = some (.int .i64 100) := cell_of_row _ _ 0 _ _ _ rt; have r1 : ws.cell? ⟨gt, 1, none⟩ = some (.slice ka m kc) := cell_of_row _ _ 1 _ _ _ rt; have r2 : ws.cell? ⟨gt, 2, none⟩ = some (.slice sa sl sc) := cell_of_row _ _ 2 _ _ _ rt; have r3 : ws.cell? ⟨gt, 3, none⟩ = some (.slice fa fl fc) := cell_of_row _ _ 3 _ _ _ rt; have ry0 : ws.cell? ⟨bl, ol + j * 3 + 1, none⟩ = some (.slice xa xl xc) := (bx.cell (p := ⟨bl, ol + j * 3 + 1, none⟩) (by first | assumption | omega)).trans yA0; have HTW := HT.pre bAA; have HST := hst.pre bAA; clear hst; have bw : Below w.heap.size w ws := (bt.trans (bAA.mono bt.size)).trans bx; have gz := HT.recd wr.heap.size _ _ _ zrowA (by decide) (by decide); have v0 : ws.cell? ⟨wr.heap.size, 0, none⟩ = some (.int .i64 0) := cell_of_row _ _ 0 _ _ _ gz; have g0 := frozen_of_row ws wr.heap.size 0 _ _ gz; have v1 : ws.cell? ⟨wr.heap.size, 1, none⟩ = some (.slice none 0 0) := cell_of_row _ _ 1 _ _ _ gz; have g1 := frozen_of_row ws wr.heap.size 1 _ _ gz; have v2 : ws.cell? ⟨wr.heap.size, 2, none⟩ = some (.slice none 0 0) := cell_of_row _ _ 2 _ _ _ gz; have g2 := frozen_of_row ws wr.heap.size 2 _ _ gz; have v3 : ws.cell? ⟨wr.heap.size, 3, none⟩ = some (.slice none 0 0) := cell_of_row _ _ 3 _ _ _ gz; have g3 := frozen_of_row ws wr.heap.size 3 _ _ gz))
        all_goals
          go_wp2_with fail
          go_meet
          have al := (Below.refl ws.heap.size ws).alloc (Nat.le_refl _) (.cells #[.int .i64 100, .slice ka' n' kc', .slice sa' sl' sc', .slice fa fl fc] 31)
          have hgw := bt.size
          first
          | exact ⟨ws.heap.size, ka', n', kc', sa', sl', sc', KS', s', rs', p, F, E, rfl, rfl, rfl, HTW.size, heap_alloc_new _ _, Hx.mono al, Ho.mono al, bw.trans (al.mono (Nat.le_trans hgw HTW.size)), HTW.next_below al, HO.out, HST.next_below al⟩
          | exact ⟨wr.heap.size, ka', n', kc', sa', sl', sc', KS', s', rs', p, F, E, rfl, rfl, rfl, Nat.le_refl _, four_rowU _ _ _ _ _ _ _ _ _ _ _ gz, Hx.offrec gz (noU8_rec gz fun v hv m => by simp at hv; rcases hv with rfl | rfl | rfl | rfl <;> simp) (by decide) (by decide) (four_size _ _ _ _ _ _) (fun b hb => four_other _ _ _ _ _ _ _ hb), Ho.offrec gz (noU8_rec gz fun v hv m => by simp at hv; rcases hv with rfl | rfl | rfl | rfl <;> simp) (by decide) (by decide) (four_size _ _ _ _ _ _) (fun b hb => four_other _ _ _ _ _ _ _ hb), four_below bw hgw _ _ _ _, HTW.store (Nat.le_refl _) gz (noU8_rec gz fun v hv m => by simp at hv; rcases hv with rfl | rfl | rfl | rfl <;> simp) (by decide) (by decide) (four_size _ _ _ _ _ _) (fun b hb => four_other _ _ _ _ _ _ _ hb), HO.out, HST.next fun h => four_below h (Nat.le_refl _) _ _ _ _⟩
      case rest =>
        obtain ⟨gx, kz, mz, kcz, sz, slz, scz, KZ, sZ, rsZ, p, F, E, rfl, rfl, rfl, hgx, px, Mx, Mo, bx, HT, hout, hst⟩ := hcut
        have gtl : gt < wr.heap.size := (Array.getElem?_eq_some_iff.1 pt).1
        have hxt : gx ≠ gt := by omega
        have hgml := hM.lt
        have hgsl := hQ.lt
        have hxm : gx ≠ gm := by omega
        have hxs : gx ≠ gs := by omega
        have hgxB : w.heap.size ≤ gx := Nat.le_trans bt.size hgx
        have pt2 := HT.recd gt _ _ _ pt (by decide) (by decide)
        have mp2 := HT.map gm _ _ mp
        have mq2 := HT.map gs _ _ mq
        have hM2 := hM.block mp mp2
        have hQ2 := hQ.block mq mq2
        have hL2 := HT.bytes _ _ _ _ hL
        obtain ⟨hF, rfl, hKZ, hp, hpk, _⟩ := hout.room (by omega)
        have hnd2 := insK_nodup (key := xk) hnd
        have hln2 : (insK KS xk).length ≤ j + 1 := by rw [insK_len]; have := Bool.toNat_le (!decide (xk ∈ KS)); omega
        have hfin2 := HFIN.out.ins xk
        rw [← hKZ] at hnd2 hln2 hfin2
        have hall2 : ∀ i, i < j + 1 → (fA i).key ∈ KZ := fun i hi => by
          rw [hKZ]
          rcases Nat.lt_succ_iff_lt_or_eq.1 hi with h | rfl
          · exact insK_mem.2 (.inl (HALL.out i h))
          · rw [HU.out]; exact insK_mem.2 (.inr rfl)
        have hlook2 := hM2.look xk hby (by omega)
        obtain ⟨W, hW⟩ : ∃ W, decide (xk ∈ KS) = W := ⟨_, rfl⟩
        rw [HS.out, hW] at hlook2
        rw [hW] at hF
        obtain rfl : (!W) = F := hF.symm
        have hlt : p < 1048576 := by omega
        have hzs := Mx.rd.small
        have HP := Lib.hid hp
        have HPK := Lib.hid hpk
        have HND2 := Lib.hid hnd2
        have HLN2 := Lib.hid hln2
        have HFIN2 := Lib.hid hfin2
        have HALL2 := Lib.hid hall2
        have HKZ := Lib.hid hKZ
        clear pt Mt Mo y0 hst HT hM mp hQ mq hL hout hnd hcv hkx hp hpk hnd2 hln2 hfin2 hall2 hKZ hW bt hkj
        have hWe : ((!W) == W) = false := by cases W <;> rfl
        have hWd : decide ((!W) = W) = false := by cases W <;> rfl
        obtain ⟨D, hown, hD⟩ := hM2
        go_upto_region 15 with (first | (at_mapUpdate; refine wpList_mapUpdate_own _ rfl _ _ _ 56 rfl 9 4 strK_law Try.underlying56 _ gm j D rfl hown (by unfold maxLen; omega) _ _ (litK xk) rfl rfl hKO (.lit (.bool true)) [] (plainElem_bool Try.underlying4 true) ?_; intro w9 hown9 hg9; have ho9 : ∀ b, b < wc.heap.size → b ≠ gm → w9.heap[b]? = wc.heap[b]? := fun b hb hne => hg9.block b hb (fun he => hne (Option.some.inj he))))
        have px9 := cells_off mp2 ho9 px
        have pt9 := cells_off mp2 ho9 pt2
        have Mx9 := Mx.offmap mp2 hg9.size ho9
        have hL9 := hL2.offmap mp2 hg9.size ho9
        have hQ9 := hQ2.same (ho9 gs (by have := hQ2.lt; omega) hnms.symm)
        have hM9 := inMap_put hown hD xk hby hown9
        rw [← HKZ.out] at hM9
        have bt9 := bx.grown hg9 bx.size (fun c hc => by cases hc; exact hBm)
        clear px pt2 Mx hL2 hQ2 hown hown9 hD hlook2 hWe hWd mp2 mq2 bx ho9 hg9
        have hbl9 : bl < w9.heap.size := Nat.lt_of_lt_of_le hbl bt9.size
        have hk256 : kd < 256 := HX.out.kd256
        have yk : w9.cell? ⟨bl, ol + j * 3, none⟩ = some (.int .u8 (kd : Nat)) := (bt9.cell (p := ⟨bl, ol + j * 3, none⟩) hbl).trans HX.out.c0
        have yf : w9.cell? ⟨bl, ol + j * 3 + 2, none⟩ = some (.int .i64 xf) := (bt9.cell (p := ⟨bl, ol + j * 3 + 2, none⟩) hbl).trans HX.out.c2
        have y1 : w9.cell? ⟨bl, ol + j * 3 + 1, none⟩ = some (.slice xa xl xc) := (bt9.cell (p := ⟨bl, ol + j * 3 + 1, none⟩) hbl).trans HX.out.c1
        have hk9 : BytesAt w9 xa xl xc xk := HX.out.key.mono bt9
        go_upto_region 16 with fail
        obtain ⟨q, hq, hq2⟩ : ∃ q : Nat, ((kd : Nat) : Int) % 2 = (q : Int) ∧ q < 2 := ⟨kd % 2, by omega, by omega⟩
        rw [hq]
        clear hq
        have hxf1 : -9223372036854775808 ≤ xf := HX.out.fl1
        have hxf2 : xf ≤ 9223372036854775807 := HX.out.fl2
        by_cases hr : xf.tmod 2 = 0
        · have h1 : decide (xf.tmod 2 = 0) = true := by simpa using hr
          have h2 : (xf.tmod 2 == 0) = true := by simpa using hr
          clear hr
          go_wp2_with (first | (refine wpList_load_row rfl 31 _ rfl gx rfl 31 _ _ _ px9 Try.underlying31 rfl (by kernel_rfl) ?_) | (refine store_rec rfl 31 (.tmp 4) (.tmp 100) rfl gt #[.int .i64 100, .slice kz mz kcz, .slice sz slz scz, .slice fa fl fc] rfl rfl 31 _ pt9 (by kernel_rfl) rfl (by simp [Value.oneCell']) ?_; intro w6 g6 z6 o6 b6))
          exact ⟨⟨j + 1, mz, kz, kcz, sz, slz, scz, fa, fl, fc, KZ, FS, sZ, rsZ, L, by omega, by simp, HND2.out, HLN2.out, HALL2.out, HFIN2.out, g6, Mx9.offrec pt9 (noU8_rec pt9 fun v hv m => by simp at hv; rcases hv with rfl | rfl | rfl | rfl <;> simp) (by decide) (by decide) z6 (fun b hb => o6 b hb), hL9.offrec (noU8_rec pt9 fun v hv m => by simp at hv; rcases hv with rfl | rfl | rfl | rfl <;> simp) z6 (fun b hb => o6 b hb), hM9.same (o6 gm hne.symm), (hQ9.same (o6 gs hnes.symm)).more (Nat.le_succ j), bt9.trans (b6.mono hB2)⟩, by simp [intOf]; omega⟩
        · have h1 : decide (xf.tmod 2 = 0) = false := by simpa using hr
          have h2 : (xf.tmod 2 == 0) = false := by simpa using hr
          clear hr
          go_upto_region 17 with fail
          go_cut [14, 15] from 31 to 100 (fun v14 v15 w' => ∃ (gy : Nat) (a' : Option Addr) (l' c' : Nat) (L' : List Nat), v14 = .pointer (some ⟨gy, 0, none⟩) ∧ v15 = .int .i64 0 ∧ w9.heap.size ≤ gy ∧ w'.heap[gy]? = some (.cells #[.int .i64 100, .slice kz mz kcz, .slice sz slz scz, .slice a' l' c'] 31 (0, 0)) ∧ BytesAt w' a' l' c' L' ∧ Marked L L' p q ∧ Below w9.heap.size w9 w')
          case first =>
            have bD : Below w9.heap.size w9 w9.drew := (Below.refl _ _).drew
            have bAA : Below w9.heap.size w9 (w9.alloc (.cells #[.int .i64 0, .slice none 0 0, .slice none 0 0, .slice none 0 0] 31)).drew := ((Below.refl _ _).alloc (Nat.le_refl _) _).drew
            have ptD : w9.drew.heap[gx]? = some (.cells #[.int .i64 100, .slice kz mz kcz, .slice sz slz scz, .slice fa fl fc] 31 (0, 0)) := px9
            have gtl : gx < w9.heap.size := (Array.getElem?_eq_some_iff.1 px9).1
            have ptA := (bAA.block gx gtl).trans px9
            have hnt : gx ≠ w9.heap.size := Nat.ne_of_lt gtl
            have hnb : bl ≠ w9.heap.size := Nat.ne_of_lt hbl9
            have gD0 : w9.drew.cell? ⟨gx, 0, none⟩ = some (.int .i64 100) := cell_of_row _ _ 0 _ _ _ ptD
            have gA0 : (w9.alloc (.cells #[.int .i64 0, .slice none 0 0, .slice none 0 0, .slice none 0 0] 31)).drew.cell? ⟨gx, 0, none⟩ = some (.int .i64 100) := cell_of_row _ _ 0 _ _ _ ptA
            have gD1 : w9.drew.cell? ⟨gx, 1, none⟩ = some (.slice kz mz kcz) := cell_of_row _ _ 1 _ _ _ ptD
            have gA1 : (w9.alloc (.cells #[.int .i64 0, .slice none 0 0, .slice none 0 0, .slice none 0 0] 31)).drew.cell? ⟨gx, 1, none⟩ = some (.slice kz mz kcz) := cell_of_row _ _ 1 _ _ _ ptA
            have gD2 : w9.drew.cell? ⟨gx, 2, none⟩ = some (.slice sz slz scz) := cell_of_row _ _ 2 _ _ _ ptD
            have gA2 : (w9.alloc (.cells #[.int .i64 0, .slice none 0 0, .slice none 0 0, .slice none 0 0] 31)).drew.cell? ⟨gx, 2, none⟩ = some (.slice sz slz scz) := cell_of_row _ _ 2 _ _ _ ptA
            have gD3 : w9.drew.cell? ⟨gx, 3, none⟩ = some (.slice fa fl fc) := cell_of_row _ _ 3 _ _ _ ptD
            have gA3 : (w9.alloc (.cells #[.int .i64 0, .slice none 0 0, .slice none 0 0, .slice none 0 0] 31)).drew.cell? ⟨gx, 3, none⟩ = some (.slice fa fl fc) := cell_of_row _ _ 3 _ _ _ ptA
            have yD0 : w9.drew.cell? ⟨bl, ol + j * 3 + 1, none⟩ = some (.slice xa xl xc) := y1
            have yA0 : (w9.alloc (.cells #[.int .i64 0, .slice none 0 0, .slice none 0 0, .slice none 0 0] 31)).drew.cell? ⟨bl, ol + j * 3 + 1, none⟩ = some (.slice xa xl xc) := (bAA.cell (p := ⟨bl, ol + j * 3 + 1, none⟩) hbl9).trans y1
            have zrowA : (w9.alloc (.cells #[.int .i64 0, .slice none 0 0, .slice none 0 0, .slice none 0 0] 31)).drew.heap[w9.heap.size]? = some (.cells #[.int .i64 0, .slice none 0 0, .slice none 0 0, .slice none 0 0] 31 (0, 0)) := heap_alloc_new w9 _
            have hI1 := setF_ok w9.drew 100 kz mz kcz sz slz scz fa fl fc L (hL9.mono bD) KZ sZ rsZ (Mx9.rd.mono bD) xa xl xc xk (hk9.mono bD) q hq2 HND2.out p HP.out HPK.out hzs (by omega)
            have hI2 := setF_ok (w9.alloc (.cells #[.int .i64 0, .slice none 0 0, .slice none 0 0, .slice none 0 0] 31)).drew 100 kz mz kcz sz slz scz fa fl fc L (hL9.mono bAA) KZ sZ rsZ (Mx9.rd.mono bAA) xa xl xc xk (hk9.mono bAA) q hq2 HND2.out p HP.out HPK.out hzs (by omega)
            go_region_held3 (fun w' => w'.cell? ⟨gx, 0, none⟩ = some (.int .i64 100) ∧ w'.cell? ⟨gx, 1, none⟩ = some (.slice kz mz kcz) ∧ w'.cell? ⟨gx, 2, none⟩ = some (.slice sz slz scz) ∧ w'.cell? ⟨gx, 3, none⟩ = some (.slice fa fl fc) ∧ w'.cell? ⟨bl, ol + j * 3 + 1, none⟩ = some (.slice xa xl xc))
              (first | (refine ⟨?_, ?_, ?_, ?_, ?_⟩ <;> with_reducible assumption) | (refine ⟨?_, ?_, ?_, ?_, ?_⟩; with_reducible exact cellAlloc _ _ r0; with_reducible exact cellAlloc _ _ r1; with_reducible exact cellAlloc _ _ r2; with_reducible exact cellAlloc _ _ r3; with_reducible exact cellAlloc _ _ ry0) | (refine ⟨?_, ?_, ?_, ?_, ?_⟩; with_reducible exact four_cellU _ _ _ _ _ _ _ _ hnt r0; with_reducible exact four_cellU _ _ _ _ _ _ _ _ hnt r1; with_reducible exact four_cellU _ _ _ _ _ _ _ _ hnt r2; with_reducible exact four_cellU _ _ _ _ _ _ _ _ hnt r3; with_reducible exact four_cellU _ _ _ _ _ _ _ _ hnb ry0))
              (first | (go_at_call 14; ((with_reducible refine hI1.mono ?_); rintro e ws ⟨⟨a', l', c', L', rfl, hL', hMk⟩, bz⟩; have HMk := Lib.hid hMk; clear hMk; have bw : Below w9.heap.size w9 ws := below_then bD bz; have rt := (bz.block gx (by have := bD.size; omega)).trans ptD; have r0 : ws.cell? ⟨gx, 0, none⟩ = some (.int .i64 100) := cell_of_row _ _ 0 _ _ _ rt; have r1 : ws.cell? ⟨gx, 1, none⟩ = some (.slice kz mz kcz) := cell_of_row _ _ 1 _ _ _ rt; have r2 : ws.cell? ⟨gx, 2, none⟩ = some (.slice sz slz scz) := cell_of_row _ _ 2 _ _ _ rt; have r3 : ws.cell? ⟨gx, 3, none⟩ = some (.slice fa fl fc) := cell_of_row _ _ 3 _ _ _ rt; have ry0 : ws.cell? ⟨bl, ol + j * 3 + 1, none⟩ = some (.slice xa xl xc) := (bz.cell (p := ⟨bl, ol + j * 3 + 1, none⟩) (by show bl < _; have := bD.size; omega)).trans yD0)) | (go_at_call 14; ((with_reducible refine hI2.mono ?_); rintro e ws ⟨⟨a', l', c', L', rfl, hL', hMk⟩, bz⟩; have HMk := Lib.hid hMk; clear hMk; have bw : Below w9.heap.size w9 ws := below_then bAA bz; have rt := (bz.block gx (by have := bAA.size; omega)).trans ptA; have r0 : ws.cell? ⟨gx, 0, none⟩ = some (.int .i64 100) := cell_of_row _ _ 0 _ _ _ rt; have r1 : ws.cell? ⟨gx, 1, none⟩ = some (.slice kz mz kcz) := cell_of_row _ _ 1 _ _ _ rt; have r2 : ws.cell? ⟨gx, 2, none⟩ = some (.slice sz slz scz) := cell_of_row _ _ 2 _ _ _ rt; have r3 : ws.cell? ⟨gx, 3, none⟩ = some (.slice fa fl fc) := cell_of_row _ _ 3 _ _ _ rt; have ry0 : ws.cell? ⟨bl, ol + j * 3 + 1, none⟩ = some (.slice xa xl xc) := (bz.cell (p := ⟨bl, ol + j * 3 + 1, none⟩) (by show bl < _; have := bAA.size; omega)).trans yA0; have gz := (bz.block w9.heap.size (by simp)).trans zrowA; have v0 : ws.cell? ⟨w9.heap.size, 0, none⟩ = some (.int .i64 0) := cell_of_row _ _ 0 _ _ _ gz; have g0 := frozen_of_row ws w9.heap.size 0 _ _ gz; have v1 : ws.cell? ⟨w9.heap.size, 1, none⟩ = some (.slice none 0 0) := cell_of_row _ _ 1 _ _ _ gz; have g1 := frozen_of_row ws w9.heap.size 1 _ _ gz; have v2 : ws.cell? ⟨w9.heap.size, 2, none⟩ = some (.slice none 0 0) := cell_of_row _ _ 2 _ _ _ gz; have g2 := frozen_of_row ws w9.heap.size 2 _ _ gz; have v3 : ws.cell? ⟨w9.heap.size, 3, none⟩ = some (.slice none 0 0) := cell_of_row _ _ 3 _ _ _ gz; have g3 := frozen_of_row ws w9.heap.size 3 _ _ gz)))
            all_goals
              go_wp2_with fail
              go_meet
              have al := (Below.refl ws.heap.size ws).alloc (Nat.le_refl _) (.cells #[.int .i64 100, .slice kz mz kcz, .slice sz slz scz, .slice a' l' c'] 31)
              first
              | exact ⟨ws.heap.size, a', l', c', L', rfl, rfl, bw.size, heap_alloc_new _ _, hL'.mono al, HMk.out, below_then bw al⟩
              | exact ⟨w9.heap.size, a', l', c', L', rfl, rfl, Nat.le_refl _, four_rowU _ _ _ _ _ _ _ _ _ _ _ gz, hL'.offrec (noU8_rec gz fun v hv m => by simp at hv; rcases hv with rfl | rfl | rfl | rfl <;> simp) (four_size _ _ _ _ _ _) (fun b hb => four_other _ _ _ _ _ _ _ hb), HMk.out, four_below bw (Nat.le_refl _) _ _ _ _⟩
          case rest =>
            obtain ⟨gy, a', l', c', L', rfl, rfl, hgy, py, hLy, hMk, bz⟩ := hcut
            have gxl := (Array.getElem?_eq_some_iff.1 px9).1
            have gtl9 := (Array.getElem?_eq_some_iff.1 pt9).1
            have px10 := (bz.block gx gxl).trans px9
            have pt10 := (bz.block gt gtl9).trans pt9
            have Mx10 := Mx9.mono bz
            have hM10 := hM9.mono bz
            have hQ10 := hQ9.mono bz
            have bt10 := below_then bt9 bz
            have hyx : gy ≠ gx := by omega
            have hyt : gy ≠ gt := by omega
            have hfin3 := HFIN2.out.mark HND2.out HP.out hq2 HPK.out hMk
            have HFIN3 := Lib.hid hfin3
            have HN := Lib.hid HND2.out
            clear px9 pt9 Mx9 hM9 hQ9 hL9 hk9 yk yf y1 hMk hfin3 bz
            go_upto_region 21 with (first | (refine wpList_load_row rfl 31 _ rfl gy rfl 31 _ _ _ py Try.underlying31 rfl (by kernel_rfl) ?_) | (refine store_rec rfl 31 (.tmp 10) (.tmp 92) rfl gx #[.int .i64 100, .slice kz mz kcz, .slice sz slz scz, .slice a' l' c'] rfl rfl 31 _ px10 (by kernel_rfl) rfl (by simp [Value.oneCell']) ?_; intro w11 g11 z11 o11 b11))
            have hno := noU8_rec px10 fun v hv m => by simp at hv; rcases hv with rfl | rfl | rfl | rfl <;> simp
            have pt11 := (o11 gt hxt.symm).trans pt10
            have Mx11 := Mx10.offrec px10 hno (by decide) (by decide) z11 (fun b hb => o11 b hb)
            have hL11 := hLy.offrec hno z11 (fun b hb => o11 b hb)
            have hM11 := hM10.same (o11 gm hxm.symm)
            have hQ11 := hQ10.same (o11 gs hxs.symm)
            have bt11 := bt10.trans (b11.mono hgxB)
            obtain ⟨es4, cl4, mq4⟩ := hQ11.map
            obtain ⟨DQ, hownQ, hDQ⟩ := hQ11
            have r1 := rune_str w11 hq2
            have r2 := run_fkey w11 xk q (by omega)
            have hKQ := keyOf_k (k := fkey xk q) (by unfold fkey; rw [List.length_append]; simp; omega)
            have hsx : strN xk = S := HS.out
            rw [hsx] at r2
            have hstr : ∀ k : List Nat, strOfNums (k.map fun (n : Nat) => (n : Int)) = strN k := fun _ => rfl
            rw [hstr] at hKQ
            obtain ⟨R, hR⟩ : ∃ R, strN [48 + q] = R := ⟨_, rfl⟩
            obtain ⟨T, hT⟩ : ∃ T, strN (fkey xk q) = T := ⟨_, rfl⟩
            rw [hR] at r1 r2
            rw [hT] at r2 hKQ
            clear hR hT hsx hstr hno px10 pt10 Mx10 hM10 hQ10 hLy bt10 b11 z11 o11
            go_upto_region 22 with (first | (at_mapUpdate; refine wpList_mapUpdate_own _ rfl _ _ _ 56 rfl 9 4 strK_law Try.underlying56 _ gs j DQ rfl hownQ (by unfold maxLen; omega) _ _ (litK (fkey xk q)) rfl rfl hKQ (.lit (.bool true)) [] (plainElem_bool Try.underlying4 true) ?_; intro w12 hown12 hg12; have ho12 : ∀ b, b < w11.heap.size → b ≠ gs → w12.heap[b]? = w11.heap[b]? := fun b hb hne => hg12.block b hb (fun he => hne (Option.some.inj he))))
            have px12 := cells_off mq4 ho12 g11
            have pt12 := cells_off mq4 ho12 pt11
            have Mx12 := Mx11.offmap mq4 hg12.size ho12
            have hL12 := hL11.offmap mq4 hg12.size ho12
            have hM12 := hM11.same (ho12 gm hM11.lt hnms)
            have hQ12 := inMap_put hownQ hDQ (fkey xk q) (fkey_byte hby hq2) hown12
            have bt12 := bt11.grown hg12 bt11.size (fun c hc => by cases hc; exact hBs)
            clear r1 r2 hKQ mq4 ho12 hg12 hown12 hownQ hDQ g11 pt11 Mx11 hL11 hM11 bt11
            go_wp2_with (first | (refine wpList_load_row rfl 31 _ rfl gx rfl 31 _ _ _ px12 Try.underlying31 rfl (by kernel_rfl) ?_) | (refine store_rec rfl 31 (.tmp 4) (.tmp 100) rfl gt #[.int .i64 100, .slice kz mz kcz, .slice sz slz scz, .slice a' l' c'] rfl rfl 31 _ pt12 (by kernel_rfl) rfl (by simp [Value.oneCell']) ?_; intro w6 g6 z6 o6 b6))
            have hno := noU8_rec pt12 fun v hv m => by simp at hv; rcases hv with rfl | rfl | rfl | rfl <;> simp
            exact ⟨⟨j + 1, mz, kz, kcz, sz, slz, scz, a', l', c', KZ, insK FS (fkey xk q), sZ, rsZ, L', by omega, by simp, HND2.out, HLN2.out, HALL2.out, HFIN3.out, g6, Mx12.offrec pt12 hno (by decide) (by decide) z6 (fun b hb => o6 b hb), hL12.offrec hno z6 (fun b hb => o6 b hb), hM12.same (o6 gm hne.symm), hQ12.same (o6 gs hnes.symm), bt12.trans (b6.mono hB2)⟩, by simp [intOf]; omega⟩
    · have f3 : decide (j < n) = false := by simpa using hjn
      obtain rfl : n = j := by omega
      have hm6 := Mt.rd.small
      have hml := Mt.rd.len
      have HML := Lib.hid hml
      have HND := Lib.hid hnd
      clear hml hkj hnd
      go_wp2_with fail
      clear f3
      go_loopw [16] (fun i w' => ∃ j, j ≤ n ∧ i = .int .i64 (j : Nat) ∧ w'.heap[gt]? = some (.cells #[.int .i64 100, .slice ka m kc, .slice sa sl sc, .slice fa fl fc] 31 (0, 0)) ∧ TabM w' w.heap.size ka m kc sa sl sc KS s rs ∧ BytesAt w' fa fl fc L ∧ InMap w' gm n KS ∧ InMap w' gs n FS ∧ Below w.heap.size w w') (fun i _ => n - (intOf i).toNat)
      case atStart => exact ⟨0, Nat.zero_le _, rfl, pt, Mt, hL, hM, hQ, bt⟩
      case round =>
        clear pt Mt hL hM hQ bt
        obtain ⟨j, hj, rfl, pt, Mt, hL, hM, hQ, bt⟩ := hrel
        by_cases hjn : j < n
        · have f3 : decide (j < n) = true := by simpa using hjn
          obtain ⟨bl, ol, rfl, hbl, hact⟩ := hA.at_.resolve_left (by omega)
          have hx := hact j hjn
          have hxl := HKL.out j hjn
          have hxm := HALL.out j hjn
          obtain ⟨⟨kd, xa, xl, xc, xk, xf⟩, hu⟩ : ∃ u, fA j = u := ⟨_, rfl⟩
          rw [hu] at hx hxl hxm
          simp only [] at hxl hxm
          have hyl2 := hx.key.len_eq
          have hby := hx.key.byte
          have HX := Lib.hid hx
          obtain ⟨p, hp, hpk⟩ := mem_getD hxm
          have HP := Lib.hid hp
          have HPK := Lib.hid hpk
          clear hact hx hu hp hpk hxm
          go_wp2_with fail
          go_loopw [17] (fun i w' => ∃ f, f ≤ 2 ∧ i = .int .i64 (f : Nat) ∧ w'.heap[gt]? = some (.cells #[.int .i64 100, .slice ka m kc, .slice sa sl sc, .slice fa fl fc] 31 (0, 0)) ∧ TabM w' w.heap.size ka m kc sa sl sc KS s rs ∧ BytesAt w' fa fl fc L ∧ InMap w' gm n KS ∧ InMap w' gs n FS ∧ Below w.heap.size w w') (fun i _ => 2 - (intOf i).toNat)
          case atStart => exact ⟨0, by omega, rfl, pt, Mt, hL, hM, hQ, bt⟩
          case round =>
            clear pt Mt hL hM hQ bt
            obtain ⟨q, hq, rfl, pt, Mt, hL, hM, hQ, bt⟩ := hrel
            by_cases hq2 : q < 2
            · have f4 : decide (q < 2) = true := by simpa using hq2
              have gtl := (Array.getElem?_eq_some_iff.1 pt).1
              have q0 : ∀ z : Later wr.heap.size wr, z.w.cell? ⟨gt, 0, none⟩ = some (.int .i64 100) := fun z => cell_of_row _ _ 0 _ _ _ ((z.below.block gt gtl).trans pt)
              have q1 : ∀ z : Later wr.heap.size wr, z.w.cell? ⟨gt, 1, none⟩ = some (.slice ka m kc) := fun z => cell_of_row _ _ 1 _ _ _ ((z.below.block gt gtl).trans pt)
              have q2 : ∀ z : Later wr.heap.size wr, z.w.cell? ⟨gt, 2, none⟩ = some (.slice sa sl sc) := fun z => cell_of_row _ _ 2 _ _ _ ((z.below.block gt gtl).trans pt)
              have q3 : ∀ z : Later wr.heap.size wr, z.w.cell? ⟨gt, 3, none⟩ = some (.slice fa fl fc) := fun z => cell_of_row _ _ 3 _ _ _ ((z.below.block gt gtl).trans pt)
              have yL : ∀ z : Later wr.heap.size wr, z.w.cell? ⟨bl, ol + j * 3 + 1, none⟩ = some (.slice xa xl xc) := fun z => ((below_then bt z.below).cell (p := ⟨bl, ol + j * 3 + 1, none⟩) hbl).trans HX.out.c1
              have nG := fun z : Later wr.heap.size wr => getF_ok z.w 100 ka m kc sa sl sc fa fl fc L (hL.mono z.below) KS s rs (Mt.rd.mono z.below) xa xl xc xk (HX.out.key.mono (below_then bt z.below)) q hq2 HND.out p HP.out HPK.out hm6
              obtain ⟨B, hB⟩ : ∃ B, hasB L p q = B := ⟨_, rfl⟩
              have hB3 := (HFIN.out.at_ p q HP.out hq2).symm.trans hB
              rw [HPK.out] at hB3
              rw [hB] at nG
              have HB3 := Lib.hid hB3
              clear hB hB3
              go_wp2_with fail
              refine wp_region_later wr.heap.size wr (by kernel_rfl) (by kernel_rfl) (Below.refl _ _) ?_
              repeat (go_big_quiet_step ((go_at_call 16; refine Calls.later0 (nG _))))
              refine wpQuiet_nil ?_
              intro _ hlat
              obtain ⟨z, rfl⟩ := hlat
              have y03 := yL z
              have pt7 := (z.below.block gt gtl).trans pt
              have Mt7 := Mt.mono z.below
              have hL7 := hL.mono z.below
              have hM7 := hM.mono z.below
              have hQ7 := hQ.mono z.below
              have bt7 := below_then bt z.below
              clear yL q0 q1 q2 q3 nG pt Mt hL hM hQ bt gtl
              have hcv := (HX.out.key.mono bt7).conv 29 5 9 Try.underlying29 Try.underlying5 Try.underlying9
              have hlook := hQ7.look (fkey xk q) (fkey_byte hby hq2) (by unfold fkey; rw [List.length_append]; simp; omega)
              rw [HB3.out] at hlook
              have r1 := rune_str z.w hq2
              have r2 := run_fkey z.w xk q (by omega)
              have hstr : ∀ k : List Nat, strOfNums (k.map fun (n : Nat) => (n : Int)) = strN k := fun _ => rfl
              rw [hstr] at hlook hcv
              obtain ⟨R, hR⟩ : ∃ R, strN [48 + q] = R := ⟨_, rfl⟩
              obtain ⟨T, hT⟩ : ∃ T, strN (fkey xk q) = T := ⟨_, rfl⟩
              obtain ⟨S, hS⟩ : ∃ S, strN xk = S := ⟨_, rfl⟩
              rw [hR] at r1 r2
              rw [hT] at r2 hlook
              rw [hS] at r2 hcv
              clear hR hT hS hstr
              go_wp2_with fail
              exact ⟨⟨q + 1, by omega, by simp, pt7, Mt7, hL7, hM7, hQ7, bt7⟩, by simp [intOf]; omega⟩
            · have f4 : decide (q < 2) = false := by simpa using hq2
              go_wp2_with fail
              exact ⟨⟨j + 1, by omega, by simp, pt, Mt, hL, hM, hQ, bt⟩, by simp [intOf]; omega⟩
        · have f3 : decide (j < n) = false := by simpa using hjn
          have qt0 : wr.cell? ⟨gt, 0, none⟩ = some (.int .i64 100) := cell_of_row _ _ 0 _ _ _ pt
          have qt1 : wr.cell? ⟨gt, 1, none⟩ = some (.slice ka m kc) := cell_of_row _ _ 1 _ _ _ pt
          have qt2 : wr.cell? ⟨gt, 2, none⟩ = some (.slice sa sl sc) := cell_of_row _ _ 2 _ _ _ pt
          have qt3 : wr.cell? ⟨gt, 3, none⟩ = some (.slice fa fl fc) := cell_of_row _ _ 3 _ _ _ pt
          go_wp2_with fail
          refine (manyF_any wr 100 ka m kc sa sl sc (.slice fa fl fc) hm6).mono ?_
          rintro e w5 ⟨rfl, b5⟩
          have hlen := fun ty => (hM.mono b5).len ty
          rw [HML.out] at hlen
          replace bt := below_then bt b5
          clear qt0 qt1 qt2 qt3
          go_wp2_with fail
          go_ret
          exact ⟨rfl, bt⟩
end Go.Proofs.Ytgfiampcjgdojaa
