/- Contract of schema.Decode. -/
import Derived.Test.YtblipgmllpniaaaSchema11
namespace Go.Proofs.Ytblipgmllpniaaa
open Go.RowKit
set_option linter.unusedVariables false

/-- A vector and a code are returned. -/
def VecOut (l : List Int) (c : Int) (w : World) (e : Ending) (w' : World) : Prop := ∃ a n cap, e = .returned (.tuple #[.slice a n cap, .int .i64 c]) ∧ IntsAt w' a n l ∧ Below w.heap.size w w'
theorem intsNone (w : World) : IntsAt w none 0 [] := ⟨rfl, by omega, .inl rfl⟩
theorem takeS_here (bs : List Nat) (at_ k : Nat) (hk : k ≤ 64) (h : at_ + k ≤ bs.length) : takeS bs (at_ : Int) (k : Int) = (valOf (cutBits bs at_ k), 0) := by
  unfold takeS
  rw [if_neg (by omega), if_neg (by omega), Int.toNat_natCast, Int.toNat_natCast]
/-- The first numbers have been laid in a block. -/
def LaidI (w : World) (g len j : Nat) (l : List Int) : Prop :=
  ∃ cur : Array Value, w.heap[g]? = some (.cells cur 3 (0, 0)) ∧ cur.size = len ∧ ∀ k, k < j → cur[k]? = some (.int .i64 (l.getD k 0))
theorem LaidI.below {w w' : World} {g len j : Nat} {l : List Int} (h : LaidI w g len j l) (hb : Below w.heap.size w w') : LaidI w' g len j l := by
  obtain ⟨cur, hh, hs, hk⟩ := h
  exact ⟨cur, (hb.block g (Array.getElem?_eq_some_iff.1 hh).1).trans hh, hs, hk⟩
theorem LaidI.lt {w : World} {g len j : Nat} {l : List Int} (h : LaidI w g len j l) : g < w.heap.size := by
  obtain ⟨cur, hh, _⟩ := h
  exact (Array.getElem?_eq_some_iff.1 hh).1
theorem LaidI.room {w : World} {g len j : Nat} {l : List Int} (h : LaidI w g len j l) (i : Nat) (hi : i < len) : (∃ v, w.cell? ⟨g, i, none⟩ = some v) ∧ w.frozen? ⟨g, i, none⟩ = false := by
  obtain ⟨cur, hh, hs, _⟩ := h
  exact ⟨⟨cur[i], by rw [cur_cell hh]; exact Array.getElem?_eq_getElem _⟩, by simp [World.frozen?, hh]⟩
theorem LaidI.step {w : World} {g len j : Nat} {l : List Int} (h : LaidI w g len j l) (hj : j < len) (x : Int) (hx : l.getD j 0 = x) : LaidI (w.setCell ⟨g, j, none⟩ (.int .i64 x)) g len (j + 1) l := by
  obtain ⟨cur, hh, hs, hk⟩ := h
  refine ⟨_, Joins.block_setCell hh _, by simpa using hs, fun k hkj => ?_⟩
  by_cases e : k = j
  · subst e
    rw [hx]
    simp [Array.getElem?_setIfInBounds, hs]
    omega
  · rw [← hk k (by omega), Array.getElem?_setIfInBounds, if_neg (by omega)]
theorem LaidI.ints {w : World} {g len : Nat} {l : List Int} (h : LaidI w g len len l) (hl : l.length = len) (hm : len ≤ 9223372036854775807) : IntsAt w (some ⟨g, 0, none⟩) len l := by
  obtain ⟨cur, hh, hs, hk⟩ := h
  exact ⟨hl, hm, .inr ⟨g, 0, rfl, (Array.getElem?_eq_some_iff.1 hh).1, fun i hi => by rw [Nat.zero_add, cur_cell hh]; exact hk i hi⟩⟩
theorem BitsBox.setOther' {W : World} {b g i : Nat} {a : Option Addr} {len cap : Nat} {N : Int} {v : Value} (h : BitsBox W b a len cap N) (hne : b ≠ g) : BitsBox (W.setCell ⟨g, i, none⟩ v) b a len cap N := by
  unfold BitsBox at h ⊢
  rw [← h]
  exact heap_setCell_other W ⟨g, i, none⟩ b v hne
/-- Bytes that lie in another block. -/
theorem BytesAt.setFar {w : World} {a : Option Addr} {n c : Nat} {l : List Nat} {g : Nat} (h : BytesAt w a n c l) (hx : ∀ blk o, a = some ⟨blk, o, none⟩ → n ≠ 0 → blk ≠ g) (i : Nat) (v : Value) : BytesAt (w.setCell ⟨g, i, none⟩ v) a n c l := by
  refine ⟨h.1, h.2, h.3, h.4, ?_⟩
  rcases h.5 with h0 | ⟨b, off, rfl, hlt, hc⟩
  · exact .inl h0
  · by_cases h0 : n = 0
    · exact .inl h0
    have hbg := hx b off rfl h0
    refine .inr ⟨b, off, rfl, by simpa [World.setCell] using hlt, fun k hk => ?_⟩
    rw [← hc k hk]
    have := Below.heap_setCell w ⟨g, i, none⟩ v b hbg
    simp [World.cell?, this]
theorem BytesAt.low {w : World} {a : Option Addr} {n c : Nat} {l : List Nat} (h : BytesAt w a n c l) : ∀ blk o, a = some ⟨blk, o, none⟩ → n ≠ 0 → blk < w.heap.size := by
  intro blk o ha h0
  rcases h.5 with h1 | ⟨b, off, ha', hlt, _⟩
  · exact absurd h1 h0
  · rw [ha'] at ha
    simp at ha
    omega
theorem schemadecode_len (w : World) (a : Option Addr) (len cap : Nat) (b : Option Addr) (len' cap' : Nat) (fs : List (Int × Int)) (hr : ∀ f ∈ fs, RightF f) (hlen : len ≤ 40) (hl : FieldsAt w a len fs) (hs : len' ≤ 9223372036854775807) (hne : len' ≠ bytesF fs) :
    Calls Try.prog 14 #[.slice a len cap, .slice b len' cap'] w (VecOut [] 2 w) := by
  obtain ⟨T, hT⟩ : ∃ T, T = bytesF fs := ⟨_, rfl⟩
  rw [← hT] at hne
  have HT := Lib.hid hT
  clear hT
  have d1 : ((len' : Int) != (T : Int)) = true := by simp; omega
  go_enter Try.func14, Try.ntmps14
  go_wp2_with fail
  refine (schemabytes_any _ a len cap fs hr hlen hl).mono ?_
  rintro e w1 ⟨rfl, b1⟩
  rw [← HT.out]
  go_wp2
  go_ret2
  exact ⟨_, _, _, rfl, intsNone _, b1⟩
/-- What a round of Decode holds on to. -/
structure DecAt (w : World) (g : Nat) (a : Option Addr) (l c : Nat) (bs : List Nat) (N : Int) (gf : Nat) (lo hi : Int) (D len j : Nat) (vs : List Int) : Prop where
  x1 : BitsBox w g a l c N
  y1 : BytesAt w a l c bs
  f0 : w.cell? ⟨gf, 0, none⟩ = some (.int .i64 lo)
  f1 : w.cell? ⟨gf, 1, none⟩ = some (.int .i64 hi)
  f2 : gf < w.heap.size
  d1 : LaidI w D len j vs
theorem DecAt.below {w w' : World} {g : Nat} {a : Option Addr} {l c : Nat} {bs : List Nat} {N : Int} {gf : Nat} {lo hi : Int} {D len j : Nat} {vs : List Int} (h : DecAt w g a l c bs N gf lo hi D len j vs) (hb : Below w.heap.size w w') : DecAt w' g a l c bs N gf lo hi D len j vs :=
  ⟨h.x1.below hb, h.y1.mono hb, (hb.cell (p := ⟨gf, 0, none⟩) h.f2).trans h.f0, (hb.cell (p := ⟨gf, 1, none⟩) h.f2).trans h.f1, Nat.lt_of_lt_of_le h.f2 hb.size, h.d1.below hb⟩
theorem DecAt.all {w : World} {g : Nat} {a : Option Addr} {l c : Nat} {bs : List Nat} {N : Int} {gf : Nat} {lo hi : Int} {D len j : Nat} {vs : List Int} (h : DecAt w g a l c bs N gf lo hi D len j vs) :
    w.cell? ⟨g, 0, none⟩ = some (.slice a l c) ∧ w.cell? ⟨g, 1, none⟩ = some (.int .i64 N) ∧ w.cell? ⟨gf, 0, none⟩ = some (.int .i64 lo) ∧ w.cell? ⟨gf, 1, none⟩ = some (.int .i64 hi) :=
  ⟨h.x1.cell0, h.x1.cell1, h.f0, h.f1⟩
/-- The vector that bytes are of, and the code. -/
def decS (fs : List (Int × Int)) (b : List Nat) : List Int := if IsEnc fs b then decTo fs b fs.length else []
def decC (fs : List (Int × Int)) (b : List Nat) : Int := if IsEnc fs b then 0 else 2
theorem made_ints {w' : World} {n B g0 : Nat} (h : w'.ownsRow B 3 1 (.slice (some ⟨g0, 0, none⟩) n n) n (madeCells (Value.int .i64 0).cells (n * 1)).toList) (l : List Int) :
    LaidI w' g0 n 0 l := by
  rcases h.2 with ⟨hv, _⟩ | ⟨g, cp, cur, hv, _, hh, _, _, hcs, ht⟩
  · simp at hv
  · simp at hv
    obtain ⟨rfl, rfl⟩ := hv
    exact ⟨cur, hh, by simpa using hcs, fun k hk => by omega⟩
set_option maxHeartbeats 8000000 in
theorem schemadecode_go (w : World) (a : Option Addr) (len cap : Nat) (b : Option Addr) (len' cap' : Nat) (fs : List (Int × Int)) (bl : List Nat) (hr : ∀ f ∈ fs, RightF f) (hlen : len ≤ 40) (hl : FieldsAt w a len fs) (hb : BytesAt w b len' cap' bl) (hn : bl.length = bytesF fs)
    (vs : List Int) (c : Int) (hv : decS fs bl = vs) (hc : decC fs bl = c) :
    Calls Try.prog 14 #[.slice a len cap, .slice b len' cap'] w (VecOut vs c w) := by
  have hbl := bitsF_le fs hr fs.length (Nat.le_refl _)
  rw [List.take_length, hl.len_eq] at hbl
  have hb2 : bytesF fs ≤ 1000 := by unfold bytesF; split <;> omega
  have hle : bitsF fs ≤ 8 * bytesF fs := bytesF_bits fs
  have hle2 : 8 * bytesF fs - bitsF fs ≤ 8 := by unfold bytesF; split <;> omega
  have hlb := hb.len_eq
  have hT : bytesF fs = len' := by omega
  have hbb : BytesAt w b len' cap' (pack (bitsOf bl)) := by rw [pack_bitsOf hb.byte]; exact hb
  have hlow := hb.low
  have hbits := bitsOf_bits bl
  have hblen := bitsOf_length bl
  obtain ⟨Bs, hBs⟩ : ∃ Bs, Bs = bitsOf bl := ⟨_, rfl⟩
  rw [← hBs] at hbb hbits hblen
  rw [hlb] at hblen
  rw [hT] at hle hle2 hb2
  obtain ⟨Fb, hFb⟩ : ∃ Fb, Fb = bitsF fs := ⟨_, rfl⟩
  rw [← hFb] at hle hle2 hbl
  obtain ⟨Dv, hDv⟩ : ∃ Dv, Dv = decTo fs bl fs.length := ⟨_, rfl⟩
  have hDl : Dv.length = len := by rw [hDv, decTo_length, hl.len_eq]
  obtain ⟨Mr, hMr⟩ : ∃ Mr, Mr = 8 * len' - Fb := ⟨_, rfl⟩
  have hrest : takeS Bs (Fb : Int) (Mr : Int) = (restS fs bl, 0) := by
    rw [takeS_here _ _ _ (by omega) (by omega), hBs, hMr, hFb]
    unfold restS
    rw [hlb]
  have hsub : 8 * (len' : Int) - (Fb : Int) = (Mr : Int) := by omega
  have HSUB := Lib.hid hsub
  have hstep : ∀ j, j < fs.length → takeS Bs (bitsF (fs.take j) : Nat) (wideF (fs.getD j (0, 0)) : Nat) = (valOf (cutBits (bitsOf bl) (bitsF (fs.take j)) (wideF (fs.getD j (0, 0)))), 0) ∧ bitsF (fs.take j) ≤ 1000 ∧ Dv.getD j 0 = decAt fs bl j ∧ valOf (cutBits (bitsOf bl) (bitsF (fs.take j)) (wideF (fs.getD j (0, 0)))) < 65536 := by
    intro j hj
    have h1 := bitsF_le fs hr j (by omega)
    have h2 := bitsF_step fs j hj
    have h3 := wideF_le _ (hr _ (getD_mem hj))
    have h4 : bitsF (fs.take (j + 1)) ≤ bitsF fs := by
      have key : ∀ k m, bitsF (fs.take (k)) ≤ bitsF (fs.take (k + m)) := by
        intro k m
        induction m with
        | zero => exact Nat.le_refl _
        | succ m ih =>
          by_cases hk : k + m < fs.length
          · have := bitsF_step fs (k + m) hk
            rw [show k + (m + 1) = k + m + 1 from by omega]; omega
          · rw [List.take_of_length_le (by omega : fs.length ≤ k + (m + 1))]
            rw [List.take_of_length_le (by omega : fs.length ≤ k + m)] at ih
            exact ih
      have := key (j + 1) (fs.length - (j + 1))
      rwa [show j + 1 + (fs.length - (j + 1)) = fs.length from by omega, List.take_length] at this
    have hll := hl.len_eq
    refine ⟨?_, by omega, ?_, ?_⟩
    · rw [takeS_here _ _ _ (by omega) (by omega), hBs]
    · rw [hDv, decTo_getD _ _ _ _ hj]
    · have h5 := valOf_lt _ (cutBits_bits (bitsOf_bits bl) (bitsF (fs.take j)) (wideF (fs.getD j (0, 0))))
      rw [cutBits_length _ _ _ (by rw [← hBs]; omega)] at h5
      have h6 : 2 ^ wideF (fs.getD j (0, 0)) ≤ 2 ^ 16 := Nat.pow_le_pow_right (by omega) h3
      simpa using Nat.lt_of_lt_of_le h5 h6
  have hres : (restS fs bl ≠ 0 ∨ inS fs Dv ≠ 0 → vs = [] ∧ c = 2) ∧ (restS fs bl = 0 → inS fs Dv = 0 → vs = Dv ∧ c = 0) := by
    constructor
    · intro h
      have hno : ¬ IsEnc fs bl := by
        intro he
        rcases h with h | h
        · exact h he.2.1
        · refine h ?_
          unfold inS
          rw [if_neg (by rw [hDv, decTo_length]; omega), if_pos (by rw [hDv]; exact he.2.2)]
      rw [← hv, ← hc]
      unfold decS decC
      rw [if_neg hno, if_neg hno]
      exact ⟨rfl, rfl⟩
    · intro h1 h2
      have hyes : IsEnc fs bl := ⟨hn, h1, by rw [← hDv]; exact (inS_zero h2).2⟩
      rw [← hv, ← hc]
      unfold decS decC
      rw [if_pos hyes, if_pos hyes, ← hDv]
      exact ⟨rfl, rfl⟩
  have HL := Lib.hid hl.len_eq
  have HT := Lib.hid hT
  have HREST := Lib.hid hrest
  have HSTEP := Lib.hid hstep
  have HRES := Lib.hid hres
  have HFB := Lib.hid hFb
  have hN8 : 8 * (len' : Int) = (Bs.length : Int) := by omega
  have HN8 := Lib.hid hN8
  obtain ⟨R, hR⟩ : ∃ R, R = restS fs bl := ⟨_, rfl⟩
  rw [← hR] at HREST HRES
  have hBsl : Bs.length ≤ 8000 := by omega
  have hll' : len' ≤ 1000 := hb2
  have d1 : ((len' : Int) != (len' : Int)) = false := by simp
  obtain ⟨i0, hi, hz0, hz1, hz2⟩ := info_parts Try.info_int
  clear hsub hMr hrest hstep hres hn hlb hblen hBs hDv hv hc hN8 hR hT hFb hb
  go_enter Try.func14, Try.ntmps14
  go_wp2_with fail
  refine (schemabytes_any _ a len cap fs hr hlen hl).mono ?_
  rintro e w1 ⟨rfl, b1⟩
  rw [HT.out]
  have hbb1 := hbb.mono b1
  have hl1 := hl.mono b1
  go_wp2_with ((at_make; refine wpList_make_full _ rfl _ _ 23 rfl 0 3 i0 _ 1 Try.underlying23 hi hz0 hz1 .i64 .i64 _ _ len rfl rfl rfl rfl (by rw [hz2]; omega) (by unfold maxLen; omega) (Nat.zero_le _) ?_; intro w3 hown0 hgrow0; have gb := hgrow0; have la := Lib.hid (made_ints hown0 Dv); clear hown0 hgrow0))
  have la' := la.out
  rw [World.size_alloc] at la'
  generalize hW0 : w1.alloc (.cells #[.slice b len' cap', .int .i64 (8 * (len' : Int))] 53) = W0 at *
  have x0 : BitsBox W0 w1.heap.size b len' cap' (8 * (len' : Int)) := by rw [← hW0]; exact World.alloc_heap_new _ _
  have bal : Below w1.heap.size w1 W0 := by rw [← hW0]; exact (Below.refl _ _).alloc (Nat.le_refl _) _
  have b3 : Below W0.heap.size W0 w3 := (Below.refl _ _).grown gb (Nat.le_refl _) (by intro k hk; simp at hk)
  have x3 := x0.below b3
  have y3 := (hbb1.mono bal).mono b3
  have l3 := (hl1.mono bal).mono b3
  have Bel3 := below_then (below_then b1 bal) b3
  have hGw : w.heap.size ≤ w1.heap.size := b1.size
  obtain ⟨G, hG⟩ : ∃ G, G = w1.heap.size := ⟨_, rfl⟩
  rw [← hG] at x3 la' hGw ⊢
  clear hW0 x0 bal b3 gb la hG b1 hbb1 hl1
  go_loopw [8, 30] (fun at_ i wr => ∃ j : Nat, j ≤ len ∧ i = .int .i64 (j : Int) ∧ at_ = .int .i64 (bitsF (fs.take j) : Nat) ∧ LaidI wr (G + 1) len j Dv ∧ BitsBox wr G b len' cap' (8 * (len' : Int)) ∧ BytesAt wr b len' cap' (pack Bs) ∧ Below w.heap.size w wr) (fun _ i _ => len - (intOf i).toNat)
  case atStart => exact ⟨0, by omega, rfl, rfl, la', x3, y3, Bel3⟩
  case round =>
    obtain ⟨j, hj, rfl, rfl, hla, xb, yb, Bel⟩ := hrel
    clear x3 y3 l3 la' Bel3
    by_cases hlt : j < len
    · obtain ⟨bk, off, rfl, hbk, hcl⟩ := (hl.mono Bel).at_.resolve_left (by omega)
      obtain ⟨c1, c2⟩ := hcl j hlt
      have hjl : j < fs.length := by rw [HL.out]; exact hlt
      have hrf := hr _ (getD_mem hjl)
      have hw16 := wideF_le _ hrf
      obtain ⟨st1, st2, st3, st4⟩ := HSTEP.out j hjl
      have hst := bitsF_step fs j hjl
      have hjlt : (j : Int) < (len : Int) := by omega
      unfold decAt at st3
      obtain ⟨v, hv⟩ : ∃ v, v = valOf (cutBits (bitsOf bl) (bitsF (fs.take j)) (wideF (fs.getD j (0, 0)))) := ⟨_, rfl⟩
      rw [← hv] at st1 st3 st4
      obtain ⟨A, hA⟩ : ∃ A, A = bitsF (fs.take j) := ⟨_, rfl⟩
      obtain ⟨A', hA'⟩ : ∃ A', A' = bitsF (fs.take (j + 1)) := ⟨_, rfl⟩
      rw [← hA] at st1 st2 hst ⊢
      rw [← hA'] at hst
      generalize fs.getD j (0, 0) = f at *
      obtain ⟨lo, hi'⟩ := f
      simp only at c1 c2 st3
      obtain ⟨Kw, hKw⟩ : ∃ Kw, Kw = wideF (lo, hi') := ⟨_, rfl⟩
      rw [← hKw] at st1 hst hw16
      have hr' := hrf
      unfold RightF at hr'
      simp at hr'
      have hcv : ∀ w : World, (convert 64 3 (.int .u64 (v : Int))).run Try.prog w = .ok (.int .i64 (v : Int)) w := by
        intro w
        rw [run_convert_int (P := Try.prog) w 64 3 .u64 _ (by kernel_rfl) (by kernel_rfl), show Try.prog.intKind 3 = IntKind.i64 from by kernel_rfl, show IntKind.i64.wrap (v : Int) = (v : Int) from IntWalk.i64_in _ (by omega)]
      have HT1 := Lib.hid st1
      have HS3 := Lib.hid st3
      have HA := Lib.hid hA
      have HA' := Lib.hid hA'
      have HKW := Lib.hid hKw
      have HST := Lib.hid hst
      clear st1 st3 hv hA hA' hKw hst hcl
      go_wp2
      generalize hWx : wr.alloc (.cells #[.int .i64 lo, .int .i64 hi'] 38) = Wx
      have bal : Below wr.heap.size wr Wx := by rw [← hWx]; exact (Below.refl _ _).alloc (Nat.le_refl _) _
      have DA : DecAt Wx G b len' cap' (pack Bs) (8 * (len' : Int)) wr.heap.size lo hi' (G + 1) len j Dv := by
        refine ⟨xb.below bal, yb.mono bal, ?_, ?_, ?_, hla.below bal⟩
        · rw [← hWx]; simp [go_sem]
        · rw [← hWx]; simp [go_sem]
        · rw [← hWx]; simp
      have BelX := below_then Bel bal
      have hGx : G + 1 ≠ wr.heap.size := by have := hla.lt; omega
      generalize wr.heap.size = gf at *
      clear hWx xb yb c1 c2 bal Bel hla
      have DD := DA.below (Below.refl _ _).drew
      have BelD := below_then BelX (Below.refl _ _).drew
      go_region_held3 (fun w' => w'.cell? ⟨G, 0, none⟩ = some (.slice b len' cap') ∧ w'.cell? ⟨G, 1, none⟩ = some (.int .i64 (8 * (len' : Int))) ∧ w'.cell? ⟨gf, 0, none⟩ = some (.int .i64 lo) ∧ w'.cell? ⟨gf, 1, none⟩ = some (.int .i64 hi'))
        (first | exact DD.all | exact D2.all | exact D3.all)
        (first | (go_at_call 16; refine (schemawide_any _ lo hi' hrf).mono ?_; rintro e w2 ⟨rfl, b2⟩; have D2 := DD.below b2; rw [← HKW.out]) | (go_at_call 31; refine (take_any _ _ _ _ Bs hbits (by omega) (A : Int) (Kw : Int) D2.y1 _ _ HT1.out _ HN8.out).mono ?_; rintro e w4 ⟨rfl, b4⟩; have D3 := D2.below b4))
      have BelE := below_then (below_then BelD b2) b4
      obtain ⟨⟨v0, r0⟩, r1⟩ := D3.d1.room j hlt
      obtain ⟨s0, s1, s2, s3⟩ := D3.all
      have hsum1 : -9223372036854775808 ≤ lo + (v : Int) := by omega
      have hsum2 : lo + (v : Int) ≤ 9223372036854775807 := by omega
      have hGw1 : w.heap.size ≤ G + 1 := by omega
      have q0 : (w4.setCell ⟨G + 1, j, none⟩ (.int .i64 (lo + (v : Int)))).cell? ⟨gf, 0, none⟩ = some (.int .i64 lo) := by
        rw [World.cell?_setCell_other _ _ _ _ (fun e => hGx (by injection e))]; exact s2
      have q1 : (w4.setCell ⟨G + 1, j, none⟩ (.int .i64 (lo + (v : Int)))).cell? ⟨gf, 1, none⟩ = some (.int .i64 hi') := by
        rw [World.cell?_setCell_other _ _ _ _ (fun e => hGx (by injection e))]; exact s3
      go_wp2_with fail
      refine (schemawide_any _ lo hi' hrf).mono ?_
      rintro e w5 ⟨rfl, b5⟩
      rw [← HKW.out]
      have x5 := (D3.x1.setOther' (i := j) (v := .int .i64 (lo + (v : Int))) (g := G + 1) (by omega)).below b5
      have y5 := (BytesAt.setFar D3.y1 (fun blk o h1 h2 => by have := hlow blk o h1 h2; omega) j (.int .i64 (lo + (v : Int)))).mono b5
      have la5 := (D3.d1.step hlt (lo + (v : Int)) HS3.out).below b5
      have Bel5 := below_then (BelE.setCell hGw1 _) b5
      go_wp2
      go_roundw
      case rel => exact ⟨j + 1, by omega, by go_num, by rw [← HA'.out, HST.out]; go_num, la5, x5, y5, Bel5⟩
      case measure => simp [intOf]; omega
    · obtain rfl : j = len := by omega
      have hjl : j = fs.length := HL.out.symm
      have hA : bitsF (fs.take j) = Fb := by rw [hjl, List.take_length]; exact HFB.out.symm
      rw [hA] at *
      have iv := hla.ints hDl (by omega)
      have g0 := xb.cell0
      have g1 := xb.cell1
      have hsub := HSUB.out
      obtain ⟨hR1, hR2⟩ := HRES.out
      have HR1 := Lib.hid hR1
      have HR2 := Lib.hid hR2
      clear hR1 hR2 hA hjl
      by_cases hR0 : R = 0
      case neg =>
        have d2 : ((R : Int) != 0) = true := by simp; omega
        have HVC := Lib.hid (HR1.out (.inl hR0))
        go_wp2_with fail
        refine (take_any _ _ _ _ Bs hbits (by omega) (Fb : Int) _ yb _ _ HREST.out _ HN8.out).mono ?_
        rintro e w6 ⟨rfl, b6⟩
        go_wp2
        go_ret2
        rw [HVC.out.1, HVC.out.2]
        exact ⟨_, _, _, rfl, intsNone _, below_then Bel b6⟩
      have d2 : ((R : Int) != 0) = false := by simp; omega
      by_cases hin : inS fs Dv = 0
      case neg =>
        have HVC := Lib.hid (HR1.out (.inr hin))
        obtain ⟨C, hC⟩ : ∃ C, C = inS fs Dv := ⟨_, rfl⟩
        have d3 : (C != 0) = true := by rw [hC]; simpa using hin
        have HC := Lib.hid hC
        clear hC hin
        go_wp2_with fail
        refine (take_any _ _ _ _ Bs hbits (by omega) (Fb : Int) _ yb _ _ HREST.out _ HN8.out).mono ?_
        rintro e w6 ⟨rfl, b6⟩
        go_wp2_with fail
        refine (schemain_any _ a j cap _ j _ fs Dv (by omega) ((hl.mono Bel).mono b6) (iv.mono b6)).mono ?_
        rintro e w7 ⟨rfl, b7⟩
        rw [← HC.out]
        go_wp2
        go_ret2
        rw [HVC.out.1, HVC.out.2]
        exact ⟨_, _, _, rfl, intsNone _, below_then (below_then Bel b6) b7⟩
      · have HVC := Lib.hid (HR2.out hR0 hin)
        have HIN := Lib.hid hin
        clear hin
        go_wp2_with fail
        refine (take_any _ _ _ _ Bs hbits (by omega) (Fb : Int) _ yb _ _ HREST.out _ HN8.out).mono ?_
        rintro e w6 ⟨rfl, b6⟩
        go_wp2_with fail
        refine (schemain_any _ a j cap _ j _ fs Dv (by omega) ((hl.mono Bel).mono b6) (iv.mono b6)).mono ?_
        rintro e w7 ⟨rfl, b7⟩
        rw [HIN.out]
        go_wp2
        go_ret2
        rw [HVC.out.1, HVC.out.2]
        exact ⟨_, _, _, rfl, (iv.mono b6).mono b7, below_then (below_then Bel b6) b7⟩
theorem schemadecode_any (w : World) (a : Option Addr) (len cap : Nat) (b : Option Addr) (len' cap' : Nat) (fs : List (Int × Int)) (bl : List Nat) (hr : ∀ f ∈ fs, RightF f) (hlen : len ≤ 40) (hl : FieldsAt w a len fs) (hb : BytesAt w b len' cap' bl) (vs : List Int) (c : Int) (hv : decS fs bl = vs) (hc : decC fs bl = c) :
    Calls Try.prog 14 #[.slice a len cap, .slice b len' cap'] w (VecOut vs c w) := by
  by_cases hn : bl.length = bytesF fs
  · exact schemadecode_go w a len cap b len' cap' fs bl hr hlen hl hb hn vs c hv hc
  · have hno : ¬ IsEnc fs bl := fun h => hn h.1
    unfold decS at hv
    unfold decC at hc
    rw [if_neg hno] at hv hc
    subst hv hc
    exact schemadecode_len w a len cap b len' cap' fs hr hlen hl hb.small (by rw [← hb.len_eq]; exact hn)
theorem schemaencode_any (w : World) (a : Option Addr) (len cap : Nat) (b : Option Addr) (len' cap' : Nat) (fs : List (Int × Int)) (vs : List Int) (hr : ∀ f ∈ fs, RightF f) (hlen : len ≤ 40) (hl : FieldsAt w a len fs) (hv : IntsAt w b len' vs) (bs : List Nat) (c : Int) (hc : inS fs vs = c) (hb : (if c = 0 then encS fs vs else []) = bs) :
    Calls Try.prog 12 #[.slice a len cap, .slice b len' cap'] w (BytesOut bs c w) := by
  by_cases h0 : c = 0
  · subst h0
    rw [if_pos rfl] at hb
    subst hb
    exact schemaencode_ok w a len cap b len' cap' fs vs hr hlen hl hv hc
  · rw [if_neg h0] at hb
    subst hb
    exact schemaencode_bad w a len cap b len' cap' fs vs (by omega) hl hv c hc h0
end Go.Proofs.Ytblipgmllpniaaa
