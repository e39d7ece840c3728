/- seek: how a key is sought (by gen04d.py). -/
import Derived.Test.YtbbdeefnooaacaaTabR
import Derived.Test.YtbbdeefnooaacaaShelf
import Derived.WalkMore
namespace Go.Proofs.Ytbbdeefnooaacaa
open Go.RowKit
set_option linter.unusedVariables false
set_option linter.unusedSimpArgs false


theorem SlotV.desc {s : List Int} {rs : List (Nat × Nat)} (h : SlotV s rs) : (∀ x ∈ rs, 2 ≤ x.1 ∧ x.1 < s.length) ∧ ∀ pre y tl, rs = pre ++ y :: tl → ∀ x ∈ tl, x.1 < y.1 := by
  induction h with
  | nil => exact ⟨fun x hx => by simp at hx, fun pre y tl he => by simp at he⟩
  | @cons s rs g h0 hg ih =>
    refine ⟨fun x hx => ?_, fun pre y tl he x hx => ?_⟩
    · rw [List.length_append, recV_len]
      rcases List.mem_cons.1 hx with rfl | hx
      · show 2 ≤ s.length + manyOf g rs + 2 ∧ s.length + manyOf g rs + 2 < _
        omega
      · have := ih.1 x hx
        omega
    · cases pre with
      | nil =>
        injection he with he1 he2
        subst he1 he2
        have := ih.1 x hx
        show x.1 < s.length + manyOf g rs + 2
        omega
      | cons z pre =>
        injection he with he1 he2
        exact ih.2 pre y tl he2 x hx
theorem BytesAt.bin {w : World} {a : Option Addr} {len cap : Nat} {l : List Nat} (h : BytesAt w a len cap l) : Lib.BytesIn w a len (l.map fun (n : Nat) => (n : Int)) := by
  rcases h.at_ with h0 | ⟨b, off, rfl, _, hc⟩
  · have hl : l = [] := List.eq_nil_of_length_eq_zero (by rw [h.len_eq]; exact h0)
    subst h0 hl
    exact Lib.BytesIn.nil _ _ _
  · refine Lib.BytesIn.of_cells fun i hi => ?_
    rw [Addr.add_lit, hc i hi]
    have hi' : i < l.length := by rw [h.len_eq]; exact hi
    simp [List.getD_eq_getElem?_getD, hi']
theorem bytes_same {l k : List Nat} (hl : ∀ n ∈ l, n < 256) (hk : ∀ n ∈ k, n < 256) : (Lib.bytesOf (l.map fun (n : Nat) => (n : Int)) == Lib.bytesOf (k.map fun (n : Nat) => (n : Int))) = decide (l = k) := by
  have e : ∀ l : List Nat, Lib.bytesOf (l.map fun (n : Nat) => (n : Int)) = l.map UInt8.ofNat := fun l => by simp [Lib.bytesOf]
  rw [e, e]
  have key : l.map UInt8.ofNat = k.map UInt8.ofNat ↔ l = k := by
    constructor
    · intro h
      have h2 := congrArg (List.map UInt8.toNat) h
      rw [List.map_map, List.map_map] at h2
      have f : ∀ l : List Nat, (∀ n ∈ l, n < 256) → l.map (UInt8.toNat ∘ UInt8.ofNat) = l := fun l hl => by
        conv => rhs; rw [← List.map_id l]
        refine List.map_congr_left fun n hn => ?_
        have := hl n hn
        simp
        omega
      rw [f l hl, f k hk] at h2
      exact h2
    · rintro rfl
      rfl
  by_cases h : l = k
  · rw [decide_eq_true h]
    simp [h]
  · rw [decide_eq_false h]
    exact beq_false_of_ne fun hh => h (key.1 hh)
theorem equal_any (w : World) (a b : Option Addr) (n c m d : Nat) (x y : List Nat) (hx : BytesAt w a n c x) (hy : BytesAt w b m d y) :
    Calls Try.prog 38 #[.slice a n c, .slice b m d] w fun e w' => e = .returned (.bool (decide (x = y))) ∧ w = w' := by
  refine (Try.bytes_Equal_all a b n c m d _ _ w (by rw [List.length_map, hx.len_eq]) (by rw [List.length_map, hy.len_eq]) hx.bin hy.bin).mono ?_
  rintro e w' ⟨he, hw⟩
  rw [bytes_same hx.byte hy.byte] at he
  exact ⟨he, hw.symm⟩
theorem zeros_any (w : World) (h g : Nat) (hh : h < 2 ^ 64) (hg : g < 2 ^ 64) : Calls Try.prog 37 #[.int .u64 ((h ^^^ g : Nat) : Int)] w fun e w' => e = .returned (.int .i64 (alikeV h g : Nat)) ∧ w = w' := by
  have hx : h ^^^ g < 2 ^ 64 := Nat.xor_lt_two_pow hh hg
  refine (Try.bits_LeadingZeros64 ((h ^^^ g : Nat) : Int) w (by omega) (by omega)).mono ?_
  rintro e w' ⟨he, hw⟩
  have h64 : Lib.bitLen (h ^^^ g) ≤ 64 := (bitLenAux_le 64 (h ^^^ g) 64 hx).2 hx
  refine ⟨he.trans (congrArg Ending.returned (congrArg (Value.int .i64) ?_)), hw.symm⟩
  unfold alikeV
  rw [Int.toNat_natCast]
  omega
theorem key_next {rs pre tl : List (Nat × Nat)} {y : Nat × Nat} {ks : List (List Nat)} {key : List Nat} {A : Nat} (hf : ∀ pre x b, rs = pre ++ x :: b → hashS (ks.getD b.length []) 0 = x.2) (hpre : rs = pre ++ y :: tl) (hA : alikeV (hashS key 0) y.2 = A)
    (hne : ks.getD tl.length [] ≠ key) (hky : ∀ i, i < ks.length → ks.getD i [] = key → i < (y :: tl).length) : ∀ i, i < ks.length → ks.getD i [] = key → i < (nextC y.2 A tl).length := by
  intro i hi he
  have h1 := hky i hi he
  obtain ⟨pre2, k1, k2⟩ := nextC_split y.2 A tl
  obtain ⟨cur, hc⟩ : ∃ cur, nextC y.2 A tl = cur := ⟨_, rfl⟩
  rw [hc] at k1 ⊢
  have hit : i ≠ tl.length := fun e => hne (e ▸ he)
  simp at h1
  refine Classical.byContradiction fun hcon => ?_
  have hl : tl.length = pre2.length + cur.length := by rw [k1, List.length_append]
  have hj : tl.length - 1 - i < pre2.length := by omega
  obtain ⟨j, hj0⟩ : ∃ j, tl.length - 1 - i = j := ⟨_, rfl⟩
  rw [hj0] at hj
  have hsp : pre2 = pre2.take j ++ pre2[j] :: pre2.drop (j + 1) := by rw [← List.drop_eq_getElem_cons hj, List.take_append_drop]
  have hrs : rs = (pre ++ y :: pre2.take j) ++ pre2[j] :: (pre2.drop (j + 1) ++ cur) := by
    refine ((hpre.trans (congrArg (fun l => pre ++ y :: l) k1)).trans (congrArg (fun l => pre ++ y :: (l ++ cur)) hsp)).trans ?_
    simp only [List.append_assoc, List.cons_append]
  have hh := hf _ _ _ hrs
  have hlen : (pre2.drop (j + 1) ++ cur).length = i := by rw [List.length_append, List.length_drop]; omega
  rw [hlen, he] at hh
  refine k2 pre2[j] (List.getElem_mem hj) ?_
  rw [← hh, alikeV_comm]
  exact hA
theorem TrailAt.setSpot {w : World} {g : Nat} {at_ : Int} {here : Bool} {h many : Nat} {told : List Int} (x : TrailAt w g at_ here h many told) (a : Int) (b : Bool) : TrailAt ((w.setCell ⟨g, 0, none⟩ (.int .i64 a)).setCell ⟨g, 1, none⟩ (.bool b)) g a b h many told := by
  have h1 := Joins.block_setCell (i := 0) x (.int .i64 a)
  have h2 := Joins.block_setCell (i := 1) h1 (.bool b)
  exact h2
theorem i64V_wrap (g : Nat) (hg : g < 2 ^ 64) : IntKind.u64.wrap (i64V g) = (g : Int) := by
  rw [IntKind.wrap_u64]
  unfold i64V
  split <;> omega

theorem frame61 {tm : Array Value} {x1 x2 x4 x5 x6 : Value} (hz : tm.size = 61) (h1 : tm.getD 1 undef = x1) (h2 : tm.getD 2 undef = x2) (h4 : tm.getD 4 undef = x4) (h5 : tm.getD 5 undef = x5) (h6 : tm.getD 6 undef = x6) :
    ∃ U : Nat → Value, tm = List.toArray (U 0 :: x1 :: x2 :: U 3 :: x4 :: x5 :: x6 :: U 7 :: U 8 :: U 9 :: U 10 :: U 11 :: U 12 :: U 13 :: U 14 :: U 15 :: U 16 :: U 17 :: U 18 :: U 19 :: U 20 :: U 21 :: U 22 :: U 23 :: U 24 :: U 25 :: U 26 :: U 27 :: U 28 :: U 29 :: U 30 :: U 31 :: U 32 :: U 33 :: U 34 :: U 35 :: U 36 :: U 37 :: U 38 :: U 39 :: U 40 :: U 41 :: U 42 :: U 43 :: U 44 :: U 45 :: U 46 :: U 47 :: U 48 :: U 49 :: U 50 :: U 51 :: U 52 :: U 53 :: U 54 :: U 55 :: U 56 :: U 57 :: U 58 :: U 59 :: U 60 :: []) := by
  subst h1 h2 h4 h5 h6
  refine ⟨fun i => tm.getD i undef, ?_⟩
  have h := frame_list tm
  rw [hz] at h
  exact h
/-- What a search gives back. -/
def SeekOut (ks : List (List Nat)) (rs : List (Nat × Nat)) (key : List Nat) (B : Nat) (w : World) (e : Ending) (w' : World) : Prop :=
  (∃ (at_ : Nat) (here : Bool) (many : Nat) (told : List Int), e = .returned (.agg (trailRow (at_ : Nat) here (hashS key 0) many told)) ∧ told.length = 65 ∧ many ≤ 65 ∧
    (here = true → at_ < ks.length ∧ ks.getD at_ [] = key) ∧
    (here = false → at_ = 0 ∧ (∀ i, i < ks.length → ks.getD i [] ≠ key) ∧ many = manyOf (hashS key 0) rs ∧ ∀ L, L < many → told.getD L 0 = ((latest (hashS key 0) L rs : Nat) : Int))) ∧ Below B w w'
/-- What holds at the label. -/
def SeekJ (W : World) (cap : Int) (ka : Option Addr) (n kc : Nat) (sa : Option Addr) (sl sc : Nat) (ya : Option Addr) (yl yc : Nat) (ks : List (List Nat)) (rs : List (Nat × Nat)) (key : List Nat) (l : Nat) (a : Act) (w : World) : Prop :=
  l = 0 ∧ ∃ (gW : Nat) (cur : List (Nat × Nat)) (many : Nat) (told : List Int) (r : Int), a.defers = [] ∧ a.tmps.size = 61 ∧ a.tmps.getD 1 undef = .slice ya yl yc ∧ a.tmps.getD 2 undef = .pointer (some ⟨W.heap.size, 0, none⟩) ∧ a.tmps.getD 4 undef = .pointer (some ⟨W.heap.size + 1, 0, none⟩) ∧
    a.tmps.getD 5 undef = .pointer (some ⟨gW, 0, none⟩) ∧ a.tmps.getD 6 undef = .int .i64 r ∧ ((cur = [] ∧ r ≤ 0 ∧ -1 ≤ r) ∨ ∃ y tl, cur = y :: tl ∧ r = (y.1 : Nat)) ∧ SeekP (hashS key 0) rs cur many told ∧ TrailAt w gW 0 false (hashS key 0) many told ∧ W.heap.size + 1 < gW ∧
    w.heap[W.heap.size]? = some (.cells #[.int .i64 cap, .slice ka n kc, .slice sa sl sc] 28 (0, 0)) ∧ TrailAt w (W.heap.size + 1) 0 false 0 0 (List.replicate 65 0) ∧ Below W.heap.size W w ∧ (∀ i, i < ks.length → ks.getD i [] = key → i < cur.length)
def seekM (_ : Nat) (a : Act) (_ : World) : Nat := (intOf (a.tmps.getD 6 undef)).toNat
set_option maxRecDepth 100000 in
set_option maxHeartbeats 2000000 in
theorem seek_any (w : World) (cap : Int) (ka : Option Addr) (n kc : Nat) (sa : Option Addr) (sl sc : Nat) (ks : List (List Nat)) (s : List Int) (rs : List (Nat × Nat)) (h : TabR w ka n sa sl ks s rs) (ya : Option Addr) (yl yc : Nat) (key : List Nat) (hk : BytesAt w ya yl yc key) :
    Calls Try.prog 27 #[.agg #[.int .i64 cap, .slice ka n kc, .slice sa sl sc], .slice ya yl yc] w (SeekOut ks rs key w.heap.size w) := by
  have bA : ∀ o o' : Obj, Below w.heap.size w ((w.alloc o).alloc o') := fun o o' => ((Below.refl _ _).alloc (Nat.le_refl _) _).alloc (by simp) _
  have hsl := h.slots.len_eq
  have hsm := h.slots.small
  have l65 : (List.replicate 65 (0 : Int)).length = 65 := List.length_replicate
  go_enter Try.func27, Try.ntmps27
  go_wp2_with (refine wpList_alloc_row rfl 74 rfl _ (trail_zero _) ?_)
  refine wp_scope_one (SeekJ w cap ka n kc sa sl sc ya yl yc ks rs key) seekM (fun l a w h => h.1) (by rfl) ?_ ?_
  · rintro ⟨tm, df⟩ wr ⟨_, gW, cur, many, told, r, hdf, hfz, f1, f2, f4, f5, f6, hcur, hP, hT, hgW, hbx, hrs, bel, hky⟩
    simp only [] at hdf hfz f1 f2 f4 f5 f6
    have hm : seekM 0 ⟨tm, df⟩ wr = r.toNat := by
      show (intOf (tm.getD 6 undef)).toNat = _
      rw [f6]
      rfl
    rw [hm]
    clear hm
    obtain ⟨U, rfl⟩ := frame61 hfz f1 f2 f4 f5 f6
    subst hdf
    clear hfz f1 f2 f4 f5 f6
    have hR := h.mono bel
    have hkw := hk.mono bel
    have htl := hP.len
    have hm65 : many ≤ 65 := Nat.le_trans hP.le (manyOf_le _ _)
    have e1 := hashS_lt key 0
    rcases hcur with ⟨rfl, hr, hr1⟩ | ⟨⟨p, g⟩, tl, rfl, rfl⟩
    · have d1 : decide (r ≤ 0) = true := by simpa using hr
      go_wp2_with (first | (refine wpList_load_row rfl 74 _ rfl gW rfl 74 _ _ _ hT Try.underlying74 rfl (trail_size _ _ _ _ _ (by assumption)) ?_) | (refine store_rec rfl 74 (.tmp 4) (.tmp 18) rfl (w.heap.size + 1) (trailRow 0 false (hashS key 0) many told) rfl rfl 74 _ hrs (trail_size _ _ _ _ _ (by assumption)) (by simp [trailRow, htl]) (trail_one _ _ _ _ _) ?_; intro w6 g6 z6 o6 b6))
      try rw [jumps_ret]
      try rw [Exit.noGoto_ret]
      refine bodyPost_ret (v := .agg (trailRow 0 false (hashS key 0) many told)) ?_ rfl ?_
      · exact results_cell_row rfl _ _ _ _ _ _ _ rfl g6 Try.underlying74 rfl (trail_size _ _ _ _ _ htl)
      · exact ⟨⟨0, false, many, told, rfl, htl, hm65, (fun h => by cases h), fun _ => ⟨rfl, fun i hi he => absurd (hky i hi he) (by simp), hP.done, hP.right⟩⟩, bel.trans (b6.mono (by omega))⟩
    · obtain ⟨pre, hpre, _⟩ := hP.split
      have rc := h.row.read pre (p, g) tl hpre
      obtain ⟨hdp, hdt⟩ := h.row.desc
      have hdt := hdt pre (p, g) tl hpre
      have hy2 := (hdp (p, g) (by rw [hpre]; simp)).1
      obtain ⟨hkn, hkh⟩ := h.key hpre
      have hg := h.row.hash (p, g) (by rw [hpre]; simp)
      have l64 := alikeV_le (hashS key 0) g
      have r1 := rc.lt
      have r2 := rc.place
      have r3 := rc.hash
      simp only [] at hdt hy2 hkh hg r1 r2 r3
      obtain ⟨q, hq⟩ : ∃ q, p = q + 1 := ⟨p - 1, by omega⟩
      obtain ⟨bs, os, rfl, hbs0, hsc0⟩ := h.slots.at_.resolve_left (by omega)
      obtain ⟨kb, rfl, hkb0, hkc⟩ := h.keys.resolve_left (by omega)
      obtain ⟨ia, il, ic, hic, hib, _⟩ := hkc tl.length hkn
      have c1 := hsc0 q (by omega)
      have c2 := hsc0 p (by omega)
      rw [show p - 1 = q by omega] at r3
      rw [r3] at c1
      rw [r2] at c2
      have hS0 := h.slots
      have hpq : ((p : Nat) : Int) - 1 = ((q : Nat) : Int) := by omega
      have hqs : q < sl := by omega
      have hps : p < sl := by omega
      have hbx0 := hbx
      have hgW1 : w.heap.size < gW := by omega
      have d1 : decide (((p : Nat) : Int) ≤ 0) = false := by simp; omega
      have conv : ∀ wx : World, (convert 3 71 (.int .i64 (i64V g))).run Try.prog wx = .ok (.int .u64 (g : Nat)) wx := fun wx => by
        rw [run_convert_int (P := Try.prog) wx 3 71 .i64 _ (by kernel_rfl) (by kernel_rfl), show Try.prog.intKind 71 = IntKind.u64 from by kernel_rfl, i64V_wrap g hg]
      have hxor : bits .xor .u64 ((hashS key 0 : Nat) : Int) ((g : Nat) : Int) = ((hashS key 0 ^^^ g : Nat) : Int) := bits_xor_u64_nat _ _ e1 hg
      obtain ⟨A, hA⟩ : ∃ A, alikeV (hashS key 0) g = A := ⟨_, rfl⟩
      have zz : ∀ x : Later wr.heap.size wr, Calls Try.prog 37 #[.int .u64 ((hashS key 0 ^^^ g : Nat) : Int)] x.w fun e w' => e = .returned (.int .i64 (A : Nat)) ∧ Below x.w.heap.size x.w w' := fun x => by
        have := zeros_any x.w (hashS key 0) g e1 hg
        rw [hA] at this
        refine this.mono ?_
        rintro e w' ⟨he, rfl⟩
        exact ⟨he, Below.refl _ _⟩
      have hbb : w.heap.size ≤ wr.heap.size := bel.size
      have qh : ∀ x : Later wr.heap.size wr, x.w.cell? ⟨gW, 2, none⟩ = some (.int .u64 (hashS key 0 : Nat)) := fun x => cell_of_row _ _ 2 _ _ _ (hT.mono x.below)
      have qs : ∀ x : Later wr.heap.size wr, x.w.cell? ⟨w.heap.size, 2, none⟩ = some (.slice (some ⟨bs, os, none⟩) sl sc) := fun x => cell_of_row _ _ 2 _ _ _ ((x.below.block _ (Array.getElem?_eq_some_iff.1 hbx0).1).trans hbx0)
      have qc : ∀ x : Later wr.heap.size wr, x.w.cell? ⟨bs, os + q, none⟩ = some (.int .i64 (i64V g)) := fun x => ((below_then bel x.below).cell (p := ⟨bs, os + q, none⟩) hbs0).trans c1
      clear hq
      go_wp2_with fail
      refine wp_region_later wr.heap.size wr (by kernel_rfl) (by kernel_rfl) (Below.refl _ _) ?_
      repeat (go_big_quiet_step ((go_at_call 37; refine Calls.later0 (zz _))))
      refine wpQuiet_nil ?_
      intro _ hlat
      obtain ⟨x, rfl⟩ := hlat
      obtain ⟨w5, hw5⟩ : ∃ w5, x.w = w5 := ⟨_, rfl⟩
      have b5 : Below wr.heap.size wr w5 := by rw [← hw5]; exact x.below
      rw [hw5]
      clear zz qh qs qc hw5 conv hxor x
      replace hbx : w5.heap[w.heap.size]? = _ := (b5.block _ (Array.getElem?_eq_some_iff.1 hbx).1).trans hbx
      replace hrs := hrs.mono b5
      replace hT := hT.mono b5
      replace bel := below_then bel b5
      clear b5 hbx0 hR hbb
      have kx := (bel.cell (p := ⟨kb, tl.length, none⟩) hkb0).trans hic
      have hib5 := hib.mono bel
      have hk5 := hk.mono bel
      have hS5 := hS0.mono bel
      have cS : w5.cell? ⟨w.heap.size, 2, none⟩ = some (.slice (some ⟨bs, os, none⟩) sl sc) := cell_of_row _ _ 2 _ _ _ hbx
      have cK : w5.cell? ⟨w.heap.size, 1, none⟩ = some (.slice (some ⟨kb, 0, none⟩) n kc) := cell_of_row _ _ 1 _ _ _ hbx
      have c2 := (bel.cell (p := ⟨bs, os + p, none⟩) hbs0).trans c2
      have t0 : w5.cell? ⟨gW, 0, none⟩ = some (.int .i64 (0 : Int)) := cell_of_row _ _ 0 _ _ _ hT
      have t1 : w5.cell? ⟨gW, 1, none⟩ = some (.bool false) := cell_of_row _ _ 1 _ _ _ hT
      have z0 := frozen_of_row w5 gW 0 _ _ hT
      have z1 := frozen_of_row w5 gW 1 _ _ hT
      obtain ⟨i0, hi0⟩ : ∃ i0, tl.length = i0 := ⟨_, rfl⟩
      rw [hi0] at kx hib5 c2 hkn
      have HI := Lib.hid hi0
      obtain ⟨k0, hk0⟩ : ∃ k0, ks.getD i0 [] = k0 := ⟨_, rfl⟩
      rw [hk0] at hib5
      have HK := Lib.hid hk0
      clear hic hib hkc r1 r2 r3 c1 hi0 hk0
      by_cases hA64 : A = 64
      · subst hA64
        have hq := equal_any w5 ia ya il ic yl yc k0 key hib5 hk5
        obtain ⟨E, hE⟩ : ∃ E, decide (k0 = key) = E := ⟨_, rfl⟩
        rw [hE] at hq
        go_wp2_with fail
        refine hq.mono ?_
        rintro e _ ⟨rfl, rfl⟩
        clear hq
        cases E with
        | true =>
          have hkk : k0 = key := of_decide_eq_true hE
          have HKK := Lib.hid (HK.out.trans hkk)
          clear hkk hE
          have hT9 := hT.setSpot (i0 : Nat) true
          have hrs9 : TrailAt ((w5.setCell ⟨gW, 0, none⟩ (.int .i64 (i0 : Nat))).setCell ⟨gW, 1, none⟩ (.bool true)) (w.heap.size + 1) 0 false 0 0 (List.replicate 65 0) := (Below.heap_setCell _ _ _ _ (by show w.heap.size + 1 ≠ gW; omega)).trans ((Below.heap_setCell _ _ _ _ (by show w.heap.size + 1 ≠ gW; omega)).trans hrs)
          have b9 : Below w.heap.size w ((w5.setCell ⟨gW, 0, none⟩ (.int .i64 (i0 : Nat))).setCell ⟨gW, 1, none⟩ (.bool true)) := (bel.setCell (by show w.heap.size ≤ gW; omega) _).setCell (by show w.heap.size ≤ gW; omega) _
          go_wp2_with (first | (refine wpList_load_row rfl 74 _ rfl gW rfl 74 _ _ _ hT9 Try.underlying74 rfl (trail_size _ _ _ _ _ (by assumption)) ?_) | (refine store_rec rfl 74 (.tmp 4) (.tmp 50) rfl (w.heap.size + 1) (trailRow (i0 : Nat) true (hashS key 0) many told) rfl rfl 74 _ hrs9 (trail_size _ _ _ _ _ (by assumption)) (by simp [trailRow, htl]) (trail_one _ _ _ _ _) ?_; intro w6 g6 z6 o6 b6))
          try rw [jumps_ret]
          try rw [Exit.noGoto_ret]
          refine bodyPost_ret (v := .agg (trailRow (i0 : Nat) true (hashS key 0) many told)) ?_ rfl ?_
          · exact results_cell_row rfl _ _ _ _ _ _ _ rfl g6 Try.underlying74 rfl (trail_size _ _ _ _ _ htl)
          · exact ⟨⟨i0, true, many, told, rfl, htl, hm65, fun _ => ⟨by rw [h.len]; exact hkn, HKK.out⟩, fun h => by cases h⟩, b9.trans (b6.mono (by omega))⟩
        | false =>
          have hkk : k0 ≠ key := of_decide_eq_false hE
          clear hE
          replace hkk : ks.getD tl.length [] ≠ key := by rw [HI.out, HK.out]; exact hkk
          go_wp2_with fail
          refine (pass_any w5 gW 0 false (hashS key 0) many told hT htl hm65 _ sl sc s hS5 (fun x hx => by cases hx; show bs < gW; omega) (p, g) tl rc 64 (by omega)).mono ?_
          rintro e w7 ⟨rfl, told', hT7, hpp, b7⟩
          have hbx7 := (b7.block _ hgW1).trans hbx
          have hrs7 : TrailAt w7 (w.heap.size + 1) 0 false 0 0 (List.replicate 65 0) := (b7.block _ hgW).trans hrs
          have bel7 := bel.trans (b7.mono (by omega))
          have hS7 := hS0.mono bel7
          have cS7 : w7.cell? ⟨w.heap.size, 2, none⟩ = some (.slice (some ⟨bs, os, none⟩) sl sc) := cell_of_row _ _ 2 _ _ _ hbx7
          clear kx hib5 hk5 hS5 cS cK c2 t0 t1 z0 z1
          go_wp2_with fail
          refine (told_any w7 _ sl sc s hS7 (p, g) tl rc 64 (by omega)).mono ?_
          rintro e _ ⟨rfl, rfl⟩
          go_wp2_with fail
          go_step3
          have hst := hP.step (told' := told') e1 h.row.hash (by simp only []; rw [hA]; exact hpp)
          simp only [] at hst
          rw [hA] at hst
          have hkn2 := key_next (fun pre x b he => (h.key he).2) hpre hA hkk hky
          simp only [] at hkn2
          refine ⟨⟨rfl, gW, nextC g 64 tl, _, told', ((latest g 64 tl : Nat) : Int), rfl, rfl, rfl, rfl, rfl, rfl, rfl, ?_, hst, hT7, hgW, hbx7, hrs7, bel7, hkn2⟩, ?_⟩
          · rw [latest_next]
            cases hn : nextC g 64 tl with
            | nil => exact .inl ⟨rfl, Int.le_refl _, by show (-1 : Int) ≤ 0; omega⟩
            | cons y' tl' => exact .inr ⟨y', tl', rfl, rfl⟩
          · show (((latest g 64 tl : Nat) : Int)).toNat < ((p : Nat) : Int).toNat
            rw [latest_next]
            obtain ⟨pre2, k1, _⟩ := nextC_split g 64 tl
            cases hn : nextC g 64 tl with
            | nil => show (((0 : Nat) : Int)).toNat < _; omega
            | cons y' tl' =>
              have := hdt y' (by rw [k1, hn]; simp)
              show ((y'.1 : Nat) : Int).toNat < _
              omega
      · have f3 : decide (A = 64) = false := by simpa using hA64
        have hkk : k0 ≠ key := fun he => by
          rw [HI.out, HK.out, he] at hkh
          exact hA64 (by rw [← hA]; exact (alikeV_64 e1 hg).2 hkh)
        replace hkk : ks.getD tl.length [] ≠ key := by rw [HI.out, HK.out]; exact hkk
        go_wp2_with fail
        refine (pass_any w5 gW 0 false (hashS key 0) many told hT htl hm65 _ sl sc s hS5 (fun x hx => by cases hx; show bs < gW; omega) (p, g) tl rc A (by omega)).mono ?_
        rintro e w7 ⟨rfl, told', hT7, hpp, b7⟩
        have hbx7 := (b7.block _ hgW1).trans hbx
        have hrs7 : TrailAt w7 (w.heap.size + 1) 0 false 0 0 (List.replicate 65 0) := (b7.block _ hgW).trans hrs
        have bel7 := bel.trans (b7.mono (by omega))
        have hS7 := hS0.mono bel7
        have cS7 : w7.cell? ⟨w.heap.size, 2, none⟩ = some (.slice (some ⟨bs, os, none⟩) sl sc) := cell_of_row _ _ 2 _ _ _ hbx7
        clear kx hib5 hk5 hS5 cS cK c2 t0 t1 z0 z1
        go_wp2_with fail
        refine (told_any w7 _ sl sc s hS7 (p, g) tl rc A (by omega)).mono ?_
        rintro e _ ⟨rfl, rfl⟩
        go_wp2_with fail
        go_step3
        have hst := hP.step (told' := told') e1 h.row.hash (by simp only []; rw [hA]; exact hpp)
        simp only [] at hst
        rw [hA] at hst
        have hkn2 := key_next (fun pre x b he => (h.key he).2) hpre hA hkk hky
        simp only [] at hkn2
        refine ⟨⟨rfl, gW, nextC g A tl, _, told', ((latest g A tl : Nat) : Int), rfl, rfl, rfl, rfl, rfl, rfl, rfl, ?_, hst, hT7, hgW, hbx7, hrs7, bel7, hkn2⟩, ?_⟩
        · rw [latest_next]
          cases hn : nextC g A tl with
          | nil => exact .inl ⟨rfl, Int.le_refl _, by show (-1 : Int) ≤ 0; omega⟩
          | cons y' tl' => exact .inr ⟨y', tl', rfl, rfl⟩
        · show (((latest g A tl : Nat) : Int)).toNat < ((p : Nat) : Int).toNat
          rw [latest_next]
          obtain ⟨pre2, k1, _⟩ := nextC_split g A tl
          cases hn : nextC g A tl with
          | nil => show (((0 : Nat) : Int)).toNat < _; omega
          | cons y' tl' =>
            have := hdt y' (by rw [k1, hn]; simp)
            show ((y'.1 : Nat) : Int).toNat < _
            omega
  intro pass
  go_wp2_with fail
  refine (mixHash_any _ ya yl yc key 0 (by omega) (hk.mono (bA _ _))).mono ?_
  rintro e w1 ⟨rfl, b1⟩
  have e1 := hashS_lt key 0
  have hz1 : w.heap.size + 1 < w1.heap.size := Nat.lt_of_lt_of_le (by simp) b1.size
  have gbx : w1.heap[w.heap.size]? = some (.cells #[.int .i64 cap, .slice ka n kc, .slice sa sl sc] 28 (0, 0)) := (b1.block w.heap.size (by simp; omega)).trans (heap2a w _ _)
  have gr : TrailAt w1 (w.heap.size + 1) 0 false 0 0 (List.replicate 65 0) := (b1.block (w.heap.size + 1) (by simp)).trans (heap2b w _ _)
  have bel := below_then (bA _ _) b1
  have gn := heap_alloc_new w1 (.cells (trailRow 0 false 0 0 (List.replicate 65 0)) 74)
  go_upto_region 2 with (first | (refine wpList_build_row rfl 74 _ rfl _ (by rw [Array.toList_map]; exact trail_built (hashS key 0)) ?_) | (refine wpList_alloc_row rfl 74 rfl _ (trail_zero _) ?_) | (refine store_rec rfl 74 (.tmp 5) (.tmp 11) rfl w1.heap.size (trailRow 0 false (hashS key 0) 0 (List.replicate 65 0)) rfl rfl 74 _ gn (trail_size _ _ _ _ _ (by assumption)) (by simp [trailRow, l65]) (trail_one _ _ _ _ _) ?_; intro w6 g6 z6 o6 b6))
  have A1 := (Below.refl w1.heap.size w1).alloc (Nat.le_refl _) (.cells (trailRow 0 false 0 0 (List.replicate 65 0)) 74)
  have gbx6 := (o6 w.heap.size (by omega)).trans ((A1.block w.heap.size (by omega)).trans gbx)
  have gr6 : TrailAt w6 (w.heap.size + 1) 0 false 0 0 (List.replicate 65 0) := (o6 (w.heap.size + 1) (by omega)).trans ((A1.block (w.heap.size + 1) (by omega)).trans gr)
  replace bel := (below_then bel A1).trans (b6.mono (by omega))
  have c2 : w6.cell? ⟨w.heap.size, 2, none⟩ = some (.slice sa sl sc) := cell_of_row _ _ 2 _ _ _ gbx6
  obtain ⟨gW, hgW⟩ : ∃ gW, w1.heap.size = gW := ⟨_, rfl⟩
  rw [hgW] at g6 hz1 ⊢
  clear gbx gr gn A1 z6 o6 b6 b1 hgW
  go_wp2_with fail
  go_step3
  rename_i hK
  refine hK _ _ (pass.begins ?_)
  have hend := h.row.end_
  refine ⟨rfl, gW, rs, 0, List.replicate 65 0, (sl : Int) - 1, rfl, rfl, rfl, rfl, rfl, rfl, rfl, ?_, SeekP.start _ _, g6, hz1, gbx6, gr6, bel, fun i hi _ => by rw [h.count, ← h.len]; exact hi⟩
  rcases hend with ⟨rfl, rfl⟩ | ⟨y, tl, rfl, he⟩
  · exact .inl ⟨rfl, by simp at hsl; omega, by omega⟩
  · exact .inr ⟨y, tl, rfl, by omega⟩
end Go.Proofs.Ytbbdeefnooaacaa
