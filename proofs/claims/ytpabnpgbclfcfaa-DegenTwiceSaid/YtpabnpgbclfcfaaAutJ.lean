/- degen.Of: its walk (by gen19j.py). -/
import Derived.Test.YtpabnpgbclfcfaaAutI
namespace Go.Proofs.Ytpabnpgbclfcfaa
open Go.RowKit
set_option linter.unusedVariables false
set_option linter.unusedSimpArgs false

/-- How far the automaton is made: x states, the last row behind q of the old ones. -/
def OfS (w0 : World) (ga gR g h gI K n il : Nat) (va : Array Value) (f : Nat → Nat → Bool) (ln : Nat → Nat) (lit : Nat → Nat → T) (next : Nat → List Int) (lI : List Int) (vI : Value) (x q : Nat) (w : World) : Prop :=
  ∃ (S : Nat → Prop) (vL vN vA : Value) (xL xN xI : List Value), OfI w0.heap.size w S gR g h vL vN vI vA x x il (accO K f q).length xL xN xI ((accO K f q).map (Value.int .i64)) ∧ LitsOn S w x (fun x => ln (x / K)) (fun x => lit (x / K)) xL ∧ NextOn S w x (nextO K f next) xN ∧ (∀ i, i < il → xI[i]? = some (.int .i64 (lI.getD i 0))) ∧
    S ga ∧ (∀ b, gI ≤ b → b ≤ gI + K → S b) ∧ w.heap[ga]? = some (.cells va 26 (0, 0)) ∧ InAt w gI K n f ∧ Below w0.heap.size w0 w
theorem below_of {w0 w z : World} {S : Nat → Prop} (h : Below w0.heap.size w0 w) (hz : w.heap.size ≤ z.heap.size) (hs : z.os = w.os ∧ z.tape = w.tape ∧ z.output = w.output) (low : ∀ b, b < w0.heap.size → S b) (k : ∀ b, S b → z.heap[b]? = w.heap[b]?) : Below w0.heap.size w0 z :=
  ⟨hs.1.trans h.os, hs.2.1.trans h.tape, hs.2.2.trans h.output, Nat.le_trans h.size hz, fun b hb => (k b (low b hb)).trans (h.block b hb)⟩
theorem made_one (z : Value) : madeCells #[z] 1 = #[z] := by
  apply Array.ext
  · rw [size_madeCells]; rfl
  · intro i h1 h2
    have : i = 0 := by simp at h2; omega
    subst this
    simp [madeCells]
theorem lits_of {z : World} {base m : Nat} {vL : Value} {xL : List Value} {S : Nat → Prop} {ln : Nat → Nat} {lit : Nat → Nat → T} (hL : z.ownsRow base 38 1 vL m xL) (HL : LitsOn S z m ln lit xL) (hS : ∀ b, S b → b < z.heap.size) (hln : ∀ x, x < m → ln x ≤ 9223372036854775807) : ∃ a c, vL = .slice a m c ∧ LitsAt z a m ln lit := by
  rcases own_rowAt hL with ⟨rfl, rfl⟩ | ⟨g, c, rfl, _, hg, hc⟩
  · exact ⟨_, _, rfl, .inl rfl⟩
  · refine ⟨_, _, rfl, .inr ⟨g, 0, rfl, hg, fun i hi => ?_⟩⟩
    obtain ⟨a, c2, h1, h2⟩ := HL i hi
    exact ⟨a, c2, by rw [Nat.zero_add]; exact hc i _ h1, hln i hi, h2.at_ hS⟩
theorem next_of {z : World} {base m : Nat} {vN : Value} {xN : List Value} {S : Nat → Prop} {F : Nat → List Int} (hN : z.ownsRow base 24 1 vN m xN) (HN : NextOn S z m F xN) (hF : ∀ x, x < m → (F x).length ≤ 9223372036854775807) : ∃ a c, vN = .slice a m c ∧ WordAt z a m F := by
  rcases own_rowAt hN with ⟨rfl, rfl⟩ | ⟨g, c, rfl, _, hg, hc⟩
  · exact ⟨_, _, rfl, .inl rfl⟩
  · refine ⟨_, _, rfl, .inr ⟨g, 0, rfl, hg, fun i hi => ?_⟩⟩
    obtain ⟨g2, h1, _, h3⟩ := HN i hi
    exact ⟨_, _, _, by rw [Nat.zero_add]; exact hc i _ h1, rfl, hF i hi, .inr ⟨g2, 0, rfl, h3.lt, fun j hj => by rw [Nat.zero_add]; exact h3.cell hj⟩⟩
theorem ints_of {z : World} {base m : Nat} {vI : Value} {xI : List Value} {l : List Int} (hI : z.ownsRow base 3 1 vI m xI) (hx : ∀ i, i < m → xI[i]? = some (.int .i64 (l.getD i 0))) (hl : l.length = m) (hm : m ≤ 9223372036854775807) : ∃ a c, vI = .slice a m c ∧ IntsAt z a m l := by
  rcases own_rowAt hI with ⟨rfl, rfl⟩ | ⟨g, c, rfl, _, hg, hc⟩
  · exact ⟨_, _, rfl, hl, hm, .inl rfl⟩
  · exact ⟨_, _, rfl, hl, hm, .inr ⟨g, 0, rfl, hg, fun i hi => by rw [Nat.zero_add]; exact hc i _ (hx i hi)⟩⟩
theorem map_getD (l : List Int) : ∀ i, i < l.length → (l.map (Value.int .i64))[i]? = some (.int .i64 (l.getD i 0)) := fun i hi => by
  rw [List.getElem?_map, List.getElem?_eq_getElem hi, List.getD_eq_getElem?_getD, List.getElem?_eq_getElem hi]
  rfl
theorem setO_lt {K : Nat} {f : Nat → Nat → Bool} {i q : Nat} (hi : i < K) : setO K f i q < K := by
  unfold setO
  split
  · exact Nat.mod_lt _ (by omega)
  · exact hi
def OfR (K n il cn : Nat) (ln : Nat → Nat) (lit : Nat → Nat → T) (next : Nat → List Int) (init : List Int) (acc : Nat → List Int) (e : Ending) (w' : World) : Prop :=
  ∃ (la2 na2 ia2 ca2 : Option Addr) (lc2 nc2 ic2 cc2 : Nat), e = .returned (.agg #[.slice la2 (n * K) lc2, .slice na2 (n * K) nc2, .slice ia2 il ic2, .slice ca2 1 cc2]) ∧ AutAt w' la2 na2 ia2 ca2 (n * K) (n * K) il 1 (fun x => ln (x / K)) (fun x => lit (x / K)) (nextO K (inB cn acc) next) (numsO K 0 init) (fun _ => accO K (inB cn acc) n)
set_option maxRecDepth 100000 in
set_option maxHeartbeats 8000000 in
theorem of_any (w : World) (la na ia ca : Option Addr) (n lc nn nc il ic cn cc : Nat) (ln : Nat → Nat) (lit : Nat → Nat → T) (next : Nat → List Int) (init : List Int) (acc : Nat → List Int) (h : AutAt w la na ia ca n nn il cn ln lit next init acc) (K : Nat) (hK : K = if cn = 0 then 1 else cn) (hR : RightP n ln lit nn next init cn acc) (hmay : ∀ q, q < n → ∀ i, i < ln q → MayP (lit q i)) (hn : n ≤ 1000) (hcn : cn ≤ 1000) (hil : il ≤ 1000000) (hnx : ∀ q, q < n → (next q).length ≤ 1000000) (hln : ∀ q, q < n → ln q ≤ 1000000) :
    Calls Try.prog 9 #[.agg #[.slice la n lc, .slice na nn nc, .slice ia il ic, .slice ca cn cc]] w fun e w' => OfR K n il cn ln lit next init acc e w' ∧ Below w.heap.size w w' := by
  have hK1 : 1 ≤ K ∧ K ≤ 1000 := by rw [hK]; split <;> omega
  obtain ⟨r1, r2, r3, r4⟩ := hR
  obtain rfl : n = nn := r2.symm
  clear r2
  have HF := Lib.hid (And.intro r1 (And.intro r3 r4))
  have HK := Lib.hid hK
  have HM := Lib.hid hmay
  have HX := Lib.hid hnx
  have HLn := Lib.hid hln
  clear r1 r3 r4 hmay hnx hln hK
  obtain ⟨pt, pu, A⟩ := two_new w #[.slice la n lc, .slice na n nc, .slice ia il ic, .slice ca cn cc] #[.slice none 0 0, .slice none 0 0, .slice none 0 0, .slice none 0 0] (26) (26)
  go_enter Try.func9, Try.ntmps9
  go_upto_region 1 with fail
  obtain ⟨v1, hv⟩ : ∃ v, (w.alloc (.cells #[.slice la n lc, .slice na n nc, .slice ia il ic, .slice ca cn cc] 26)).alloc (.cells #[.slice none 0 0, .slice none 0 0, .slice none 0 0, .slice none 0 0] 26) = v := ⟨_, rfl⟩
  rw [hv] at pt pu A ⊢
  obtain ⟨gR, hgu⟩ : ∃ g, w.heap.size + 1 = g := ⟨_, rfl⟩
  rw [hgu] at pu ⊢
  obtain ⟨ga, hgt⟩ : ∃ g, w.heap.size = g := ⟨_, rfl⟩
  have hga : w.heap.size ≤ ga := Nat.le_of_eq hgt
  have hgR : ga < gR := by omega
  rw [hgt] at pt ⊢
  have bt := A
  clear hv hgu hgt A
  have c0 : v1.cell? ⟨ga, 0, none⟩ = some (.slice la n lc) := cell_of_row _ _ 0 _ _ _ pt
  have c1 : v1.cell? ⟨ga, 1, none⟩ = some (.slice na n nc) := cell_of_row _ _ 1 _ _ _ pt
  have c2 : v1.cell? ⟨ga, 2, none⟩ = some (.slice ia il ic) := cell_of_row _ _ 2 _ _ _ pt
  have c3 : v1.cell? ⟨ga, 3, none⟩ = some (.slice ca cn cc) := cell_of_row _ _ 3 _ _ _ pt
  go_wp2_with fail
  refine (sets_any v1 la na ia ca n lc n nc il ic cn cc ln lit next init acc (h.mono bt) K HK.out hcn hn HF.out.2.2).mono ?_
  rintro e w2 ⟨⟨gI, rfl, hgI, hin⟩, b2⟩
  obtain ⟨f, hf⟩ : ∃ f, inB cn acc = f := ⟨_, rfl⟩
  rw [hf] at hin
  have HFF := Lib.hid hf
  clear hf c0 c1 c2 c3
  replace pt := (b2.block ga (Array.getElem?_eq_some_iff.1 pt).1).trans pt
  replace pu := (b2.block gR (Array.getElem?_eq_some_iff.1 pu).1).trans pu
  replace bt := below_then bt b2
  have c2 : w2.cell? ⟨ga, 2, none⟩ = some (.slice ia il ic) := cell_of_row _ _ 2 _ _ _ pt
  have lga := (Array.getElem?_eq_some_iff.1 pt).1
  have lgR := (Array.getElem?_eq_some_iff.1 pu).1
  have hIN := Lib.hid hin
  clear hin
  go_upto_region 3 with fail
  have hmk := fun W => run_make_row' (P := Try.prog) 23 24 (.slice none 0 0) 24 Try.underlying23 Try.info_ints rfl .i64 .i64 1 (by decide) (by decide) W
  have HMK := Lib.hid hmk
  clear hmk
  refine wp_region_vals 86 (by kernel_rfl) (by kernel_rfl) (fun s => Nat.blt s 5) [some (.int .i64 (K : Nat)), some (.pointer (some ⟨ga, 2, none⟩)), some (.slice ia il ic), none, none, none, none, none] (XH w2 (numsO K 0 init)) (by kernel_rfl) ⟨(Below.refl _ _).drew, fun hh => (by cases hh), fun hh => (by cases hh), fun hh => (by cases hh), fun hh => (by cases hh), fun hh => (by cases hh)⟩ ?_ ?_
  · skip
    refine stepv_cons (sv_read rfl (fun L u z v h => h.same' rfl rfl rfl rfl rfl rfl rfl rfl rfl) (fun L u z hC hLi hd => ⟨trivial, .int .i64 (K : Nat), by simp only [execOp]; rw [show evU 86 u (.tmp 4) = .int .i64 (K : Nat) from hC.keep 4 rfl]; go_simp, fun x hx => by cases hx; rfl⟩)) ?_
    refine stepv_cons (sv_read rfl (fun L u z v h => h.same' rfl rfl rfl rfl rfl rfl rfl rfl rfl) (fun L u z hC hLi hd => ⟨trivial, .pointer (some ⟨ga, 2, none⟩), by simp only [execOp]; rw [show evU 86 u (.tmp 1) = .pointer (some ⟨ga, 0, none⟩) from hC.keep 1 rfl]; go_simp, fun x hx => by cases hx; rfl⟩)) ?_
    refine stepv_cons (sv_read rfl (fun L u z v h => h.same' rfl rfl rfl rfl rfl rfl rfl rfl rfl) (fun L u z hC hLi hd => ?_)) ?_
    · have q := (hC.x.bel.cell (p := ⟨ga, 2, none⟩) lga).trans c2
      exact ⟨trivial, .slice ia il ic, by simp only [execOp]; rw [show evU 86 u (.tmp 14) = .pointer (some ⟨ga, 2, none⟩) from hC.val 1 _ (hd 1 rfl) rfl rfl]; go_simp, fun x hx => by cases hx; rfl⟩
    refine stepv_cons (sv_call rfl 18 (enters_of Try.func18 (by kernel_rfl) rfl) (fun L u z hC hLi hd => ?_)) ?_
    · have n5 : L 5 = false := by cases hh : L 5 with | false => rfl | true => exact Bool.noConfusion (hLi.symm.trans (hC.closed 5 3 hh rfl))
      have n7 : L 7 = false := by cases hh : L 7 with | false => rfl | true => exact Bool.noConfusion (n5.symm.trans (hC.closed 7 5 hh rfl))
      refine ⟨trivial, rfl, ?_⟩
      show Calls _ _ #[u 13, u 15, .int .i64 0] z _
      rw [show u 13 = .int .i64 (K : Nat) from hC.val 0 _ (hd 0 rfl) rfl rfl, show u 15 = .slice ia il ic from hC.val 2 _ (hd 2 rfl) rfl rfl]
      refine (numbers_any z K 0 ia il ic init (h.init.mono (below_then bt hC.x.bel)) (by omega) (by omega) (fun y hy => by have := HF.out.1 y hy; omega) hil).mono ?_
      rintro e w9 ⟨⟨v9, rfl, hv9⟩, b9⟩
      exact ⟨v9, rfl, (fun x hx => by cases hx), hC.x.s3 n5 n7 b9 v9 hv9⟩
    refine stepv_cons (sv_make rfl (fun L u z hC hLi hd => ?_)) ?_
    · have n5 : L 5 = false := by cases hh : L 5 with | false => rfl | true => exact Bool.noConfusion (hLi.symm.trans (hC.closed 5 4 hh rfl))
      have n7 : L 7 = false := by cases hh : L 7 with | false => rfl | true => exact Bool.noConfusion (n5.symm.trans (hC.closed 7 5 hh rfl))
      refine ⟨trivial, .slice (some ⟨z.heap.size, 0, none⟩) 1 1, z.alloc (.cells #[.slice none 0 0] 24), .inl ?_, (fun x hx => by cases hx), hC.x.s4 n5 n7⟩
      have hm : (Instr.makeSlice 23 (.int .i64 1) (.int .i64 1)).run Try.prog z = .ok (.slice (some ⟨z.heap.size, 0, none⟩) 1 1) (z.alloc (.cells #[.slice none 0 0] 24)) := by have q := HMK.out z; rw [made_one] at q; exact q
      simp only [execOp, evU]
      rw [Sem.run_bind]
      first | rw [hm] | simp only [hm]
      rfl
    refine stepv_cons (sv_make rfl (fun L u z hC hLi hd => ?_)) ?_
    · obtain ⟨g9, e16, _, _, _⟩ := hC.x.c3 (hd 3 rfl)
      obtain ⟨h9, e17, _, _⟩ := hC.x.c4 (hd 4 rfl)
      refine ⟨trivial, .agg #[.slice none 0 0, .slice none 0 0, u 16, u 17], z, .inl ?_, (fun x hx => by cases hx), hC.x.s5⟩
      simp only [execOp, List.map_toArray, List.map_cons, List.map_nil]
      rw [show evU 86 u (.tmp 16) = u 16 from rfl, show evU 86 u (.tmp 17) = u 17 from rfl, e16, e17]
      go_simp
    refine stepv_cons (sv_make rfl (fun L u z hC hLi hd => ?_)) ?_
    · have n7 : L 7 = false := by cases hh : L 7 with | false => rfl | true => exact Bool.noConfusion (hLi.symm.trans (hC.closed 7 6 hh rfl))
      refine ⟨trivial, .pointer (some ⟨z.heap.size, 0, none⟩), z.alloc (.cells #[.slice none 0 0, .slice none 0 0, .slice none 0 0, .slice none 0 0] 26), .inl (by simp only [execOp]; go_simp), (fun x hx => by cases hx), hC.x.s6 n7⟩
    refine stepv_cons (sv_make rfl (fun L u z hC hLi hd => ?_)) ?_
    · obtain ⟨g9, e5, hg9, hr9⟩ := hC.x.c6 (hd 6 rfl) hLi
      have y5 : L 5 = true := hd 5 rfl
      have e18 := hC.x.c5 y5
      obtain ⟨g8, e16, _, _, _⟩ := hC.x.c3 (hC.closed 5 3 y5 rfl)
      obtain ⟨h8, e17, _, _⟩ := hC.x.c4 (hC.closed 5 4 y5 rfl)
      have k0 := cell_of_row _ _ 0 _ _ _ hr9
      have k1 := cell_of_row _ _ 1 _ _ _ hr9
      have k2 := cell_of_row _ _ 2 _ _ _ hr9
      have k3 := cell_of_row _ _ 3 _ _ _ hr9
      simp only [List.getElem?_toArray, List.getElem?_cons_zero, List.getElem?_cons_succ] at k0 k1 k2 k3
      have f0 := frozen_of_row z _ 0 _ _ hr9
      have f1 := frozen_of_row z _ 1 _ _ hr9
      have f2 := frozen_of_row z _ 2 _ _ hr9
      have f3 := frozen_of_row z _ 3 _ _ hr9
      have hsx := hC.x.s7 e5 hg9 hr9 (d := 1000007) (by decide) undef
      refine ⟨trivial, undef, _, .inr ⟨?_, rfl⟩, (fun x hx => by cases hx), hsx⟩
      simp only [execOp]
      rw [show evU 86 u (.tmp 5) = .pointer (some ⟨g9, 0, none⟩) from e5, show evU 86 u (.tmp 18) = .agg #[.slice none 0 0, .slice none 0 0, u 16, u 17] from e18, e16, e17]
      go_simp
    exact stepv_nil rfl
  · intro L u z hall hC
    obtain ⟨g, e5, hg, hrg⟩ := hC.x.c7 (hall 7 rfl)
    obtain ⟨gN, e16, hgN, _, hrN⟩ := hC.x.c3 (hall 3 rfl)
    obtain ⟨hh, e17, hhh, hrh⟩ := hC.x.c4 (hall 4 rfl)
    have bz := hC.x.bel
    rw [frame_kept (n := 86) (lim := 5) rfl (by decide) hC.keep]
    simp only [List.take_succ_cons, List.take_zero, List.nil_append, List.cons_append, show List.range' 5 (86 - 5) = [5, 6, 7, 8, 9, 10, 11, 12, 13, 14, 15, 16, 17, 18, 19, 20, 21, 22, 23, 24, 25, 26, 27, 28, 29, 30, 31, 32, 33, 34, 35, 36, 37, 38, 39, 40, 41, 42, 43, 44, 45, 46, 47, 48, 49, 50, 51, 52, 53, 54, 55, 56, 57, 58, 59, 60, 61, 62, 63, 64, 65, 66, 67, 68, 69, 70, 71, 72, 73, 74, 75, 76, 77, 78, 79, 80, 81, 82, 83, 84, 85] from rfl, List.map_cons, List.map_nil]
    rw [e16, e17] at hrg
    obtain ⟨vI, hvI⟩ : ∃ v : Value, .slice (some ⟨gN, 0, none⟩) (numsO K 0 init).length (numsO K 0 init).length = v := ⟨_, rfl⟩
    have hlI : (numsO K 0 init).length = il := by unfold numsO; rw [List.length_map]; exact h.init.len_eq
    obtain ⟨xI, hxl, hxo, hxi⟩ := rowIs_own (base := w.heap.size) hrN (by have := bt.size; omega) (by omega)
    rw [e5]
    rw [hvI] at hrg hxo
    have hs2 := bt.size
    have hsz := bz.size
    have gN1 : vI.ownBlock = some gN := by rw [← hvI]; rfl
    have lz := (Array.getElem?_eq_some_iff.1 hrg).1
    have Q0 : OfI w.heap.size z (fun b => b < w2.heap.size ∧ b ≠ gR) gR g hh (.slice none 0 0) (.slice none 0 0) vI (.slice none 0 0) 0 0 il 0 [] [] xI [] := by
      refine ⟨(bz.block gR lgR).trans pu, hrg, hrh, World.ownsRow_nil _ _ _ _, World.ownsRow_nil _ _ _ _, by rw [← hlI]; exact hxo, World.ownsRow_nil _ _ _ _, (fun b _ hb => by cases hb), by omega, by omega, by omega, fun hs => hs.2 rfl, fun hs => by have := hs.1; omega, fun hs => by have := hs.1; omega, (fun b hb => by cases hb), (fun b hb => by cases hb), (fun b hb hs => ?_), (fun b hb => by cases hb), fun b hs => by have := hs.1; omega, fun b hb => ⟨by omega, by omega⟩⟩
      rw [gN1] at hb
      have := Option.some.inj hb
      have := hs.1
      omega
    have hS : OfS w ga gR g hh gI K n il #[.slice la n lc, .slice na n nc, .slice ia il ic, .slice ca cn cc] f ln lit next (numsO K 0 init) vI 0 0 z := by
      have hin2 := hIN.out
      refine ⟨_, _, _, _, [], [], xI, Q0, (fun x hx => by omega), (fun x hx => by omega), fun i hi => hxi i (by omega), ⟨lga, by omega⟩, fun b h1 h2 => ⟨?_, ?_⟩, (bz.block ga lga).trans pt, hin2.mono bz, below_then bt bz⟩
      · by_cases hbI : b = gI
        · rw [hbI]; exact hin2.head.lt
        · have := (hin2.row (b - gI - 1) (by omega)).lt
          omega
      · rintro rfl
        by_cases hbI : b = gI
        · have := hin2.head
          obtain ⟨c, hc, _⟩ := this
          rw [← hbI, pu] at hc
          simp at hc
        · obtain ⟨c, hc, _⟩ := hin2.row (b - gI - 1) (by omega)
          rw [show gI + 1 + (b - gI - 1) = b by omega, pu] at hc
          simp at hc
    have HS := Lib.hid hS
    have HVI := Lib.hid hvI
    have HLI := Lib.hid hlI
    have lrg : gR < g := by omega
    clear e5 e16 e17 hS Q0 hxo hxi hrg hrN hrh hC hall bz pt pu c2 hvI hlI gN1 hIN HMK
    obtain ⟨S0, vL0, vN0, vA0, xL0, xN0, xI0, QI0, _, _, _, _, _, hga0, _, _⟩ := HS.out
    have c1 := cell_of_row z ga 1 _ _ _ hga0
    simp only [List.getElem?_toArray, List.getElem?_cons_zero, List.getElem?_cons_succ] at c1
    clear QI0 hga0
    go_wp2_with fail
    clear c1
    go_loopw [22] (fun i w' => ∃ q : Nat, q ≤ n ∧ i = .int .i64 (q : Nat) ∧ Hid (OfS w ga gR g hh gI K n il #[.slice la n lc, .slice na n nc, .slice ia il ic, .slice ca cn cc] f ln lit next (numsO K 0 init) vI (q * K) q w')) (fun i _ => n - (intOf i).toNat)
    case atStart => exact ⟨0, Nat.zero_le _, rfl, by rw [Nat.zero_mul]; exact HS⟩
    case round =>
      clear HS
      obtain ⟨q, hq, rfl, HS⟩ := hrel
      by_cases hqn : q < n
      · have f1 : decide (q < n) = true := by simpa using hqn
        go_wp2_with fail
        go_loopw [27] (fun i w' => ∃ j : Nat, j ≤ K ∧ i = .int .i64 (j : Nat) ∧ Hid (OfS w ga gR g hh gI K n il #[.slice la n lc, .slice na n nc, .slice ia il ic, .slice ca cn cc] f ln lit next (numsO K 0 init) vI (q * K + j) q w')) (fun i _ => K - (intOf i).toNat)
        case atStart => exact ⟨0, Nat.zero_le _, rfl, HS⟩
        case round =>
          clear HS
          obtain ⟨j, hj, rfl, HS⟩ := hrel
          have hqK : q * K + K ≤ 1000000 := by
            have h1 : q * K + K ≤ n * K := by rw [← Nat.succ_mul]; exact Nat.mul_le_mul_right K hqn
            have h2 : n * K ≤ 1000 * 1000 := Nat.mul_le_mul hn hK1.2
            omega
          obtain ⟨S, vL, vN, vA, xL, xN, xI, QI, HL, HN, hxI, Sga, SgI, hga, hin, bt⟩ := HS.out
          have lG := (Array.getElem?_eq_some_iff.1 QI.b).1
          have lH := (Array.getElem?_eq_some_iff.1 QI.o).1
          have lA := (Array.getElem?_eq_some_iff.1 hga).1
          have hbw := bt.size
          have hxI2 := Lib.hid hxI
          have HSI := Lib.hid SgI
          have HHL := Lib.hid HL
          have HHN := Lib.hid HN
          have HIN := Lib.hid hin
          clear HL HN hin SgI hxI HS
          by_cases hjK : j < K
          · have f2 : decide (j < K) = true := by simpa using hjK
            obtain ⟨x, hx⟩ : ∃ x, q * K + j = x := ⟨_, rfl⟩
            have hxq : x / K = q := by rw [← hx, Nat.add_comm, Nat.add_mul_div_right _ _ (by omega), Nat.div_eq_of_lt hjK, Nat.zero_add]
            have hxj : x % K = j := by rw [← hx, Nat.mul_comm, Nat.mul_add_mod, Nat.mod_eq_of_lt hjK]
            have hxl : x < 1000000 := by omega
            rw [hx] at QI HHL HHN
            obtain ⟨s, hs⟩ : ∃ s, setO K f j q = s := ⟨_, rfl⟩
            have hsK : s < K := by rw [← hs]; exact setO_lt hjK
            have i0 := HIN.out.head.cell hjK
            have i1 := (HIN.out.row j hjK).cell hqn
            have HXQ := Lib.hid hxq
            have HXJ := Lib.hid hxj
            have HX1 := Lib.hid (show q * K + (j + 1) = x + 1 by omega)
            have HS1 := Lib.hid hs
            clear hxq hxj hx hqK
            go_upto_if 37 with fail
            unfold setO at hs
            obtain ⟨B, hB⟩ : ∃ B, f j q = B := ⟨_, rfl⟩
            rw [hB] at hs ⊢
            have hs9 := Lib.hid hs
            clear hB hs i1 i0
            go_cut [8] from 38 to 40 (fun v8 w' => v8 = .int .i64 (s : Nat) ∧ wr = w')
            case first =>
              cases B with
              | false =>
                go_wp2_with fail
                go_meet
                have h9 := hs9.out
                rw [if_neg (by simp)] at h9
                exact ⟨by rw [← h9], rfl⟩
              | true =>
                go_wp2_with (first | (go_at_call 19; refine (behind_any _ K j (by omega) hjK).mono ?_; rintro e w9 ⟨rfl, rfl⟩))
                go_meet
                have h9 := hs9.out
                first | rw [if_pos rfl] at h9 | rw [if_pos trivial] at h9
                exact ⟨by rw [← h9]; simp, rfl⟩
            case rest =>
            obtain ⟨rfl, rfl⟩ := hcut
            clear hs9
            obtain ⟨b4, o4, rfl, hb4, ra, rc, cB0, _, hpa⟩ := h.lits.cell hqn
            have nG : some g ≠ vL.ownBlock := fun he => own_off1 QI.L QI.b (by decide) g he.symm rfl
            have nA : some ga ≠ vL.ownBlock := fun he => QI.sL ga he.symm Sga
            have nB : some b4 ≠ vL.ownBlock := fun he => QI.sL b4 he.symm (QI.low b4 hb4)
            have lB : b4 < wr.heap.size := Nat.lt_of_lt_of_le hb4 bt.size
            have cB := (bt.cell (p := ⟨b4, o4 + q, none⟩) hb4).trans cB0
            have cG0 : wr.cell? ⟨g, 0, none⟩ = some vL := cell_of_row _ _ 0 _ _ _ QI.b
            have c0 : wr.cell? ⟨ga, 0, none⟩ = some (.slice (some ⟨b4, o4, none⟩) n lc) := cell_of_row _ _ 0 _ _ _ hga
            go_upto_region 13 with fail
            refine wp_region_vals 86 (by kernel_rfl) (by kernel_rfl) (fun s => Nat.blt s 41 || (Nat.ble 52 s && Nat.blt s 86)) [some (.pointer (some ⟨g, 0, none⟩)), some (vL), some (.pointer (some ⟨ga, 0, none⟩)), some (.slice (some ⟨b4, o4, none⟩) n lc), some (.int .i64 (q : Nat)), some (.pointer (some ⟨b4, o4 + q, none⟩)), some (.slice ra (ln q) rc), none, none, none, some (.pointer (some ⟨g, 0, none⟩)), none] (PX 7 8 9 11 48 49 50 38 wr w.heap.size x (vL) (xL) g 0 (#[vL, vN, vI, .slice (some ⟨hh, 0, none⟩) 1 1]) 26 (GoodL (ln q) (lit q))) (by kernel_rfl) (PX.start _ (fun _ => rfl) ⟨rfl, rfl, rfl, rfl⟩) ?_ ?_
            · skip
              refine stepv_cons (sv_read rfl (fun L u z v h => h.same' rfl rfl rfl rfl rfl rfl rfl) (fun L u z hC hLi hd => ⟨trivial, .pointer (some ⟨g, 0, none⟩), by simp only [execOp]; rw [show evU 86 u (.tmp 5) = .pointer (some ⟨g, 0, none⟩) from hC.keep 5 rfl]; (try simp only [evU]); go_simp, fun x hx => by cases hx; rfl⟩)) ?_
              refine stepv_cons (sv_read rfl (fun L u z v h => h.same' rfl rfl rfl rfl rfl rfl rfl) (fun L u z hC hLi hd => ?_)) ?_
              · have n11 : L 11 = false := by cases hh : L 11 with | false => rfl | true => exact Bool.noConfusion (hLi.symm.trans (hC.closed 9 1 (hC.closed 11 9 hh rfl) rfl))
                have cq9 := hC.x.cell n11 lG nG cG0
                exact ⟨trivial, vL, by simp only [execOp]; rw [show evU 86 u (.tmp 41) = .pointer (some ⟨g, 0, none⟩) from hC.val 0 _ (hd 0 rfl) rfl rfl]; (try simp only [evU]); go_simp, fun x hx => by cases hx; rfl⟩
              refine stepv_cons (sv_read rfl (fun L u z v h => h.same' rfl rfl rfl rfl rfl rfl rfl) (fun L u z hC hLi hd => ⟨trivial, .pointer (some ⟨ga, 0, none⟩), by simp only [execOp]; rw [show evU 86 u (.tmp 1) = .pointer (some ⟨ga, 0, none⟩) from hC.keep 1 rfl]; (try simp only [evU]); go_simp, fun x hx => by cases hx; rfl⟩)) ?_
              refine stepv_cons (sv_read rfl (fun L u z v h => h.same' rfl rfl rfl rfl rfl rfl rfl) (fun L u z hC hLi hd => ?_)) ?_
              · have n11 : L 11 = false := by cases hh : L 11 with | false => rfl | true => exact Bool.noConfusion (hLi.symm.trans (hC.closed 5 3 (hC.closed 6 5 (hC.closed 7 6 (hC.closed 8 7 (hC.closed 9 8 (hC.closed 11 9 hh rfl) rfl) rfl) rfl) rfl) rfl))
                have cq9 := hC.x.cell n11 lA nA c0
                exact ⟨trivial, .slice (some ⟨b4, o4, none⟩) n lc, by simp only [execOp]; rw [show evU 86 u (.tmp 43) = .pointer (some ⟨ga, 0, none⟩) from hC.val 2 _ (hd 2 rfl) rfl rfl]; (try simp only [evU]); go_simp, fun x hx => by cases hx; rfl⟩
              refine stepv_cons (sv_read rfl (fun L u z v h => h.same' rfl rfl rfl rfl rfl rfl rfl) (fun L u z hC hLi hd => ⟨trivial, .int .i64 (q : Nat), by simp only [execOp]; rw [show evU 86 u (.tmp 6) = .int .i64 (q : Nat) from hC.keep 6 rfl]; (try simp only [evU]); go_simp, fun x hx => by cases hx; rfl⟩)) ?_
              refine stepv_cons (sv_read rfl (fun L u z v h => h.same' rfl rfl rfl rfl rfl rfl rfl) (fun L u z hC hLi hd => ⟨trivial, .pointer (some ⟨b4, o4 + q, none⟩), by simp only [execOp]; rw [show evU 86 u (.tmp 44) = .slice (some ⟨b4, o4, none⟩) n lc from hC.val 3 _ (hd 3 rfl) rfl rfl]; rw [show evU 86 u (.tmp 45) = .int .i64 (q : Nat) from hC.val 4 _ (hd 4 rfl) rfl rfl]; (try simp only [evU]); go_simp, fun x hx => by cases hx; rfl⟩)) ?_
              refine stepv_cons (sv_read rfl (fun L u z v h => h.same' rfl rfl rfl rfl rfl rfl rfl) (fun L u z hC hLi hd => ?_)) ?_
              · have n11 : L 11 = false := by cases hh : L 11 with | false => rfl | true => exact Bool.noConfusion (hLi.symm.trans (hC.closed 7 6 (hC.closed 8 7 (hC.closed 9 8 (hC.closed 11 9 hh rfl) rfl) rfl) rfl))
                have cq9 := hC.x.cell n11 lB nB cB
                exact ⟨trivial, .slice ra (ln q) rc, by simp only [execOp]; rw [show evU 86 u (.tmp 46) = .pointer (some ⟨b4, o4 + q, none⟩) from hC.val 5 _ (hd 5 rfl) rfl rfl]; (try simp only [evU]); go_simp, fun x hx => by cases hx; rfl⟩
              refine stepv_cons (sv_call rfl 20 (enters_of Try.func20 (by kernel_rfl) rfl) (fun L u z hC hLi hd => ?_)) ?_
              · have n8 : L 8 = false := by cases hh : L 8 with | false => rfl | true => exact Bool.noConfusion (hLi.symm.trans (hC.closed 8 7 hh rfl))
                have n9 : L 9 = false := by cases hh : L 9 with | false => rfl | true => exact Bool.noConfusion (hLi.symm.trans (hC.closed 8 7 (hC.closed 9 8 hh rfl) rfl))
                have n11 : L 11 = false := by cases hh : L 11 with | false => rfl | true => exact Bool.noConfusion (hLi.symm.trans (hC.closed 8 7 (hC.closed 9 8 (hC.closed 11 9 hh rfl) rfl) rfl))
                refine ⟨trivial, rfl, ?_⟩
                show Calls _ _ #[u 47] z _
                rw [show u 47 = .slice ra (ln q) rc from hC.val 6 _ (hd 6 rfl) rfl rfl]
                have bz := hC.x.below n9 n11
                refine (all_any z ra (ln q) rc (lit q) (hpa.mono (below_then bt bz)) (HLn.out q hqn) (HM.out q hqn)).mono ?_
                rintro e w9 ⟨⟨a9, c9, rfl, _, hp9⟩, b9⟩
                exact ⟨.slice a9 (ln q) c9, rfl, (fun x hx => by cases hx), hC.x.call (by decide) n8 n9 n11 b9 _ (⟨a9, c9, rfl, hp9⟩)⟩
              refine stepv_cons (sv_make rfl (fun L u z hC hLi hd => ?_)) ?_
              · have n9 : L 9 = false := by cases hh : L 9 with | false => rfl | true => exact Bool.noConfusion (hLi.symm.trans (hC.closed 9 8 hh rfl))
                have n11 : L 11 = false := by cases hh : L 11 with | false => rfl | true => exact Bool.noConfusion (hLi.symm.trans (hC.closed 9 8 (hC.closed 11 9 hh rfl) rfl))
                have y7 : L 7 = true := (hd 7 rfl)
                obtain ⟨S1, s1, s2, s3⟩ := hC.x.el y7
                obtain ⟨a9, c9, e0, _⟩ := s3
                refine ⟨trivial, .slice (some ⟨z.heap.size, 0, none⟩) 1 1, z.alloc (.cells #[u 48] 38), .inl ?_, (fun x hx => by cases hx), hC.x.build (by decide) n9 n11 GoodL.frame⟩
                simp only [execOp, List.map_toArray, List.map_cons, List.map_nil]
                rw [show evU 86 u (.tmp 48) = u 48 from rfl, e0]
                go_simp
              refine stepv_cons (sv_make rfl (fun L u z hC hLi hd => ?_)) ?_
              · have n11 : L 11 = false := by cases hh : L 11 with | false => rfl | true => exact Bool.noConfusion (hLi.symm.trans (hC.closed 11 9 hh rfl))
                have y7 : L 7 = true := (hC.closed 8 7 (hd 8 rfl) rfl)
                have y8 : L 8 = true := (hd 8 rfl)
                obtain ⟨v', w', hr, hx⟩ := hC.x.app (P := Try.prog) (by decide) y7 y8 hLi n11 GoodL.frame GoodL.one QI.L hbw 22 _ Try.underlying22 (.slice none 0 0) 24 Try.info_exprs rfl (by unfold maxLen; omega) (by omega)
                exact ⟨trivial, v', w', .inl (run_append_call (hC.val 1 _ (hd 1 rfl) rfl rfl) rfl hr), (fun x hx => by cases hx), hx⟩
              refine stepv_cons (sv_read rfl (fun L u z v h => h.same' rfl rfl rfl rfl rfl rfl rfl) (fun L u z hC hLi hd => ⟨trivial, .pointer (some ⟨g, 0, none⟩), by simp only [execOp]; rw [show evU 86 u (.tmp 5) = .pointer (some ⟨g, 0, none⟩) from hC.keep 5 rfl]; (try simp only [evU]); go_simp, fun x hx => by cases hx; rfl⟩)) ?_
              refine stepv_cons (sv_make rfl (fun L u z hC hLi hd => ?_)) ?_
              · have y9 : L 9 = true := (hd 9 rfl)
                have y7 : L 7 = true := (hC.closed 8 7 (hC.closed 9 8 (hd 9 rfl) rfl) rfl)
                obtain ⟨ow, ob⟩ := hC.x.ap y9
                have hsx := hC.x.store (by decide) y9 hLi GoodL.frame QI.b nG (d := 1000011) (by decide) undef y7
                obtain ⟨a1, c1, e1⟩ := own_sl ow
                have gz := (hC.x.keep g (Array.getElem?_eq_some_iff.1 QI.b).1 (fun _ => nG) (fun hh => by rw [hLi] at hh; cases hh)).trans QI.b
                have k0 := cell_of_row _ _ 0 _ _ _ gz
                simp only [List.getElem?_toArray, List.getElem?_cons_zero, List.getElem?_cons_succ] at k0
                have f0 := frozen_of_row z _ 0 _ _ gz
                refine ⟨trivial, undef, _, .inr ⟨?_, rfl⟩, (fun x hx => by cases hx), hsx⟩
                simp only [execOp]
                rw [show evU 86 u (.tmp 51) = .pointer (some ⟨g, 0, none⟩) from hC.val 10 _ (hd 10 rfl) rfl rfl, show evU 86 u (.tmp 50) = u 50 from rfl, e1]
                go_simp
              exact stepv_nil rfl
            · intro L u z hall hC
              obtain ⟨S1, s1, s2, s3⟩ := hC.x.el (hall 7 rfl)
              obtain ⟨ow, ob⟩ := hC.x.ap (hall 9 rfl)
              have st := hC.x.st (hall 11 rfl)
              have kp : ∀ b, b < wr.heap.size → some b ≠ (vL).ownBlock → b ≠ g → z.heap[b]? = wr.heap[b]? := fun b hb h1 h2 => hC.x.keep b hb (fun _ => h1) (fun _ => h2)
              have hsz := hC.x.size
              have hout := hC.x.same
              replace s2 := s2 (hall 9 rfl)
              rw [frame_kept2 (n := 86) (lim := 41) (hi := 52) rfl (by decide) (by decide) hC.keep]
              simp only [List.take_succ_cons, List.take_zero, List.nil_append, List.cons_append, List.drop_succ_cons, List.drop_zero, show List.range' 41 (52 - 41) = [41, 42, 43, 44, 45, 46, 47, 48, 49, 50, 51] from rfl, List.map_cons, List.map_nil]
              generalize u 50 = vX at *
              generalize u 48 = xE at *
              obtain ⟨Q1, k1⟩ := QI.pushL hsz kp s1 s2 ow ob st
              have HL1 := (HHL.out.to (S' := fun b => S b ∨ S1 b) (fun b hb => .inl hb) k1).snoc (by have := QI.L.1; omega) (show GoodL (ln (x / K)) (lit (x / K)) _ xE z by rw [HXQ.out]; exact s3.to (fun b hb => .inr hb))
              have HN1 := HHN.out.to (S' := fun b => S b ∨ S1 b) (fun b hb => .inl hb) k1
              have hga1 := (k1 ga Sga).trans hga
              have hin1 := HIN.out.to S HSI.out k1
              have bt1 := below_of bt hsz hout QI.low k1
              obtain ⟨S2, hS2⟩ : ∃ S2 : Nat → Prop, (fun b => S b ∨ S1 b) = S2 := ⟨_, rfl⟩
              have Sga2 : S2 ga := by rw [← hS2]; exact .inl Sga
              have SgI2 : ∀ b, gI ≤ b → b ≤ gI + K → S2 b := fun b h1 h2 => by rw [← hS2]; exact .inl (HSI.out b h1 h2)
              rw [hS2] at Q1 HL1 HN1
              have HHL1 := Lib.hid HL1
              have HHN1 := Lib.hid HN1
              have HIN1 := Lib.hid hin1
              have HSI2 := Lib.hid SgI2
              obtain ⟨W1, rfl⟩ : ∃ W1, W1 = z := ⟨_, rfl⟩
              obtain ⟨vL1, rfl⟩ : ∃ y, y = vX := ⟨_, rfl⟩
              obtain ⟨xL1, hxL1⟩ : ∃ y, xL ++ [xE] = y := ⟨_, rfl⟩
              rw [hxL1] at Q1 HHL1
              clear hxL1 hS2 HL1 HN1 hin1 SgI2 QI HHL HHN HIN hga bt kp k1 s1 s2 s3 ow ob st hC hall nG nA nB lB cB cG0 c0 cB0 hpa Sga HSI lG lH lA hbw hsz hout
              obtain ⟨b6, o6, rfl, hb6, x1, l1, k1, cB0, r1⟩ := h.next.cell hqn
              have hl1 := HX.out q hqn
              rw [r1.len_eq] at hl1
              have lG := (Array.getElem?_eq_some_iff.1 Q1.b).1
              have lH := (Array.getElem?_eq_some_iff.1 Q1.o).1
              have lA := (Array.getElem?_eq_some_iff.1 hga1).1
              have hbw : hh + 1 ≤ W1.heap.size := lH
              have nG : some g ≠ vN.ownBlock := fun he => own_off1 Q1.N Q1.b (by decide) g he.symm rfl
              have nA : some ga ≠ vN.ownBlock := fun he => Q1.sN ga he.symm Sga2
              have nB : some b6 ≠ vN.ownBlock := fun he => Q1.sN b6 he.symm (Q1.low b6 hb6)
              have lB : b6 < W1.heap.size := Nat.lt_of_lt_of_le hb6 bt1.size
              have cB := (bt1.cell (p := ⟨b6, o6 + q, none⟩) hb6).trans cB0
              have cG1 : W1.cell? ⟨g, 1, none⟩ = some vN := cell_of_row _ _ 1 _ _ _ Q1.b
              have c1 : W1.cell? ⟨ga, 1, none⟩ = some (.slice (some ⟨b6, o6, none⟩) n nc) := cell_of_row _ _ 1 _ _ _ hga1
              go_upto_region 14 with fail
              refine wp_region_vals 86 (by kernel_rfl) (by kernel_rfl) (fun s => Nat.blt s 52 || (Nat.ble 65 s && Nat.blt s 86)) [some (.pointer (some ⟨g, 1, none⟩)), some (vN), some (.int .i64 (K : Nat)), some (.pointer (some ⟨ga, 1, none⟩)), some (.slice (some ⟨b6, o6, none⟩) n nc), some (.int .i64 (q : Nat)), some (.pointer (some ⟨b6, o6 + q, none⟩)), some (.slice x1 l1 k1), some (.int .i64 (s : Nat)), none, none, none, some (.pointer (some ⟨g, 1, none⟩)), none] (PX 9 10 11 13 61 62 63 24 W1 (hh + 1) x (vN) (xN) g 1 (#[vL1, vN, vI, .slice (some ⟨hh, 0, none⟩) 1 1]) 26 (GoodN (numsO K s (next q)))) (by kernel_rfl) (PX.start _ (fun _ => rfl) ⟨rfl, rfl, rfl, rfl⟩) ?_ ?_
              · skip
                refine stepv_cons (sv_read rfl (fun L u z v h => h.same' rfl rfl rfl rfl rfl rfl rfl) (fun L u z hC hLi hd => ⟨trivial, .pointer (some ⟨g, 1, none⟩), by simp only [execOp]; rw [show evU 86 u (.tmp 5) = .pointer (some ⟨g, 0, none⟩) from hC.keep 5 rfl]; (try simp only [evU]); go_simp, fun x hx => by cases hx; rfl⟩)) ?_
                refine stepv_cons (sv_read rfl (fun L u z v h => h.same' rfl rfl rfl rfl rfl rfl rfl) (fun L u z hC hLi hd => ?_)) ?_
                · have n13 : L 13 = false := by cases hh : L 13 with | false => rfl | true => exact Bool.noConfusion (hLi.symm.trans (hC.closed 11 1 (hC.closed 13 11 hh rfl) rfl))
                  have cq9 := hC.x.cell n13 lG nG cG1
                  exact ⟨trivial, vN, by simp only [execOp]; rw [show evU 86 u (.tmp 52) = .pointer (some ⟨g, 1, none⟩) from hC.val 0 _ (hd 0 rfl) rfl rfl]; (try simp only [evU]); go_simp, fun x hx => by cases hx; rfl⟩
                refine stepv_cons (sv_read rfl (fun L u z v h => h.same' rfl rfl rfl rfl rfl rfl rfl) (fun L u z hC hLi hd => ⟨trivial, .int .i64 (K : Nat), by simp only [execOp]; rw [show evU 86 u (.tmp 4) = .int .i64 (K : Nat) from hC.keep 4 rfl]; (try simp only [evU]); go_simp, fun x hx => by cases hx; rfl⟩)) ?_
                refine stepv_cons (sv_read rfl (fun L u z v h => h.same' rfl rfl rfl rfl rfl rfl rfl) (fun L u z hC hLi hd => ⟨trivial, .pointer (some ⟨ga, 1, none⟩), by simp only [execOp]; rw [show evU 86 u (.tmp 1) = .pointer (some ⟨ga, 0, none⟩) from hC.keep 1 rfl]; (try simp only [evU]); go_simp, fun x hx => by cases hx; rfl⟩)) ?_
                refine stepv_cons (sv_read rfl (fun L u z v h => h.same' rfl rfl rfl rfl rfl rfl rfl) (fun L u z hC hLi hd => ?_)) ?_
                · have n13 : L 13 = false := by cases hh : L 13 with | false => rfl | true => exact Bool.noConfusion (hLi.symm.trans (hC.closed 6 4 (hC.closed 7 6 (hC.closed 9 7 (hC.closed 10 9 (hC.closed 11 10 (hC.closed 13 11 hh rfl) rfl) rfl) rfl) rfl) rfl))
                  have cq9 := hC.x.cell n13 lA nA c1
                  exact ⟨trivial, .slice (some ⟨b6, o6, none⟩) n nc, by simp only [execOp]; rw [show evU 86 u (.tmp 55) = .pointer (some ⟨ga, 1, none⟩) from hC.val 3 _ (hd 3 rfl) rfl rfl]; (try simp only [evU]); go_simp, fun x hx => by cases hx; rfl⟩
                refine stepv_cons (sv_read rfl (fun L u z v h => h.same' rfl rfl rfl rfl rfl rfl rfl) (fun L u z hC hLi hd => ⟨trivial, .int .i64 (q : Nat), by simp only [execOp]; rw [show evU 86 u (.tmp 6) = .int .i64 (q : Nat) from hC.keep 6 rfl]; (try simp only [evU]); go_simp, fun x hx => by cases hx; rfl⟩)) ?_
                refine stepv_cons (sv_read rfl (fun L u z v h => h.same' rfl rfl rfl rfl rfl rfl rfl) (fun L u z hC hLi hd => ⟨trivial, .pointer (some ⟨b6, o6 + q, none⟩), by simp only [execOp]; rw [show evU 86 u (.tmp 56) = .slice (some ⟨b6, o6, none⟩) n nc from hC.val 4 _ (hd 4 rfl) rfl rfl]; rw [show evU 86 u (.tmp 57) = .int .i64 (q : Nat) from hC.val 5 _ (hd 5 rfl) rfl rfl]; (try simp only [evU]); go_simp, fun x hx => by cases hx; rfl⟩)) ?_
                refine stepv_cons (sv_read rfl (fun L u z v h => h.same' rfl rfl rfl rfl rfl rfl rfl) (fun L u z hC hLi hd => ?_)) ?_
                · have n13 : L 13 = false := by cases hh : L 13 with | false => rfl | true => exact Bool.noConfusion (hLi.symm.trans (hC.closed 9 7 (hC.closed 10 9 (hC.closed 11 10 (hC.closed 13 11 hh rfl) rfl) rfl) rfl))
                  have cq9 := hC.x.cell n13 lB nB cB
                  exact ⟨trivial, .slice x1 l1 k1, by simp only [execOp]; rw [show evU 86 u (.tmp 58) = .pointer (some ⟨b6, o6 + q, none⟩) from hC.val 6 _ (hd 6 rfl) rfl rfl]; (try simp only [evU]); go_simp, fun x hx => by cases hx; rfl⟩
                refine stepv_cons (sv_read rfl (fun L u z v h => h.same' rfl rfl rfl rfl rfl rfl rfl) (fun L u z hC hLi hd => ⟨trivial, .int .i64 (s : Nat), by simp only [execOp]; rw [show evU 86 u (.tmp 8) = .int .i64 (s : Nat) from hC.keep 8 rfl]; (try simp only [evU]); go_simp, fun x hx => by cases hx; rfl⟩)) ?_
                refine stepv_cons (sv_call rfl 18 (enters_of Try.func18 (by kernel_rfl) rfl) (fun L u z hC hLi hd => ?_)) ?_
                · have n10 : L 10 = false := by cases hh : L 10 with | false => rfl | true => exact Bool.noConfusion (hLi.symm.trans (hC.closed 10 9 hh rfl))
                  have n11 : L 11 = false := by cases hh : L 11 with | false => rfl | true => exact Bool.noConfusion (hLi.symm.trans (hC.closed 10 9 (hC.closed 11 10 hh rfl) rfl))
                  have n13 : L 13 = false := by cases hh : L 13 with | false => rfl | true => exact Bool.noConfusion (hLi.symm.trans (hC.closed 10 9 (hC.closed 11 10 (hC.closed 13 11 hh rfl) rfl) rfl))
                  refine ⟨trivial, rfl, ?_⟩
                  show Calls _ _ #[u 54, u 59, u 60] z _
                  rw [show u 54 = .int .i64 (K : Nat) from hC.val 2 _ (hd 2 rfl) rfl rfl, show u 59 = .slice x1 l1 k1 from hC.val 7 _ (hd 7 rfl) rfl rfl, show u 60 = .int .i64 (s : Nat) from hC.val 8 _ (hd 8 rfl) rfl rfl]
                  have bz := hC.x.below n11 n13
                  refine (numbers_any z K s x1 l1 k1 (next q) (r1.mono (below_then bt1 bz)) (by omega) (by omega) (fun y hy => by have := (HF.out.2.1 q hqn).1 y hy; omega) hl1).mono ?_
                  rintro e w9 ⟨⟨v9, rfl, hv9⟩, b9⟩
                  exact ⟨v9, rfl, (fun x hx => by cases hx), hC.x.call (by decide) n10 n11 n13 b9 _ (by obtain ⟨g9, e1, e2, e3, e4⟩ := hv9; exact ⟨g9, e1, ⟨e2, e3⟩, e4⟩)⟩
                refine stepv_cons (sv_make rfl (fun L u z hC hLi hd => ?_)) ?_
                · have n11 : L 11 = false := by cases hh : L 11 with | false => rfl | true => exact Bool.noConfusion (hLi.symm.trans (hC.closed 11 10 hh rfl))
                  have n13 : L 13 = false := by cases hh : L 13 with | false => rfl | true => exact Bool.noConfusion (hLi.symm.trans (hC.closed 11 10 (hC.closed 13 11 hh rfl) rfl))
                  have y9 : L 9 = true := (hd 9 rfl)
                  obtain ⟨S1, s1, s2, s3⟩ := hC.x.el y9
                  obtain ⟨g9, e0, _, _⟩ := s3
                  refine ⟨trivial, .slice (some ⟨z.heap.size, 0, none⟩) 1 1, z.alloc (.cells #[u 61] 24), .inl ?_, (fun x hx => by cases hx), hC.x.build (by decide) n11 n13 GoodN.frame⟩
                  simp only [execOp, List.map_toArray, List.map_cons, List.map_nil]
                  rw [show evU 86 u (.tmp 61) = u 61 from rfl, e0]
                  go_simp
                refine stepv_cons (sv_make rfl (fun L u z hC hLi hd => ?_)) ?_
                · have n13 : L 13 = false := by cases hh : L 13 with | false => rfl | true => exact Bool.noConfusion (hLi.symm.trans (hC.closed 13 11 hh rfl))
                  have y9 : L 9 = true := (hC.closed 10 9 (hd 10 rfl) rfl)
                  have y10 : L 10 = true := (hd 10 rfl)
                  obtain ⟨v', w', hr, hx⟩ := hC.x.app (P := Try.prog) (by decide) y9 y10 hLi n13 GoodN.frame GoodN.one Q1.N hbw 23 _ Try.underlying23 (.slice none 0 0) 24 Try.info_ints rfl (by unfold maxLen; omega) (by omega)
                  exact ⟨trivial, v', w', .inl (run_append_call (hC.val 1 _ (hd 1 rfl) rfl rfl) rfl hr), (fun x hx => by cases hx), hx⟩
                refine stepv_cons (sv_read rfl (fun L u z v h => h.same' rfl rfl rfl rfl rfl rfl rfl) (fun L u z hC hLi hd => ⟨trivial, .pointer (some ⟨g, 1, none⟩), by simp only [execOp]; rw [show evU 86 u (.tmp 5) = .pointer (some ⟨g, 0, none⟩) from hC.keep 5 rfl]; (try simp only [evU]); go_simp, fun x hx => by cases hx; rfl⟩)) ?_
                refine stepv_cons (sv_make rfl (fun L u z hC hLi hd => ?_)) ?_
                · have y11 : L 11 = true := (hd 11 rfl)
                  have y9 : L 9 = true := (hC.closed 10 9 (hC.closed 11 10 (hd 11 rfl) rfl) rfl)
                  obtain ⟨ow, ob⟩ := hC.x.ap y11
                  have hsx := hC.x.store (by decide) y11 hLi GoodN.frame Q1.b nG (d := 1000013) (by decide) undef y9
                  obtain ⟨a1, c1, e1⟩ := own_sl ow
                  have gz := (hC.x.keep g (Array.getElem?_eq_some_iff.1 Q1.b).1 (fun _ => nG) (fun hh => by rw [hLi] at hh; cases hh)).trans Q1.b
                  have k0 := cell_of_row _ _ 1 _ _ _ gz
                  simp only [List.getElem?_toArray, List.getElem?_cons_zero, List.getElem?_cons_succ] at k0
                  have f0 := frozen_of_row z _ 1 _ _ gz
                  refine ⟨trivial, undef, _, .inr ⟨?_, rfl⟩, (fun x hx => by cases hx), hsx⟩
                  simp only [execOp]
                  rw [show evU 86 u (.tmp 64) = .pointer (some ⟨g, 1, none⟩) from hC.val 12 _ (hd 12 rfl) rfl rfl, show evU 86 u (.tmp 63) = u 63 from rfl, e1]
                  go_simp
                exact stepv_nil rfl
              · intro L u z hall hC
                obtain ⟨S1, s1, s2, s3⟩ := hC.x.el (hall 9 rfl)
                obtain ⟨ow, ob⟩ := hC.x.ap (hall 11 rfl)
                have st := hC.x.st (hall 13 rfl)
                have kp : ∀ b, b < W1.heap.size → some b ≠ (vN).ownBlock → b ≠ g → z.heap[b]? = W1.heap[b]? := fun b hb h1 h2 => hC.x.keep b hb (fun _ => h1) (fun _ => h2)
                have hsz := hC.x.size
                have hout := hC.x.same
                replace s2 := s2 (hall 11 rfl)
                rw [frame_kept2 (n := 86) (lim := 52) (hi := 65) rfl (by decide) (by decide) hC.keep]
                simp only [List.take_succ_cons, List.take_zero, List.nil_append, List.cons_append, List.drop_succ_cons, List.drop_zero, show List.range' 52 (65 - 52) = [52, 53, 54, 55, 56, 57, 58, 59, 60, 61, 62, 63, 64] from rfl, List.map_cons, List.map_nil]
                generalize u 63 = vX at *
                generalize u 61 = xE at *
                obtain ⟨Q2, k2⟩ := Q1.pushN hsz kp s1 s2 ow ob st
                have hnx : nextO K f next x = numsO K s (next q) := by unfold nextO; rw [HXQ.out, HXJ.out, HS1.out]
                have HL2 := HHL1.out.to (S' := fun b => S2 b ∨ S1 b) (fun b hb => .inl hb) k2
                have HN2 := (HHN1.out.to (S' := fun b => S2 b ∨ S1 b) (fun b hb => .inl hb) k2).snoc (by have := Q1.N.1; omega) (show GoodN (nextO K f next x) _ xE z by rw [hnx]; exact s3.to (fun b hb => .inr hb))
                have hga2 := (k2 ga Sga2).trans hga1
                have hin2 := HIN1.out.to S2 HSI2.out k2
                have bt2 := below_of bt1 hsz hout Q1.low k2
                have HE := Lib.hid (show OfS w ga gR g hh gI K n il #[.slice (some ⟨b4, o4, none⟩) n lc, .slice (some ⟨b6, o6, none⟩) n nc, .slice ia il ic, .slice ca cn cc] f ln lit next (numsO K 0 init) vI (x + 1) q z from ⟨_, _, _, _, _, _, xI, Q2, HL2, HN2, hxI2.out, .inl Sga2, fun b h1 h2 => .inl (HSI2.out b h1 h2), hga2, hin2, bt2⟩)
                clear Q2 k2 hnx HL2 HN2 hga2 hin2 bt2 Q1 HHL1 HHN1 HIN1 hga1 bt1 kp s1 s2 s3 ow ob st hC hall nG nA nB lB cB cG1 c1 cB0 r1 Sga2 HSI2 lG lH lA hbw hsz hout
                go_wp2_with fail
                exact ⟨⟨j + 1, by omega, by simp, by rw [HX1.out]; exact HE⟩, by simp [intOf]; omega⟩
          · have f2 : decide (j < K) = false := by simpa using hjK
            obtain rfl : K = j := by omega
            have hq1 : (q + 1) * K = q * K + K := Nat.succ_mul q K
            have HQ1 := Lib.hid hq1
            have i0 := HIN.out.head.cell (i := 0) (by omega)
            have i1 := (HIN.out.row 0 (by omega)).cell hqn
            have hac := accO_succ K f q
            have hal := accO_len K f q
            obtain ⟨B, hB⟩ : ∃ B, f 0 q = B := ⟨_, rfl⟩
            rw [hB] at i1 hac
            have HAC := Lib.hid hac
            clear hq1 hac hB
            cases B with
            | false =>
              have HE := Lib.hid (show OfS w ga gR g hh gI K n il #[.slice la n lc, .slice na n nc, .slice ia il ic, .slice ca cn cc] f ln lit next (numsO K 0 init) vI (q * K + K) (q + 1) wr from by
                have hac := HAC.out
                rw [if_neg (by simp), List.append_nil] at hac
                unfold OfS
                rw [hac]
                exact ⟨_, _, _, _, _, _, _, QI, HHL.out, HHN.out, hxI2.out, Sga, HSI.out, hga, HIN.out, bt⟩)
              clear QI HHL HHN HIN hga bt
              go_wp2_with fail
              exact ⟨⟨q + 1, by omega, by simp, by rw [HQ1.out]; exact HE⟩, by simp [intOf]; omega⟩
            | true =>
              have nG : some g ≠ vA.ownBlock := fun he => own_off1 QI.A QI.b (by decide) g he.symm rfl
              have nH : some hh ≠ vA.ownBlock := fun he => own_off1 QI.A QI.o (by decide) hh he.symm rfl
              have cG3 : wr.cell? ⟨g, 3, none⟩ = some (.slice (some ⟨hh, 0, none⟩) 1 1) := cell_of_row _ _ 3 _ _ _ QI.b
              have cH : wr.cell? ⟨hh, 0, none⟩ = some vA := cell_of_row _ _ 0 _ _ _ QI.o
              go_upto_region 17 with fail
              refine wp_region_vals 86 (by kernel_rfl) (by kernel_rfl) (fun s => Nat.blt s 72 || (Nat.ble 84 s && Nat.blt s 86)) [some (.pointer (some ⟨g, 3, none⟩)), some (.slice (some ⟨hh, 0, none⟩) 1 1), some (.pointer (some ⟨g, 3, none⟩)), some (.slice (some ⟨hh, 0, none⟩) 1 1), some (.pointer (some ⟨hh, 0, none⟩)), some (vA), some (.int .i64 (K : Nat)), some (.int .i64 (q : Nat)), none, none, none, some (.pointer (some ⟨hh, 0, none⟩)), none] (PX 8 9 10 12 80 81 82 3 wr w.heap.size (accO K f q).length (vA) (((accO K f q).map (Value.int .i64))) hh 0 (#[vA]) 24 (GoodV (.int .i64 ((q : Int) * (K : Int) + 0)))) (by kernel_rfl) (PX.start _ (fun _ => rfl) ⟨rfl, rfl, rfl, rfl⟩) ?_ ?_
              · skip
                refine stepv_cons (sv_read rfl (fun L u z v h => h.same' rfl rfl rfl rfl rfl rfl rfl) (fun L u z hC hLi hd => ⟨trivial, .pointer (some ⟨g, 3, none⟩), by simp only [execOp]; rw [show evU 86 u (.tmp 5) = .pointer (some ⟨g, 0, none⟩) from hC.keep 5 rfl]; (try simp only [evU]); go_simp, fun x hx => by cases hx; rfl⟩)) ?_
                refine stepv_cons (sv_read rfl (fun L u z v h => h.same' rfl rfl rfl rfl rfl rfl rfl) (fun L u z hC hLi hd => ?_)) ?_
                · have n12 : L 12 = false := by cases hh : L 12 with | false => rfl | true => exact Bool.noConfusion (hLi.symm.trans (hC.closed 11 1 (hC.closed 12 11 hh rfl) rfl))
                  have cq9 := hC.x.cell n12 lG nG cG3
                  exact ⟨trivial, .slice (some ⟨hh, 0, none⟩) 1 1, by simp only [execOp]; rw [show evU 86 u (.tmp 72) = .pointer (some ⟨g, 3, none⟩) from hC.val 0 _ (hd 0 rfl) rfl rfl]; (try simp only [evU]); go_simp, fun x hx => by cases hx; rfl⟩
                refine stepv_cons (sv_read rfl (fun L u z v h => h.same' rfl rfl rfl rfl rfl rfl rfl) (fun L u z hC hLi hd => ⟨trivial, .pointer (some ⟨g, 3, none⟩), by simp only [execOp]; rw [show evU 86 u (.tmp 5) = .pointer (some ⟨g, 0, none⟩) from hC.keep 5 rfl]; (try simp only [evU]); go_simp, fun x hx => by cases hx; rfl⟩)) ?_
                refine stepv_cons (sv_read rfl (fun L u z v h => h.same' rfl rfl rfl rfl rfl rfl rfl) (fun L u z hC hLi hd => ?_)) ?_
                · have n12 : L 12 = false := by cases hh : L 12 with | false => rfl | true => exact Bool.noConfusion (hLi.symm.trans (hC.closed 4 3 (hC.closed 5 4 (hC.closed 10 5 (hC.closed 12 10 hh rfl) rfl) rfl) rfl))
                  have cq9 := hC.x.cell n12 lG nG cG3
                  exact ⟨trivial, .slice (some ⟨hh, 0, none⟩) 1 1, by simp only [execOp]; rw [show evU 86 u (.tmp 74) = .pointer (some ⟨g, 3, none⟩) from hC.val 2 _ (hd 2 rfl) rfl rfl]; (try simp only [evU]); go_simp, fun x hx => by cases hx; rfl⟩
                refine stepv_cons (sv_read rfl (fun L u z v h => h.same' rfl rfl rfl rfl rfl rfl rfl) (fun L u z hC hLi hd => ⟨trivial, .pointer (some ⟨hh, 0, none⟩), by simp only [execOp]; rw [show evU 86 u (.tmp 75) = .slice (some ⟨hh, 0, none⟩) 1 1 from hC.val 3 _ (hd 3 rfl) rfl rfl]; (try simp only [evU]); go_simp, fun x hx => by cases hx; rfl⟩)) ?_
                refine stepv_cons (sv_read rfl (fun L u z v h => h.same' rfl rfl rfl rfl rfl rfl rfl) (fun L u z hC hLi hd => ?_)) ?_
                · have n12 : L 12 = false := by cases hh : L 12 with | false => rfl | true => exact Bool.noConfusion (hLi.symm.trans (hC.closed 10 5 (hC.closed 12 10 hh rfl) rfl))
                  have cq9 := hC.x.cell n12 lH nH cH
                  exact ⟨trivial, vA, by simp only [execOp]; rw [show evU 86 u (.tmp 76) = .pointer (some ⟨hh, 0, none⟩) from hC.val 4 _ (hd 4 rfl) rfl rfl]; (try simp only [evU]); go_simp, fun x hx => by cases hx; rfl⟩
                refine stepv_cons (sv_read rfl (fun L u z v h => h.same' rfl rfl rfl rfl rfl rfl rfl) (fun L u z hC hLi hd => ⟨trivial, .int .i64 (K : Nat), by simp only [execOp]; rw [show evU 86 u (.tmp 4) = .int .i64 (K : Nat) from hC.keep 4 rfl]; (try simp only [evU]); go_simp, fun x hx => by cases hx; rfl⟩)) ?_
                refine stepv_cons (sv_read rfl (fun L u z v h => h.same' rfl rfl rfl rfl rfl rfl rfl) (fun L u z hC hLi hd => ⟨trivial, .int .i64 (q : Nat), by simp only [execOp]; rw [show evU 86 u (.tmp 6) = .int .i64 (q : Nat) from hC.keep 6 rfl]; (try simp only [evU]); go_simp, fun x hx => by cases hx; rfl⟩)) ?_
                refine stepv_cons (sv_call rfl 21 (enters_of Try.func21 (by kernel_rfl) rfl) (fun L u z hC hLi hd => ?_)) ?_
                · have n9 : L 9 = false := by cases hh : L 9 with | false => rfl | true => exact Bool.noConfusion (hLi.symm.trans (hC.closed 9 8 hh rfl))
                  have n10 : L 10 = false := by cases hh : L 10 with | false => rfl | true => exact Bool.noConfusion (hLi.symm.trans (hC.closed 9 8 (hC.closed 10 9 hh rfl) rfl))
                  have n12 : L 12 = false := by cases hh : L 12 with | false => rfl | true => exact Bool.noConfusion (hLi.symm.trans (hC.closed 9 8 (hC.closed 10 9 (hC.closed 12 10 hh rfl) rfl) rfl))
                  refine ⟨trivial, rfl, ?_⟩
                  show Calls _ _ #[u 78, u 79, .int .i64 0] z _
                  rw [show u 78 = .int .i64 (K : Nat) from hC.val 6 _ (hd 6 rfl) rfl rfl, show u 79 = .int .i64 (q : Nat) from hC.val 7 _ (hd 7 rfl) rfl rfl]
                  have bz := hC.x.below n10 n12
                  refine (number_any z (K : Int) (q : Int) 0 (by omega) (by omega) (by omega)).mono ?_
                  rintro e w9 ⟨rfl, rfl⟩
                  exact ⟨.int .i64 ((q : Int) * (K : Int) + 0), rfl, (fun x hx => by cases hx), hC.x.call (by decide) n9 n10 n12 (Below.refl _ _) _ (rfl)⟩
                refine stepv_cons (sv_make rfl (fun L u z hC hLi hd => ?_)) ?_
                · have n10 : L 10 = false := by cases hh : L 10 with | false => rfl | true => exact Bool.noConfusion (hLi.symm.trans (hC.closed 10 9 hh rfl))
                  have n12 : L 12 = false := by cases hh : L 12 with | false => rfl | true => exact Bool.noConfusion (hLi.symm.trans (hC.closed 10 9 (hC.closed 12 10 hh rfl) rfl))
                  have y8 : L 8 = true := (hd 8 rfl)
                  obtain ⟨S1, s1, s2, s3⟩ := hC.x.el y8
                  have e0 := s3
                  refine ⟨trivial, .slice (some ⟨z.heap.size, 0, none⟩) 1 1, z.alloc (.cells #[u 80] 3), .inl ?_, (fun x hx => by cases hx), hC.x.build (by decide) n10 n12 GoodV.frame⟩
                  simp only [execOp, List.map_toArray, List.map_cons, List.map_nil]
                  rw [show evU 86 u (.tmp 80) = u 80 from rfl, e0]
                  go_simp
                refine stepv_cons (sv_make rfl (fun L u z hC hLi hd => ?_)) ?_
                · have n12 : L 12 = false := by cases hh : L 12 with | false => rfl | true => exact Bool.noConfusion (hLi.symm.trans (hC.closed 12 10 hh rfl))
                  have y8 : L 8 = true := (hC.closed 9 8 (hd 9 rfl) rfl)
                  have y9 : L 9 = true := (hd 9 rfl)
                  obtain ⟨v', w', hr, hx⟩ := hC.x.app (P := Try.prog) (by decide) y8 y9 hLi n12 GoodV.frame (fun S x w hv => by rw [show x = _ from hv]; rfl) QI.A hbw 24 _ Try.underlying24 (.int .i64 0) 8 Try.info_int rfl (by unfold maxLen; omega) (by omega)
                  exact ⟨trivial, v', w', .inl (run_append_call (hC.val 5 _ (hd 5 rfl) rfl rfl) rfl hr), (fun x hx => by cases hx), hx⟩
                refine stepv_cons (sv_read rfl (fun L u z v h => h.same' rfl rfl rfl rfl rfl rfl rfl) (fun L u z hC hLi hd => ⟨trivial, .pointer (some ⟨hh, 0, none⟩), by simp only [execOp]; rw [show evU 86 u (.tmp 73) = .slice (some ⟨hh, 0, none⟩) 1 1 from hC.val 1 _ (hd 1 rfl) rfl rfl]; (try simp only [evU]); go_simp, fun x hx => by cases hx; rfl⟩)) ?_
                refine stepv_cons (sv_make rfl (fun L u z hC hLi hd => ?_)) ?_
                · have y10 : L 10 = true := (hd 10 rfl)
                  have y8 : L 8 = true := (hC.closed 9 8 (hC.closed 10 9 (hd 10 rfl) rfl) rfl)
                  obtain ⟨ow, ob⟩ := hC.x.ap y10
                  have hsx := hC.x.store (by decide) y10 hLi GoodV.frame QI.o nH (d := 1000012) (by decide) undef y8
                  obtain ⟨a1, c1, e1⟩ := own_sl ow
                  have gz := (hC.x.keep hh (Array.getElem?_eq_some_iff.1 QI.o).1 (fun _ => nH) (fun hh => by rw [hLi] at hh; cases hh)).trans QI.o
                  have k0 := cell_of_row _ _ 0 _ _ _ gz
                  simp only [List.getElem?_toArray, List.getElem?_cons_zero, List.getElem?_cons_succ] at k0
                  have f0 := frozen_of_row z _ 0 _ _ gz
                  refine ⟨trivial, undef, _, .inr ⟨?_, rfl⟩, (fun x hx => by cases hx), hsx⟩
                  simp only [execOp]
                  rw [show evU 86 u (.tmp 83) = .pointer (some ⟨hh, 0, none⟩) from hC.val 11 _ (hd 11 rfl) rfl rfl, show evU 86 u (.tmp 82) = u 82 from rfl, e1]
                  go_simp
                exact stepv_nil rfl
              · intro L u z hall hC
                obtain ⟨S1, s1, s2, s3⟩ := hC.x.el (hall 8 rfl)
                obtain ⟨ow, ob⟩ := hC.x.ap (hall 10 rfl)
                have st := hC.x.st (hall 12 rfl)
                have kp : ∀ b, b < wr.heap.size → some b ≠ (vA).ownBlock → b ≠ hh → z.heap[b]? = wr.heap[b]? := fun b hb h1 h2 => hC.x.keep b hb (fun _ => h1) (fun _ => h2)
                have hsz := hC.x.size
                have hout := hC.x.same
                replace s2 := s2 (hall 10 rfl)
                rw [frame_kept2 (n := 86) (lim := 72) (hi := 84) rfl (by decide) (by decide) hC.keep]
                simp only [List.take_succ_cons, List.take_zero, List.nil_append, List.cons_append, List.drop_succ_cons, List.drop_zero, show List.range' 72 (84 - 72) = [72, 73, 74, 75, 76, 77, 78, 79, 80, 81, 82, 83] from rfl, List.map_cons, List.map_nil]
                generalize u 82 = vX at *
                generalize u 80 = xE at *
                obtain ⟨Q1, k1⟩ := QI.pushA hsz kp s1 s2 ow ob st
                have hxE : xE = .int .i64 ((q : Int) * (K : Int)) := by rw [show xE = _ from s3, Int.add_zero]
                have HL1 := HHL.out.to (S' := fun b => S b ∨ S1 b) (fun b hb => .inl hb) k1
                have HN1 := HHN.out.to (S' := fun b => S b ∨ S1 b) (fun b hb => .inl hb) k1
                have hga1 := (k1 ga Sga).trans hga
                have hin1 := HIN.out.to S HSI.out k1
                have bt1 := below_of bt hsz hout QI.low k1
                have HE := Lib.hid (show OfS w ga gR g hh gI K n il #[.slice la n lc, .slice na n nc, .slice ia il ic, .slice ca cn cc] f ln lit next (numsO K 0 init) vI (q * K + K) (q + 1) z from by
                  have hac := HAC.out
                  first | rw [if_pos rfl] at hac | rw [if_pos trivial] at hac
                  have hl : (accO K f (q + 1)).length = (accO K f q).length + 1 := by rw [hac, List.length_append]; rfl
                  unfold OfS
                  rw [hl, hac, List.map_append]
                  rw [hxE] at Q1
                  exact ⟨_, _, _, _, _, _, xI, Q1, HL1, HN1, hxI2.out, .inl Sga, fun b h1 h2 => .inl (HSI.out b h1 h2), hga1, hin1, bt1⟩)
                clear Q1 k1 hxE HL1 HN1 hga1 hin1 bt1 QI HHL HHN HIN hga bt kp s1 s2 s3 ow ob st hC hall nG nH cG3 cH Sga HSI lG lH lA hbw hsz hout i0 i1
                go_wp2_with fail
                exact ⟨⟨q + 1, by omega, by simp, by rw [HQ1.out]; exact HE⟩, by simp [intOf]; omega⟩
      · have f1 : decide (q < n) = false := by simpa using hqn
        obtain rfl : n = q := by omega
        obtain ⟨S, vL, vN, vA, xL, xN, xI, QI, HL, HN, hxI, Sga, SgI, hga, hin, bt⟩ := HS.out
        have hnK : n * K ≤ 1000 * 1000 := Nat.mul_le_mul hn hK1.2
        obtain ⟨aL, cL, eL⟩ := own_sl QI.L
        obtain ⟨aN, cN, eN⟩ := own_sl QI.N
        obtain ⟨aI, cI, eI⟩ := own_sl QI.I
        have e4s := four_set wr gR vL vN vI (.slice (some ⟨hh, 0, none⟩) 1 1)
        have r4s := four_rowU wr gR vL vN vI (.slice (some ⟨hh, 0, none⟩) 1 1) _ _ _ _ _ QI.r
        have z4s : ((((wr.setCell ⟨gR, 0, none⟩ vL).setCell ⟨gR, 1, none⟩ vN).setCell ⟨gR, 2, none⟩ vI).setCell ⟨gR, 3, none⟩ (.slice (some ⟨hh, 0, none⟩) 1 1)).heap.size = wr.heap.size := by simp [World.setCell]
        have B4 : Below w.heap.size w ((((wr.setCell ⟨gR, 0, none⟩ vL).setCell ⟨gR, 1, none⟩ vN).setCell ⟨gR, 2, none⟩ vI).setCell ⟨gR, 3, none⟩ (.slice (some ⟨hh, 0, none⟩) 1 1)) := (((bt.setCell (by show _ ≤ gR; omega) _).setCell (by show _ ≤ gR; omega) _).setCell (by show _ ≤ gR; omega) _).setCell (by show _ ≤ gR; omega) _
        have k0 := cell_of_row _ _ 0 _ _ _ QI.b
        have k1 := cell_of_row _ _ 1 _ _ _ QI.b
        have k2 := cell_of_row _ _ 2 _ _ _ QI.b
        have k3 := cell_of_row _ _ 3 _ _ _ QI.b
        have s0 := cell_of_row _ _ 0 _ _ _ QI.r
        have s1 := cell_of_row _ _ 1 _ _ _ QI.r
        have s2 := cell_of_row _ _ 2 _ _ _ QI.r
        have s3 := cell_of_row _ _ 3 _ _ _ QI.r
        simp only [List.getElem?_toArray, List.getElem?_cons_zero, List.getElem?_cons_succ] at k0 k1 k2 k3 s0 s1 s2 s3
        have f10 := frozen_of_row wr gR 0 _ _ QI.r
        have f11 := frozen_of_row wr gR 1 _ _ QI.r
        have f12 := frozen_of_row wr gR 2 _ _ QI.r
        have f13 := frozen_of_row wr gR 3 _ _ QI.r
        have hrg := QI.rg
        have HE : ∃ (la2 na2 ia2 ca2 : Option Addr) (lc2 nc2 ic2 cc2 : Nat), vL = .slice la2 (n * K) lc2 ∧ vN = .slice na2 (n * K) nc2 ∧ vI = .slice ia2 il ic2 ∧ Value.slice (some ⟨hh, 0, none⟩) 1 1 = .slice ca2 1 cc2 ∧ AutAt ((((wr.setCell ⟨gR, 0, none⟩ vL).setCell ⟨gR, 1, none⟩ vN).setCell ⟨gR, 2, none⟩ vI).setCell ⟨gR, 3, none⟩ (.slice (some ⟨hh, 0, none⟩) 1 1)) la2 na2 ia2 ca2 (n * K) (n * K) il 1 (fun x => ln (x / K)) (fun x => lit (x / K)) (nextO K f next) (numsO K 0 init) (fun _ => accO K f n) := by
          have hlI := HLI.out
          have hS4 : ∀ b, S b → ((((wr.setCell ⟨gR, 0, none⟩ vL).setCell ⟨gR, 1, none⟩ vN).setCell ⟨gR, 2, none⟩ vI).setCell ⟨gR, 3, none⟩ (.slice (some ⟨hh, 0, none⟩) 1 1)).heap[b]? = wr.heap[b]? := fun b hb => e4s b (fun he => QI.sR (he ▸ hb))
          have hlt4 : ∀ b, S b → b < ((((wr.setCell ⟨gR, 0, none⟩ vL).setCell ⟨gR, 1, none⟩ vN).setCell ⟨gR, 2, none⟩ vI).setCell ⟨gR, 3, none⟩ (.slice (some ⟨hh, 0, none⟩) 1 1)).heap.size := fun b hb => by rw [z4s]; exact QI.lt b hb
          have hdiv : ∀ x, x < n * K → x / K < n := fun x hx => Nat.div_lt_of_lt_mul (by rw [Nat.mul_comm]; exact hx)
          obtain ⟨a1, d1, g1, A1⟩ := lits_of (own_keep QI.L fun b hb => e4s b (own_off1 QI.L QI.r (by decide) b hb)) (HL.to (fun b hb => hb) hS4) hlt4 (fun x hx => by have := HLn.out (x / K) (hdiv x hx); omega)
          obtain ⟨a2, d2, g2, A2⟩ := next_of (own_keep QI.N fun b hb => e4s b (own_off1 QI.N QI.r (by decide) b hb)) (HN.to (fun b hb => hb) hS4) (fun x hx => by
            have := HX.out (x / K) (hdiv x hx)
            unfold nextO numsO
            rw [List.length_map]
            omega)
          obtain ⟨a3, d3, g3, A3⟩ := ints_of (own_keep QI.I fun b hb => e4s b (own_off1 QI.I QI.r (by decide) b hb)) hxI hlI (by omega)
          obtain ⟨a4, d4, g4, A4⟩ := ints_of (own_keep QI.A fun b hb => e4s b (own_off1 QI.A QI.r (by decide) b hb)) (map_getD (accO K f n)) rfl (by have := accO_len K f n; omega)
          refine ⟨a1, a2, a3, some ⟨hh, 0, none⟩, d1, d2, d3, 1, g1, g2, g3, rfl, A1, A2, A3, .inr ⟨hh, 0, rfl, by rw [z4s]; exact (Array.getElem?_eq_some_iff.1 QI.o).1, fun i hi => ?_⟩, by omega, by omega, by omega⟩
          obtain rfl : i = 0 := by omega
          refine ⟨a4, _, d4, ?_, A4⟩
          have := cell_of_row _ _ 0 _ _ _ ((e4s hh QI.hr).trans QI.o)
          rw [← g4]
          exact this
        subst eL
        subst eN
        subst eI
        have HEE := Lib.hid HE
        clear HE QI HL HN hxI SgI hga hin bt HS
        go_wp2_with fail
        obtain ⟨w5, hw5⟩ : ∃ w5, ((((wr.setCell ⟨gR, 0, none⟩ (.slice aL (n * K) cL)).setCell ⟨gR, 1, none⟩ (.slice aN (n * K) cN)).setCell ⟨gR, 2, none⟩ (.slice aI il cI)).setCell ⟨gR, 3, none⟩ (.slice (some ⟨hh, 0, none⟩) 1 1)) = w5 := ⟨_, rfl⟩
        rw [hw5] at r4s B4 HEE ⊢
        have q0 := cell_of_row w5 gR 0 _ _ _ r4s
        have q1 := cell_of_row w5 gR 1 _ _ _ r4s
        have q2 := cell_of_row w5 gR 2 _ _ _ r4s
        have q3 := cell_of_row w5 gR 3 _ _ _ r4s
        simp only [List.getElem?_toArray, List.getElem?_cons_zero, List.getElem?_cons_succ] at q0 q1 q2 q3
        refine bodyPost_ret (v := .agg #[.slice aL (n * K) cL, .slice aN (n * K) cN, .slice aI il cI, .slice (some ⟨hh, 0, none⟩) 1 1]) (by simp [results, Try.results9, go_sem, q0, q1, q2, q3]) rfl ⟨?_, B4⟩
        obtain ⟨la2, na2, ia2, ca2, lc2, nc2, ic2, cc2, g1, g2, g3, g4, hA⟩ := HEE.out
        rw [g1, g2, g3, g4]
        rw [← HFF.out] at hA
        exact ⟨la2, na2, ia2, ca2, lc2, nc2, ic2, cc2, rfl, hA⟩
end Go.Proofs.Ytpabnpgbclfcfaa
