/- blur's touch. -/
import Derived.Test.YtcnpomejdnpegaaBlur1
import Derived.LoopTactic
import Derived.Lib.SmallJoins
namespace Go.Proofs.Ytcnpomejdnpegaa
open Go.RowKit
set_option linter.unusedVariables false

theorem IntsAt.low {w : World} {a : Option Addr} {n : Nat} {l : List Int} (h : IntsAt w a n l) : ∀ b o, a = some ⟨b, o, none⟩ → n ≠ 0 → b < w.heap.size := by
  intro blk o ha h0
  rcases h.3 with h1 | ⟨b, off, ha', hlt, _⟩
  · exact absurd h1 h0
  · rw [ha'] at ha
    simp at ha
    omega
/-- Places as they lie in memory. -/
def nats (ps : List Nat) : List Int := ps.map fun (p : Nat) => (p : Int)
theorem nats_getD (ps : List Nat) (i : Nat) : (nats ps).getD i 0 = ((ps.getD i 0 : Nat) : Int) := by
  unfold nats
  rw [List.getD_eq_getElem?_getD, List.getD_eq_getElem?_getD, List.getElem?_map]
  cases ps[i]? <;> rfl
theorem bit_and : ∀ x, x < 256 → ∀ r, r < 8 → (bits .and .u8 ((x : Nat) : Int) (2 ^ r % 256) != 0) = x.testBit r := by decide +kernel
theorem bit_or : ∀ x, x < 256 → ∀ r, r < 8 → bits .or .u8 ((x : Nat) : Int) (2 ^ r % 256) = ((x ||| 2 ^ r : Nat) : Int) := by decide +kernel
theorem allV_snoc (l ps : List Nat) (j p : Nat) (hj : j < ps.length) (hp : ps.getD j 0 = p) : allV l (ps.take (j + 1)) = (allV l (ps.take j) && bitV l p) := by
  have e : ps[j] = p := by rw [← hp]; simp [hj]
  rw [List.take_succ_eq_append_getElem hj, e]
  simp [allV]
theorem setV_snoc (l ps : List Nat) (j p : Nat) (hj : j < ps.length) (hp : ps.getD j 0 = p) : setV l (ps.take (j + 1)) = orV (setV l (ps.take j)) p := by
  have e : ps[j] = p := by rw [← hp]; simp [hj]
  rw [List.take_succ_eq_append_getElem hj, e]
  simp [setV]
set_option maxRecDepth 100000 in
set_option maxHeartbeats 1000000 in
theorem touchF (w : World) (gp : Nat) (pa : Option Addr) (k pc : Nat) (ps : List Nat) (a : Option Addr) (len cap : Nat) (l : List Nat)
    (hc : w.cell? ⟨gp, 0, none⟩ = some (.slice pa k pc)) (hp : IntsAt w pa k (nats ps)) (hl : BytesAt w a len cap l) (hlt : ∀ p ∈ ps, p < 8 * len) (hlen : len ≤ 1000000) :
    Calls Try.prog 31 #[.slice a len cap, .bool false, .pointer (some ⟨gp, 0, none⟩)] w fun e w' => e = .returned (.bool (allV l ps)) ∧ w = w' := by
  have hk : ps.length = k := by have := hp.len_eq; simpa [nats] using this
  have ksmall := hp.small
  go_enter Try.func31, Try.ntmps31
  go_wp2_with fail
  go_loop [6, 12] (fun b i => ∃ j : Nat, j ≤ k ∧ i = .int .i64 (j : Nat) ∧ b = .bool (allV l (ps.take j))) (fun _ i => k - (intOf i).toNat)
  case atStart => exact ⟨0, Nat.zero_le _, rfl, rfl⟩
  case round =>
    obtain ⟨j, hj, rfl, rfl⟩ := hrel
    by_cases hjk : j < k
    · have f1 : decide (j < k) = true := by simpa using hjk
      obtain ⟨b, off, rfl, hbs, hcell⟩ := hp.at_.resolve_left (by omega)
      obtain ⟨p, hpv⟩ : ∃ p, ps.getD j 0 = p := ⟨_, rfl⟩
      have hcp := hcell j hjk
      rw [nats_getD, hpv] at hcp
      obtain ⟨q, hq⟩ : ∃ q : Nat, (p : Int) / 8 = (q : Int) := ⟨p / 8, by omega⟩
      obtain ⟨r, hr⟩ : ∃ r : Nat, (p : Int) % 8 = (r : Int) := ⟨p % 8, by omega⟩
      have hpm : p ∈ ps := by
        rw [← hpv, List.getD_eq_getElem?_getD, List.getElem?_eq_getElem (by omega)]
        exact List.getElem_mem _
      have hp8 := hlt p hpm
      have hqn : q = p / 8 := by omega
      have hrn : r = p % 8 := by omega
      have hql : q < len := by omega
      obtain ⟨rb, ro, rfl, hrb, hrow⟩ := hl.at_.resolve_left (by omega)
      obtain ⟨x, hx⟩ : ∃ x, l.getD q 0 = x := ⟨_, rfl⟩
      have hcx := hrow q hql
      rw [hx] at hcx
      have hx256 : x < 256 := by rw [← hx]; exact getD_lt hl.byte q
      have hr8 : r < 8 := by omega
      have HQ := Lib.hid hqn
      have HR := Lib.hid hrn
      have HX := Lib.hid hx
      have HP := Lib.hid hpv
      clear hcell hpv hpm hrow hqn hrn hx hp hl hlt
      cases hb : allV l (ps.take j)
      · go_wp2_with fail
        refine ⟨⟨j + 1, by omega, by simp, ?_⟩, by simp [intOf]; omega⟩
        rw [allV_snoc l ps j p (by omega) HP.out, hb]
        rfl
      · go_wp2_with fail
        refine ⟨⟨j + 1, by omega, by simp, ?_⟩, by simp [intOf]; omega⟩
        rw [allV_snoc l ps j p (by omega) HP.out, hb, bit_and x hx256 r hr8, ← HX.out, HQ.out, HR.out]
        rfl
    · have f1 : decide (j < k) = false := by simpa using hjk
      obtain rfl : j = k := by omega
      rw [← hk, List.take_length]
      go_wp2_with fail
      go_ret
      exact ⟨rfl, rfl⟩
/-- A row of the call's own, as bytes that may be written. -/
structure LaidB (w : World) (g len : Nat) (l : List Nat) : Prop where
  byte : ∀ x ∈ l, x < 256
  len_eq : l.length = len
  at_ : ∃ cur, w.heap[g]? = some (.cells cur 5 (0, 0)) ∧ ∀ i, i < len → cur[i]? = some (.int .u8 (l.getD i 0 : Nat))
theorem LaidB.lt {w : World} {g len : Nat} {l : List Nat} (h : LaidB w g len l) : g < w.heap.size := by
  obtain ⟨cur, hh, _⟩ := h.at_
  exact (Array.getElem?_eq_some_iff.1 hh).1
theorem LaidB.cell {w : World} {g len : Nat} {l : List Nat} (h : LaidB w g len l) {i : Nat} (hi : i < len) : w.cell? ⟨g, i, none⟩ = some (.int .u8 (l.getD i 0 : Nat)) := by
  obtain ⟨cur, hh, hc⟩ := h.at_
  simp [World.cell?, hh, hc i hi]
theorem LaidB.frozen {w : World} {g len : Nat} {l : List Nat} (h : LaidB w g len l) (i : Nat) : w.frozen? ⟨g, i, none⟩ = false := by
  obtain ⟨cur, hh, _⟩ := h.at_
  simp [World.frozen?, hh]
theorem LaidB.set {w : World} {g len : Nat} {l : List Nat} (h : LaidB w g len l) {i y : Nat} (hi : i < len) (hy : y < 256) : LaidB (w.setCell ⟨g, i, none⟩ (.int .u8 (y : Nat))) g len (l.set i y) := by
  obtain ⟨cur, hh, hc⟩ := h.at_
  refine ⟨fun x hx => ?_, by simpa using h.len_eq, _, Joins.block_setCell hh _, fun k hk => ?_⟩
  · rcases List.mem_or_eq_of_mem_set hx with hx | rfl
    · exact h.byte x hx
    · exact hy
  · have hl := h.len_eq
    have hcur := (Array.getElem?_eq_some_iff.1 (hc i hi)).1
    by_cases e : k = i
    · subst e
      simp [hcur, List.getD, hl, hi]
    · rw [Array.getElem?_setIfInBounds, if_neg (by omega), hc k hk, List.getD_eq_getElem?_getD, List.getD_eq_getElem?_getD, List.getElem?_set_ne (by omega)]
theorem LaidB.bytes {w : World} {g len : Nat} {l : List Nat} (h : LaidB w g len l) (cap : Nat) (hm : len ≤ 9223372036854775807) : BytesAt w (some ⟨g, 0, none⟩) len cap l :=
  ⟨h.len_eq, hm, h.byte, nofun, .inr ⟨g, 0, rfl, h.lt, fun i hi => by rw [Nat.zero_add]; exact h.cell hi⟩⟩
theorem LaidB.other {w w' : World} {g len : Nat} {l : List Nat} (h : LaidB w g len l) (e : w'.heap[g]? = w.heap[g]?) : LaidB w' g len l := by
  obtain ⟨cur, hh, hc⟩ := h.at_
  exact ⟨h.byte, h.len_eq, cur, e.trans hh, hc⟩
theorem laid_own {w : World} {base : Nat} {v : Value} {n : Nat} {l : List Nat} (h : w.ownsRow base 5 1 v n ((nats l).map (Value.int .u8))) (hb : ∀ x ∈ l, x < 256) (hn : 0 < n) : ∃ g cap, v = .slice (some ⟨g, 0, none⟩) n cap ∧ base ≤ g ∧ LaidB w g n l := by
  obtain ⟨h1, h2⟩ := h
  simp [nats] at h1
  rcases h2 with ⟨rfl, rfl⟩ | ⟨g, cap, cur, rfl, hbg, hg, hnc, hcm, hsz, htake⟩
  · omega
  · refine ⟨g, cap, rfl, hbg, hb, h1, cur, hg, fun i hi => ?_⟩
    have e := congrArg (fun x => x[i]?) htake
    have hlt : i < l.length := by omega
    simp only [nats, List.getElem?_map, Nat.mul_one] at e
    rw [List.getElem?_take, if_pos hi, Array.getElem?_toList, List.getElem?_eq_getElem hlt] at e
    rw [e]
    simp [hlt]
set_option maxRecDepth 100000 in
set_option maxHeartbeats 4000000 in
theorem touchT (w : World) (gp : Nat) (pa : Option Addr) (k pc : Nat) (ps : List Nat) (g len cap : Nat) (l : List Nat)
    (hc : w.cell? ⟨gp, 0, none⟩ = some (.slice pa k pc)) (hp : IntsAt w pa k (nats ps)) (hl : LaidB w g len l) (hlt : ∀ p ∈ ps, p < 8 * len) (hlen : len ≤ 1000000)
    (hpg : ∀ b o, pa = some ⟨b, o, none⟩ → k ≠ 0 → b ≠ g) :
    Calls Try.prog 31 #[.slice (some ⟨g, 0, none⟩) len cap, .bool true, .pointer (some ⟨gp, 0, none⟩)] w fun e w' => (∃ b, e = .returned (.bool b)) ∧ LaidB w' g len (setV l ps) ∧ Below g w w' ∧ w'.heap.size = w.heap.size ∧ (∀ b, b ≠ g → w'.heap[b]? = w.heap[b]?) := by
  have hk : ps.length = k := by have := hp.len_eq; simpa [nats] using this
  have ksmall := hp.small
  go_enter Try.func31, Try.ntmps31
  go_wp2_with fail
  go_loopw [6, 12] (fun b i w' => ∃ (j : Nat) (c : Bool), j ≤ k ∧ i = .int .i64 (j : Nat) ∧ b = .bool c ∧ LaidB w' g len (setV l (ps.take j)) ∧ Below g w w' ∧ w'.heap.size = w.heap.size ∧ (∀ b, b ≠ g → w'.heap[b]? = w.heap[b]?)) (fun _ i _ => k - (intOf i).toNat)
  case atStart => exact ⟨0, true, Nat.zero_le _, rfl, rfl, hl, Below.refl _ _, rfl, fun _ _ => rfl⟩
  case round =>
    obtain ⟨j, c, hj, rfl, rfl, hlw, bel, hsz, hoth⟩ := hrel
    by_cases hjk : j < k
    · have f1 : decide (j < k) = true := by simpa using hjk
      obtain ⟨b, off, rfl, hbs, hcell⟩ := hp.at_.resolve_left (by omega)
      obtain ⟨p, hpv⟩ : ∃ p, ps.getD j 0 = p := ⟨_, rfl⟩
      have hcp := hcell j hjk
      rw [nats_getD, hpv] at hcp
      have hcp : wr.cell? ⟨b, off + j, none⟩ = some (.int .i64 (p : Nat)) := by
        rw [← hcp]
        exact World.cell?_of_block (hoth b (hpg b off rfl (by omega)))
      obtain ⟨q, hq⟩ : ∃ q : Nat, (p : Int) / 8 = (q : Int) := ⟨p / 8, by omega⟩
      obtain ⟨r, hr⟩ : ∃ r : Nat, (p : Int) % 8 = (r : Int) := ⟨p % 8, by omega⟩
      have hpm : p ∈ ps := by
        rw [← hpv, List.getD_eq_getElem?_getD, List.getElem?_eq_getElem (by omega)]
        exact List.getElem_mem _
      have hp8 := hlt p hpm
      have hqn : q = p / 8 := by omega
      have hrn : r = p % 8 := by omega
      have hql : q < len := by omega
      obtain ⟨L, hL⟩ : ∃ L, setV l (ps.take j) = L := ⟨_, rfl⟩
      rw [hL] at hlw
      obtain ⟨x, hx⟩ : ∃ x, L.getD q 0 = x := ⟨_, rfl⟩
      have hcx := hlw.cell hql
      rw [hx] at hcx
      have hfx := hlw.frozen q
      have hgl := hlw.lt
      have hx256 : x < 256 := by rw [← hx]; exact getD_lt hlw.byte q
      have hr8 : r < 8 := by omega
      have hor := bit_or x hx256 r hr8
      obtain ⟨y, hy⟩ : ∃ y : Nat, x ||| 2 ^ r = y := ⟨_, rfl⟩
      rw [hy] at hor
      have hy256 : y < 256 := by rw [← hy]; exact or_lt hx256 hr8
      have hset := hlw.set hql hy256
      have hnew : L.set q y = setV l (ps.take (j + 1)) := by
        rw [setV_snoc l ps j p (by omega) hpv, hL]
        unfold orV
        rw [← hqn, hx, ← hrn, hy]
      rw [hnew] at hset
      clear hcell hpv hpm hqn hrn hx hp hl hlt hL hnew hy hlw
      cases hb : c
      · go_wp2_with fail
        refine ⟨⟨j + 1, _, by omega, by simp, rfl, hset, bel.setCell (Nat.le_refl _) _, by simp [World.setCell, hsz], fun b' hb' => by rw [Below.heap_setCell _ _ _ _ hb']; exact hoth b' hb'⟩, by simp [intOf]; omega⟩
      · go_wp2_with fail
        refine ⟨⟨j + 1, _, by omega, by simp, rfl, hset, bel.setCell (Nat.le_refl _) _, by simp [World.setCell, hsz], fun b' hb' => by rw [Below.heap_setCell _ _ _ _ hb']; exact hoth b' hb'⟩, by simp [intOf]; omega⟩
    · have f1 : decide (j < k) = false := by simpa using hjk
      obtain rfl : j = k := by omega
      rw [← hk, List.take_length] at hlw
      go_wp2_with fail
      go_ret
      exact ⟨⟨_, rfl⟩, hlw, bel, hsz, hoth⟩
end Go.Proofs.Ytcnpomejdnpegaa
