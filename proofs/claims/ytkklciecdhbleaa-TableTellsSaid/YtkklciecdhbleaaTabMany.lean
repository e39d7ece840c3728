/- TableMany returns true (by gen04m.py). -/
import Derived.Test.YtkklciecdhbleaaTabHead
namespace Go.Proofs.Ytkklciecdhbleaa
open Go.RowKit
set_option linter.unusedVariables false

/-- Four bytes of a number. -/
def keyB (k : Nat) : List Nat := [k % 256, k / 256 % 256, k / 65536 % 256, k / 16777216]
def stepV (step i : Nat) : Nat := i * (2 * step + 1) % 4294967296
def keysV (step m : Nat) : List (List Nat) := (List.range m).map fun i => keyB (stepV step i)
theorem keysV_succ (step m : Nat) : keysV step (m + 1) = keysV step m ++ [keyB (stepV step m)] := by simp [keysV, List.range_succ]
theorem keyB_inj {a b : Nat} (ha : a < 4294967296) (hb : b < 4294967296) (h : keyB a = keyB b) : a = b := by
  simp only [keyB, List.cons.injEq, and_true] at h
  omega
theorem stepV_inj {step i j : Nat} (hi : i < 1000) (hj : j < i) (h : stepV step i = stepV step j) : False := by
  unfold stepV at h
  have h1 : (4294967296 : Nat) ∣ (i - j) * (2 * step + 1) := by
    rw [Nat.sub_mul]
    exact Nat.dvd_of_mod_eq_zero (Nat.sub_mod_eq_zero_of_mod_eq h)
  have hc : Nat.Coprime 4294967296 (2 * step + 1) := by
    have h2 : Nat.Coprime 2 (2 * step + 1) := by
      show Nat.gcd 2 (2 * step + 1) = 1
      rw [Nat.gcd_rec, show (2 * step + 1) % 2 = 1 by omega]
      rfl
    have : Nat.Coprime (2 ^ 32) (2 * step + 1) := Nat.Coprime.pow_left 32 h2
    exact this
  have h2 := hc.dvd_of_dvd_mul_right h1
  have := Nat.le_of_dvd (by omega) h2
  omega
theorem keysV_new (step m : Nat) (hm : m < 1000) : keyB (stepV step m) ∉ keysV step m := by
  intro h
  obtain ⟨i, hi, he⟩ := List.mem_map.1 h
  have hi := List.mem_range.1 hi
  exact stepV_inj hm hi (keyB_inj (by unfold stepV; omega) (by unfold stepV; omega) he.symm)
def row4 (K : Nat) : Array Value := #[.int .u8 ((K : Int) % 256), .int .u8 ((K : Int) / 256 % 256), .int .u8 ((K : Int) / 65536 % 256), .int .u8 ((K : Int) / 16777216)]
theorem bytes4 (w : World) (K : Nat) (hK : K < 4294967296) : BytesAt (w.alloc (.cells (row4 K) 5)) (some ⟨w.heap.size, 0, none⟩) 4 4 (keyB K) := by
  refine ⟨rfl, by omega, ?_, nofun, .inr ⟨_, 0, rfl, by simp, fun i hi => ?_⟩⟩
  · intro n hn
    simp [keyB] at hn
    omega
  · rw [cell_of_row _ _ _ _ _ _ (heap_alloc_new w _), Nat.zero_add]
    match i, hi with
    | 0, _ => simp [row4, keyB]
    | 1, _ => simp [row4, keyB]
    | 2, _ => simp [row4, keyB]
    | 3, _ => simp [row4, keyB]
/-- A table, behind a store into a record. -/
theorem TabM.recd {w w' : World} {B : Nat} {ka : Option Addr} {n kc : Nat} {sa : Option Addr} {sl sc : Nat} {ks : List (List Nat)} {s : List Int} {rs : List (Nat × Nat)} (h : TabM w B ka n kc sa sl sc ks s rs) {g : Nat} {t : TypeId} {a b : Option Addr} {i : Int} {l1 l2 c1 c2 : Nat} (hg : w.heap[g]? = some (.cells #[.int .i64 i, .slice a l1 c1, .slice b l2 c2] t (0, 0))) (h1 : t ≠ 23) (h2 : t ≠ 3)
    (hs : w'.heap.size = w.heap.size) (ho : ∀ b, b ≠ g → w'.heap[b]? = w.heap[b]?) : TabM w' B ka n kc sa sl sc ks s rs := by
  have hno : NoU8 w g := noU8_rec hg fun v hv m => by simp at hv; rcases hv with rfl | rfl | rfl <;> simp
  have past : ∀ {a : Option Addr} {l c : Nat} {y : List Nat}, BytesAt w a l c y → BytesAt w' a l c y := fun hb => hb.past (bad := fun b => b = g) (fun b hb => hb ▸ hno) (Nat.le_of_eq hs.symm) fun b _ hb => ho b hb
  rcases h.mem with h0 | ⟨kb, sb, kcur, scur, e1, e2, r⟩
  · obtain ⟨rfl, rfl, rfl, rfl, rfl, rfl⟩ := h0
    exact ⟨⟨⟨h.rd.slots.1, h.rd.slots.2, .inl rfl⟩, .inl rfl, h.rd.len, h.rd.row, h.rd.hash, h.rd.small⟩, .inl ⟨rfl, rfl, rfl, rfl, rfl, rfl⟩⟩
  · have hk : kb ≠ g := by
      rintro rfl
      have := r.rowk
      rw [hg] at this
      simp at this
      exact h1 this.2
    have hsb : sb ≠ g := by
      rintro rfl
      have := r.rows
      rw [hg] at this
      simp at this
      exact h2 this.2
    subst e1 e2
    refine ⟨⟨⟨h.rd.slots.1, h.rd.slots.2, ?_⟩, ?_, h.rd.len, h.rd.row, h.rd.hash, h.rd.small⟩, .inr ⟨kb, sb, kcur, scur, rfl, rfl, ⟨r.1, r.2, r.3, (ho kb hk).trans r.4, (ho sb hsb).trans r.5, r.6, r.7, r.8, r.9, r.10, r.11, r.12, r.13⟩⟩⟩
    · rcases h.rd.slots.3 with h0 | ⟨b, off, ha, hb, hc⟩
      · exact .inl h0
      · cases ha
        exact .inr ⟨sb, 0, rfl, by rw [hs]; exact hb, fun i hi => (World.cell?_of_block (a := ⟨sb, 0 + i, none⟩) (ho sb hsb)).trans (hc i hi)⟩
    · rcases h.rd.keys with h0 | ⟨b, ha, hb, hc⟩
      · exact .inl h0
      · cases ha
        refine .inr ⟨kb, rfl, by rw [hs]; exact hb, fun i hi => ?_⟩
        obtain ⟨a, l, c, h1, h2, h3⟩ := hc i hi
        exact ⟨a, l, c, (World.cell?_of_block (a := ⟨kb, i, none⟩) (ho kb hk)).trans h1, past h2, h3⟩
theorem keysV_length (step m : Nat) : (keysV step m).length = m := by simp [keysV]
set_option maxRecDepth 100000 in
set_option maxHeartbeats 4000000 in
theorem tablemany_any (w : World) (most step : Nat) (hm : most < 65536) (hs : step < 4294967296) :
    Calls Try.prog 6 #[.int .u16 (most : Nat), .int .u32 (step : Nat)] w fun e w' => e = .returned (.bool true) ∧ Below w.heap.size w w' := by
  obtain ⟨N, hN⟩ : ∃ N : Nat, (most : Int) % 301 = (N : Int) := ⟨most % 301, by omega⟩
  have n3 : N ≤ 300 := by omega
  go_enter Try.func6, Try.ntmps6
  go_wp2_with fail
  refine (shown_any _).mono ?_
  rintro e w0 ⟨rfl, bt⟩
  go_wp2_with fail
  refine (new_ok _ (N : Nat) (by omega)).mono ?_
  rintro e w1 ⟨rfl, b1⟩
  replace bt := below_then bt b1
  have hB := bt.size
  have A := (Below.refl w1.heap.size w1).alloc (Nat.le_refl _) (.cells #[.int .i64 (N : Nat), .slice none 0 0, .slice none 0 0] 30)
  have pt : (w1.alloc (.cells #[.int .i64 (N : Nat), .slice none 0 0, .slice none 0 0] 30)).heap[w1.heap.size]? = some (.cells #[.int .i64 (N : Nat), .slice none 0 0, .slice none 0 0] 30 (0, 0)) := heap_alloc_new _ _
  have Mt := TabM.empty (w1.alloc (.cells #[.int .i64 (N : Nat), .slice none 0 0, .slice none 0 0] 30)) w.heap.size
  replace bt := below_then bt A
  go_upto_region 4 with fail
  obtain ⟨v1, hv⟩ : ∃ v, w1.alloc (.cells #[.int .i64 (N : Nat), .slice none 0 0, .slice none 0 0] 30) = v := ⟨_, rfl⟩
  obtain ⟨gt, hg⟩ : ∃ g, w1.heap.size = g := ⟨_, rfl⟩
  rw [hv] at pt Mt bt ⊢
  rw [hg] at pt hB ⊢
  clear hv hg A b1
  go_wp2_with fail
  go_loopw [9] (fun i w' => ∃ (j : Nat) (m : Nat) (ka : Option Addr) (kc : Nat) (sa : Option Addr) (sl sc : Nat) (s : List Int) (rs : List (Nat × Nat)), j ≤ N + 1 ∧ m = min j N ∧ i = .int .i64 (j : Nat) ∧ w'.heap[gt]? = some (.cells #[.int .i64 (N : Nat), .slice ka m kc, .slice sa sl sc] 30 (0, 0)) ∧ TabM w' w.heap.size ka m kc sa sl sc (keysV step m) s rs ∧ Below w.heap.size w w') (fun i _ => N + 1 - (intOf i).toNat)
  case atStart => exact ⟨0, 0, none, 0, none, 0, 0, [], [], by omega, by omega, rfl, pt, Mt, bt⟩
  case round =>
    clear pt Mt bt
    obtain ⟨j, m, ka, kc, sa, sl, sc, s, rs, hj, hmm, rfl, pt, Mt, bt⟩ := hrel
    by_cases hjn : j ≤ N
    · have f1 : decide (j ≤ N) = true := by simpa using hjn
      obtain rfl : j = m := by omega
      clear hmm
      obtain ⟨K, hK⟩ : ∃ K, stepV step j = K := ⟨_, rfl⟩
      have hKl : K < 4294967296 := by rw [← hK]; unfold stepV; omega
      have hK2 : (j : Int) * (2 * (step : Int) % 4294967296 + 1) % 4294967296 = (K : Int) := by
        have e1 : (2 * (step : Int) % 4294967296 + 1) = ((2 * step % 4294967296 + 1 : Nat) : Int) := by omega
        have e2 : j * (2 * step % 4294967296 + 1) % 4294967296 = K := by
          rw [← hK]
          unfold stepV
          rw [Nat.mul_mod, Nat.mul_mod j (2 * step + 1)]
          have : (2 * step % 4294967296 + 1) % 4294967296 = (2 * step + 1) % 4294967296 := by omega
          rw [this]
        rw [e1, ← Int.natCast_mul]
        omega
      have hnew := keysV_new step j (by omega)
      have hsucc := keysV_succ step j
      have hlen := keysV_length step j
      rw [hK] at hnew hsucc
      have HS := Lib.hid hsucc
      clear hK hsucc hs hm hN
      obtain ⟨KS, hKS⟩ : ∃ KS, keysV step j = KS := ⟨_, rfl⟩
      rw [hKS] at Mt hnew
      have HKS := Lib.hid hKS
      clear hKS
      have hk := bytes4 wr K hKl
      have A1 := (Below.refl wr.heap.size wr).alloc (Nat.le_refl _) (.cells (row4 K) 5)
      have Mt1 := Mt.mono A1
      have pt1 := (A1.block gt (Array.getElem?_eq_some_iff.1 pt).1).trans pt
      have bt1 := below_then bt A1
      have hBw := Nat.le_trans bt.size A1.size
      unfold row4 at A1 Mt1 pt1 bt1 hk hBw
      go_upto_region 10 with fail
      rw [hK2]
      clear hK2
      by_cases hlt : j < N
      · have f2 : decide (j < N) = true := by simpa using hlt
        go_wp2_with (first | (refine wpList_load_row rfl 30 _ rfl gt rfl 30 _ _ _ pt Try.underlying30 rfl (by kernel_rfl) ?_) | fail)
        refine (insert_new _ (N : Nat) (by omega) (by omega) w.heap.size ka j kc sa sl sc KS s rs Mt1 hBw (some ⟨wr.heap.size, 0, none⟩) 4 4 (keyB K) hk (by omega) hnew (by omega)).mono ?_
        rintro e w2 ⟨kb, kc', sb, sl', sc', rfl, G⟩
        have pt2 := G.row Mt1 pt1 (by decide) (by decide)
        replace bt := bt1.trans (G.bel hBw)
        obtain ⟨s', rs', M2⟩ := G.tab
        have A2 := (Below.refl w2.heap.size w2).alloc (Nat.le_refl _) (.cells #[.int .i64 (N : Nat), .slice (some ⟨kb, 0, none⟩) (j + 1) kc', .slice (some ⟨sb, 0, none⟩) sl' sc'] 30)
        have px : (w2.alloc (.cells #[.int .i64 (N : Nat), .slice (some ⟨kb, 0, none⟩) (j + 1) kc', .slice (some ⟨sb, 0, none⟩) sl' sc'] 30)).heap[w2.heap.size]? = some (.cells #[.int .i64 (N : Nat), .slice (some ⟨kb, 0, none⟩) (j + 1) kc', .slice (some ⟨sb, 0, none⟩) sl' sc'] 30 (0, 0)) := heap_alloc_new _ _
        replace pt2 := (A2.block gt (Array.getElem?_eq_some_iff.1 pt2).1).trans pt2
        replace M2 := M2.mono A2
        replace bt := below_then bt A2
        clear G Mt Mt1 pt pt1 bt1 A1 hk
        go_wp2_with (first | (refine wpList_load_row rfl 30 _ rfl w2.heap.size rfl 30 _ _ _ px Try.underlying30 rfl (by kernel_rfl) ?_) | (refine store_rec rfl 30 (.tmp 7) (.tmp 77) rfl gt #[.int .i64 (N : Nat), .slice (some ⟨kb, 0, none⟩) (j + 1) kc', .slice (some ⟨sb, 0, none⟩) sl' sc'] rfl rfl 30 _ pt2 (by kernel_rfl) rfl (by simp [Value.oneCell']) ?_; intro w6 g6 z6 o6 b6))
        refine ⟨⟨j + 1, j + 1, _, _, _, _, _, s', rs', by omega, by omega, by simp, g6, ?_, bt.trans (b6.mono hB)⟩, by simp [intOf]; omega⟩
        rw [HS.out, HKS.out]
        exact M2.recd pt2 (by decide) (by decide) z6 o6
      · have f2 : decide (j < N) = false := by simpa using hlt
        obtain rfl : N = j := by omega
        go_wp2_with (first | (refine wpList_load_row rfl 30 _ rfl gt rfl 30 _ _ _ pt Try.underlying30 rfl (by kernel_rfl) ?_) | fail)
        refine (insert_full _ (N : Nat) (by omega) (by omega) w.heap.size ka N kc sa sl sc KS s rs Mt1 hBw (some ⟨wr.heap.size, 0, none⟩) 4 4 (keyB K) hk (by omega) hnew (by omega)).mono ?_
        rintro e w2 ⟨rfl, b2⟩
        have pt2 := (b2.block gt (Array.getElem?_eq_some_iff.1 pt1).1).trans pt1
        have M2 := Mt1.mono b2
        replace bt := below_then bt1 b2
        have A2 := (Below.refl w2.heap.size w2).alloc (Nat.le_refl _) (.cells #[.int .i64 (N : Nat), .slice ka N kc, .slice sa sl sc] 30)
        have px : (w2.alloc (.cells #[.int .i64 (N : Nat), .slice ka N kc, .slice sa sl sc] 30)).heap[w2.heap.size]? = some (.cells #[.int .i64 (N : Nat), .slice ka N kc, .slice sa sl sc] 30 (0, 0)) := heap_alloc_new _ _
        replace pt2 := (A2.block gt (Array.getElem?_eq_some_iff.1 pt2).1).trans pt2
        replace M2 := M2.mono A2
        replace bt := below_then bt A2
        clear Mt Mt1 pt pt1 bt1 A1 hk b2
        go_wp2_with (first | (refine wpList_load_row rfl 30 _ rfl w2.heap.size rfl 30 _ _ _ px Try.underlying30 rfl (by kernel_rfl) ?_) | (refine store_rec rfl 30 (.tmp 7) (.tmp 77) rfl gt #[.int .i64 (N : Nat), .slice ka N kc, .slice sa sl sc] rfl rfl 30 _ pt2 (by kernel_rfl) rfl (by simp [Value.oneCell']) ?_; intro w6 g6 z6 o6 b6))
        refine ⟨⟨N + 1, N, _, _, _, _, _, s, rs, by omega, by omega, by simp, g6, ?_, bt.trans (b6.mono hB)⟩, by simp [intOf]⟩
        rw [HKS.out]
        exact M2.recd pt2 (by decide) (by decide) z6 o6
    · have f1 : decide (j ≤ N) = false := by simpa using hjn
      obtain rfl : N = m := by omega
      clear hmm
      have q0 := cell_of_row _ gt 0 _ _ _ pt
      have q1 := cell_of_row _ gt 1 _ _ _ pt
      have q2 := cell_of_row _ gt 2 _ _ _ pt
      simp only [List.getElem?_toArray, List.getElem?_cons_zero, List.getElem?_cons_succ] at q0 q1 q2
      go_wp2_with fail
      refine (many_any _ (N : Nat) ka N kc _ (by omega)).mono ?_
      rintro e w9 ⟨rfl, b9⟩
      go_wp2_with fail
      go_ret
      exact ⟨rfl, below_then bt b9⟩
end Go.Proofs.Ytkklciecdhbleaa
