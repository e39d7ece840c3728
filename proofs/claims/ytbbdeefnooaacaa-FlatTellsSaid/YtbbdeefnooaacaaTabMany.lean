/- TableMany returns true (by gen04m.py). -/
import Derived.Test.YtbbdeefnooaacaaTabHead
namespace Go.Proofs.Ytbbdeefnooaacaa
open Go.RowKit
set_option linter.unusedVariables false
set_option linter.unusedSimpArgs false

/-- Four bytes of a number. -/
def keyB (k : Nat) : List Nat := [k % 256, k / 256 % 256, k / 65536 % 256, k / 16777216]
def stepV (step i : Nat) : Nat := i * (2 * step + 1) % 4294967296
def keysV (step m : Nat) : List (List Nat) := (List.range m).map fun i => keyB (stepV step i)
theorem keysV_succ (step m : Nat) : keysV step (m + 1) = keysV step m ++ [keyB (stepV step m)] := by simp [keysV, List.range_succ]
theorem keyB_inj {a b : Nat} (ha : a < 4294967296) (hb : b < 4294967296) (h : keyB a = keyB b) : a = b := by
  simp only [keyB, List.cons.injEq, and_true] at h
  omega
theorem stepV_inj {step i j : Nat} (hi : i < 1000) (hj : j < i) (h : stepV step i = stepV step j) : False := by
  unfold stepV at h
  have h1 : (4294967296 : Nat) ∣ (i - j) * (2 * step + 1) := by
    rw [Nat.sub_mul]
    exact Nat.dvd_of_mod_eq_zero (Nat.sub_mod_eq_zero_of_mod_eq h)
  have hc : Nat.Coprime 4294967296 (2 * step + 1) := by
    have h2 : Nat.Coprime 2 (2 * step + 1) := by
      show Nat.gcd 2 (2 * step + 1) = 1
      rw [Nat.gcd_rec, show (2 * step + 1) % 2 = 1 by omega]
      rfl
    have : Nat.Coprime (2 ^ 32) (2 * step + 1) := Nat.Coprime.pow_left 32 h2
    exact this
  have h2 := hc.dvd_of_dvd_mul_right h1
  have := Nat.le_of_dvd (by omega) h2
  omega
theorem keysV_new (step m : Nat) (hm : m < 1000) : keyB (stepV step m) ∉ keysV step m := by
  intro h
  obtain ⟨i, hi, he⟩ := List.mem_map.1 h
  have hi := List.mem_range.1 hi
  exact stepV_inj hm hi (keyB_inj (by unfold stepV; omega) (by unfold stepV; omega) he.symm)
def row4 (K : Nat) : Array Value := #[.int .u8 ((K : Int) % 256), .int .u8 ((K : Int) / 256 % 256), .int .u8 ((K : Int) / 65536 % 256), .int .u8 ((K : Int) / 16777216)]
theorem bytes4 (w : World) (K : Nat) (hK : K < 4294967296) : BytesAt (w.alloc (.cells (row4 K) 5)) (some ⟨w.heap.size, 0, none⟩) 4 4 (keyB K) := by
  refine ⟨rfl, by omega, ?_, nofun, .inr ⟨_, 0, rfl, by simp, fun i hi => ?_⟩⟩
  · intro n hn
    simp [keyB] at hn
    omega
  · rw [cell_of_row _ _ _ _ _ _ (heap_alloc_new w _), Nat.zero_add]
    match i, hi with
    | 0, _ => simp [row4, keyB]
    | 1, _ => simp [row4, keyB]
    | 2, _ => simp [row4, keyB]
    | 3, _ => simp [row4, keyB]
/-- A table, behind a store into a record. -/
theorem TabM.recd {w w' : World} {B : Nat} {ka : Option Addr} {n kc : Nat} {sa : Option Addr} {sl sc : Nat} {ks : List (List Nat)} {s : List Int} {rs : List (Nat × Nat)} (h : TabM w B ka n kc sa sl sc ks s rs) {g : Nat} {t : TypeId} {a b : Option Addr} {i : Int} {l1 l2 c1 c2 : Nat} (hg : w.heap[g]? = some (.cells #[.int .i64 i, .slice a l1 c1, .slice b l2 c2] t (0, 0))) (h1 : t ≠ 29) (h2 : t ≠ 3)
    (hs : w'.heap.size = w.heap.size) (ho : ∀ b, b ≠ g → w'.heap[b]? = w.heap[b]?) : TabM w' B ka n kc sa sl sc ks s rs := by
  have hno : NoU8 w g := noU8_rec hg fun v hv m => by simp at hv; rcases hv with rfl | rfl | rfl <;> simp
  have past : ∀ {a : Option Addr} {l c : Nat} {y : List Nat}, BytesAt w a l c y → BytesAt w' a l c y := fun hb => hb.past (bad := fun b => b = g) (fun b hb => hb ▸ hno) (Nat.le_of_eq hs.symm) fun b _ hb => ho b hb
  rcases h.mem with h0 | ⟨kb, sb, kcur, scur, e1, e2, r⟩
  · obtain ⟨rfl, rfl, rfl, rfl, rfl, rfl⟩ := h0
    exact ⟨⟨⟨h.rd.slots.1, h.rd.slots.2, .inl rfl⟩, .inl rfl, h.rd.len, h.rd.row, h.rd.hash, h.rd.small⟩, .inl ⟨rfl, rfl, rfl, rfl, rfl, rfl⟩⟩
  · have hk : kb ≠ g := by
      rintro rfl
      have := r.rowk
      rw [hg] at this
      simp at this
      exact h1 this.2
    have hsb : sb ≠ g := by
      rintro rfl
      have := r.rows
      rw [hg] at this
      simp at this
      exact h2 this.2
    subst e1 e2
    refine ⟨⟨⟨h.rd.slots.1, h.rd.slots.2, ?_⟩, ?_, h.rd.len, h.rd.row, h.rd.hash, h.rd.small⟩, .inr ⟨kb, sb, kcur, scur, rfl, rfl, ⟨r.1, r.2, r.3, (ho kb hk).trans r.4, (ho sb hsb).trans r.5, r.6, r.7, r.8, r.9, r.10, r.11, r.12, r.13⟩⟩⟩
    · rcases h.rd.slots.3 with h0 | ⟨b, off, ha, hb, hc⟩
      · exact .inl h0
      · cases ha
        exact .inr ⟨sb, 0, rfl, by rw [hs]; exact hb, fun i hi => (World.cell?_of_block (a := ⟨sb, 0 + i, none⟩) (ho sb hsb)).trans (hc i hi)⟩
    · rcases h.rd.keys with h0 | ⟨b, ha, hb, hc⟩
      · exact .inl h0
      · cases ha
        refine .inr ⟨kb, rfl, by rw [hs]; exact hb, fun i hi => ?_⟩
        obtain ⟨a, l, c, h1, h2, h3⟩ := hc i hi
        exact ⟨a, l, c, (World.cell?_of_block (a := ⟨kb, i, none⟩) (ho kb hk)).trans h1, past h2, h3⟩
theorem keysV_length (step m : Nat) : (keysV step m).length = m := by simp [keysV]
end Go.Proofs.Ytbbdeefnooaacaa
