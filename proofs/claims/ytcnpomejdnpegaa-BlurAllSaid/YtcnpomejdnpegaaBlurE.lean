/- Both stores side by side (by gen10e.py). -/
import Derived.Test.YtcnpomejdnpegaaBlurD
import Derived.Test.YtcnpomejdnpegaaBlurNever
namespace Go.Proofs.Ytcnpomejdnpegaa
open Go.RowKit
set_option linter.unusedVariables false

theorem RefAt.recd {w w' : World} {m k seed : Nat} {v : Value} {on0 on1 on2 : List Nat} (h : RefAt w m k seed v on0 on1 on2) {Q : Nat → Prop} (hq : OffAt Q v) (g : Nat) (hQ : ∀ b, Q b → b ≠ g)
    (hs : w'.heap.size = w.heap.size) (ho : ∀ b, b ≠ g → w'.heap[b]? = w.heap[b]?) : RefAt w' m k seed v on0 on1 on2 := by
  obtain ⟨a0, a1, a2, n0, n1, n2, c0, c1, c2, rfl, h0, h1, h2⟩ := h.val
  obtain ⟨q0, q1, q2⟩ := offAt_row.1 hq
  exact ⟨⟨a0, a1, a2, n0, n1, n2, c0, c1, c2, rfl, h0.off (fun x hx => ho _ (hQ _ (q0 x hx))) (Nat.le_of_eq hs.symm), h1.off (fun x hx => ho _ (hQ _ (q1 x hx))) (Nat.le_of_eq hs.symm), h2.off (fun x hx => ho _ (hQ _ (q2 x hx))) (Nat.le_of_eq hs.symm)⟩, h.2, h.3, h.4, h.5, h.6⟩

theorem TellP.small {M L : Nat} {l0 l1 l2 on0 on1 on2 : List Nat} (h : TellP M L l0 l1 l2 on0 on1 on2) : on0.length ≤ M ∧ on1.length ≤ M ∧ on2.length ≤ M := by
  have f : ∀ on : List Nat, on.Nodup → (∀ p ∈ on, p < M) → on.length ≤ M := fun on nd hlt => by
    have := nd.length_le_of_subset (l₂ := List.range M) fun p h => List.mem_range.2 (hlt p h)
    simpa using this
  exact ⟨f _ h.d0 h.t0, f _ h.d1 h.t1, f _ h.d2 h.t2⟩

/-- The document's store in a box. -/
structure RefBox (w : World) (Q : Nat → Prop) (g M K seed : Nat) (a0 a1 a2 : Option Addr) (n0 n1 n2 c0 c1 c2 : Nat) (on0 on1 on2 : List Nat) : Prop where
  row : w.heap[g]? = some (.cells #[.int .i64 (M : Nat), .int .i64 (K : Nat), .int .u64 (seed : Nat), .slice a0 n0 c0, .slice a1 n1 c1, .slice a2 n2 c2] 38 (0, 0))
  store : RefAt w M K seed (.agg #[.int .i64 (M : Nat), .int .i64 (K : Nat), .int .u64 (seed : Nat), .slice a0 n0 c0, .slice a1 n1 c1, .slice a2 n2 c2]) on0 on1 on2
  off : OffAt Q (.agg #[.int .i64 (M : Nat), .int .i64 (K : Nat), .int .u64 (seed : Nat), .slice a0 n0 c0, .slice a1 n1 c1, .slice a2 n2 c2])
theorem RefBox.lt {w : World} {Q : Nat → Prop} {g M K seed : Nat} {a0 a1 a2 : Option Addr} {n0 n1 n2 c0 c1 c2 : Nat} {on0 on1 on2 : List Nat} (h : RefBox w Q g M K seed a0 a1 a2 n0 n1 n2 c0 c1 c2 on0 on1 on2) : g < w.heap.size := (Array.getElem?_eq_some_iff.1 h.row).1
theorem RefBox.mono {w w' : World} {Q : Nat → Prop} {g M K seed : Nat} {a0 a1 a2 : Option Addr} {n0 n1 n2 c0 c1 c2 : Nat} {on0 on1 on2 : List Nat} (h : RefBox w Q g M K seed a0 a1 a2 n0 n1 n2 c0 c1 c2 on0 on1 on2) (hb : Below w.heap.size w w') : RefBox w' Q g M K seed a0 a1 a2 n0 n1 n2 c0 c1 c2 on0 on1 on2 :=
  ⟨(hb.block g h.lt).trans h.row, h.store.mono hb, h.off⟩
theorem RefBox.cell {w : World} {Q : Nat → Prop} {g M K seed : Nat} {a0 a1 a2 : Option Addr} {n0 n1 n2 c0 c1 c2 : Nat} {on0 on1 on2 : List Nat} (h : RefBox w Q g M K seed a0 a1 a2 n0 n1 n2 c0 c1 c2 on0 on1 on2) (j : Nat) : w.cell? ⟨g, j, none⟩ = (#[.int .i64 (M : Nat), .int .i64 (K : Nat), .int .u64 (seed : Nat), .slice a0 n0 c0, .slice a1 n1 c1, .slice a2 n2 c2] : Array Value)[j]? := cell_of_row _ _ _ _ _ _ h.row
/-- A store into another record. -/
theorem RefBox.keep {w w' : World} {Q : Nat → Prop} {g h M K seed : Nat} {a0 a1 a2 : Option Addr} {n0 n1 n2 c0 c1 c2 : Nat} {on0 on1 on2 : List Nat} (x : RefBox w Q g M K seed a0 a1 a2 n0 n1 n2 c0 c1 c2 on0 on1 on2) (hne : g ≠ h) (hQ : ∀ b, Q b → b ≠ h)
    (hs : w'.heap.size = w.heap.size) (ho : ∀ b, b ≠ h → w'.heap[b]? = w.heap[b]?) : RefBox w' Q g M K seed a0 a1 a2 n0 n1 n2 c0 c1 c2 on0 on1 on2 := ⟨(ho g hne).trans x.row, x.store.recd x.off h hQ hs ho, x.off⟩
/-- A store written over another one's box. -/
theorem RefBox.over {w w' : World} {Q : Nat → Prop} {g h M K seed : Nat} {a0 a1 a2 : Option Addr} {n0 n1 n2 c0 c1 c2 : Nat} {on0 on1 on2 : List Nat} (x : RefBox w Q g M K seed a0 a1 a2 n0 n1 n2 c0 c1 c2 on0 on1 on2) (hQ : ∀ b, Q b → b ≠ h)
    (hg : w'.heap[h]? = some (.cells #[.int .i64 (M : Nat), .int .i64 (K : Nat), .int .u64 (seed : Nat), .slice a0 n0 c0, .slice a1 n1 c1, .slice a2 n2 c2] 38 (0, 0))) (hs : w'.heap.size = w.heap.size) (ho : ∀ b, b ≠ h → w'.heap[b]? = w.heap[b]?) : RefBox w' Q h M K seed a0 a1 a2 n0 n1 n2 c0 c1 c2 on0 on1 on2 := ⟨hg, x.store.recd x.off h hQ hs ho, x.off⟩
/-- Our store, where a record of the document's is written. -/
theorem BoxAt.ref {w w' : World} {g h M K seed L : Nat} {b0 b1 b2 : Option Addr} {d0 d1 d2 : Nat} {l0 l1 l2 : List Nat} (x : BoxAt w g M K seed L b0 b1 b2 d0 d1 d2 l0 l1 l2) {a0 a1 a2 : Option Addr} {n0 n1 n2 c0 c1 c2 : Nat} {t : TypeId} (hg : w.heap[h]? = some (.cells #[.int .i64 (M : Nat), .int .i64 (K : Nat), .int .u64 (seed : Nat), .slice a0 n0 c0, .slice a1 n1 c1, .slice a2 n2 c2] t (0, 0))) (hne : g ≠ h)
    (hs : w'.heap.size = w.heap.size) (ho : ∀ b, b ≠ h → w'.heap[b]? = w.heap[b]?) : BoxAt w' g M K seed L b0 b1 b2 d0 d1 d2 l0 l1 l2 := ⟨(ho g hne).trans x.row, x.store.recd hg (fun i n => by
  match i with
  | 0 => simp
  | 1 => simp
  | 2 => simp
  | 3 => simp
  | 4 => simp
  | 5 => simp
  | n + 6 => simp) hs ho⟩

theorem insert_both {M L : Nat} {l0 l1 l2 on0 on1 on2 : List Nat} (h : TellP M L l0 l1 l2 on0 on1 on2) (hL : (M + 7) / 8 = L) (m1 : 1 ≤ M) (m5 : M ≤ 5000) (K seed : Nat) (ka : Option Addr) (kl kc : Nat) (key : List Nat) :
    ∃ (F : Bool) (Z0 Q0 : List Nat), TellP M L Z0 l1 l2 Q0 on1 on2 ∧
      (∀ (wx : World) (v : Value), BlurAt wx M K seed v l0 l1 l2 → BytesAt wx ka kl kc key → Calls Try.prog 11 #[v, .slice ka kl kc] wx fun e w' => ∃ b0 b1 b2 d0 d1 d2, e = .returned (.tuple #[.agg #[.int .i64 (M : Nat), .int .i64 (K : Nat), .int .u64 (seed : Nat), .slice b0 L d0, .slice b1 L d1, .slice b2 L d2], .bool F]) ∧ BlurAt w' M K seed (.agg #[.int .i64 (M : Nat), .int .i64 (K : Nat), .int .u64 (seed : Nat), .slice b0 L d0, .slice b1 L d1, .slice b2 L d2]) Z0 l1 l2 ∧ Below wx.heap.size wx w') ∧
      (∀ (wx : World) (v : Value), RefAt wx M K seed v on0 on1 on2 → BytesAt wx ka kl kc key → Calls Try.prog 12 #[v, .slice ka kl kc] wx fun e w' => ∃ a0 a1 a2 n0 n1 n2 c0 c1 c2, e = .returned (.tuple #[.agg #[.int .i64 (M : Nat), .int .i64 (K : Nat), .int .u64 (seed : Nat), .slice a0 n0 c0, .slice a1 n1 c1, .slice a2 n2 c2], .bool F]) ∧ RefAt w' M K seed (.agg #[.int .i64 (M : Nat), .int .i64 (K : Nat), .int .u64 (seed : Nat), .slice a0 n0 c0, .slice a1 n1 c1, .slice a2 n2 c2]) Q0 on1 on2 ∧ (∀ Q : Nat → Prop, (∀ b, wx.heap.size ≤ b → Q b) → OffAt Q v → OffAt Q (.agg #[.int .i64 (M : Nat), .int .i64 (K : Nat), .int .u64 (seed : Nat), .slice a0 n0 c0, .slice a1 n1 c1, .slice a2 n2 c2])) ∧ Below wx.heap.size wx w') := by
  have hp := placesN_lt key seed M K m1
  obtain ⟨s0, s1, s2⟩ := h.small
  refine ⟨!allV l0 (placesN key seed M K), insV l0 (placesN key seed M K), withV on0 (placesN key seed M K), h.ins0 _ hp (by omega), fun wx v hv hk => ?_, fun wx v hv hk => ?_⟩
  · exact insert_at wx (M : Nat) (K : Nat) (seed : Nat) M K seed L rfl rfl rfl hL v l0 l1 l2 ka kl kc key hv hk
  · refine (refInsert_any wx M K seed v on0 on1 on2 ka kl kc key hv hk (by omega)).mono ?_
    rintro e w' ⟨⟨v', he, hr, hq⟩, hb⟩
    rw [← h.r0.all] at he
    obtain ⟨a0, a1, a2, n0, n1, n2, c0, c1, c2, rfl, _⟩ := hr.val
    exact ⟨a0, a1, a2, n0, n1, n2, c0, c1, c2, he, hr, hq, hb⟩
theorem set_both {M L : Nat} {l0 l1 l2 on0 on1 on2 : List Nat} (h : TellP M L l0 l1 l2 on0 on1 on2) (hL : (M + 7) / 8 = L) (m1 : 1 ≤ M) (m5 : M ≤ 5000) (K seed : Nat) (ka : Option Addr) (kl kc : Nat) (key : List Nat) (fl : Int) :
    ∃ (c : Int) (Z1 Z2 Q1 Q2 : List Nat), TellP M L l0 Z1 Z2 on0 Q1 Q2 ∧
      (∀ (wx : World) (v : Value), BlurAt wx M K seed v l0 l1 l2 → BytesAt wx ka kl kc key → Calls Try.prog 13 #[v, .slice ka kl kc, .int .i64 fl] wx fun e w' => ∃ b0 b1 b2 d0 d1 d2, e = .returned (.tuple #[.agg #[.int .i64 (M : Nat), .int .i64 (K : Nat), .int .u64 (seed : Nat), .slice b0 L d0, .slice b1 L d1, .slice b2 L d2], .int .i64 c]) ∧ BlurAt w' M K seed (.agg #[.int .i64 (M : Nat), .int .i64 (K : Nat), .int .u64 (seed : Nat), .slice b0 L d0, .slice b1 L d1, .slice b2 L d2]) l0 Z1 Z2 ∧ Below wx.heap.size wx w') ∧
      (∀ (wx : World) (v : Value), RefAt wx M K seed v on0 on1 on2 → BytesAt wx ka kl kc key → Calls Try.prog 14 #[v, .slice ka kl kc, .int .i64 fl] wx fun e w' => ∃ a0 a1 a2 n0 n1 n2 c0 c1 c2, e = .returned (.tuple #[.agg #[.int .i64 (M : Nat), .int .i64 (K : Nat), .int .u64 (seed : Nat), .slice a0 n0 c0, .slice a1 n1 c1, .slice a2 n2 c2], .int .i64 c]) ∧ RefAt w' M K seed (.agg #[.int .i64 (M : Nat), .int .i64 (K : Nat), .int .u64 (seed : Nat), .slice a0 n0 c0, .slice a1 n1 c1, .slice a2 n2 c2]) on0 Q1 Q2 ∧ (∀ Q : Nat → Prop, (∀ b, wx.heap.size ≤ b → Q b) → OffAt Q v → OffAt Q (.agg #[.int .i64 (M : Nat), .int .i64 (K : Nat), .int .u64 (seed : Nat), .slice a0 n0 c0, .slice a1 n1 c1, .slice a2 n2 c2])) ∧ Below wx.heap.size wx w') := by
  have hp := placesN_lt key seed M K m1
  obtain ⟨s0, s1, s2⟩ := h.small
  by_cases hf : fl < 0 ∨ 2 ≤ fl
  · refine ⟨1, l1, l2, on1, on2, h, fun wx v hv hk => set_bad_at wx (M : Nat) (K : Nat) (seed : Nat) M K seed L rfl rfl rfl hL v l0 l1 l2 ka kl kc key hv hk fl hf, fun wx v hv hk => ?_⟩
    refine (refSet_bad wx M K seed v on0 on1 on2 _ hv fl hf).mono ?_
    rintro e w' ⟨he, hb⟩
    obtain ⟨a0, a1, a2, n0, n1, n2, c0, c1, c2, rfl, _⟩ := hv.val
    exact ⟨a0, a1, a2, n0, n1, n2, c0, c1, c2, he, hv.mono hb, fun Q _ hq => hq, hb⟩
  cases ha : allV l0 (placesN key seed M K) with
  | false =>
    have hr : (placesN key seed M K).all (fun p => decide (p ∈ on0)) = false := by rw [← h.r0.all]; exact ha
    refine ⟨10, l1, l2, on1, on2, h, fun wx v hv hk => set_none_at wx (M : Nat) (K : Nat) (seed : Nat) M K seed L rfl rfl rfl hL v l0 l1 l2 ka kl kc key hv hk fl fl.toNat (by omega) (by omega) ha, fun wx v hv hk => ?_⟩
    have hfl : fl = 0 ∨ fl = 1 := by omega
    have hh : Calls Try.prog 14 #[v, .slice ka kl kc, .int .i64 fl] wx fun e w' => e = .returned (.tuple #[v, .int .i64 10]) ∧ Below wx.heap.size wx w' := by
      rcases hfl with rfl | rfl
      · exact refSet0_none wx M K seed v on0 on1 on2 ka kl kc key hv hk hr
      · exact refSet1_none wx M K seed v on0 on1 on2 ka kl kc key hv hk hr
    refine hh.mono ?_
    rintro e w' ⟨he, hb⟩
    obtain ⟨a0, a1, a2, n0, n1, n2, c0, c1, c2, rfl, _⟩ := hv.val
    exact ⟨a0, a1, a2, n0, n1, n2, c0, c1, c2, he, hv.mono hb, fun Q _ hq => hq, hb⟩
  | true =>
    have hr : (placesN key seed M K).all (fun p => decide (p ∈ on0)) = true := by rw [← h.r0.all]; exact ha
    have hfl : fl = 0 ∨ fl = 1 := by omega
    rcases hfl with rfl | rfl
    · refine ⟨0, insV l1 (placesN key seed M K), l2, withV on1 (placesN key seed M K), on2, h.ins1 _ hp (by omega), fun wx v hv hk => set0_at wx (M : Nat) (K : Nat) (seed : Nat) M K seed L rfl rfl rfl hL v l0 l1 l2 ka kl kc key hv hk ha, fun wx v hv hk => ?_⟩
      refine (refSet0_ok wx M K seed v on0 on1 on2 ka kl kc key hv hk (by omega) hr).mono ?_
      rintro e w' ⟨⟨v', he, hr, hq⟩, hb⟩
      obtain ⟨a0, a1, a2, n0, n1, n2, c0, c1, c2, rfl, _⟩ := hr.val
      exact ⟨a0, a1, a2, n0, n1, n2, c0, c1, c2, he, hr, hq, hb⟩
    · refine ⟨0, l1, insV l2 (placesN key seed M K), on1, withV on2 (placesN key seed M K), h.ins2 _ hp (by omega), fun wx v hv hk => set1_at wx (M : Nat) (K : Nat) (seed : Nat) M K seed L rfl rfl rfl hL v l0 l1 l2 ka kl kc key hv hk ha, fun wx v hv hk => ?_⟩
      refine (refSet1_ok wx M K seed v on0 on1 on2 ka kl kc key hv hk (by omega) hr).mono ?_
      rintro e w' ⟨⟨v', he, hr, hq⟩, hb⟩
      obtain ⟨a0, a1, a2, n0, n1, n2, c0, c1, c2, rfl, _⟩ := hr.val
      exact ⟨a0, a1, a2, n0, n1, n2, c0, c1, c2, he, hr, hq, hb⟩
theorem get_both {M L : Nat} {l0 l1 l2 on0 on1 on2 : List Nat} (h : TellP M L l0 l1 l2 on0 on1 on2) (hL : (M + 7) / 8 = L) (m1 : 1 ≤ M) (m5 : M ≤ 5000) (K seed : Nat) (ka : Option Addr) (kl kc : Nat) (key : List Nat) (fl : Int) :
    ∃ (T : Bool) (c : Int),
      (∀ (wx : World) (v : Value), BlurAt wx M K seed v l0 l1 l2 → BytesAt wx ka kl kc key → Calls Try.prog 15 #[v, .slice ka kl kc, .int .i64 fl] wx fun e w' => e = .returned (.tuple #[.bool T, .int .i64 c]) ∧ Below wx.heap.size wx w') ∧
      (∀ (wx : World) (v : Value), RefAt wx M K seed v on0 on1 on2 → BytesAt wx ka kl kc key → Calls Try.prog 16 #[v, .slice ka kl kc, .int .i64 fl] wx fun e w' => e = .returned (.tuple #[.bool T, .int .i64 c]) ∧ Below wx.heap.size wx w') := by
  by_cases hf : fl < 0 ∨ 2 ≤ fl
  · exact ⟨false, 1, fun wx v hv hk => get_bad wx M K seed v l0 l1 l2 _ hv fl hf, fun wx v hv hk => refGet_bad wx M K seed v on0 on1 on2 _ hv fl hf⟩
  have hfl : fl = 0 ∨ fl = 1 := by omega
  cases ha : allV l0 (placesN key seed M K) with
  | false =>
    have hr : (placesN key seed M K).all (fun p => decide (p ∈ on0)) = false := by rw [← h.r0.all]; exact ha
    rcases hfl with rfl | rfl
    · exact ⟨false, 10, fun wx v hv hk => get_none wx M K seed v l0 l1 l2 ka kl kc key hv hk 0 (by omega) ha, fun wx v hv hk => refGet0_none wx M K seed v on0 on1 on2 ka kl kc key hv hk hr⟩
    · exact ⟨false, 10, fun wx v hv hk => get_none wx M K seed v l0 l1 l2 ka kl kc key hv hk 1 (by omega) ha, fun wx v hv hk => refGet1_none wx M K seed v on0 on1 on2 ka kl kc key hv hk hr⟩
  | true =>
    have hr : (placesN key seed M K).all (fun p => decide (p ∈ on0)) = true := by rw [← h.r0.all]; exact ha
    rcases hfl with rfl | rfl
    · refine ⟨allV l1 (placesN key seed M K), 0, fun wx v hv hk => get0_ok wx M K seed v l0 l1 l2 ka kl kc key hv hk ha, fun wx v hv hk => ?_⟩
      rw [h.r1.all]
      exact refGet0_ok wx M K seed v on0 on1 on2 ka kl kc key hv hk hr
    · refine ⟨allV l2 (placesN key seed M K), 0, fun wx v hv hk => get1_ok wx M K seed v l0 l1 l2 ka kl kc key hv hk ha, fun wx v hv hk => ?_⟩
      rw [h.r2.all]
      exact refGet1_ok wx M K seed v on0 on1 on2 ka kl kc key hv hk hr
theorem member_both {M L : Nat} {l0 l1 l2 on0 on1 on2 : List Nat} (h : TellP M L l0 l1 l2 on0 on1 on2) (hL : (M + 7) / 8 = L) (m1 : 1 ≤ M) (m5 : M ≤ 5000) (K seed : Nat) (ka : Option Addr) (kl kc : Nat) (key : List Nat) :
    ∃ (T : Bool),
      (∀ (wx : World) (v : Value), BlurAt wx M K seed v l0 l1 l2 → BytesAt wx ka kl kc key → Calls Try.prog 17 #[v, .slice ka kl kc] wx fun e w' => e = .returned (.bool T) ∧ Below wx.heap.size wx w') ∧
      (∀ (wx : World) (v : Value), RefAt wx M K seed v on0 on1 on2 → BytesAt wx ka kl kc key → Calls Try.prog 18 #[v, .slice ka kl kc] wx fun e w' => e = .returned (.bool T) ∧ Below wx.heap.size wx w') := by
  refine ⟨allV l0 (placesN key seed M K), fun wx v hv hk => member_any wx M K seed v l0 l1 l2 ka kl kc key hv hk, fun wx v hv hk => ?_⟩
  rw [h.r0.all]
  exact refMember_any wx M K seed v on0 on1 on2 ka kl kc key hv hk
end Go.Proofs.Ytcnpomejdnpegaa
