/- Both flat stores, side by side (by gen06k.py). -/
import Derived.Test.YtbbdeefnooaacaaFlatS
namespace Go.Proofs.Ytbbdeefnooaacaa
open Go.RowKit
set_option linter.unusedVariables false
set_option linter.unusedSimpArgs false
/-- A row of keys elsewhere: off the table's rows, past block lo. -/
def DocAt (w : World) (lo : Nat) (ka sa d : Option Addr) : Prop := (∀ x y : Addr, (ka = some x ∨ sa = some x) → d = some y → x.block ≠ y.block) ∧ ∀ y : Addr, d = some y → lo < y.block ∧ y.block < w.heap.size
theorem DocAt.size {w w' : World} {lo : Nat} {ka sa d : Option Addr} (h : DocAt w lo ka sa d) (hs : w.heap.size ≤ w'.heap.size) : DocAt w' lo ka sa d := ⟨h.1, fun y hy => ⟨(h.2 y hy).1, Nat.lt_of_lt_of_le (h.2 y hy).2 hs⟩⟩
theorem DocAt.grow {w w' : World} {lo : Nat} {ka sa d d' : Option Addr} (h : DocAt w lo ka sa d) (hlt : ∀ y : Addr, (ka = some y ∨ sa = some y) → y.block < w.heap.size) (hlo : lo < w.heap.size) (hs : w.heap.size ≤ w'.heap.size) (hd : d' = d ∨ ∃ g, d' = some ⟨g, 0, none⟩ ∧ w.heap.size ≤ g ∧ g < w'.heap.size) : DocAt w' lo ka sa d' := by
  rcases hd with rfl | ⟨g, rfl, h1, h2⟩
  · exact h.size hs
  · refine ⟨fun x y hx hy => ?_, fun y hy => ?_⟩
    · cases hy
      have := hlt x hx
      show x.block ≠ g
      omega
    · cases hy
      exact ⟨by show lo < g; omega, h2⟩
theorem KeptT.doc {w w' : World} {B : Nat} {ka : Option Addr} {n : Nat} {sa ka' : Option Addr} {n' : Nat} {sa' : Option Addr} (h : KeptT w w' B ka n sa ka' n' sa') {lo : Nat} {d : Option Addr} {nd : Nat} {kd : List (List Nat)} (h1 : RowsK w d nd kd) (h2 : DocAt w lo ka sa d) : RowsK w' d nd kd ∧ DocAt w' lo ka' sa' d := by
  refine ⟨⟨h1.1, h1.2, ?_⟩, fun x y hx hy => ?_, fun y hy => ⟨(h2.2 y hy).1, Nat.lt_of_lt_of_le (h2.2 y hy).2 h.size⟩⟩
  · rcases h1.3 with h3 | ⟨b, off, ha, hlt, hi⟩
    · exact .inl h3
    · refine .inr ⟨b, off, ha, Nat.lt_of_lt_of_le hlt h.size, fun i hil => ?_⟩
      obtain ⟨x, l, c, e1, e2⟩ := hi i hil
      exact ⟨x, l, c, (World.cell?_of_block (a := ⟨b, off + i, none⟩) (h.other b hlt (fun x hx => h2.1 x _ (.inl hx) ha) (fun x hx => h2.1 x _ (.inr hx) ha))).trans e1, h.bytes _ _ _ _ e2⟩
  · rcases h.loc x hx with h3 | h3
    · exact h2.1 x y h3 hy
    · have := (h2.2 y hy).2
      omega
theorem DocF.kept {w w' : World} {B : Nat} {ka : Option Addr} {n : Nat} {sa ka' : Option Addr} {n' : Nat} {sa' : Option Addr} (h : KeptT w w' B ka n sa ka' n' sa') {lo : Nat} {d : Option Addr} {nd : Nat} {kd : List (List Nat)} {vf : Value} {F : List (Bool × Bool)} (h1 : DocF w d nd vf kd F) (h2 : DocAt w lo ka sa d) : DocF w' d nd vf kd F ∧ DocAt w' lo ka' sa' d :=
  ⟨⟨(h.doc h1.keys h2).1, ownS_past h1.flag fun g vs _ _ hg => h.recd g vs _ _ hg (by decide) (by decide), h1.len⟩, (h.doc h1.keys h2).2⟩
theorem RowsK.off {w w' : World} {a : Option Addr} {g n : Nat} {ks : List (List Nat)} (h : RowsK w a n ks) (hne : ∀ x, a = some x → x.block ≠ g) (hno : NoU8 w g) (hs : w'.heap.size = w.heap.size) (ho : ∀ b, b ≠ g → w'.heap[b]? = w.heap[b]?) : RowsK w' a n ks := by
  refine ⟨h.1, h.2, ?_⟩
  rcases h.3 with h3 | ⟨b, off, ha, hlt, hi⟩
  · exact .inl h3
  · have hb : b ≠ g := hne _ ha
    refine .inr ⟨b, off, ha, by omega, fun i hil => ?_⟩
    obtain ⟨x, l, c, e1, e2⟩ := hi i hil
    exact ⟨x, l, c, (World.cell?_of_block (a := ⟨b, off + i, none⟩) (ho b hb)).trans e1, e2.past (bad := fun b => b = g) (fun b hb => hb ▸ hno) (Nat.le_of_eq hs.symm) fun b _ hb => ho b hb⟩
theorem DocF.off {w w' : World} {d : Option Addr} {nd : Nat} {kd : List (List Nat)} {vf : Value} {F : List (Bool × Bool)} (h : DocF w d nd vf kd F) {g : Nat} {t : TypeId} {vs : Array Value} (hg : w.heap[g]? = some (.cells vs t (0, 0))) (ht : t ≠ 62) (hno : NoU8 w g) (hne : ∀ x, d = some x → x.block ≠ g) (hs : w'.heap.size = w.heap.size) (ho : ∀ b, b ≠ g → w'.heap[b]? = w.heap[b]?) : DocF w' d nd vf kd F :=
  ⟨h.keys.off hne hno hs ho, ownS_past h.flag fun b us _ _ hb => (ho b (by rintro rfl; rw [hg] at hb; simp at hb; exact ht hb.2)).trans hb, h.len⟩
theorem docF_nil (w : World) : DocF w none 0 (.slice none 0 0) [] [] := ⟨⟨rfl, by omega, .inl rfl⟩, World.ownsRow_nil _ _ _ _, rfl⟩
theorem new_evF (most : Int) : ∃ M E : Int, ((0 ≤ M ∧ M ≤ 1048576 ∧ E = 0) ∨ E = 1) ∧ (∀ w : World, Calls Try.prog 6 #[.int .i64 most] w fun e w' => e = .returned (.tuple #[.agg #[.int .i64 M, .slice none 0 0, .slice none 0 0, .slice none 0 0], .int .i64 E]) ∧ Below w.heap.size w w') ∧
    ∀ w : World, Calls Try.prog 7 #[.int .i64 most] w fun e w' => e = .returned (.tuple #[.agg #[.int .i64 M, .slice none 0 0, .slice none 0 0], .int .i64 E]) ∧ Below w.heap.size w w' := by
  by_cases h : 0 ≤ most ∧ most ≤ 1048576
  · refine ⟨most, 0, .inl ⟨h.1, h.2, rfl⟩, fun w => newF_ok w most h, fun w => ?_⟩
    have := refnewF_any w most
    rwa [if_pos h] at this
  · refine ⟨0, 1, .inr rfl, fun w => newF_bad w most h, fun w => ?_⟩
    have := refnewF_any w most
    rwa [if_neg h] at this
/-- Both stores' flags are the same. -/
def SameB (L : List Nat) (FL : List (Bool × Bool)) : Prop := ∀ q f, f < 2 → hasB L q f = bitF FL q f
theorem SameB.nil : SameB [] [] := fun q f hf => by rw [hasB_nil]; unfold bitF; split <;> rfl
theorem bitF_snoc (FL : List (Bool × Bool)) (q f : Nat) : bitF (FL ++ [(false, false)]) q f = bitF FL q f := by
  have e : (FL ++ [(false, false)]).getD q (false, false) = FL.getD q (false, false) := by
    simp only [List.getD_eq_getElem?_getD]
    by_cases h : q < FL.length
    · rw [List.getElem?_append_left h]
    · rw [List.getElem?_append_right (by omega), List.getElem?_eq_none (by omega : FL.length ≤ q)]
      rcases (by omega : q - FL.length = 0 ∨ 0 < q - FL.length) with h0 | h0
      · rw [h0]; rfl
      · rw [List.getElem?_eq_none (by simp; omega)]
  unfold bitF
  rw [e]
theorem bitF_set (FL : List (Bool × Bool)) (q f r g : Nat) (hq : q < FL.length) (hf : f < 2) (hg : g < 2) : bitF (setB FL q f) r g = (bitF FL r g || (decide (r = q) && decide (g = f))) := by
  unfold bitF setB
  simp only [List.getD_eq_getElem?_getD, List.getElem?_set]
  by_cases h : q = r
  · subst h
    rw [if_pos rfl, if_pos hq]
    rcases (by omega : f = 0 ∨ f = 1) with rfl | rfl <;> rcases (by omega : g = 0 ∨ g = 1) with rfl | rfl <;> simp
  · rw [if_neg h]
    simp [Ne.symm h]
theorem SameB.mark {L L' : List Nat} {FL : List (Bool × Bool)} (h : SameB L FL) {q f : Nat} (hq : q < FL.length) (hf : f < 2) (hM : Marked L L' q f) : SameB L' (setB FL q f) := fun r g hg => by
  rw [hM.1 r g hg, bitF_set FL q f r g hq hf hg, h r g hg]
/-- What both Inserts tell is the same. -/
theorem insF_same {cap : Int} {ks : List (List Nat)} {key : List Nat} {p : Nat} {F : Bool} {E : Int} {k1 : List (List Nat)} (h : OutP cap ks key p F E k1) {FL FL' : List (Bool × Bool)} {ks' : List (List Nat)} {G : Bool} {D : Int}
    (h2 : (key ∈ ks ∧ G = false ∧ D = 0 ∧ ks' = ks ∧ FL' = FL) ∨ (key ∉ ks ∧ cap ≤ (ks.length : Int) ∧ G = false ∧ D = 7 ∧ ks' = ks ∧ FL' = FL) ∨ (key ∉ ks ∧ (ks.length : Int) < cap ∧ G = true ∧ D = 0 ∧ ks' = ks ++ [key] ∧ FL' = FL ++ [(false, false)])) :
    F = G ∧ E = D ∧ k1 = ks' ∧ ∀ L, SameB L FL → SameB L FL' := by
  have hs : ∀ L, SameB L FL → SameB L (FL ++ [(false, false)]) := fun L h q f hf => by rw [bitF_snoc]; exact h q f hf
  rcases h with ⟨a1, rfl, rfl, rfl, a5, a6⟩ | ⟨a1, a2, rfl, rfl, rfl, rfl⟩ | ⟨a1, a2, rfl, rfl, rfl, rfl⟩ <;> rcases h2 with ⟨b1, rfl, rfl, rfl, rfl⟩ | ⟨b1, b2, rfl, rfl, rfl, rfl⟩ | ⟨b1, b2, rfl, rfl, rfl, rfl⟩
  · exact ⟨rfl, rfl, rfl, fun L h => h⟩
  · exact absurd a1 b1
  · exact absurd a1 b1
  · exact absurd b1 a1
  · exact ⟨rfl, rfl, rfl, fun L h => h⟩
  · omega
  · exact absurd b1 a1
  · omega
  · exact ⟨rfl, rfl, rfl, hs⟩
/-- Our Set, all its endings. -/
theorem setF_ev (w : World) (cap : Int) (ka : Option Addr) (n kc : Nat) (sa : Option Addr) (sl sc : Nat) (fa : Option Addr) (fl fc : Nat) (L : List Nat) (hL : BytesAt w fa fl fc L) (ks : List (List Nat)) (s : List Int) (rs : List (Nat × Nat)) (h : TabR w ka n sa sl ks s rs) (ya : Option Addr) (yl yc : Nat) (key : List Nat) (hk : BytesAt w ya yl yc key) (f : Int) (hnd : ks.Nodup) (hp6 : n ≤ 1048576) (hl6 : L.length ≤ ks.length) :
    Calls Try.prog 11 #[.agg #[.int .i64 cap, .slice ka n kc, .slice sa sl sc, .slice fa fl fc], .slice ya yl yc, .int .i64 f] w fun e w' => ∃ (a' : Option Addr) (l' c' : Nat) (L' : List Nat) (E : Int), e = .returned (.tuple #[.agg #[.int .i64 cap, .slice ka n kc, .slice sa sl sc, .slice a' l' c'], .int .i64 E]) ∧ BytesAt w' a' l' c' L' ∧ Below w.heap.size w w' ∧ L'.length ≤ ks.length ∧
      (((f < 0 ∨ 1 < f) ∧ E = 1 ∧ L' = L) ∨ (0 ≤ f ∧ f ≤ 1 ∧ key ∉ ks ∧ E = 10 ∧ L' = L) ∨ (0 ≤ f ∧ f ≤ 1 ∧ ∃ q, q < ks.length ∧ ks.getD q [] = key ∧ E = 0 ∧ Marked L L' q f.toNat)) := by
  have hll := hL.len_eq
  have hkl := h.len
  by_cases hf : f < 0 ∨ 1 < f
  · refine (setF_bad w cap ka n kc sa sl sc fa fl fc ya yl yc f hf).mono ?_
    rintro e w' ⟨rfl, b⟩
    exact ⟨fa, fl, fc, L, 1, rfl, hL.mono b, b, hl6, .inl ⟨hf, rfl, rfl⟩⟩
  obtain ⟨f, rfl⟩ := Int.eq_ofNat_of_zero_le (show 0 ≤ f by omega)
  by_cases hm : key ∈ ks
  · obtain ⟨p, hp, hpk⟩ := mem_getD hm
    refine (setF_ok w cap ka n kc sa sl sc fa fl fc L hL ks s rs h ya yl yc key hk f (by omega) hnd p hp hpk hp6 (by omega)).mono ?_
    rintro e w' ⟨⟨a', l', c', L', rfl, h1, h2⟩, b⟩
    exact ⟨a', l', c', L', 0, rfl, h1, b, by have := h2.2; omega, .inr (.inr ⟨by omega, by omega, p, hp, hpk, rfl, h2⟩)⟩
  · refine (setF_none w cap ka n kc sa sl sc fa fl fc ya yl yc ks s rs h key hk f (by omega) hm).mono ?_
    rintro e w' ⟨rfl, b⟩
    exact ⟨fa, fl, fc, L, 10, rfl, hL.mono b, b, hl6, .inr (.inl ⟨by omega, by omega, hm, rfl, rfl⟩)⟩
theorem setF_same {ks : List (List Nat)} (hnd : ks.Nodup) {key : List Nat} {f E D : Int} {L L' : List Nat} {FL FL' : List (Bool × Bool)} (hS : SameB L FL) (hl : FL.length = ks.length) (h : ((f < 0 ∨ 1 < f) ∧ E = 1 ∧ L' = L) ∨ (0 ≤ f ∧ f ≤ 1 ∧ key ∉ ks ∧ E = 10 ∧ L' = L) ∨ (0 ≤ f ∧ f ≤ 1 ∧ ∃ q, q < ks.length ∧ ks.getD q [] = key ∧ E = 0 ∧ Marked L L' q f.toNat))
    (h2 : ((f < 0 ∨ 1 < f) ∧ D = 1 ∧ FL' = FL) ∨ (0 ≤ f ∧ f ≤ 1 ∧ key ∉ ks ∧ D = 10 ∧ FL' = FL) ∨ (0 ≤ f ∧ f ≤ 1 ∧ ∃ q, q < ks.length ∧ ks.getD q [] = key ∧ D = 0 ∧ FL' = setB FL q f.toNat)) : E = D ∧ SameB L' FL' := by
  rcases h with ⟨a1, rfl, rfl⟩ | ⟨a1, a2, a3, rfl, rfl⟩ | ⟨a1, a2, q, a3, a4, rfl, a5⟩ <;> rcases h2 with ⟨b1, rfl, rfl⟩ | ⟨b1, b2, b3, rfl, rfl⟩ | ⟨b1, b2, r, b3, b4, rfl, rfl⟩
  · exact ⟨rfl, hS⟩
  · omega
  · omega
  · omega
  · exact ⟨rfl, hS⟩
  · exact absurd (b4 ▸ getD_mem b3) a3
  · omega
  · exact absurd (a4 ▸ getD_mem a3) b3
  · obtain rfl := getD_inj hnd a3 b3 (by rw [a4, b4])
    exact ⟨rfl, hS.mark (by omega) (by omega) a5⟩
theorem getF_both (ks : List (List Nat)) (n : Nat) (hln : ks.length = n) (hsm : n ≤ 1048576) (hnd : ks.Nodup) (L : List Nat) (FL : List (Bool × Bool)) (hS : SameB L FL) (key : List Nat) (f : Int) : ∃ (V : Bool) (E : Int),
    (∀ (w : World) (cap : Int) (ka : Option Addr) (kc : Nat) (sa : Option Addr) (sl sc : Nat) (fa : Option Addr) (fl fc : Nat) (_ : BytesAt w fa fl fc L) (s : List Int) (rs : List (Nat × Nat)) (_ : TabR w ka n sa sl ks s rs) (ya : Option Addr) (yl yc : Nat) (_ : BytesAt w ya yl yc key),
      Calls Try.prog 13 #[.agg #[.int .i64 cap, .slice ka n kc, .slice sa sl sc, .slice fa fl fc], .slice ya yl yc, .int .i64 f] w fun e w' => e = .returned (.tuple #[.bool V, .int .i64 E]) ∧ Below w.heap.size w w') ∧
    ∀ (w : World) (cap : Int) (dk df : Option Addr) (ck cf : Nat) (_ : DocF w dk n (.slice df n cf) ks FL) (ya : Option Addr) (yl yc : Nat) (_ : BytesAt w ya yl yc key),
      Calls Try.prog 14 #[.agg #[.int .i64 cap, .slice dk n ck, .slice df n cf], .slice ya yl yc, .int .i64 f] w fun e w' => e = .returned (.tuple #[.bool V, .int .i64 E]) ∧ Below w.heap.size w w' := by
  by_cases hf : f < 0 ∨ 1 < f
  · exact ⟨false, 1, fun w cap ka kc sa sl sc fa fl fc _ s rs _ ya yl yc _ => getF_bad w cap ka n kc sa sl sc fa fl fc ya yl yc f hf, fun w cap dk df ck cf _ ya yl yc _ => refgetF_bad w cap dk n ck df cf ya yl yc f hf⟩
  obtain ⟨f, rfl⟩ := Int.eq_ofNat_of_zero_le (show 0 ≤ f by omega)
  have hf2 : f < 2 := by omega
  by_cases hm : key ∈ ks
  · obtain ⟨p, hp, hpk⟩ := mem_getD hm
    refine ⟨hasB L p f, 0, fun w cap ka kc sa sl sc fa fl fc hL s rs h ya yl yc hk => getF_ok w cap ka n kc sa sl sc fa fl fc L hL ks s rs h ya yl yc key hk f hf2 hnd p hp hpk hsm, fun w cap dk df ck cf h ya yl yc hk => (refgetF_ev w cap dk df n ck cf ks FL h hsm ya yl yc key hk f hf2).mono ?_⟩
    rintro e w' ⟨⟨h1, _⟩ | ⟨q, hq, hqk, rfl⟩, b⟩
    · exact absurd hm h1
    · obtain rfl := getD_inj hnd hp hq (by rw [hpk, hqk])
      rw [hS p f hf2]
      exact ⟨rfl, b⟩
  · refine ⟨false, 10, fun w cap ka kc sa sl sc fa fl fc hL s rs h ya yl yc hk => getF_none w cap ka n kc sa sl sc fa fl fc ya yl yc ks s rs h key hk f hf2 hm, fun w cap dk df ck cf h ya yl yc hk => (refgetF_ev w cap dk df n ck cf ks FL h hsm ya yl yc key hk f hf2).mono ?_⟩
    rintro e w' ⟨⟨_, rfl⟩ | ⟨q, hq, hqk, _⟩, b⟩
    · exact ⟨rfl, b⟩
    · exact absurd (hqk ▸ getD_mem hq) hm
theorem few_any (w : World) (a : Option Addr) (len cap : Nat) (f : Nat → ActD) (most : Int) (h : ActsAt w a len f) :
    Calls Try.prog 5 #[.slice a len cap, .int .i64 most] w (FewA w len f most) := by
  have hm := h.small
  by_cases hlen : most < (len : Int)
  · have d1 : decide (most < (len : Int)) = true := by simpa using hlen
    go_enter Try.func5, Try.ntmps5
    go_wp2_with fail
    go_ret
    exact ⟨⟨false, rfl, fun h => by cases h⟩, rfl⟩
  have d1 : decide (most < (len : Int)) = false := by simpa using hlen
  go_enter Try.func5, Try.ntmps5
  go_wp2_with fail
  go_loop [5] (fun i => ∃ j : Nat, j ≤ len ∧ i = .int .i64 (j : Nat) ∧ ∀ i, i < j → (f i).kl ≤ 200) (fun i => len - (intOf i).toNat)
  case atStart => exact ⟨0, Nat.zero_le _, rfl, fun i hi => by omega⟩
  case round =>
    obtain ⟨j, hj, rfl, hall⟩ := hrel
    by_cases hjl : j < len
    · have f1 : decide (j < len) = true := by simpa using hjl
      obtain ⟨b, off, rfl, hbs, hact⟩ := h.at_.resolve_left (by omega)
      have hx := (hact j hjl).c1
      obtain ⟨⟨kd, ka, kl, kc, key, fl⟩, hu⟩ : ∃ u, f j = u := ⟨_, rfl⟩
      rw [hu] at hx
      simp only [] at hx
      by_cases hk : 200 < kl
      · have f2 : decide ((200 : Int) < (kl : Int)) = true := by simp; omega
        clear hu hact
        go_wp2_with fail
        go_ret
        exact ⟨⟨false, rfl, fun h => by cases h⟩, rfl⟩
      · have f2 : decide ((200 : Int) < (kl : Int)) = false := by simp; omega
        have hu' : (f j).kl ≤ 200 := by rw [hu]; show kl ≤ 200; omega
        clear hu hact
        go_wp2_with fail
        refine ⟨⟨j + 1, by omega, by simp, fun i hi => ?_⟩, by simp [intOf]; omega⟩
        by_cases he : i = j
        · rw [he]; exact hu'
        · exact hall i (by omega)
    · have f1 : decide (j < len) = false := by simpa using hjl
      obtain rfl : j = len := by omega
      go_wp2_with fail
      go_ret
      exact ⟨⟨true, rfl, fun _ => ⟨by omega, hall⟩⟩, rfl⟩
end Go.Proofs.Ytbbdeefnooaacaa
