/- LexBlanks returns true. -/
import Derived.Test.YtcljdlkebaflpaaDoorLex12
namespace Go.Proofs.YtcljdlkebaflpaaDoor
open Go.RowKit
set_option linter.unusedVariables false

/-- The document's Alike, at rows that are alike. -/
theorem alike_eq (w : World) (ga gb ca cb : Nat) (ts us : List Tok) (ta : TokAt w ga ts) (tb : TokAt w gb us) (hl : ts.length ≤ 9223372036854775807) (hb : us.map bare = ts.map bare) :
    Calls Tryd.prog 16 #[.slice (some ⟨ga, 0, none⟩) ts.length ca, .slice (some ⟨gb, 0, none⟩) us.length cb] w fun e w' => e = .returned (.bool true) ∧ Below w.heap.size w w' := by
  have hlen : us.length = ts.length := by have := congrArg List.length hb; simpa using this
  rw [hlen]
  have e0 : ((ts.length : Int) != (ts.length : Int)) = false := by simp
  go_enter Tryd.func16, Tryd.ntmps16
  go_wp2_with fail
  go_loopw [5] (fun i w' => ∃ j : Nat, j ≤ ts.length ∧ i = .int .i64 (j : Nat) ∧ Below w.heap.size w w') (fun i _ => ts.length - (intOf i).toNat)
  case atStart => exact ⟨0, Nat.zero_le _, rfl, Below.refl _ _⟩
  case round =>
    obtain ⟨j, hj, rfl, bel⟩ := hrel
    replace ta := ta.mono bel
    replace tb := tb.mono bel
    have la := ta.lt
    have lb := tb.lt
    by_cases hlt : j < ts.length
    · have f1 : decide (j < ts.length) = true := by simpa using hlt
      have hu : ts[j]? = some (ts[j]'hlt) := List.getElem?_eq_getElem _
      have hv : us[j]? = some (us[j]'(by omega)) := List.getElem?_eq_getElem _
      have hbare : bare (us[j]'(by omega)) = bare (ts[j]'hlt) := by
        have := congrArg (fun l => l[j]?) hb
        simp only [List.getElem?_map, hu, hv, Option.map_some] at this
        exact Option.some.inj this
      obtain ⟨⟨kd, txt, n, p⟩, hx⟩ : ∃ u, ts[j]'hlt = u := ⟨_, rfl⟩
      obtain ⟨⟨kd', txt', n', p'⟩, hy⟩ : ∃ u, us[j]'(by omega) = u := ⟨_, rfl⟩
      rw [hx, hy] at hbare
      simp only [bare, Prod.mk.injEq] at hbare
      obtain ⟨rfl, rfl, rfl⟩ := hbare
      rw [hx] at hu
      rw [hy] at hv
      obtain ⟨a0, a1, a2, a3⟩ := ta.at_ j _ hu
      obtain ⟨c0, c1, c2, c3⟩ := tb.at_ j _ hv
      simp only [] at a0 a1 a2 a3 c0 c1 c2 c3
      clear hb hu hv hx hy hlen
      go_wp2_with fail
      go_quiet (fail)
      go_wp2_with fail
      refine ⟨⟨j + 1, by omega, by simp, bel.trans (below_drewN (Below.refl _ _) _)⟩, by simp [intOf]; omega⟩
    · have f1 : decide (j < ts.length) = false := by simpa using hlt
      clear hb hlen
      go_wp2_with fail
      go_ret
      exact ⟨rfl, bel⟩
/-- What separates, by its number. -/
def sepOf (k : Nat) : List UInt8 := match k with | 0 => [32] | 1 => [9] | 2 => [10] | 3 => [13] | 4 => [32, 35, 32, 97, 32, 60, 45, 62, 32, 98, 10] | _ => [35, 10]
theorem sepOf_ok (k : Nat) : SepOK (sepOf k) := by
  match k with
  | 0 => exact sep_one (by decide) (by decide)
  | 1 => exact sep_one (by decide) (by decide)
  | 2 => exact sep_one (by decide) (by decide)
  | 3 => exact sep_one (by decide) (by decide)
  | 4 => exact (sep_comment [32, 97, 32, 60, 45, 62, 32, 98] (by decide)).blank (by decide) (by decide)
  | n + 5 => exact sep_comment [] (by simp)
theorem sepOf_le (k : Nat) : (sepOf k).length ≤ 11 := by
  unfold sepOf
  split <;> decide
theorem joinS_snoc (sep : List UInt8) (ts : List Tok) (j : Nat) (t : Tok) (h : ts[j]? = some t) : joinS sep (ts.take (j + 1)) = joinS sep (ts.take j) ++ t.txt ++ sep := by
  rw [List.take_add_one, h]
  simp [joinS]
theorem joinS_le (sep : List UInt8) (ts : List Tok) (j : Nat) (h : j ≤ ts.length - 1) : (joinS sep (ts.take j)).length ≤ (joinS sep ts.dropLast).length := by
  have e : ts.dropLast = ts.take j ++ (ts.dropLast).drop j := by
    have := (List.take_append_drop j ts.dropLast).symm
    rw [List.dropLast_eq_take] at this ⊢
    rwa [List.take_take, Nat.min_eq_left h] at this
  rw [e]
  unfold joinS
  rw [List.flatMap_append, List.length_append]
  omega
theorem lblanks_all {l : List UInt8} {ts : List Tok} (h : lexL l = .ok ts) (hs : l.length ≤ 2000) (k : Nat) :
    (sepOf k ++ joinS (sepOf k) ts.dropLast).length ≤ 30000 ∧ ∃ us, lexL (sepOf k ++ joinS (sepOf k) ts.dropLast) = .ok us ∧ us.map bare = ts.map bare := by
  have hG : lexG l 0 = .ok ts := by rw [← lexL_small (by omega)]; exact h
  have h1 := lexG_texts _ _ _ hG
  obtain ⟨h2, _⟩ := lexL_len h
  have h3 := sepOf_le k
  have h4 : ((ts.dropLast.map fun t => t.txt.length).sum) ≤ ((ts.map fun t => t.txt.length).sum) := by
    have := congrArg (fun l => (l.map fun t => t.txt.length).sum) (lexL_last h)
    simp only [List.map_append, List.sum_append] at this
    omega
  have hlen : (sepOf k ++ joinS (sepOf k) ts.dropLast).length ≤ 30000 := by
    rw [List.length_append, joinS_length _ _ (fun _ _ => trivial), List.length_dropLast]
    have : (ts.length - 1) * (sepOf k).length ≤ 2000 * 11 := Nat.mul_le_mul (by omega) h3
    omega
  refine ⟨hlen, ?_⟩
  rw [lexL_small (by omega), (sepOf_ok k).over]
  exact lexG_seps (sepOf_ok k) _ _ _ hG _
theorem sepVal (k : Nat) (h : k < ([Value.string ⟨#[32]⟩, Value.string ⟨#[9]⟩, Value.string ⟨#[10]⟩, Value.string ⟨#[13]⟩, Value.string ⟨#[32, 35, 32, 97, 32, 60, 45, 62, 32, 98, 10]⟩, Value.string ⟨#[35, 10]⟩] : List Value).length) :
    ([Value.string ⟨#[32]⟩, Value.string ⟨#[9]⟩, Value.string ⟨#[10]⟩, Value.string ⟨#[13]⟩, Value.string ⟨#[32, 35, 32, 97, 32, 60, 45, 62, 32, 98, 10]⟩, Value.string ⟨#[35, 10]⟩] : List Value)[k]'h = .string ⟨(sepOf k).toArray⟩ := by
  match k, h with
  | 0, _ => rfl
  | 1, _ => rfl
  | 2, _ => rfl
  | 3, _ => rfl
  | 4, _ => rfl
  | 5, _ => rfl
theorem bytes_cat (a b : List UInt8) : (⟨a.toArray⟩ : ByteArray) ++ ⟨b.toArray⟩ = ⟨(a ++ b).toArray⟩ := by
  have : ((⟨a.toArray⟩ : ByteArray) ++ ⟨b.toArray⟩).data = (a ++ b).toArray := by
    rw [ByteArray.data_append]
    simp
  exact ByteArray.ext this
set_option maxRecDepth 100000 in
theorem lblanks_big (w : World) (hw : Signed w) (s : ByteArray) (gap : Nat) (h : 2000 < s.size) :
    Calls Tryd.prog 4 #[.string s, .int .u8 (gap : Nat)] w fun e w' => e = .returned (.bool true) ∧ Below w.heap.size w w' := by
  have d1 : decide ((2000 : Int) < (s.size : Int)) = true := by simp; omega
  go_enter Tryd.func4, Tryd.ntmps4
  go_wp2_with fail
  refine (shown_any _ hw).mono ?_
  rintro e w1 ⟨rfl, b1⟩
  go_wp2_with fail
  go_ret
  exact ⟨rfl, b1⟩
set_option maxRecDepth 100000 in
theorem lblanks_err (w : World) (hw : Signed w) (s : ByteArray) (gap : Nat) (h1 : s.size ≤ 2000) (c q : Nat) (hx : lexL s.data.toList = .error (c, q)) :
    Calls Tryd.prog 4 #[.string s, .int .u8 (gap : Nat)] w fun e w' => e = .returned (.bool true) ∧ Below w.heap.size w w' := by
  have d1 : decide ((2000 : Int) < (s.size : Int)) = false := by simp; omega
  have hc := lexL_err hx
  have e0 : ((c : Int) != 0) = true := by simp; omega
  go_enter Tryd.func4, Tryd.ntmps4
  go_wp2_with fail
  refine (shown_any _ hw).mono ?_
  rintro e w1 ⟨rfl, b1⟩
  have hw1 := hw.mono b1
  go_wp2_with fail
  refine (tokens_err _ _ c q hw1 (by omega) hx).mono ?_
  rintro e w2 ⟨rfl, b2⟩
  replace b2 := below_then b1 b2
  go_wp2_with fail
  go_ret
  exact ⟨rfl, b2⟩
set_option maxRecDepth 100000 in
set_option maxHeartbeats 4000000 in
theorem lblanks_ok (w : World) (hw : Signed w) (s : ByteArray) (gap : Nat) (hgap : gap < 256) (h1 : s.size ≤ 2000) (x : List Tok) (hx : lexL s.data.toList = .ok x) :
    Calls Tryd.prog 4 #[.string s, .int .u8 (gap : Nat)] w fun e w' => e = .returned (.bool true) ∧ Below w.heap.size w w' := by
  have d1 : decide ((2000 : Int) < (s.size : Int)) = false := by simp; omega
  have nx := List.length_pos_iff.2 (lexL_ne hx)
  obtain ⟨bx, _⟩ := lexL_len hx
  rw [← Lib.size_eq] at bx
  have e0 : decide ((x.length : Int) < 1) = false := by simp; omega
  obtain ⟨k, hk⟩ : ∃ k : Nat, (gap : Int) % 6 = (k : Int) := ⟨gap % 6, by omega⟩
  have hk6 : k < 6 := by omega
  obtain ⟨hlen, y, hy, hbare⟩ := lblanks_all hx (by rw [← Lib.size_eq]; omega) k
  obtain ⟨sep, hsep⟩ : ∃ sep, sepOf k = sep := ⟨_, rfl⟩
  rw [hsep] at hlen hy
  have ny := List.length_pos_iff.2 (lexL_ne hy)
  go_enter Tryd.func4, Tryd.ntmps4
  go_wp2_with fail
  refine (shown_any _ hw).mono ?_
  rintro e w1 ⟨rfl, b1⟩
  have hw1 := hw.mono b1
  go_wp2_with fail
  refine (tokens_ok _ _ x hw1 (by omega) hx).mono ?_
  rintro e w2 ⟨⟨gx, cx, rfl, tx⟩, b2⟩
  have hw2 := hw1.mono b2
  replace b2 := below_then b1 b2
  clear hw1 hw hx b1
  go_wp2_with fail
  rw [sepVal, hsep]
  replace tx := tx.mono ((Below.refl _ _).alloc (Nat.le_refl _) (Obj.cells #[Value.string ⟨#[32]⟩, Value.string ⟨#[9]⟩, Value.string ⟨#[10]⟩, Value.string ⟨#[13]⟩, Value.string ⟨#[32, 35, 32, 97, 32, 60, 45, 62, 32, 98, 10]⟩, Value.string ⟨#[35, 10]⟩] 9))
  have lx := tx.lt
  go_loop [10, 11] (fun v i => ∃ j : Nat, j ≤ x.length - 1 ∧ i = .int .i64 (j : Nat) ∧ v = .string ⟨(joinS sep (x.take j)).toArray⟩) (fun _ i => x.length - 1 - (intOf i).toNat)
  case atStart => exact ⟨0, Nat.zero_le _, rfl, rfl⟩
  case round =>
    obtain ⟨j, hj, rfl, rfl⟩ := hrel
    by_cases hlt : j < x.length - 1
    · have f1 : decide ((j : Int) < (x.length : Int) - 1) = true := by simp; omega
      have hjx : j < x.length := by omega
      have hxj : x[j]? = some (x[j]'(by omega)) := List.getElem?_eq_getElem _
      obtain ⟨⟨kd, txt, n, at_⟩, hu⟩ : ∃ u, x[j]'(by omega) = u := ⟨_, rfl⟩
      rw [hu] at hxj
      obtain ⟨c0, c1, c2, c3⟩ := tx.at_ j _ hxj
      simp only [] at c0 c1 c2 c3
      have hsn := joinS_snoc sep x j _ hxj
      simp only [] at hsn
      have hl1 := joinS_le sep x j (by omega)
      have hl2 := joinS_le sep x (j + 1) (by omega)
      rw [hsn] at hl2
      simp only [List.length_append] at hl2 hlen
      have r1 := fun w => run_string_add_lists (P := Tryd.prog) w (joinS sep (x.take j)) txt (by omega) (by omega)
      have r2 := fun w => run_string_add_lists (P := Tryd.prog) w (joinS sep (x.take j) ++ txt) sep (by rw [List.length_append]; omega) (by omega)
      rw [← hsn] at r2
      clear hu hxj
      go_wp2_with fail
      refine ⟨⟨j + 1, by omega, by simp, by rw [hsn, List.append_assoc]⟩, by simp [intOf]; omega⟩
    · have f1 : decide ((j : Int) < (x.length : Int) - 1) = false := by simp; omega
      obtain rfl : j = x.length - 1 := by omega
      have hjd : x.take (x.length - 1) = x.dropLast := by rw [List.dropLast_eq_take]
      have hw3 := hw2.mono ((Below.refl _ _).alloc (Nat.le_refl _) (Obj.cells #[Value.string ⟨#[32]⟩, Value.string ⟨#[9]⟩, Value.string ⟨#[10]⟩, Value.string ⟨#[13]⟩, Value.string ⟨#[32, 35, 32, 97, 32, 60, 45, 62, 32, 98, 10]⟩, Value.string ⟨#[35, 10]⟩] 9))
      rw [hjd]
      obtain ⟨T, hT⟩ : ∃ T, sep ++ joinS sep x.dropLast = T := ⟨_, rfl⟩
      have r1 := fun w => run_string_add_lists (P := Tryd.prog) w sep (joinS sep x.dropLast) (by rw [List.length_append] at hlen; omega) (by rw [List.length_append] at hlen; omega)
      rw [hT] at hlen hy r1
      have hTz : (⟨T.toArray⟩ : ByteArray).size = T.length := by simp [ByteArray.size]
      go_wp2_with fail
      refine (tokens_ok _ ⟨T.toArray⟩ y hw3 (by omega) hy).mono ?_
      rintro e w3 ⟨⟨gy, cy, rfl, ty⟩, b3⟩
      replace tx := tx.mono b3
      go_wp2_with fail
      refine (alike_eq _ gx gy _ _ x y tx ty (by omega) hbare).mono ?_
      rintro e w4 ⟨rfl, b4⟩
      go_wp2_with fail
      go_ret
      refine ⟨rfl, below_then (below_then (b2.alloc b2.size _) b3) b4⟩
theorem lexblanks_any (w : World) (hw : Signed w) (s : ByteArray) (gap : Nat) (hgap : gap < 256) :
    Calls Tryd.prog 4 #[.string s, .int .u8 (gap : Nat)] w fun e w' => e = .returned (.bool true) ∧ Below w.heap.size w w' := by
  by_cases h : 2000 < s.size
  · exact lblanks_big w hw s gap h
  cases hx : lexL s.data.toList with
  | error e => exact lblanks_err w hw s gap (by omega) e.1 e.2 hx
  | ok x => exact lblanks_ok w hw s gap hgap (by omega) x hx
end Go.Proofs.YtcljdlkebaflpaaDoor
