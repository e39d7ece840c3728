/- SchemaAll returns true. -/
import Derived.Test.YtblipgmllpniaaaSchemaCount
namespace Go.Proofs.Ytblipgmllpniaaa
open Go.RowKit
set_option linter.unusedVariables false

theorem own_belowS {w w' : World} {base : Nat} {e : TypeId} {size : Nat} {v : Value} {n : Nat} {xs : List Value} (h : w.ownsRow base e size v n xs) (hb : Below w.heap.size w w') : w'.ownsRow base e size v n xs := by
  obtain ⟨h1, h2⟩ := h
  refine ⟨h1, ?_⟩
  rcases h2 with h0 | ⟨g, cap, cur, hv, hg, hh, r⟩
  · exact .inl h0
  · exact .inr ⟨g, cap, cur, hv, hg, (hb.block g (Array.getElem?_eq_some_iff.1 hh).1).trans hh, r⟩
theorem own_sliceS {w : World} {base : Nat} {e : TypeId} {size : Nat} {v : Value} {n : Nat} {xs : List Value} (h : w.ownsRow base e size v n xs) : ∃ a cap, v = .slice a n cap := by
  rcases h.2 with ⟨rfl, rfl⟩ | ⟨g, cap, cur, rfl, _⟩
  · exact ⟨_, _, rfl⟩
  · exact ⟨_, _, rfl⟩
theorem news_new (w : World) (t : TypeId) (cs : List Value) : ∀ j u, cs[j]? = some u → (w.alloc (.cells ⟨cs⟩ t)).cell? ((⟨w.heap.size, 0, none⟩ : Addr).add j) = some u := by
  intro j u hu
  have h := World.alloc_heap_new w (.cells ⟨cs⟩ t)
  rw [Addr.add_lit, Nat.zero_add, cur_cell h]
  simpa using hu
/-- append onto a row of the call's own, whose elements have more cells than one, as a step of a region that draws its order. -/
theorem step_sz {P : Program} {w : World} {ops : Array Oper} {o : Oper} {a : Act} {K : Act → World → Prop} {Q : Exit → Act → World → Prop} {E : Prop} (hgd : o.guard = none) (s x : Operand) (t : TypeId)
    (ho : o.op = .call { callee := .builtin .append, args := #[s, x], argTypes := #[t, t] })
    (base : Nat) (e : TypeId) (z : Value) (size bytes : Nat) (ht : P.underlying t = some (.slice e)) (hinfo : (P.info? e).map (fun i => (i.zero, i.size, i.bytes)) = some (some z, size, bytes)) (hz : z.cells.size = size) (hsz : 0 < size)
    (v : Value) (n : Nat) (xs : List Value) (hs : a.eval s = v) (hown : w.ownsRow base e size v n xs)
    (ad : Addr) (m c : Nat) (news : List Value) (hx : a.eval x = .slice (some ad) m c) (hl : news.length = m * size) (hnews : ∀ j u, news[j]? = some u → w.cell? (ad.add j) = some u) (h1 : ∀ u ∈ news, u.oneCell' = true)
    (h63 : n + m ≤ maxLen) (hbytes : (n + m) * bytes ≤ 140737488355328) (hbase : base ≤ w.heap.size)
    (h : ∀ v' w', w'.ownsRow base e size v' (n + m) (xs ++ news) → Below base w w' → K (a.put o.dst v') w') :
    if Region.wanted o (yielded ops a.tmps) = true then Oper.wp P o a w K Q else E := by
  have hw : Region.wanted o (yielded ops a.tmps) = true := by simp [Region.wanted, hgd]
  rw [if_pos hw]
  obtain ⟨i, hi, hz0, hz1, hz2⟩ := info_parts hinfo
  exact wp_append_own w s x t ho base e i z size bytes ht hi hz0 hz1 hz2 hz hsz v n xs hs hown ad m c news hx hl hnews h1 h63 hbytes hbase (fun v' w' h2 h3 _ => h v' w' h2 ((Below.refl _ _).grown h3 hbase (fun k hk => (hown.lt k hk).1)))
/-- The ranges that the numbers tell. -/
def fieldAt (los : List Int) (sps : List Nat) (i : Nat) : Int × Int := (los.getD i 0, los.getD i 0 + ((sps.getD i 0 % 6 : Nat) : Int))
def allF (los : List Int) (sps : List Nat) (n : Nat) : List (Int × Int) := (List.range n).map (fieldAt los sps)
theorem allF_length (los : List Int) (sps : List Nat) (n : Nat) : (allF los sps n).length = n := by simp [allF]
theorem allF_getD (los : List Int) (sps : List Nat) (n i : Nat) (h : i < n) : (allF los sps n).getD i (0, 0) = fieldAt los sps i := by simp [allF, h]
theorem allF_take (los : List Int) (sps : List Nat) (n j : Nat) (h : j ≤ n) : (allF los sps n).take j = allF los sps j := by
  unfold allF
  rw [← List.map_take, List.take_range, Nat.min_eq_left h]
theorem allF_snoc (los : List Int) (sps : List Nat) (j : Nat) : allF los sps (j + 1) = allF los sps j ++ [fieldAt los sps j] := by simp [allF, List.range_succ]
theorem allF_right (los : List Int) (sps : List Nat) (n : Nat) (hn : n ≤ los.length) (h : ∀ x ∈ los, -128 ≤ x ∧ x ≤ 127) : ∀ f ∈ allF los sps n, RightF f ∧ (-9223372036854775808 ≤ f.1 ∧ f.1 ≤ 9223372036854775807) ∧ (-9223372036854775808 ≤ f.2 ∧ f.2 ≤ 9223372036854775807) := by
  intro f hf
  obtain ⟨i, hi, rfl⟩ := List.mem_map.1 hf
  have hi' := List.mem_range.1 hi
  have e : los.getD i 0 = los[i] := by simp [show i < los.length by omega]
  have := h _ (List.getElem_mem (show i < los.length by omega))
  unfold fieldAt RightF
  rw [e]
  simp only
  omega
theorem manyTo_le (los : List Int) (sps : List Nat) (n : Nat) : ∀ j, j ≤ n → manyTo (allF los sps n) j ≤ 6 ^ j
  | 0, _ => by simp [manyTo]
  | j + 1, h => by
    have ih := manyTo_le los sps n j (by omega)
    rw [manyTo, allF_getD _ _ _ _ (by omega)]
    unfold fieldAt
    simp only
    rw [Nat.pow_succ]
    exact Nat.mul_le_mul ih (by omega)
theorem manyTo_step (los : List Int) (sps : List Nat) (n j : Nat) (h : j < n) : manyTo (allF los sps n) (j + 1) = manyTo (allF los sps n) j * (sps.getD j 0 % 6 + 1) := by
  rw [manyTo, allF_getD _ _ _ _ h]
  unfold fieldAt
  simp only
  congr 2
  omega
theorem all_few (w : World) (a : Option Addr) (n ca : Nat) (b : Option Addr) (ns cs : Nat) (los : List Int) (sps : List Nat) (ha : n = 0 ∨ ∃ bk off, a = some ⟨bk, off, none⟩ ∧ bk < w.heap.size ∧ ∀ i, i < n → w.cell? ⟨bk, off + i, none⟩ = some (.int .i8 (los.getD i 0))) (hln : los.length = n) (hsn : n ≤ 9223372036854775807) (hlo : ∀ x ∈ los, -128 ≤ x ∧ x ≤ 127) (hb : BytesAt w b ns cs sps) (h : n < 1) :
    Calls Try.prog 6 #[.slice a n ca, .slice b ns cs] w fun e w' => e = .returned (.bool true) ∧ Below w.heap.size w w' := by
  have d1 : decide ((n : Int) < 1) = true := by simp; omega
  have d2 : decide (n < 1) = true := by simp; omega
  go_enter Try.func6, Try.ntmps6
  go_wp2_with fail
  refine (shown_any _).mono ?_
  rintro e w1 ⟨rfl, b1⟩
  go_wp2
  go_ret
  exact ⟨rfl, b1⟩
theorem all_many (w : World) (a : Option Addr) (n ca : Nat) (b : Option Addr) (ns cs : Nat) (los : List Int) (sps : List Nat) (ha : n = 0 ∨ ∃ bk off, a = some ⟨bk, off, none⟩ ∧ bk < w.heap.size ∧ ∀ i, i < n → w.cell? ⟨bk, off + i, none⟩ = some (.int .i8 (los.getD i 0))) (hln : los.length = n) (hsn : n ≤ 9223372036854775807) (hlo : ∀ x ∈ los, -128 ≤ x ∧ x ≤ 127) (hb : BytesAt w b ns cs sps) (h : 5 < n) :
    Calls Try.prog 6 #[.slice a n ca, .slice b ns cs] w fun e w' => e = .returned (.bool true) ∧ Below w.heap.size w w' := by
  have d1 : decide ((n : Int) < 1) = false := by simp; omega
  have d2 : decide (n < 1) = false := by simp; omega
  have d3 : decide ((5 : Int) < (n : Int)) = true := by simp; omega
  have d4 : decide (5 < n) = true := by simp; omega
  go_enter Try.func6, Try.ntmps6
  go_wp2_with fail
  refine (shown_any _).mono ?_
  rintro e w1 ⟨rfl, b1⟩
  go_wp2
  go_ret
  exact ⟨rfl, b1⟩
theorem all_other (w : World) (a : Option Addr) (n ca : Nat) (b : Option Addr) (ns cs : Nat) (los : List Int) (sps : List Nat) (ha : n = 0 ∨ ∃ bk off, a = some ⟨bk, off, none⟩ ∧ bk < w.heap.size ∧ ∀ i, i < n → w.cell? ⟨bk, off + i, none⟩ = some (.int .i8 (los.getD i 0))) (hln : los.length = n) (hsn : n ≤ 9223372036854775807) (hlo : ∀ x ∈ los, -128 ≤ x ∧ x ≤ 127) (hb : BytesAt w b ns cs sps) (h1 : 1 ≤ n) (h5 : n ≤ 5) (hne : ns ≠ n) :
    Calls Try.prog 6 #[.slice a n ca, .slice b ns cs] w fun e w' => e = .returned (.bool true) ∧ Below w.heap.size w w' := by
  have hsm := hb.small
  have d1 : decide ((n : Int) < 1) = false := by simp; omega
  have d2 : decide (n < 1) = false := by simp; omega
  have d3 : decide ((5 : Int) < (n : Int)) = false := by simp; omega
  have d4 : decide (5 < n) = false := by simp; omega
  have d5 : ((ns : Int) != (n : Int)) = true := by simp; omega
  go_enter Try.func6, Try.ntmps6
  go_wp2_with fail
  refine (shown_any _).mono ?_
  rintro e w1 ⟨rfl, b1⟩
  go_wp2
  go_ret
  exact ⟨rfl, b1⟩
set_option maxRecDepth 100000 in
set_option maxHeartbeats 2000000 in
theorem all_yes (w : World) (a : Option Addr) (n ca : Nat) (b : Option Addr) (ns cs : Nat) (los : List Int) (sps : List Nat) (ha : n = 0 ∨ ∃ bk off, a = some ⟨bk, off, none⟩ ∧ bk < w.heap.size ∧ ∀ i, i < n → w.cell? ⟨bk, off + i, none⟩ = some (.int .i8 (los.getD i 0))) (hln : los.length = n) (hsn : n ≤ 9223372036854775807) (hlo : ∀ x ∈ los, -128 ≤ x ∧ x ≤ 127) (hb : BytesAt w b ns cs sps) (h1 : 1 ≤ n) (h5 : n ≤ 5) (hne : ns = n) :
    Calls Try.prog 6 #[.slice a n ca, .slice b ns cs] w fun e w' => e = .returned (.bool true) ∧ Below w.heap.size w w' := by
  subst hne
  have hsm := hb.small
  have d1 : decide ((ns : Int) < 1) = false := by simp; omega
  have d2 : decide (ns < 1) = false := by simp; omega
  have d3 : decide ((5 : Int) < (ns : Int)) = false := by simp; omega
  have d4 : decide (5 < ns) = false := by simp; omega
  have d5 : ((ns : Int) != (ns : Int)) = false := by simp
  obtain ⟨FS, hFS⟩ : ∃ FS, FS = allF los sps ns := ⟨_, rfl⟩
  have hR := allF_right los sps ns (by omega) hlo
  rw [← hFS] at hR
  have hrr : ∀ f ∈ FS, RightF f := fun f hf => (hR f hf).1
  have hww : ∀ f ∈ FS, (-9223372036854775808 ≤ f.1 ∧ f.1 ≤ 9223372036854775807) ∧ (-9223372036854775808 ≤ f.2 ∧ f.2 ≤ 9223372036854775807) := fun f hf => (hR f hf).2
  have HWW := Lib.hid hww
  have HFS := Lib.hid hFS
  have hFl : FS.length = ns := by rw [hFS, allF_length]
  have HFL := Lib.hid hFl
  have hbl := bitsF_le FS hrr FS.length (Nat.le_refl _)
  rw [List.take_length, hFl] at hbl
  have hmt : ∀ j, j ≤ ns → manyTo FS j ≤ 7776 := fun j hj => by
    rw [hFS]
    exact Nat.le_trans (manyTo_le los sps ns j hj) (Nat.le_trans (Nat.pow_le_pow_right (by omega) (show j ≤ 5 by omega)) (by decide))
  have HMT := Lib.hid hmt
  have HLN := Lib.hid hln
  clear hR hww hFS hFl hmt hln
  go_enter Try.func6, Try.ntmps6
  go_wp2_with fail
  refine (shown_any _).mono ?_
  rintro e w1 ⟨rfl, b1⟩
  go_wp2
  have hB0 : w.heap.size ≤ w1.heap.size := b1.size
  have own0 : w1.ownsRow w1.heap.size 38 2 (.slice none 0 0) 0 (fieldCells (FS.take 0)) := World.ownsRow_nil _ _ _ _
  obtain ⟨B, hB⟩ : ∃ B, B = w1.heap.size := ⟨_, rfl⟩
  have hBz : B ≤ w1.heap.size := by omega
  rw [← hB] at own0 hB0
  clear hB
  go_loopw [7, 8, 9, 10] (fun s wa wd i wr => ∃ (j M W : Nat) (p : Option Addr) (q : Nat), j ≤ ns ∧ M ≤ 7776 ∧ W ≤ 100 ∧ i = .int .i64 (j : Int) ∧ s = .slice p j q ∧ wa = .int .i64 (M : Int) ∧ wd = .int .i64 (W : Int) ∧ Hid (M = manyTo FS j ∧ W = bitsF (FS.take j)) ∧ wr.ownsRow B 38 2 (.slice p j q) j (fieldCells (FS.take j)) ∧ B ≤ wr.heap.size ∧ Below w.heap.size w wr) (fun _ _ _ i _ => ns - (intOf i).toNat)
  case atStart => exact ⟨0, 1, 0, none, 0, by omega, by omega, by omega, rfl, rfl, rfl, rfl, by simp [Hid, manyTo, bitsF], own0, hBz, b1⟩
  case round =>
    obtain ⟨j, M, W, p, q, hj, hM, hW, rfl, rfl, rfl, rfl, hMW, own, hBr, Bel⟩ := hrel
    clear own0 b1 hBz
    have OWN := Lib.hid own
    clear own
    by_cases hlt : j < ns
    · obtain ⟨bk, off, rfl, hbk0, hcl0⟩ := ha.resolve_left (by omega)
      have hbk := Nat.lt_of_lt_of_le hbk0 Bel.size
      have c1 := (Bel.cell (p := ⟨bk, off + j, none⟩) hbk0).trans (hcl0 j hlt)
      obtain ⟨bs, ofs, rfl, hbs0, hcs0⟩ := hb.at_.resolve_left (by omega)
      have c2 := (Bel.cell (p := ⟨bs, ofs + j, none⟩) hbs0).trans (hcs0 j hlt)
      have hjs : j < sps.length := by rw [hb.len_eq]; exact hlt
      have hsp : sps.getD j 0 < 256 := by
        have e : sps.getD j 0 = sps[j] := by simp [hjs]
        rw [e]; exact hb.byte _ (List.getElem_mem hjs)
      have hlob : -128 ≤ los.getD j 0 ∧ los.getD j 0 ≤ 127 := by
        have hjl : j < los.length := by rw [HLN.out]; exact hlt
        have e : los.getD j 0 = los[j] := by simp [hjl]
        rw [e]; exact hlo _ (List.getElem_mem hjl)
      have hjF : j < FS.length := by rw [HFL.out]; exact hlt
      have hFj : FS.getD j (0, 0) = (los.getD j 0, los.getD j 0 + ((sps.getD j 0 % 6 : Nat) : Int)) := by rw [HFS.out, allF_getD _ _ _ _ hlt]; rfl
      have hst := bitsF_step FS j hjF
      have hmm : manyTo FS (j + 1) = manyTo FS j * (sps.getD j 0 % 6 + 1) := by rw [HFS.out]; exact manyTo_step los sps ns j hlt
      have htk : FS.take (j + 1) = FS.take j ++ [FS.getD j (0, 0)] := by rw [List.take_succ_eq_append_getElem hjF]; simp [hjF]
      have hrf := hrr _ (getD_mem hjF)
      have hM' := HMT.out (j + 1) (by omega)
      have hw16 := wideF_le _ hrf
      rw [hFj] at hst htk hrf hw16
      generalize los.getD j 0 = x at *
      generalize sps.getD j 0 = y at *
      obtain ⟨k, hk⟩ : ∃ k : Nat, (y : Int) % 6 = (k : Int) := ⟨y % 6, by omega⟩
      rw [show y % 6 = k from by omega] at hst hmm htk hrf hw16 hFj
      have hk5 : k ≤ 5 := by omega
      obtain ⟨hx1, hx2⟩ := hlob
      have hsum : IntKind.i64.wrap (x + (k : Int)) = x + (k : Int) := IntWalk.i64_in _ (by omega)
      have hcv : ∀ w : World, (convert 46 3 (.int .i8 x)).run Try.prog w = .ok (.int .i64 x) w := by
        intro w
        rw [run_convert_int (P := Try.prog) w 46 3 .i8 _ (by kernel_rfl) (by kernel_rfl), show Try.prog.intKind 3 = IntKind.i64 from by kernel_rfl, show IntKind.i64.wrap x = x from IntWalk.i64_in _ (by omega)]
      have hmu : ((manyTo FS j * (k + 1) : Nat) : Int) = (M : Int) * ((k : Int) + 1) := by rw [← hMW.out.1]; push_cast; rfl
      rw [← hmm] at hmu
      obtain ⟨M', hM'e⟩ : ∃ M', M' = manyTo FS (j + 1) := ⟨_, rfl⟩
      rw [← hM'e] at hmu hM'
      have hmu1 : (0 : Int) ≤ (M : Int) * ((k : Int) + 1) := by omega
      have hmu2 : (M : Int) * ((k : Int) + 1) ≤ 7776 := by omega
      obtain ⟨Wd, hWd⟩ : ∃ Wd, Wd = wideF (x, x + (k : Int)) := ⟨_, rfl⟩
      rw [← hWd] at hst hw16
      have hjlt : (j : Int) < (ns : Int) := by omega
      have HMU := Lib.hid hmu
      have HME := Lib.hid hM'e
      have HWD := Lib.hid hWd
      have HST := Lib.hid hst
      have HTK := Lib.hid htk
      have HFJ := Lib.hid hFj
      have h200 : bitsF (FS.take j) ≤ 80 := by have := bitsF_le FS hrr j (by omega); omega
      have hWb : W ≤ 80 := by rw [hMW.out.2]; exact h200
      have bd : Below wr.heap.size wr wr.drew := (Below.refl _ _).drew
      have g1 := (bd.cell (p := ⟨bk, off + j, none⟩) hbk).trans c1
      have OD := Lib.hid (own_belowS OWN.out (bd.alloc (Nat.le_refl _) (.cells #[.int .i64 x, .int .i64 (x + (k : Int))] 38)))
      have hnw := Lib.hid (news_new wr.drew 38 [.int .i64 x, .int .i64 (x + (k : Int))])
      have hone : ∀ u ∈ [Value.int .i64 x, Value.int .i64 (x + (k : Int))], u.oneCell' = true := by
        intro u hu
        simp at hu
        rcases hu with rfl | rfl <;> rfl
      have HONE := Lib.hid hone
      have hsz := Bel.size
      clear hmu hM'e hWd hst htk hFj hmm hcl0 hcs0 hone h200
      go_wp2
      go_region_held3 (fun w' => w'.cell? ⟨bk, off + j, none⟩ = some (.int .i8 x))
        (first | exact g1 | exact cellAlloc _ _ g1 | exact g4)
        ((refine step_sz rfl (.tmp 47) (.tmp 61) 22 rfl B 38 (.agg #[.int .i64 0, .int .i64 0]) 2 16 Try.underlying22 Try.info_field rfl (by omega) _ j (fieldCells (FS.take j)) (by rfl) OD.out ⟨wr.heap.size, 0, none⟩ 1 1 [.int .i64 x, .int .i64 (x + (k : Int))] (by rfl) rfl hnw.out HONE.out (by unfold maxLen; omega) (by omega) (by simp; omega) ?_; intro v4 w4 own4 bel4; have g4 : w4.cell? ⟨bk, off + j, none⟩ = some (.int .i8 x) := (bel4.cell (p := ⟨bk, off + j, none⟩) (Nat.lt_of_lt_of_le hbk0 hB0)).trans (cellAlloc _ _ g1)))
      rw [show fieldCells (FS.take j) ++ [Value.int .i64 x, Value.int .i64 (x + (k : Int))] = fieldCells (FS.take (j + 1)) from by rw [HTK.out, ← fieldCells_append]; rfl] at own4
      have O4 := Lib.hid own4
      have hwt : ∀ f ∈ FS.take (j + 1), (-9223372036854775808 ≤ f.1 ∧ f.1 ≤ 9223372036854775807) ∧ (-9223372036854775808 ≤ f.2 ∧ f.2 ≤ 9223372036854775807) := fun f hf => HWW.out f (List.mem_of_mem_take hf)
      obtain ⟨p4, q4, hv4, f4⟩ := ownFields own4 (by omega) hwt
      subst hv4
      obtain ⟨bb, oo, rfl, hbb, hcc⟩ := f4.at_.resolve_left (by omega)
      obtain ⟨k1, k2⟩ := hcc j (by omega)
      have e4 : (FS.take (j + 1)).getD j (0, 0) = (x, x + (k : Int)) := by
        rw [← HFJ.out]
        simp [List.getElem?_take]
      rw [e4] at k1 k2
      simp only at k1 k2
      have hz4 := bel4.size
      simp at hz4
      have Bel4 : Below w.heap.size w w4 := (((Bel.trans (bd.mono hsz)).alloc (by simpa using hsz) _).trans (bel4.mono hB0))
      clear own4 hwt f4 hcc e4 bel4 bd g1 OD hnw HONE OWN
      go_wp2_with fail
      refine (schemawide_any _ x (x + (k : Int)) hrf).mono ?_
      rintro e w5 ⟨rfl, b5⟩
      rw [← HWD.out]
      have O5 := own_belowS O4.out b5
      have Bel5 := below_then Bel4 b5
      have hB5 : B ≤ w5.heap.size := by have := b5.size; omega
      go_wp2
      go_roundw
      case rel => exact ⟨j + 1, M', W + Wd, _, _, by omega, hM', by omega, by go_num, rfl, by rw [HMU.out], by go_num, by show _ ∧ _; exact ⟨HME.out, by rw [HST.out, hMW.out.2]⟩, O5, hB5, Bel5⟩
      case measure => simp [intOf]; omega
    · obtain rfl : j = ns := by omega
      have hown := OWN.out
      obtain ⟨hM1, hW1⟩ := hMW.out
      have htk : FS.take j = FS := List.take_of_length_le (by rw [HFL.out]; omega)
      rw [htk] at hown hW1
      obtain ⟨p2, q2, e2, fs⟩ := ownFields hown (by omega) HWW.out
      simp at e2
      obtain ⟨rfl, rfl⟩ := e2
      have HW1 := Lib.hid hW1
      have hM2 : M = manyTo FS FS.length := by rw [hM1, HFL.out]
      have HM2 := Lib.hid hM2
      clear OWN hMW hM1 hM2 htk hown
      obtain ⟨T, hT⟩ : ∃ T, bytesF FS = T := ⟨_, rfl⟩
      have hTv : (8 < W → 1 < T) ∧ (W ≤ 8 → T = 1) := by
        rw [← hT, hW1]
        unfold bytesF
        constructor
        · intro h; split <;> omega
        · intro h; split <;> omega
      obtain ⟨hT1, hT2⟩ := hTv
      have HT := Lib.hid hT
      clear hT hW1
      by_cases h8 : 8 < W
      · have hT3 := hT1 h8
        have q1 : decide ((1 : Int) < (T : Int)) = true := by simp; omega
        have q2 : decide (1 < T) = true := by simp; omega
        have q3 : decide ((8 : Int) < (W : Int)) = true := by simp; omega
        have q4 : decide (8 < W) = true := by simp; omega
        clear hT1 hT2
        go_wp2_with fail
        refine (schemabytes_any _ _ _ _ FS hrr (by omega) fs).mono ?_
        rintro e w5 ⟨rfl, b5⟩
        rw [HT.out]
        go_wp2
        go_ret
        exact ⟨rfl, below_then Bel b5⟩
      have hT3 := hT2 (by omega)
      have hl1 : FS.length = j := HFL.out
      have hcnt := cnt_isEnc FS hrr (by rw [← HW1.out]; omega)
      rw [← HM2.out] at hcnt
      have HCNT := Lib.hid hcnt
      have hB1 : bytesF FS = 1 := by rw [HT.out]; exact hT3
      have hd0 : ¬ IsEnc FS [] := fun h => by have := h.1; rw [hB1] at this; simp at this
      have hd2 : ¬ IsEnc FS [0, 0] := fun h => by have := h.1; rw [hB1] at this; simp at this
      have D0 := Lib.hid (show decS FS [] = [] by unfold decS; rw [if_neg hd0])
      have C0 := Lib.hid (show decC FS [] = 2 by unfold decC; rw [if_neg hd0])
      have D2 := Lib.hid (show decS FS [0, 0] = [] by unfold decS; rw [if_neg hd2])
      have C2 := Lib.hid (show decC FS [0, 0] = 2 by unfold decC; rw [if_neg hd2])
      have q1 : decide ((1 : Int) < (T : Int)) = false := by simp; omega
      have q2 : decide (1 < T) = false := by simp; omega
      have q3 : decide ((8 : Int) < (W : Int)) = false := by simp; omega
      have q4 : decide (8 < W) = false := by simp; omega
      clear hT1 hT2 hT3 hl1 hcnt hB1 hd0 hd2
      go_wp2_with fail
      refine (schemabytes_any _ _ _ _ FS hrr (by omega) fs).mono ?_
      rintro e w5 ⟨rfl, b5⟩
      rw [HT.out]
      have fs5 := fs.mono b5
      have Bel5 := below_then Bel b5
      clear fs b5 Bel
      go_wp2
      obtain ⟨wo, rfl⟩ : ∃ wo : World, wo = wr := ⟨_, rfl⟩
      go_loopw [12, 13] (fun g i wz => ∃ i' c : Nat, i' ≤ 256 ∧ c ≤ i' ∧ i = .int .i64 (i' : Int) ∧ g = .int .i64 (c : Int) ∧ Hid (c = cnt i' (fun b => decide (IsEnc FS [b]))) ∧ Below w5.heap.size w5 wz) (fun _ i _ => 256 - (intOf i).toNat)
      case atStart => exact ⟨0, 0, by omega, by omega, rfl, rfl, by simp [Hid, cnt], Below.refl _ _⟩
      case round =>
        obtain ⟨i', c, hi', hci, rfl, rfl, hc, Bz⟩ := hrel
        have fz := fs5.mono Bz
        by_cases hlt : i' < 256
        · have hil : (i' : Int) < 256 := by omega
          have hs1 := cnt_succ i' (fun b => decide (IsEnc FS [b]))
          have Y : ∀ w' : World, BytesAt (w'.alloc (.cells #[.int .u8 (i' : Int)] 5)) (some ⟨w'.heap.size, 0, none⟩) 1 1 [i'] := fun w' => bytes_new w' w'.heap.size rfl [i'] (by intro c hc; simp at hc; omega) 1 1 rfl (by omega) _ (by rfl)
          have HY := Lib.hid Y
          clear Y
          rcases decS_cases FS [i'] (by intro c hc; simp at hc; omega) with ⟨e1, e2⟩ | ⟨e1, e2, e3⟩
          · have hno : ¬ IsEnc FS [i'] := fun h => by unfold decC at e2; rw [if_pos h] at e2; omega
            rw [if_neg (by simpa using hno), Nat.add_zero, ← hc.out] at hs1
            have HS1 := Lib.hid hs1
            have E1 := Lib.hid e1
            have E2 := Lib.hid e2
            clear hs1 e1 e2 hno
            go_wp2_with fail
            refine (schemadecode_any _ _ _ _ _ _ _ FS [i'] hrr (by omega) (fz.mono (below_alloc _ _)) (HY.out _) _ _ E1.out E2.out).mono ?_
            rintro e w6 ⟨a6, n6, c6, rfl, z6, b6⟩
            have Bz6 := below_then (below_new' Bz (.cells #[.int .u8 (i' : Int)] 5)) b6
            go_wp2
            go_roundw
            case rel => exact ⟨i' + 1, c, by omega, by omega, by go_num, rfl, HS1.out.symm, Bz6⟩
            case measure => simp [intOf]; omega
          · have hyes : IsEnc FS [i'] := by
              by_cases h : IsEnc FS [i']
              · exact h
              · unfold decC at e1; rw [if_neg h] at e1; omega
            rw [if_pos (by simpa using hyes), ← hc.out] at hs1
            obtain ⟨dv, hdv⟩ : ∃ dv, decS FS [i'] = dv := ⟨_, rfl⟩
            rw [hdv] at e2
            have HS1 := Lib.hid hs1
            have E1 := Lib.hid e1
            have E2 := Lib.hid e2
            have E3 := Lib.hid hdv
            clear hs1 e1 e2 e3 hdv hyes
            go_wp2_with fail
            refine (schemadecode_any _ _ _ _ _ _ _ FS [i'] hrr (by omega) (fz.mono (below_alloc _ _)) (HY.out _) _ _ E3.out E1.out).mono ?_
            rintro e w6 ⟨a6, n6, c6, rfl, z6, b6⟩
            have Bz6 := below_then (below_new' Bz (.cells #[.int .u8 (i' : Int)] 5)) b6
            have f6 := (fz.mono (below_alloc _ (.cells #[.int .u8 (i' : Int)] 5))).mono b6
            go_wp2_with fail
            refine (schemain_any _ _ _ _ _ _ _ FS dv (by omega) f6 z6).mono ?_
            rintro e w7 ⟨rfl, b7⟩
            rw [E2.out]
            go_wp2
            go_roundw
            case rel => exact ⟨i' + 1, c + 1, by omega, by omega, by go_num, by go_num, HS1.out.symm, below_then Bz6 b7⟩
            case measure => simp [intOf]; omega
        · obtain rfl : i' = 256 := by omega
          have hcM : c = M := by rw [hc.out, HCNT.out]
          have q5 : ((c : Int) == (M : Int)) = true := by simp; omega
          clear hc
          go_wp2_with fail
          refine (schemadecode_any _ _ _ _ _ _ _ FS [] hrr (by omega) fz (bytesNone _) _ _ D0.out C0.out).mono ?_
          rintro e w6 ⟨a6, n6, c6, rfl, z6, b6⟩
          have f6 := fz.mono b6
          have Bz6 := below_then Bz b6
          go_wp2_with fail
          refine (schemadecode_any _ _ _ _ _ _ _ FS [0, 0] hrr (by omega) (f6.mono (below_alloc _ _)) (bytes_new w6 w6.heap.size rfl [0, 0] (by decide) 2 2 rfl (by omega) _ (by rfl)) _ _ D2.out C2.out).mono ?_
          rintro e w7 ⟨a7, n7, c7, rfl, z7, b7⟩
          have Bz7 := below_then (below_new' Bz6 (.cells #[.int .u8 0, .int .u8 0] 5)) b7
          go_wp2
          go_ret
          exact ⟨rfl, below_then Bel5 Bz7⟩
theorem schemaall_any (w : World) (a : Option Addr) (n ca : Nat) (b : Option Addr) (ns cs : Nat) (los : List Int) (sps : List Nat) (ha : n = 0 ∨ ∃ bk off, a = some ⟨bk, off, none⟩ ∧ bk < w.heap.size ∧ ∀ i, i < n → w.cell? ⟨bk, off + i, none⟩ = some (.int .i8 (los.getD i 0))) (hln : los.length = n) (hsn : n ≤ 9223372036854775807) (hlo : ∀ x ∈ los, -128 ≤ x ∧ x ≤ 127) (hb : BytesAt w b ns cs sps) :
    Calls Try.prog 6 #[.slice a n ca, .slice b ns cs] w fun e w' => e = .returned (.bool true) ∧ Below w.heap.size w w' := by
  by_cases h1 : 1 ≤ n
  case neg => exact all_few w a n ca b ns cs los sps ha hln hsn hlo hb (by omega)
  by_cases h5 : n ≤ 5
  case neg => exact all_many w a n ca b ns cs los sps ha hln hsn hlo hb (by omega)
  by_cases hne : ns = n
  · exact all_yes w a n ca b ns cs los sps ha hln hsn hlo hb h1 h5 hne
  · exact all_other w a n ca b ns cs los sps ha hln hsn hlo hb h1 h5 hne
end Go.Proofs.Ytblipgmllpniaaa
