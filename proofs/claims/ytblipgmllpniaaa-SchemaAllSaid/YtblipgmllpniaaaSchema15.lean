/- Contract of the document's Decode. -/
import Derived.Test.YtblipgmllpniaaaSchema14
import Derived.Test.YtblipgmllpniaaaBitsRef7
import Derived.Test.YtblipgmllpniaaaSchemaBack
namespace Go.Proofs.Ytblipgmllpniaaa
open Go.RowKit
set_option linter.unusedVariables false

theorem refdecode_len (w : World) (a : Option Addr) (len cap : Nat) (b : Option Addr) (len' cap' : Nat) (fs : List (Int × Int)) (hr : ∀ f ∈ fs, RightF f) (hlen : len ≤ 40) (hl : FieldsAt w a len fs) (hs : len' ≤ 9223372036854775807) (hne : len' ≠ bytesF fs) :
    Calls Try.prog 15 #[.slice a len cap, .slice b len' cap'] w (VecOut [] 2 w) := by
  obtain ⟨T, hT⟩ : ∃ T, T = bytesF fs := ⟨_, rfl⟩
  rw [← hT] at hne
  have HT := Lib.hid hT
  clear hT
  have d1 : ((len' : Int) != (T : Int)) = true := by simp; omega
  go_enter Try.func15, Try.ntmps15
  go_wp2_with fail
  refine (refbytes_any _ a len cap fs hr hlen hl).mono ?_
  rintro e w1 ⟨rfl, b1⟩
  rw [← HT.out]
  go_wp2
  go_ret2
  exact ⟨_, _, _, rfl, intsNone _, b1⟩
theorem bitsF_le_all (fs : List (Int × Int)) (j : Nat) : bitsF (fs.take j) ≤ bitsF fs := by
  have key : ∀ k m, bitsF (fs.take (k)) ≤ bitsF (fs.take (k + m)) := by
    intro k m
    induction m with
    | zero => exact Nat.le_refl _
    | succ m ih =>
      by_cases hk : k + m < fs.length
      · have := bitsF_step fs (k + m) hk
        rw [show k + (m + 1) = k + m + 1 from by omega]; omega
      · rw [List.take_of_length_le (by omega : fs.length ≤ k + (m + 1))]
        rw [List.take_of_length_le (by omega : fs.length ≤ k + m)] at ih
        exact ih
  by_cases hj : j ≤ fs.length
  · have := key j (fs.length - j)
    rwa [show j + (fs.length - j) = fs.length from by omega, List.take_length] at this
  · rw [List.take_of_length_le (by omega)]; exact Nat.le_refl _
set_option maxHeartbeats 2000000 in
theorem refdecode_go (w : World) (a : Option Addr) (len cap : Nat) (b : Option Addr) (len' cap' : Nat) (fs : List (Int × Int)) (bl : List Nat) (hr : ∀ f ∈ fs, RightF f) (hlen : len ≤ 40) (hl : FieldsAt w a len fs) (hb : BytesAt w b len' cap' bl) (hn : bl.length = bytesF fs)
    (vs : List Int) (c : Int) (hv : decS fs bl = vs) (hc : decC fs bl = c) :
    Calls Try.prog 15 #[.slice a len cap, .slice b len' cap'] w (VecOut vs c w) := by
  have hbl := bitsF_le fs hr fs.length (Nat.le_refl _)
  rw [List.take_length, hl.len_eq] at hbl
  have hb2 : bytesF fs ≤ 1000 := by unfold bytesF; split <;> omega
  have hle : bitsF fs ≤ 8 * bytesF fs := bytesF_bits fs
  have hlb := hb.len_eq
  have hT : bytesF fs = len' := by omega
  have hbb : BytesAt w b len' cap' (pack (bitsOf bl)) := by rw [pack_bitsOf hb.byte]; exact hb
  have hbits := bitsOf_bits bl
  have hblen := bitsOf_length bl
  obtain ⟨Bs, hBs⟩ : ∃ Bs, Bs = bitsOf bl := ⟨_, rfl⟩
  rw [← hBs] at hbb hbits hblen
  rw [hlb] at hblen
  rw [hT] at hle hb2
  have hstep : ∀ j, j < fs.length → takeS Bs (bitsF (fs.take j) : Nat) (wideF (fs.getD j (0, 0)) : Nat) = (valOf (cutBits (bitsOf bl) (bitsF (fs.take j)) (wideF (fs.getD j (0, 0)))), 0) ∧ bitsF (fs.take j) ≤ 1000 ∧ valOf (cutBits (bitsOf bl) (bitsF (fs.take j)) (wideF (fs.getD j (0, 0)))) < 65536 := by
    intro j hj
    have h1 := bitsF_le fs hr j (by omega)
    have h2 := bitsF_step fs j hj
    have h3 := wideF_le _ (hr _ (getD_mem hj))
    have h4 := bitsF_le_all fs (j + 1)
    have hll := hl.len_eq
    refine ⟨?_, by omega, ?_⟩
    · rw [takeS_here _ _ _ (by omega) (by omega), hBs]
    · have h5 := valOf_lt _ (cutBits_bits (bitsOf_bits bl) (bitsF (fs.take j)) (wideF (fs.getD j (0, 0))))
      rw [cutBits_length _ _ _ (by rw [← hBs]; omega)] at h5
      have h6 : 2 ^ wideF (fs.getD j (0, 0)) ≤ 2 ^ 16 := Nat.pow_le_pow_right (by omega) h3
      simpa using Nat.lt_of_lt_of_le h5 h6
  obtain ⟨Dv, hDv⟩ : ∃ Dv, Dv = decTo fs bl fs.length := ⟨_, rfl⟩
  have hDl : Dv.length = len := by rw [hDv, decTo_length, hl.len_eq]
  obtain ⟨bc, hbc⟩ : ∃ bc, (if inS fs Dv = 0 then encS fs Dv else []) = bc := ⟨_, rfl⟩
  have hres : (inS fs Dv ≠ 0 → vs = [] ∧ c = 2) ∧ (inS fs Dv = 0 → bc ≠ bl → vs = [] ∧ c = 2) ∧ (inS fs Dv = 0 → bc = bl → vs = Dv ∧ c = 0) := by
    have hED := encS_dec fs bl hb.byte hn
    rw [← hDv] at hED
    have hno : ¬ IsEnc fs bl → vs = [] ∧ c = 2 := fun h => by
      rw [← hv, ← hc]
      unfold decS decC
      rw [if_neg h, if_neg h]
      exact ⟨rfl, rfl⟩
    refine ⟨fun h => hno fun he => h ?_, fun h0 h => hno fun he => h ?_, fun h0 h => ?_⟩
    · unfold inS
      rw [if_neg (by rw [hDv, decTo_length]; omega), if_pos (by rw [hDv]; exact he.2.2)]
    · rw [← hbc, if_pos h0]; exact hED.2 he.2.1
    · rw [← hbc, if_pos h0] at h
      have hyes : IsEnc fs bl := ⟨hn, hED.1 h, by rw [← hDv]; exact (inS_zero h0).2⟩
      rw [← hv, ← hc]
      unfold decS decC
      rw [if_pos hyes, if_pos hyes, ← hDv]
      exact ⟨rfl, rfl⟩
  have HL := Lib.hid hl.len_eq
  have HT := Lib.hid hT
  have HSTEP := Lib.hid hstep
  have HRES := Lib.hid hres
  have HBC := Lib.hid hbc
  have HDV := Lib.hid hDv
  have hN8 : 8 * (len' : Int) = (Bs.length : Int) := by omega
  have HN8 := Lib.hid hN8
  have hBsl : Bs.length ≤ 8000 := by omega
  have hll' : len' ≤ 1000 := hb2
  have d1 : ((len' : Int) != (len' : Int)) = false := by simp
  clear hstep hres hn hlb hblen hBs hDv hv hc hN8 hT hbc
  go_enter Try.func15, Try.ntmps15
  go_wp2_with fail
  refine (refbytes_any _ a len cap fs hr hlen hl).mono ?_
  rintro e w1 ⟨rfl, b1⟩
  rw [HT.out]
  go_wp2
  have hB0 : w.heap.size ≤ w1.heap.size := b1.size
  have own0 : w1.ownsRow w1.heap.size 3 1 (.slice none 0 0) 0 ((decTo fs bl 0).map (Value.int .i64)) := World.ownsRow_nil _ _ _ _
  obtain ⟨B, hB⟩ : ∃ B, B = w1.heap.size := ⟨_, rfl⟩
  have hBz : B ≤ w1.heap.size := by omega
  rw [← hB] at own0 hB0
  clear hB
  go_loopw [6, 7, 8] (fun at_ v i wr => ∃ (j : Nat) (p : Option Addr) (q : Nat), j ≤ len ∧ i = .int .i64 (j : Int) ∧ at_ = .int .i64 (bitsF (fs.take j) : Nat) ∧ v = .slice p j q ∧ wr.ownsRow B 3 1 (.slice p j q) j ((decTo fs bl j).map (Value.int .i64)) ∧ B ≤ wr.heap.size ∧ Below w.heap.size w wr) (fun _ _ i _ => len - (intOf i).toNat)
  case atStart => exact ⟨0, none, 0, by omega, rfl, rfl, rfl, own0, hBz, b1⟩
  case round =>
    obtain ⟨j, p, q, hj, rfl, rfl, rfl, own, hBr, Bel⟩ := hrel
    clear own0 b1 hBz
    have OWN := Lib.hid own
    clear own
    by_cases hlt : j < len
    · obtain ⟨bk, off, rfl, hbk0, hcl0⟩ := hl.at_.resolve_left (by omega)
      have hbk := Nat.lt_of_lt_of_le hbk0 Bel.size
      have c1 := (Bel.cell (p := ⟨bk, off + j * 2, none⟩) hbk0).trans (hcl0 j hlt).1
      have c2 := (Bel.cell (p := ⟨bk, off + j * 2 + 1, none⟩) hbk0).trans (hcl0 j hlt).2
      have hjl : j < fs.length := by rw [HL.out]; exact hlt
      have hrf := hr _ (getD_mem hjl)
      have hw16 := wideF_le _ hrf
      obtain ⟨st1, st2, st4⟩ := HSTEP.out j hjl
      have hst := bitsF_step fs j hjl
      have hjlt : (j : Int) < (len : Int) := by omega
      have hdt := decTo_snoc fs bl j
      unfold decAt at hdt
      obtain ⟨v, hv⟩ : ∃ v, v = valOf (cutBits (bitsOf bl) (bitsF (fs.take j)) (wideF (fs.getD j (0, 0)))) := ⟨_, rfl⟩
      rw [← hv] at st1 st4 hdt
      obtain ⟨A, hA⟩ : ∃ A, A = bitsF (fs.take j) := ⟨_, rfl⟩
      obtain ⟨A', hA'⟩ : ∃ A', A' = bitsF (fs.take (j + 1)) := ⟨_, rfl⟩
      rw [← hA] at st1 st2 hst ⊢
      rw [← hA'] at hst
      generalize fs.getD j (0, 0) = f at *
      obtain ⟨lo, hi'⟩ := f
      simp only at c1 c2 hdt
      obtain ⟨Kw, hKw⟩ : ∃ Kw, Kw = wideF (lo, hi') := ⟨_, rfl⟩
      rw [← hKw] at st1 hst hw16
      have hr' := hrf
      unfold RightF at hr'
      simp at hr'
      have HT1 := Lib.hid st1
      have HDT := Lib.hid hdt
      have HA' := Lib.hid hA'
      have HKW := Lib.hid hKw
      have HST := Lib.hid hst
      have hbyr := hbb.mono Bel
      clear st1 hdt hv hA hA' hKw hst hcl0
      go_wp2_with fail
      refine (schemarefwide_any _ lo hi' hrf).mono ?_
      rintro e w2 ⟨rfl, b2⟩
      rw [← HKW.out]
      have hby2 := hbyr.mono b2
      have d10 := (b2.cell (p := ⟨bk, off + j * 2, none⟩) hbk).trans c1
      have d11 := (b2.cell (p := ⟨bk, off + j * 2 + 1, none⟩) hbk).trans c2
      have hbk2 := Nat.lt_of_lt_of_le hbk b2.size
      go_wp2_with fail
      refine (reftake_any _ _ _ _ Bs hbits (by omega) (A : Int) (Kw : Int) (by omega) (by omega) (by omega) (by omega) hby2 _ _ HT1.out _ HN8.out).mono ?_
      rintro e w3 ⟨rfl, b3⟩
      have d20 := (b3.cell (p := ⟨bk, off + j * 2, none⟩) hbk2).trans d10
      have d21 := (b3.cell (p := ⟨bk, off + j * 2 + 1, none⟩) hbk2).trans d11
      have hbk3 := Nat.lt_of_lt_of_le hbk2 b3.size
      have O3 := Lib.hid (own_below (own_below OWN.out b2) b3)
      have Bel3 := below_then (below_then Bel b2) b3
      have hB3 : B ≤ w3.heap.size := Nat.le_trans hBr (Nat.le_trans b2.size b3.size)
      have hs3 := Bel3.size
      have hsum1 : -9223372036854775808 ≤ lo + (v : Int) := by omega
      have hsum2 : lo + (v : Int) ≤ 9223372036854775807 := by omega
      clear c1 c2 d10 d11
      go_wp2_with ((at_builtin; refine append_any rfl (.tmp 39) (.tmp 48) 23 rfl B 3 (.int .i64 0) 8 Try.underlying23 Try.info_int rfl _ j ((decTo fs bl j).map (Value.int .i64)) rfl ?_ (some ⟨w3.heap.size, 0, none⟩) 1 1 [.int .i64 (lo + (v : Int))] rfl ?_ ?_ ?_ ?_ ?_ ?_ ?_ ?_; exact O3.out.alloc _; exact nofun; exact rfl; exact (fun ad ha => by obtain rfl := Option.some.inj ha; exact cell_one_new _ _ _); exact oneCell_i64 _; (unfold maxLen; omega); omega; (simp; omega); intro v4 w4 own4 bel4; have O4 := Lib.hid own4; have hb4 := bel4.size; simp at hb4; have e40 : w4.cell? ⟨bk, off + j * 2, none⟩ = some (.int .i64 lo) := (bel4.cell (p := ⟨bk, off + j * 2, none⟩) (Nat.lt_of_lt_of_le hbk0 hB0)).trans (cellAlloc _ _ d20); have e41 : w4.cell? ⟨bk, off + j * 2 + 1, none⟩ = some (.int .i64 hi') := (bel4.cell (p := ⟨bk, off + j * 2 + 1, none⟩) (Nat.lt_of_lt_of_le hbk0 hB0)).trans (cellAlloc _ _ d21); clear own4))
      refine (schemarefwide_any _ lo hi' hrf).mono ?_
      rintro e w5 ⟨rfl, b5⟩
      rw [← HKW.out]
      obtain ⟨p4, q4, hv4, _⟩ := own_slice O4.out
      have O5 := own_below O4.out b5
      have hnew : (decTo fs bl j).map (Value.int .i64) ++ [Value.int .i64 (lo + (v : Int))] = (decTo fs bl (j + 1)).map (Value.int .i64) := by rw [HDT.out]; simp
      rw [hnew, hv4] at O5
      have O6 := Lib.hid O5
      have hB5 : B ≤ w5.heap.size := by have := b5.size; omega
      have Bel4 : Below w.heap.size w w4 := (Bel3.alloc hs3 _).trans (bel4.mono hB0)
      have Bel5 := below_then Bel4 b5
      clear hnew O5 O4 O3 OWN e40 e41 d20 d21
      go_wp2
      go_roundw
      case rel => exact ⟨j + 1, p4, q4, by omega, by go_num, by rw [← HA'.out, HST.out]; go_num, rfl, O6.out, hB5, Bel5⟩
      case measure => simp [intOf]; omega
    · obtain rfl : j = len := by omega
      have hown := OWN.out
      rw [show decTo fs bl j = Dv from by rw [HDV.out, HL.out]] at hown
      obtain ⟨p2, q2, e2, iv⟩ := ownInts hown (by omega)
      simp at e2
      obtain ⟨rfl, rfl⟩ := e2
      have hbw := hb.mono Bel
      obtain ⟨hR1, hR2, hR3⟩ := HRES.out
      have HR1 := Lib.hid hR1
      have HR2 := Lib.hid hR2
      have HR3 := Lib.hid hR3
      clear hR1 hR2 hR3 hown OWN
      by_cases hin : inS fs Dv = 0
      case neg =>
        have HVC := Lib.hid (HR1.out hin)
        obtain ⟨C, hC⟩ : ∃ C, inS fs Dv = C := ⟨_, rfl⟩
        have d3 : (C != 0) = true := by rw [← hC]; simpa using hin
        have HC := Lib.hid hC
        have HE := Lib.hid (show (if C = 0 then encS fs Dv else []) = [] by rw [← hC]; exact if_neg hin)
        clear hC hin
        go_wp2_with fail
        refine (refencode_any _ a j cap p j q fs Dv hr (by omega) (hl.mono Bel) iv _ C HC.out HE.out).mono ?_
        rintro e w6 ⟨ea, en, ec, rfl, y6, b6⟩
        go_wp2
        go_ret2
        rw [HVC.out.1, HVC.out.2]
        exact ⟨_, _, _, rfl, intsNone _, below_then Bel b6⟩
      have HE := Lib.hid (show (if (0 : Int) = 0 then encS fs Dv else []) = bc by rw [← HBC.out, if_pos hin, if_pos rfl])
      have HIN := Lib.hid hin
      by_cases hbe : bc = bl
      · have HVC := Lib.hid (HR3.out hin hbe)
        have HE' := Lib.hid (HE.out.trans hbe)
        clear hin hbe
        go_wp2_with fail
        refine (refencode_any _ a j cap p j q fs Dv hr (by omega) (hl.mono Bel) iv _ 0 HIN.out HE'.out).mono ?_
        rintro e w6 ⟨ea, en, ec, rfl, y6, b6⟩
        have cv1 := str_eq y6 _ rfl
        have cv2 := str_eq (hbw.mono b6) _ rfl
        go_wp2
        go_ret2
        rw [HVC.out.1, HVC.out.2]
        exact ⟨_, _, _, rfl, iv.mono b6, below_then Bel b6⟩
      · have HVC := Lib.hid (HR2.out hin hbe)
        have hbc256 : ∀ n ∈ bc, n < 256 := by rw [← HBC.out, if_pos hin]; exact encS_lt fs Dv
        have hn1 : ((strOfNums (bc.map fun (c : Nat) => (c : Int))).toList == (strOfNums (bl.map fun (c : Nat) => (c : Int))).toList) = false := by
          rw [Lib.strOfNums_toList, Lib.strOfNums_toList, bytesOf_eq _ _ hbc256 hb.byte]
          simpa using hbe
        have hn2 : ((strOfNums (bc.map fun (c : Nat) => (c : Int))).toList != (strOfNums (bl.map fun (c : Nat) => (c : Int))).toList) = true := by
          rw [bne, hn1]; rfl
        clear hin hbe
        go_wp2_with fail
        refine (refencode_any _ a j cap p j q fs Dv hr (by omega) (hl.mono Bel) iv _ 0 HIN.out HE.out).mono ?_
        rintro e w6 ⟨ea, en, ec, rfl, y6, b6⟩
        have cv1 := str_eq y6 _ rfl
        have cv2 := str_eq (hbw.mono b6) _ rfl
        go_wp2
        go_ret2
        rw [HVC.out.1, HVC.out.2]
        exact ⟨_, _, _, rfl, intsNone _, below_then Bel b6⟩
theorem refdecode_any (w : World) (a : Option Addr) (len cap : Nat) (b : Option Addr) (len' cap' : Nat) (fs : List (Int × Int)) (bl : List Nat) (hr : ∀ f ∈ fs, RightF f) (hlen : len ≤ 40) (hl : FieldsAt w a len fs) (hb : BytesAt w b len' cap' bl) (vs : List Int) (c : Int) (hv : decS fs bl = vs) (hc : decC fs bl = c) :
    Calls Try.prog 15 #[.slice a len cap, .slice b len' cap'] w (VecOut vs c w) := by
  by_cases hn : bl.length = bytesF fs
  · exact refdecode_go w a len cap b len' cap' fs bl hr hlen hl hb hn vs c hv hc
  · have hno : ¬ IsEnc fs bl := fun h => hn h.1
    unfold decS at hv
    unfold decC at hc
    rw [if_neg hno] at hv hc
    subst hv hc
    exact refdecode_len w a len cap b len' cap' fs hr hlen hl hb.small (by rw [← hb.len_eq]; exact hn)
end Go.Proofs.Ytblipgmllpniaaa
