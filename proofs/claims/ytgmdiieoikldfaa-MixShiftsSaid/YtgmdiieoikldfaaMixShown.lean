/- The head of all statements of layer 3: the document's example holds. -/
import Derived.Test.YtgmdiieoikldfaaMixPlaces
import Derived.Lib.SlBytesConst
namespace Go.Proofs.Ytgmdiieoikldfaa
open Go.RowKit
set_option linter.unusedVariables false

theorem bytesNil (w : World) : BytesAt w none 0 0 [] := ⟨rfl, by omega, by simp, fun _ => ⟨rfl, rfl⟩, .inl rfl⟩
theorem bytesOne (w : World) (c : Nat) (fr : Nat × Nat) (hc : c < 256) : BytesAt (w.alloc (.cells #[.int .u8 (c : Int)] 5 fr)) (some ⟨w.heap.size, 0, none⟩) 1 1 [c] := by
  refine ⟨rfl, by omega, by simpa using hc, nofun, .inr ⟨_, 0, rfl, by simp, fun i hi => ?_⟩⟩
  obtain rfl : i = 0 := by omega
  rw [World.cell?_alloc_mark]; rfl

set_option maxHeartbeats 1000000 in
theorem shown_any (w : World) : Calls Try.prog 7 #[] w fun e w' => e = .returned (.bool true) ∧ Below w.heap.size w w' := by
  have p1 : placeS 17 5 = 2 := by decide
  have p2 : placeS 17 0 = 0 := by decide
  have q1 : (((hashS [97] 1 : Nat) : Int) == ((hashS [98] 1 : Nat) : Int)) = false := by decide +kernel
  have q2 : (((hashS [97] 1 : Nat) : Int) != ((hashS [98] 1 : Nat) : Int)) = true := by decide +kernel
  have kc := fun (w : World) (C : Array Value) (n c : Nat) => Lib.run_convert_bytes_const (P := Try.prog) w 22 5 C n c Try.underlying22 Try.underlying5
  go_enter Try.func7, Try.ntmps7
  go_wp2_with fail
  refine (mixPlace_any _ 17 5 (by decide) (by decide) (by decide)).mono ?_
  rintro e w1 ⟨rfl, rfl⟩
  go_wp2_with fail
  refine (mixPlace_any _ 17 0 (by decide) (by decide) (by decide)).mono ?_
  rintro e w1 ⟨rfl, rfl⟩
  go_wp2_with fail
  refine (mixHash_any _ none 0 0 [] 0 (by decide) (bytesNil _)).mono ?_
  rintro e w1 ⟨rfl, b1⟩
  go_wp2_with fail
  refine (refHash_any _ none 0 0 [] 0 (by decide) (bytesNil _)).mono ?_
  rintro e w2 ⟨rfl, rfl⟩
  go_wp2_with fail
  refine (mixHash_any _ (some ⟨w1.heap.size, 0, none⟩) 1 1 [97] 1 (by decide) (bytesOne w1 97 (1, 2) (by decide))).mono ?_
  rintro e w2 ⟨rfl, b2⟩
  go_wp2_with fail
  refine (mixHash_any _ (some ⟨w2.heap.size, 0, none⟩) 1 1 [98] 1 (by decide) (bytesOne w2 98 (1, 2) (by decide))).mono ?_
  rintro e w3 ⟨rfl, b3⟩
  go_wp2_with fail
  refine (mixPlaces_any _ (some ⟨w3.heap.size, 0, none⟩) 1 1 [97] 0 (by decide) 3 (by decide) 7 (by decide) (by decide) (bytesOne w3 97 (1, 2) (by decide))).mono ?_
  rintro e w4 ⟨a, cap, rfl, _, _, hi, b4⟩
  go_wp2
  go_ret
  refine ⟨rfl, ?_⟩
  have s1 := b1.size
  have s2 := b2.size
  have s3 := b3.size
  simp at s2 s3
  exact ((((b1.alloc (by omega) _).trans (b2.mono (by simp; omega))).alloc (by omega) _).trans (b3.mono (by simp; omega))).alloc (by omega) _ |>.trans (b4.mono (by simp; omega))
end Go.Proofs.Ytgmdiieoikldfaa
