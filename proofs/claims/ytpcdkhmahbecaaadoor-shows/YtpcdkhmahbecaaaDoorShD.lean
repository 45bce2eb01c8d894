/- Walks of Show: a word, a period. -/
import Derived.Test.YtpcdkhmahbecaaaDoorShC
import Derived.Test.YtpcdkhmahbecaaaDoorChB
import Derived.Lib.ItoaLen
namespace Go.Proofs.YtpcdkhmahbecaaaDoor
open Go.RowKit Db

/-- A numeral is short. -/
theorem itoa_short (n : Int) (h0 : -9223372036854775808 ≤ n) (h1 : n ≤ 9223372036854775807) {u : ByteArray} (hu : L u = Lib.itoa n) : u.size ≤ 21 := by
  rw [size_L, hu]; exact Lib.itoa_length_le n h0 h1
theorem opd_u8 {s : Int} (h : opdB s = true) : s = ((u8 s).toNat : Int) := by
  simp [opdB, selB, oldB] at h
  rcases h with (rfl | (rfl | rfl) | rfl) | rfl | rfl <;> rfl
theorem opB_u8 {s : Int} (h : opB s = true) : s = ((u8 s).toNat : Int) := by
  simp [opB] at h
  rcases h with ((rfl | rfl) | rfl) | rfl <;> rfl

set_option maxRecDepth 100000 in
set_option maxHeartbeats 1000000 in
theorem word_any (s n : Int) (w : World) (ho : opdB s = true) (h0 : -9223372036854775808 ≤ n) (h1 : n ≤ 9223372036854775807) (ht : Tab w) :
    Calls Tryd.prog 51 #[.agg #[.int .u8 s, .int .i64 n]] w fun e w' => ∃ u : ByteArray, e = .returned (.string u) ∧ L u = wordP (s, n) ∧ Below w.heap.size w w' := by
  have Ht := hide ht
  have Ho := hide ho
  by_cases h48 : s = 48
  · subst h48
    clear ho ht
    go_enter Tryd.func51, Tryd.ntmps51
    go_wp2_with fail
    refine (itoa_any n _ h0 h1 ((unhide Ht).below (by exact (Below.refl _ _).alloc (Nat.le_refl _) _))).mono ?_
    rintro e w1 ⟨u, rfl, hu, hb⟩
    have Hu := hide hu
    have Hb : Hid (Below w.heap.size w w1) := ((Below.refl _ _).alloc (Nat.le_refl _) _).then' (by simp) hb
    clear hu hb
    go_wp2_with fail
    go_ret
    exact ⟨u, rfl, unhide Hu, unhide Hb⟩
  · have n48 : (s == 48) = false := by simpa using h48
    have N48 := hide n48
    obtain ⟨c, hc⟩ : ∃ c : UInt8, u8 s = c := ⟨_, rfl⟩
    have hs := opd_u8 ho
    rw [hc] at hs
    subst hs
    clear h48 ho ht
    go_enter Tryd.func51, Tryd.ntmps51
    go_wp2_with fail
    refine (signText_any c _).mono ?_
    rintro e w1 ⟨u1, rfl, hu1, hb1⟩
    have f0 := hb1.cell (p := ⟨w.heap.size, 0, none⟩) (by simp)
    have f1 := hb1.cell (p := ⟨w.heap.size, 1, none⟩) (by simp)
    have hb1s := hb1.size
    simp at f0 f1 hb1s
    have hs1 : u1.size ≤ 1 := by rw [size_L, hu1]; exact Nat.le_refl _
    have Hu1 := hide hu1
    have Hb1 : Hid (Below w.heap.size w w1) := ((Below.refl _ _).alloc (Nat.le_refl _) _).then' (by simp) hb1
    clear hu1 hb1
    go_wp2_with fail
    refine (isOperand_any (c.toNat : Int) n _).mono ?_
    rintro e w2 ⟨rfl, hb2⟩
    have g1 := hb2.cell (p := ⟨w.heap.size, 1, none⟩) (by show w.heap.size < _; omega)
    rw [f1] at g1
    have hb2s := hb2.size
    have Hb2 := hide ((unhide Hb1).then hb2)
    rw [unhide Ho]
    clear hb2 f0 f1
    go_wp2_with fail
    refine (itoa_any n _ h0 h1 ((unhide Ht).below (unhide Hb2))).mono ?_
    rintro e w3 ⟨u3, rfl, hu3, hb3⟩
    have hs3 := itoa_short n h0 h1 hu3
    have Hu3 := hide hu3
    have Hb3 := hide ((unhide Hb2).then hb3)
    clear hu3 hb3
    go_wp2_with fail
    go_ret
    refine ⟨_, rfl, ?_, unhide Hb3⟩
    rw [L_append, unhide Hu1, unhide Hu3]
    unfold wordP
    simp only [unhide N48, hc]
    rfl

set_option maxRecDepth 100000 in
set_option maxHeartbeats 1000000 in
theorem showPeriod_any (a b : Int) (w : World) (a0 : 0 ≤ a) (a1 : a ≤ 999999) (b0 : 0 ≤ b) (b1 : b ≤ 999999) (ht : Tab w) :
    Calls Tryd.prog 26 #[.agg #[.int .i64 a, .int .i64 b]] w fun e w' => ∃ u : ByteArray, e = .returned (.string u) ∧ L u = Lib.itoa a ++ 45 :: Lib.itoa b ∧ Below w.heap.size w w' := by
  have Ht := hide ht
  clear ht
  go_enter Tryd.func26, Tryd.ntmps26
  go_wp2_with fail
  refine (itoa_any a _ (by omega) (by omega) ((unhide Ht).below (by exact (Below.refl _ _).alloc (Nat.le_refl _) _))).mono ?_
  rintro e w1 ⟨u1, rfl, hu1, hb1⟩
  have f1 := hb1.cell (p := ⟨w.heap.size, 1, none⟩) (by simp)
  simp at f1
  have hs1 := itoa_short a (by omega) (by omega) hu1
  have Hu1 := hide hu1
  have Hb1 : Hid (Below w.heap.size w w1) := ((Below.refl _ _).alloc (Nat.le_refl _) _).then' (by simp) hb1
  clear hu1 hb1
  go_wp2_with fail
  refine (itoa_any b _ (by omega) (by omega) ((unhide Ht).below (unhide Hb1))).mono ?_
  rintro e w2 ⟨u2, rfl, hu2, hb2⟩
  have hs2 := itoa_short b (by omega) (by omega) hu2
  have Hu2 := hide hu2
  have Hb2 := hide ((unhide Hb1).then hb2)
  clear hu2 hb2
  go_wp2_with fail
  go_ret
  refine ⟨_, rfl, ?_, unhide Hb2⟩
  rw [L_append, L_append, unhide Hu1, unhide Hu2]
  show Lib.itoa a ++ [45] ++ Lib.itoa b = _
  rw [List.append_assoc]; rfl

end Go.Proofs.YtpcdkhmahbecaaaDoor
