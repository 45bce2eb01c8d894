/- Walks of the document's answer: a number's digits. -/
import Derived.Test.YtpcdkhmahbecaaaDoorRefL
namespace Go.Proofs.YtpcdkhmahbecaaaDoor
open Go.RowKit Db

set_option maxRecDepth 100000 in
set_option maxHeartbeats 1000000 in
theorem unsigned_any (k : Nat) : ∀ (u : Nat) (w : World), u < k → u ≤ 999999 → k ≤ 1000000 →
    Calls Tryd.prog 33 #[.int .u64 (u : Int)] w fun e w' => ∃ s : ByteArray, e = .returned (.string s) ∧ L s = Lib.decDigits u ∧ s.size ≤ k ∧ Below w.heap.size w w' := by
  induction k with
  | zero => intro u w h; omega
  | succ k ih =>
    intro u w hk hu hkm
    obtain ⟨c, hc⟩ : ∃ c : UInt8, UInt8.ofNat (48 + u % 10) = c := ⟨_, rfl⟩
    have hcn : 48 + (u : Int) % 10 = (c.toNat : Int) := by
      rw [← hc]
      have : (UInt8.ofNat (48 + u % 10)).toNat = 48 + u % 10 := by simp; omega
      omega
    have hcv : (convert 87 9 (.slice (some ⟨w.heap.size, 0, none⟩) 1 1)).run Tryd.prog (w.alloc (.cells #[.int .u8 (48 + (u : Int) % 10)] 5)) = .ok (.string ⟨#[c]⟩) (w.alloc (.cells #[.int .u8 (48 + (u : Int) % 10)] 5)) :=
      conv_one c _ _ (by rw [hcn]; simp)
    have Hih := hide ih
    have Hc := hide hc
    clear ih hc hcn
    go_enter Tryd.func33, Tryd.ntmps33
    by_cases h10 : u < 10
    · have hd : decide ((u : Int) < 10) = true := by simp; omega
      go_wp2_with fail
      go_ret
      refine ⟨_, rfl, ?_, by show 1 ≤ _; omega, (Below.refl _ _).alloc (Nat.le_refl _) _⟩
      unfold Lib.decDigits
      rw [dif_pos h10, ← unhide Hc, Nat.mod_eq_of_lt h10]
      rfl
    · have hd : decide ((u : Int) < 10) = false := by simp; omega
      go_wp2_with fail
      rw [show (u : Int) / 10 = ((u / 10 : Nat) : Int) by omega]
      refine (unhide Hih (u / 10) _ (by omega) (by omega) (by omega)).mono ?_
      rintro e w1 ⟨s, rfl, hs, hsz, hb⟩
      have Hs := hide hs
      have Hb := hide hb
      have hszz : s.size ≤ 1000000 := by omega
      clear hs hb
      go_wp2_with fail
      go_ret
      refine ⟨_, rfl, ?_, ?_, ?_⟩
      · rw [L_append, unhide Hs]
        conv => rhs; unfold Lib.decDigits
        rw [dif_neg h10, ← unhide Hc]
        rfl
      · rw [size_L, L_append, List.length_append, L_length s]
        show s.size + 1 ≤ _
        omega
      · exact ((Below.refl _ _).alloc (Nat.le_refl _) _).then' (by simp) (unhide Hb)

set_option maxHeartbeats 1000000 in
theorem number10_any (u : Nat) (w : World) (hu : u ≤ 999) :
    Calls Tryd.prog 13 #[.int .i64 (u : Int)] w fun e w' => ∃ s : ByteArray, e = .returned (.string s) ∧ L s = Lib.decDigits u ∧ Below w.heap.size w w' := by
  have hd : decide ((u : Int) < 0) = false := by simp
  go_enter Tryd.func13, Tryd.ntmps13
  go_wp2_with fail
  refine (unsigned_any 1000 u _ (by omega) (by omega) (by omega)).mono ?_
  rintro e w1 ⟨s, rfl, hs, hsz, hb⟩
  have Hs := hide hs
  have Hb := hide hb
  clear hs hb
  go_wp2_with fail
  go_ret
  exact ⟨s, rfl, unhide Hs, unhide Hb⟩

end Go.Proofs.YtpcdkhmahbecaaaDoor
