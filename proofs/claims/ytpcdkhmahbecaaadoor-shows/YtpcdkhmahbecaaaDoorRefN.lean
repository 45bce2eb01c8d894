/- Walks of the document's answer: show, whatever the row; a number's digits. -/
import Derived.Test.YtpcdkhmahbecaaaDoorRefM
namespace Go.Proofs.YtpcdkhmahbecaaaDoor
open Go.RowKit Db

theorem op_cases {o : Int} (h : opB o = true) : o = ((43 : UInt8).toNat : Int) ∨ o = ((45 : UInt8).toNat : Int) ∨ o = ((42 : UInt8).toNat : Int) ∨ o = ((47 : UInt8).toNat : Int) := by
  unfold opB at h
  simp only [Bool.or_eq_true, beq_iff_eq] at h
  simp
  omega

theorem show_any (n : Nat) : ShowC n := by
  induction n with
  | zero => intro s ps w hs hw; exact absurd hw (by simp [Wf])
  | succ n ih =>
    intro s ps w hs hw hl
    rcases hw with ⟨hc, hop⟩ | ⟨hc, hw⟩ | ⟨hc, p, hw, rfl⟩ | ⟨hc, p, q, hp, hq, rfl⟩
    · exact show_leaf s ps w hs hc hop
    · exact show_par n ih s ps w hs hc hw hl
    · exact show_neg n ih s p w hs hc hw (by simp at hl; omega)
    · simp only [List.length_append, List.length_cons, List.length_nil] at hl
      rcases op_cases hc with h | h | h | h
      · rw [h]; exact show_sum n ih s 43 p q w hs (.inl rfl) h hp hq (by omega) (by omega)
      · rw [h]; exact show_sum n ih s 45 p q w hs (.inr rfl) h hp hq (by omega) (by omega)
      · rw [h]; exact show_prod n ih s 42 p q w hs (.inl rfl) h hp hq (by omega) (by omega)
      · rw [h]; exact show_prod n ih s 47 p q w hs (.inr rfl) h hp hq (by omega) (by omega)

end Go.Proofs.YtpcdkhmahbecaaaDoor
