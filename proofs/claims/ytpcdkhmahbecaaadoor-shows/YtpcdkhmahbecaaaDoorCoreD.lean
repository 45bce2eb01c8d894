/- Facts on splitting. -/
import Derived.Test.YtpcdkhmahbecaaaDoorCoreC
namespace Db

theorem splitGo_plain (c : UInt8) (a : List UInt8) (h : ∀ x ∈ a, x ≠ c) : ∀ acc cur r, splitGo c acc cur (a ++ r) = splitGo c acc (cur ++ a) r := by
  induction a with
  | nil => intro acc cur r; simp
  | cons x t ih =>
    intro acc cur r
    simp only [List.cons_append, splitGo]
    rw [if_neg (h x (by simp)), ih (fun y hy => h y (by simp [hy]))]
    simp
theorem splitGo_acc (c : UInt8) (l : List UInt8) : ∀ acc cur, splitGo c acc cur l = acc ++ splitGo c [] cur l := by
  induction l with
  | nil => intro acc cur; simp [splitGo]
  | cons x t ih =>
    intro acc cur
    simp only [splitGo]
    split
    · rw [ih, ih ([] ++ [cur])]; simp
    · exact ih _ _
theorem split_one (c : UInt8) (a : List UInt8) (h : ∀ x ∈ a, x ≠ c) : split a c = [a] := by
  have := splitGo_plain c a h [] [] []
  simp only [List.append_nil, List.nil_append] at this
  unfold split; rw [this]; rfl
theorem split_cons (c : UInt8) (a r : List UInt8) (h : ∀ x ∈ a, x ≠ c) : split (a ++ c :: r) c = a :: split r c := by
  unfold split
  rw [splitGo_plain c a h]
  simp only [splitGo, if_true, List.nil_append]
  rw [splitGo_acc]; rfl
theorem split_two (c : UInt8) (a b : List UInt8) (ha : ∀ x ∈ a, x ≠ c) (hb : ∀ x ∈ b, x ≠ c) : split (a ++ c :: b) c = [a, b] := by
  rw [split_cons c a b ha, split_one c b hb]
theorem splitGo_le (c : UInt8) (l : List UInt8) : ∀ acc cur (m : Nat), (∀ p ∈ acc, p.length ≤ m) → cur.length + l.length ≤ m → (∀ p ∈ splitGo c acc cur l, p.length ≤ m) := by
  induction l with
  | nil =>
    intro acc cur m ha hc p hp
    simp [splitGo] at hp
    rcases hp with hp | rfl
    · exact ha p hp
    · simpa using hc
  | cons x t ih =>
    intro acc cur m ha hc
    simp only [splitGo]
    simp only [List.length_cons] at hc
    split
    · refine ih _ _ m ?_ (by simp; omega)
      intro p hp
      simp at hp
      rcases hp with hp | rfl
      · exact ha p hp
      · omega
    · exact ih _ _ m ha (by simp; omega)
theorem split_le (l : List UInt8) (c : UInt8) : ∀ p ∈ split l c, p.length ≤ l.length := splitGo_le c l [] [] l.length (by simp) (by simp)
theorem splitGo_len (c : UInt8) (l : List UInt8) : ∀ acc cur, (splitGo c acc cur l).length ≤ acc.length + l.length + 1 := by
  induction l with
  | nil => intro acc cur; simp [splitGo]
  | cons x t ih =>
    intro acc cur
    simp only [splitGo]
    split
    · have := ih (acc ++ [cur]) []
      simp at this ⊢; omega
    · have := ih acc (cur ++ [x])
      simp at this ⊢; omega
theorem split_len (l : List UInt8) (c : UInt8) : (split l c).length ≤ l.length + 1 := by
  have := splitGo_len c l [] []
  unfold split; simpa using this

/-- The digits of a day. -/
def dayS (d : List UInt8) : Prop := 1 ≤ d.length ∧ d.length ≤ 3 ∧ ∀ c ∈ d, digB c.toNat = true
theorem dayS_ne {d : List UInt8} (h : dayS d) (c : UInt8) (hc : digB c.toNat = false) : ∀ x ∈ d, x ≠ c := by
  intro x hx e
  subst e
  rw [h.2.2 x hx] at hc
  cases hc
/-- A report by its form, without its blanks: periods, rows. -/
structure Sht (l : List UInt8) (pd : List (List UInt8 × List UInt8)) (rows : List (List UInt8)) : Prop where
  parts : ∃ x y, split (bare l) 124 = [x, y] ∧ split x 44 = pd.map (fun p => p.1 ++ 45 :: p.2) ∧ split y 59 = rows
  days : ∀ p ∈ pd, dayS p.1 ∧ dayS p.2

end Db
