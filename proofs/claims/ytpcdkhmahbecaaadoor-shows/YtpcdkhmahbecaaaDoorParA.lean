/- The form of a report: how the document's spots go on over pieces of a text. -/
import Derived.Test.YtpcdkhmahbecaaaDoorCoreE
namespace Db

def hd : List UInt8 → Int
  | [] => 0
  | c :: _ => c.toNat
def Blanks (x : List UInt8) : Prop := ∀ c ∈ x, c.toNat = 32
theorem bare_blanks {x : List UInt8} (h : Blanks x) : bare x = [] := by
  unfold bare; rw [List.filter_eq_nil_iff]; intro c hc; simp [h c hc]

/-- Alike but for the digits, where these do not count. -/
def simD : Option (Int × Int × Int) → Option (Int × Int × Int) → Prop
  | none, none => True
  | some p, some q => p.1 = q.1 ∧ p.2.2 = q.2.2 ∧ (p.2.1 = q.2.1 ∨ p.1 = 6 ∨ p.1 = 8 ∨ p.1 = 9 ∨ p.1 = 10 ∨ p.1 = 11)
  | _, _ => False

/-- How many digits have been read does not count outside of days and numbers. -/
theorem plc_d (l : List UInt8) : ∀ (a d d' o i : Int), (a = 6 ∨ a = 8 ∨ a = 9 ∨ a = 10 ∨ a = 11) → plc a d o i l = plc a d' o i l := by
  induction l with
  | nil => intro a d d' o i _; rfl
  | cons c r ih =>
    intro a d d' o i ha
    have key : ∀ x y : Option (Int × Int × Int), simD x y →
        (match x with | none => i | some (a', d', o') => plc a' d' o' (i + 1) r) = (match y with | none => i | some (a', d', o') => plc a' d' o' (i + 1) r) := by
      intro x y h
      match x, y, h with
      | none, none, _ => rfl
      | some (a1, e1, o1), some (a2, e2, o2), ⟨h1, h2, h3⟩ =>
        simp only at h1 h2 h3 ⊢
        subst h1 h2
        rcases h3 with h3 | h3
        · rw [h3]
        · exact ih _ _ _ _ _ h3
    show (match stepS a d o c.toNat with | none => i | some (a', d', o') => plc a' d' o' (i + 1) r) = (match stepS a d' o c.toNat with | none => i | some (a', d', o') => plc a' d' o' (i + 1) r)
    apply key
    rcases ha with rfl | rfl | rfl | rfl | rfl
    · unfold stepS factS
      simp only [show ¬ (6 : Int) < 6 by omega, if_false]
      cases h1 : ((c.toNat : Int) == 32 || (c.toNat : Int) == 45) <;> cases h2 : ((c.toNat : Int) == 40) <;> cases h3 : digB c.toNat <;> cases h4 : selB c.toNat <;> cases h5 : oldB c.toNat <;> simp [simD]
    · unfold stepS factS
      simp only [show ¬ (8 : Int) < 6 by omega, if_false]
      cases h3 : digB c.toNat <;> simp [simD]
    · unfold stepS factS
      simp only [show ¬ (9 : Int) < 6 by omega, if_false]
      cases h3 : digB c.toNat <;> simp [simD]
    · unfold stepS onwS
      simp only [show ¬ (10 : Int) < 6 by omega, if_false]
      cases h1 : ((c.toNat : Int) == 32) <;> cases h3 : digB c.toNat <;> cases h4 : opB c.toNat <;> cases h5 : ((c.toNat : Int) == 59 && o == 0) <;> cases h7 : ((c.toNat : Int) == 41 && decide (0 < o)) <;> simp [simD]
    · unfold stepS onwS
      simp only [show ¬ (11 : Int) < 6 by omega, if_false]
      cases h1 : ((c.toNat : Int) == 32) <;> cases h4 : opB c.toNat <;> cases h5 : ((c.toNat : Int) == 59 && o == 0) <;> cases h7 : ((c.toNat : Int) == 41 && decide (0 < o)) <;> simp [simD]

theorem stepS_lt {a d o c : Int} (h : a < 6) : stepS a d o c = daysS a d o c := by unfold stepS; rw [if_pos h]
theorem stepS6 (d o c : Int) : stepS 6 d o c = factS 6 d o c := rfl
theorem stepS8 (d o c : Int) : stepS 8 d o c = factS 8 d o c := rfl
theorem stepS9 (d o c : Int) : stepS 9 d o c = factS 9 d o c := rfl
theorem stepS7 (d o c : Int) : stepS 7 d o c = onwS 7 d o c := rfl
theorem stepS10 (d o c : Int) : stepS 10 d o c = onwS 10 d o c := rfl
theorem stepS11 (d o c : Int) : stepS 11 d o c = onwS 11 d o c := rfl

/-- Blanks change nothing where the spot is between two things. -/
theorem plc_skip (a : Int) (ha : a = 0 ∨ a = 2 ∨ a = 3 ∨ a = 5 ∨ a = 6 ∨ a = 11) (x : List UInt8) (hx : Blanks x) : ∀ d o i r, plc a d o i (x ++ r) = plc a d o (i + x.length) r := by
  induction x with
  | nil => intro d o i r; simp
  | cons c t ih =>
    intro d o i r
    have hc : (c.toNat : Int) = 32 := by have := hx c (by simp); omega
    have hst : stepS a d o c.toNat = some (a, d, o) := by
      rw [hc]
      rcases ha with rfl | rfl | rfl | rfl | rfl | rfl <;> rfl
    rw [List.cons_append, plc_step hst, ih (fun y hy => hx y (by simp [hy]))]
    congr 1
    simp; omega
/-- Behind a complete operand a blank ends it. -/
theorem plc_skip' (a : Int) (ha : a = 7 ∨ a = 10 ∨ a = 11) (x : List UInt8) (hx : Blanks x) (hn : x ≠ []) (d o i : Int) (r : List UInt8) : plc a d o i (x ++ r) = plc 11 0 o (i + x.length) r := by
  match x, hn with
  | c :: t, _ =>
    have hc : (c.toNat : Int) = 32 := by have := hx c (by simp); omega
    have hst : stepS a d o c.toNat = some (11, d, o) := by
      rw [hc]
      rcases ha with rfl | rfl | rfl
      · rw [stepS7]; unfold onwS; simp [digB]
      · rw [stepS10]; unfold onwS; simp
      · rw [stepS11]; unfold onwS; simp
    rw [List.cons_append, plc_step hst, plc_d _ 11 d 0 _ _ (by simp), plc_skip 11 (by simp) t (fun y hy => hx y (by simp [hy]))]
    congr 1
    simp; omega
/-- A number that cannot go on is an operand that is complete. -/
theorem plc_num_end (m o i : Int) (l : List UInt8) (h : 18 ≤ m ∨ digB (hd l) = false) : plc 7 m o i l = plc 11 0 o i l := by
  cases l with
  | nil => rfl
  | cons c r =>
    rw [plc_d (c :: r) 11 0 m _ _ (by simp)]
    have : stepS 7 m o c.toNat = stepS 11 m o c.toNat := by
      rw [stepS7, stepS11]
      unfold onwS
      rcases h with h | h
      · simp [show ¬ m < 18 by omega]
      · simp only [hd] at h
        simp [h]
    simp only [plc, this]
theorem plc_acc_end (d o i : Int) (l : List UInt8) (h : digB (hd l) = false) : plc 10 d o i l = plc 11 0 o i l := by
  cases l with
  | nil => rfl
  | cons c r =>
    rw [plc_d (c :: r) 11 0 d _ _ (by simp)]
    have : stepS 10 d o c.toNat = stepS 11 d o c.toNat := by
      rw [stepS10, stepS11]
      unfold onwS
      simp only [hd] at h
      simp [h]
    simp only [plc, this]
/-- Digits of a number. -/
theorem plc_num (ds : List UInt8) (hd : ∀ c ∈ ds, digB c.toNat = true) : ∀ (m o i : Int) (r : List UInt8), 0 ≤ m → m + ds.length ≤ 18 → plc 7 m o i (ds ++ r) = plc 7 (m + ds.length) o (i + ds.length) r := by
  induction ds with
  | nil => intro m o i r _ _; simp
  | cons c t ih =>
    intro m o i r hm hl
    simp only [List.length_cons] at hl
    have hst : stepS 7 m o c.toNat = some (7, m + 1, o) := by
      rw [stepS7]; unfold onwS; simp [hd c (by simp), show m < 18 by omega]
    rw [List.cons_append, plc_step hst, ih (fun y hy => hd y (by simp [hy])) _ _ _ _ (by omega) (by omega)]
    simp only [List.length_cons]
    congr 1 <;> omega
theorem dig_c {c : Int} (h : digB c = true) : ¬ c = 32 ∧ ¬ c = 45 ∧ ¬ c = 40 := by simp [digB] at h; omega
theorem plc_number (ds : List UInt8) (hdg : ∀ c ∈ ds, digB c.toNat = true) (h1 : 1 ≤ ds.length) (h18 : ds.length ≤ 18) (r : List UInt8) (he : ds.length = 18 ∨ digB (hd r) = false) (d o i : Int) : plc 6 d o i (ds ++ r) = plc 11 0 o (i + ds.length) r := by
  match ds, h1 with
  | c :: t, _ =>
    have hc := hdg c (by simp)
    have hn := dig_c hc
    have hst : stepS 6 d o c.toNat = some (7, 1, o) := by
      rw [stepS6]; unfold factS; simp [hc, hn.1, hn.2.1, hn.2.2]
    simp only [List.length_cons] at h18 he ⊢
    rw [List.cons_append, plc_step hst, plc_num t (fun y hy => hdg y (by simp [hy])) _ _ _ _ (by omega) (by omega), plc_num_end _ _ _ _ (by rcases he with h | h; left; omega; right; exact h)]
    congr 1
    omega

end Db
