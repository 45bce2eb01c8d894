/- The form of a report, on: operands with a sign; where a text stops. -/
import Derived.Test.YtpcdkhmahbecaaaDoorParA
namespace Db

theorem sel_c {c : Int} (h : selB c = true) : ¬ c = 32 ∧ ¬ c = 45 ∧ ¬ c = 40 ∧ digB c = false := by
  simp [selB] at h; rcases h with (rfl | rfl) | rfl <;> simp [digB]
theorem old_c {c : Int} (h : oldB c = true) : ¬ c = 32 ∧ ¬ c = 45 ∧ ¬ c = 40 ∧ digB c = false ∧ selB c = false := by
  simp [oldB] at h; rcases h with rfl | rfl <;> simp [digB, selB]
theorem op_c {c : Int} (h : opB c = true) : ¬ c = 32 ∧ ¬ c = 40 ∧ ¬ c = 41 ∧ ¬ c = 59 ∧ digB c = false ∧ selB c = false ∧ oldB c = false := by
  simp [opB] at h; rcases h with ((rfl | rfl) | rfl) | rfl <;> simp [digB, selB, oldB]
theorem plc_sel1 {c : UInt8} (h : selB c.toNat = true) (d o i : Int) (r : List UInt8) : plc 6 d o i (c :: r) = plc 8 d o (i + 1) r := by
  have hn := sel_c h
  exact plc_step (by rw [stepS6]; unfold factS; simp [h, hn.1, hn.2.1, hn.2.2.1, hn.2.2.2])
theorem plc_old1 {c : UInt8} (h : oldB c.toNat = true) (d o i : Int) (r : List UInt8) : plc 6 d o i (c :: r) = plc 9 d o (i + 1) r := by
  have hn := old_c h
  exact plc_step (by rw [stepS6]; unfold factS; simp [h, hn.1, hn.2.1, hn.2.2.1, hn.2.2.2.1, hn.2.2.2.2])
theorem plc_sel (ds : List UInt8) (hdg : ∀ c ∈ ds, digB c.toNat = true) (h1 : 1 ≤ ds.length) (h2 : ds.length ≤ 2) (r : List UInt8) (he : ds.length = 2 ∨ digB (hd r) = false) (d o i : Int) : plc 8 d o i (ds ++ r) = plc 11 0 o (i + ds.length) r := by
  have s8 : ∀ x : UInt8, digB x.toNat = true → ∀ d, stepS 8 d o x.toNat = some (10, d, o) := fun x hx d => by rw [stepS8]; unfold factS; simp [hx]
  have s10 : ∀ x : UInt8, digB x.toNat = true → ∀ d, stepS 10 d o x.toNat = some (11, d, o) := fun x hx d => by rw [stepS10]; unfold onwS; simp [hx]
  match ds, h1, h2 with
  | [x], _, _ =>
    rw [List.cons_append, plc_step (s8 x (hdg x (by simp)) d)]
    simp only [List.length_cons, List.length_nil, List.nil_append] at he ⊢
    rw [plc_acc_end _ _ _ _ (by rcases he with he | he; omega; exact he)]
    rfl
  | [x, y], _, _ =>
    rw [List.cons_append, plc_step (s8 x (hdg x (by simp)) d), List.cons_append, plc_step (s10 y (hdg y (by simp)) d), plc_d _ 11 d 0 _ _ (by simp)]
    simp only [List.length_cons, List.length_nil, List.nil_append]
    congr 1
    omega
  | _ :: _ :: _ :: _, _, h2 => simp at h2
theorem plc_old (x : UInt8) (hx : digB x.toNat = true) (r : List UInt8) (d o i : Int) : plc 9 d o i (x :: r) = plc 11 0 o (i + 1) r := by
  rw [plc_step (show stepS 9 d o x.toNat = some (11, d, o) by rw [stepS9]; unfold factS; simp [hx]), plc_d _ 11 d 0 _ _ (by simp)]
theorem plc_fail8 (l : List UInt8) (h : digB (hd l) = false) (d o i : Int) : plc 8 d o i l = i := by
  cases l with
  | nil => rfl
  | cons c r => exact plc_stop (by rw [stepS8]; unfold factS; simp only [hd] at h; simp [h])
theorem plc_fail9 (l : List UInt8) (h : digB (hd l) = false) (d o i : Int) : plc 9 d o i l = i := by
  cases l with
  | nil => rfl
  | cons c r => exact plc_stop (by rw [stepS9]; unfold factS; simp only [hd] at h; simp [h])
theorem plc_fail6 (l : List UInt8) (h1 : ¬ hd l = 32) (h2 : ¬ hd l = 45) (h3 : ¬ hd l = 40) (h4 : digB (hd l) = false) (h5 : selB (hd l) = false) (h6 : oldB (hd l) = false) (d o i : Int) : plc 6 d o i l = i := by
  cases l with
  | nil => rfl
  | cons c r => exact plc_stop (by rw [stepS6]; unfold factS; simp only [hd] at *; simp [*])
theorem plc_neg {c : UInt8} (h : (c.toNat : Int) = 45) (d o i : Int) (r : List UInt8) : plc 6 d o i (c :: r) = plc 6 d o (i + 1) r :=
  plc_step (by rw [stepS6]; unfold factS; simp [h])
theorem plc_par {c : UInt8} (h : (c.toNat : Int) = 40) (d o i : Int) (r : List UInt8) : plc 6 d o i (c :: r) = plc 6 d (o + 1) (i + 1) r :=
  plc_step (by rw [stepS6]; unfold factS; simp [h])
theorem plc_op {c : UInt8} (h : opB c.toNat = true) (d o i : Int) (r : List UInt8) : plc 11 d o i (c :: r) = plc 6 d o (i + 1) r := by
  have hn := op_c h
  exact plc_step (by rw [stepS11]; unfold onwS; simp [h, hn.1])
theorem plc_shut {c : UInt8} (h : (c.toNat : Int) = 41) (d o i : Int) (ho : 0 ≤ o) (r : List UInt8) : plc 11 d (o + 1) i (c :: r) = plc 11 d o (i + 1) r := by
  have e : stepS 11 d (o + 1) c.toNat = some (11, d, o) := by
    rw [stepS11, h]; unfold onwS; simp [opB, show 0 < o + 1 by omega]
  exact plc_step e
theorem plc_row {c : UInt8} (h : (c.toNat : Int) = 59) (d i : Int) (r : List UInt8) : plc 11 d 0 i (c :: r) = plc 6 d 0 (i + 1) r :=
  plc_step (by rw [stepS11, h]; unfold onwS; simp [opB])
/-- Within brackets: nothing but ) or an operation goes on. -/
theorem plc_fail11 (l : List UInt8) (h1 : ¬ hd l = 32) (h2 : opB (hd l) = false) (h3 : ¬ hd l = 41) (d o i : Int) (ho : 0 ≤ o) : plc 11 d (o + 1) i l = i := by
  cases l with
  | nil => simp [plc]; omega
  | cons c r =>
    refine plc_stop ?_
    rw [stepS11]; unfold onwS; simp only [hd] at *
    simp [h1, h2, h3, show ¬ o + 1 = 0 by omega]
/-- Outside of them: nothing but ; or an operation goes on. -/
theorem plc_fail0 (l : List UInt8) (hn : l ≠ []) (h1 : ¬ hd l = 32) (h2 : opB (hd l) = false) (h3 : ¬ hd l = 59) (d i : Int) : plc 11 d 0 i l = i := by
  cases l with
  | nil => exact absurd rfl hn
  | cons c r =>
    refine plc_stop ?_
    rw [stepS11]; unfold onwS; simp only [hd] at *
    simp [h1, h2, h3]

end Db
