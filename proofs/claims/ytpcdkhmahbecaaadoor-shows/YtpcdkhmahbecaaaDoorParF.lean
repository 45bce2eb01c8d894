/- Days, periods, rows of a report: how the document's spots go over them. -/
import Derived.Test.YtpcdkhmahbecaaaDoorParE
namespace Db

theorem plc_d0 (a : Int) (ha : a = 0 ∨ a = 3) (l : List UInt8) : ∀ d d' o i : Int, plc a d o i l = plc a d' o i l := by
  induction l with
  | nil => intro d d' o i; rfl
  | cons c r ih =>
    intro d d' o i
    have key : ∀ e, stepS a e o c.toNat = if digB c.toNat then some (a + 1, 1, o) else if (c.toNat : Int) == 32 then some (a, e, o) else none := by
      intro e
      rcases ha with rfl | rfl
      · rw [stepS_lt (by omega)]; unfold daysS; cases h : digB c.toNat <;> cases h2 : ((c.toNat : Int) == 32) <;> simp
      · rw [stepS_lt (by omega)]; unfold daysS; cases h : digB c.toNat <;> cases h2 : ((c.toNat : Int) == 32) <;> simp
    simp only [plc, key]
    cases h : digB c.toNat
    · cases h2 : ((c.toNat : Int) == 32)
      · simp
      · simpa using ih d d' o (i + 1)
    · simp
theorem plc_dayDigits (a : Int) (ha : a = 1 ∨ a = 4) (ds : List UInt8) (h : ∀ c ∈ ds, digB c.toNat = true) : ∀ (m o i : Int) (r : List UInt8), m + ds.length ≤ 3 → plc a m o i (ds ++ r) = plc a (m + ds.length) o (i + ds.length) r := by
  induction ds with
  | nil => intro m o i r _; simp
  | cons c t ih =>
    intro m o i r hl
    simp only [List.length_cons] at hl
    have hc := h c (by simp)
    have hst : stepS a m o c.toNat = some (a, m + 1, o) := by
      rcases ha with rfl | rfl
      · rw [stepS_lt (by omega)]; unfold daysS; simp [hc, show m < 3 by omega]
      · rw [stepS_lt (by omega)]; unfold daysS; simp [hc, show m < 3 by omega]
    rw [List.cons_append, plc_step hst, ih (fun y hy => h y (by simp [hy])) _ _ _ _ (by omega)]
    simp only [List.length_cons]
    congr 1 <;> omega
/-- A day. -/
theorem plc_day (a : Int) (ha : a = 0 ∨ a = 3) (ds : List UInt8) (h : dayS ds) (d o i : Int) (r : List UInt8) : plc a d o i (ds ++ r) = plc (a + 1) ds.length o (i + ds.length) r := by
  obtain ⟨h1, h3, hd⟩ := h
  match ds, h1 with
  | c :: t, _ =>
    have hc := hd c (by simp)
    simp only [List.length_cons] at h3 ⊢
    have hst : stepS a d o c.toNat = some (a + 1, 1, o) := by
      rcases ha with rfl | rfl
      · rw [stepS_lt (by omega)]; unfold daysS; simp [hc]
      · rw [stepS_lt (by omega)]; unfold daysS; simp [hc]
    rw [List.cons_append, plc_step hst, plc_dayDigits (a + 1) (by omega) t (fun y hy => hd y (by simp [hy])) _ _ _ _ (by omega)]
    congr 1 <;> omega
theorem plc_dayNo (a : Int) (ha : a = 0 ∨ a = 3) (l : List UInt8) (h : digB (hd l) = false) (hb : ¬ hd l = 32) (d o i : Int) : plc a d o i l = i := by
  cases l with
  | nil => rcases ha with rfl | rfl <;> rfl
  | cons c r =>
    refine plc_stop ?_
    simp only [hd] at h hb
    rcases ha with rfl | rfl
    · rw [stepS_lt (by omega)]; unfold daysS; simp [h, hb]
    · rw [stepS_lt (by omega)]; unfold daysS; simp [h, hb]
/-- Blanks behind a day. -/
theorem plc_dayBlanks (a : Int) (ha : a = 1 ∨ a = 4) (x : List UInt8) (hx : Blanks x) (hn : x ≠ []) (m o i : Int) (r : List UInt8) : plc a m o i (x ++ r) = plc (a + 1) m o (i + x.length) r := by
  match x, hn with
  | c :: t, _ =>
    have hc : (c.toNat : Int) = 32 := by have := hx c (by simp); omega
    have hst : stepS a m o c.toNat = some (a + 1, m, o) := by
      rw [hc]
      rcases ha with rfl | rfl
      · rw [stepS_lt (by omega)]; unfold daysS; simp [digB]
      · rw [stepS_lt (by omega)]; unfold daysS; simp [digB]
    rw [List.cons_append, plc_step hst, plc_skip (a + 1) (by omega) t (fun y hy => hx y (by simp [hy]))]
    congr 1
    simp; omega
/-- Behind the first day: a -. -/
theorem plc_minus (x : List UInt8) (hx : Blanks x) (c : UInt8) (hc : (c.toNat : Int) = 45) (m o i : Int) (r : List UInt8) : plc 1 m o i (x ++ c :: r) = plc 3 0 o (i + x.length + 1) r := by
  have h1 : ∀ a : Int, a = 1 ∨ a = 2 → ∀ j, plc a m o j (c :: r) = plc 3 0 o (j + 1) r := by
    intro a ha j
    have hst : stepS a m o c.toNat = some (3, m, o) := by
      rw [hc]
      rcases ha with rfl | rfl
      · rw [stepS_lt (by omega)]; unfold daysS; simp [digB]
      · rw [stepS_lt (by omega)]; unfold daysS; simp [digB]
    rw [plc_step hst, plc_d0 3 (by simp) r m 0]
  by_cases hn : x = []
  · subst hn; simpa using h1 1 (by simp) i
  · rw [plc_dayBlanks 1 (by simp) x hx hn, h1 (1 + 1) (by omega)]
theorem plc_minusNo (x l : List UInt8) (hx : Blanks x) (m o i : Int) (hm : 3 ≤ m ∨ digB (hd (x ++ l)) = false) (hb : ¬ hd l = 32) (hc : ¬ hd l = 45) : plc 1 m o i (x ++ l) = i + x.length := by
  by_cases hn : x = []
  · subst hn
    simp only [List.nil_append] at hm ⊢
    cases l with
    | nil => simp [plc]
    | cons c r =>
      simp only [hd] at hm hb hc
      rw [plc_stop]
      · simp
      · rw [stepS_lt (by omega)]; unfold daysS
        rcases hm with hm | hm
        · simp [show ¬ m < 3 by omega, hb, hc]
        · simp [hm, hb, hc]
  · rw [plc_dayBlanks 1 (by simp) x hx hn]
    cases l with
    | nil => simp [plc]
    | cons c r =>
      simp only [hd] at hb hc
      refine plc_stop ?_
      rw [stepS_lt (by omega)]; unfold daysS; simp [hb, hc]
/-- Behind a period: a comma, a bar, or nothing. -/
theorem plc_comma (x : List UInt8) (hx : Blanks x) (c : UInt8) (hc : (c.toNat : Int) = 44) (m o i : Int) (r : List UInt8) : plc 4 m o i (x ++ c :: r) = plc 0 0 o (i + x.length + 1) r := by
  have h1 : ∀ a : Int, a = 4 ∨ a = 5 → ∀ j, plc a m o j (c :: r) = plc 0 0 o (j + 1) r := by
    intro a ha j
    have hst : stepS a m o c.toNat = some (0, m, o) := by
      rw [hc]
      rcases ha with rfl | rfl
      · rw [stepS_lt (by omega)]; unfold daysS; simp [digB]
      · rw [stepS_lt (by omega)]; unfold daysS; simp [digB]
    rw [plc_step hst, plc_d0 0 (by simp) r m 0]
  by_cases hn : x = []
  · subst hn; simpa using h1 4 (by simp) i
  · rw [plc_dayBlanks 4 (by simp) x hx hn, h1 (4 + 1) (by omega)]
theorem plc_bar (x : List UInt8) (hx : Blanks x) (c : UInt8) (hc : (c.toNat : Int) = 124) (m o i : Int) (r : List UInt8) : plc 4 m o i (x ++ c :: r) = plc 6 0 o (i + x.length + 1) r := by
  have h1 : ∀ a : Int, a = 4 ∨ a = 5 → ∀ j, plc a m o j (c :: r) = plc 6 0 o (j + 1) r := by
    intro a ha j
    have hst : stepS a m o c.toNat = some (6, m, o) := by
      rw [hc]
      rcases ha with rfl | rfl
      · rw [stepS_lt (by omega)]; unfold daysS; simp [digB]
      · rw [stepS_lt (by omega)]; unfold daysS; simp [digB]
    rw [plc_step hst, plc_d r 6 m 0 _ _ (by simp)]
  by_cases hn : x = []
  · subst hn; simpa using h1 4 (by simp) i
  · rw [plc_dayBlanks 4 (by simp) x hx hn, h1 (4 + 1) (by omega)]
theorem plc_barNo (x l : List UInt8) (hx : Blanks x) (m o i : Int) (hm : 3 ≤ m ∨ digB (hd (x ++ l)) = false) (hb : ¬ hd l = 32) (hc : ¬ hd l = 44) (hc2 : ¬ hd l = 124) : plc 4 m o i (x ++ l) = i + x.length := by
  by_cases hn : x = []
  · subst hn
    simp only [List.nil_append] at hm ⊢
    cases l with
    | nil => simp [plc]
    | cons c r =>
      simp only [hd] at hm hb hc hc2
      rw [plc_stop]
      · simp
      · rw [stepS_lt (by omega)]; unfold daysS
        rcases hm with hm | hm
        · simp [show ¬ m < 3 by omega, hb, hc, hc2]
        · simp [hm, hb, hc, hc2]
  · rw [plc_dayBlanks 4 (by simp) x hx hn]
    cases l with
    | nil => simp [plc]
    | cons c r =>
      simp only [hd] at hb hc hc2
      refine plc_stop ?_
      rw [stepS_lt (by omega)]; unfold daysS; simp [hb, hc, hc2]

/-- Reading a period off l. -/
def Per (l : List UInt8) (ok : Bool) (l' : List UInt8) (a b : List UInt8) : Prop :=
  ∃ x, l = x ++ l' ∧ (ok = true → dayS a ∧ dayS b ∧ bare x = a ++ 45 :: b ∧ (b.length = 3 ∨ digB (hd l') = false) ∧ ∀ o i : Int, plc 0 0 o i l = plc 4 b.length o (i + x.length) l') ∧
    (ok = false → ∀ o i : Int, plc 0 0 o i l = i + x.length)
theorem bare_digs {ds : List UInt8} (h : ∀ c ∈ ds, digB c.toNat = true) : bare ds = ds := by
  unfold bare; rw [List.filter_eq_self]; intro c hc
  have := h c hc
  simp [digB] at this
  simp; omega
theorem u8_45 {c : UInt8} (h : (c.toNat : Int) = 45) : c = 45 := UInt8.toNat_inj.1 (by simp; omega)
theorem per_no1 {x l' a b : List UInt8} (hx : Blanks x) (h : digB (hd l') = false) (hb : ¬ hd l' = 32) : Per (x ++ l') false l' a b := by
  refine ⟨x, rfl, (fun h0 => by cases h0), fun _ o i => ?_⟩
  rw [plc_skip 0 (by simp) x hx, plc_dayNo 0 (by simp) l' h hb]
theorem per_no2 {x ds y l' a b : List UInt8} (hx : Blanks x) (hd1 : dayS ds) (hst : ds.length = 3 ∨ digB (hd (y ++ l')) = false) (hy : Blanks y) (hb : ¬ hd l' = 32) (hc : ¬ hd l' = 45) : Per (x ++ (ds ++ (y ++ l'))) false l' a b := by
  refine ⟨x ++ ds ++ y, by simp, (fun h0 => by cases h0), fun _ o i => ?_⟩
  rw [plc_skip 0 (by simp) x hx, plc_day 0 (by simp) ds hd1, show (0 : Int) + 1 = 1 from rfl, plc_minusNo y l' hy _ _ _ (by rcases hst with h | h; left; omega; right; exact h) hb hc]
  simp; omega
theorem per_no3 {x ds y z l' a b : List UInt8} {c : UInt8} (hx : Blanks x) (hd1 : dayS ds) (hy : Blanks y) (hc : (c.toNat : Int) = 45) (hz : Blanks z) (h : digB (hd l') = false) (hb : ¬ hd l' = 32) : Per (x ++ (ds ++ (y ++ c :: (z ++ l')))) false l' a b := by
  refine ⟨x ++ ds ++ y ++ [c] ++ z, by simp, (fun h0 => by cases h0), fun _ o i => ?_⟩
  rw [plc_skip 0 (by simp) x hx, plc_day 0 (by simp) ds hd1, show (0 : Int) + 1 = 1 from rfl, plc_minus y hy c hc, plc_skip 3 (by simp) z hz, plc_dayNo 3 (by simp) l' h hb]
  simp; omega
theorem per_yes {x a y z b l' : List UInt8} {c : UInt8} (hx : Blanks x) (ha : dayS a) (hy : Blanks y) (hc : (c.toNat : Int) = 45) (hz : Blanks z) (hb : dayS b) (hst : b.length = 3 ∨ digB (hd l') = false) : Per (x ++ (a ++ (y ++ c :: (z ++ (b ++ l'))))) true l' a b := by
  refine ⟨x ++ a ++ y ++ [c] ++ z ++ b, by simp, fun _ => ⟨ha, hb, ?_, hst, fun o i => ?_⟩, (fun h0 => by cases h0)⟩
  · simp only [bare_append, bare_blanks hx, bare_blanks hy, bare_blanks hz, bare_digs ha.2.2, bare_digs hb.2.2, u8_45 hc]
    simp
    rfl
  · rw [plc_skip 0 (by simp) x hx, plc_day 0 (by simp) a ha, show (0 : Int) + 1 = 1 from rfl, plc_minus y hy c hc, plc_skip 3 (by simp) z hz, plc_day 3 (by simp) b hb, show (3 : Int) + 1 = 4 from rfl]
    congr 1
    simp; omega

end Db
