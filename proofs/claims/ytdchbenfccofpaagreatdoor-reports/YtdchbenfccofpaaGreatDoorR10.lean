/- Days, periods, rows of a report: how the document's spots go over them. Walks of the reader: period. Walks of the reader: periods. Walks of the reader: periods. Reports: the document's grid: all cells of a sheet. Reports: the document's strange; a cell as a text. Reports: the document's Report. -/
import Derived.Test.YtdchbenfccofpaaGreatDoorR09
import Derived.Test.YtdchbenfccofpaaGreatDoorR01
import Derived.Test.YtdchbenfccofpaaGreatDoorR04
namespace Db

theorem plc_d0 (a : Int) (ha : a = 0 ∨ a = 3) (l : List UInt8) : ∀ d d' o i : Int, plc a d o i l = plc a d' o i l := by
  induction l with
  | nil => intro d d' o i; rfl
  | cons c r ih =>
    intro d d' o i
    have key : ∀ e, stepS a e o c.toNat = if digB c.toNat then some (a + 1, 1, o) else if (c.toNat : Int) == 32 then some (a, e, o) else none := by
      intro e
      rcases ha with rfl | rfl
      · rw [stepS_lt (by omega)]; unfold daysS; cases h : digB c.toNat <;> cases h2 : ((c.toNat : Int) == 32) <;> simp
      · rw [stepS_lt (by omega)]; unfold daysS; cases h : digB c.toNat <;> cases h2 : ((c.toNat : Int) == 32) <;> simp
    simp only [plc, key]
    cases h : digB c.toNat
    · cases h2 : ((c.toNat : Int) == 32)
      · simp
      · simpa using ih d d' o (i + 1)
    · simp
theorem plc_dayDigits (a : Int) (ha : a = 1 ∨ a = 4) (ds : List UInt8) (h : ∀ c ∈ ds, digB c.toNat = true) : ∀ (m o i : Int) (r : List UInt8), m + ds.length ≤ 3 → plc a m o i (ds ++ r) = plc a (m + ds.length) o (i + ds.length) r := by
  induction ds with
  | nil => intro m o i r _; simp
  | cons c t ih =>
    intro m o i r hl
    simp only [List.length_cons] at hl
    have hc := h c (by simp)
    have hst : stepS a m o c.toNat = some (a, m + 1, o) := by
      rcases ha with rfl | rfl
      · rw [stepS_lt (by omega)]; unfold daysS; simp [hc, show m < 3 by omega]
      · rw [stepS_lt (by omega)]; unfold daysS; simp [hc, show m < 3 by omega]
    rw [List.cons_append, plc_step hst, ih (fun y hy => h y (by simp [hy])) _ _ _ _ (by omega)]
    simp only [List.length_cons]
    congr 1 <;> omega
/-- A day. -/
theorem plc_day (a : Int) (ha : a = 0 ∨ a = 3) (ds : List UInt8) (h : dayS ds) (d o i : Int) (r : List UInt8) : plc a d o i (ds ++ r) = plc (a + 1) ds.length o (i + ds.length) r := by
  obtain ⟨h1, h3, hd⟩ := h
  match ds, h1 with
  | c :: t, _ =>
    have hc := hd c (by simp)
    simp only [List.length_cons] at h3 ⊢
    have hst : stepS a d o c.toNat = some (a + 1, 1, o) := by
      rcases ha with rfl | rfl
      · rw [stepS_lt (by omega)]; unfold daysS; simp [hc]
      · rw [stepS_lt (by omega)]; unfold daysS; simp [hc]
    rw [List.cons_append, plc_step hst, plc_dayDigits (a + 1) (by omega) t (fun y hy => hd y (by simp [hy])) _ _ _ _ (by omega)]
    congr 1 <;> omega
theorem plc_dayNo (a : Int) (ha : a = 0 ∨ a = 3) (l : List UInt8) (h : digB (hd l) = false) (hb : ¬ hd l = 32) (d o i : Int) : plc a d o i l = i := by
  cases l with
  | nil => rcases ha with rfl | rfl <;> rfl
  | cons c r =>
    refine plc_stop ?_
    simp only [hd] at h hb
    rcases ha with rfl | rfl
    · rw [stepS_lt (by omega)]; unfold daysS; simp [h, hb]
    · rw [stepS_lt (by omega)]; unfold daysS; simp [h, hb]
/-- Blanks behind a day. -/
theorem plc_dayBlanks (a : Int) (ha : a = 1 ∨ a = 4) (x : List UInt8) (hx : Blanks x) (hn : x ≠ []) (m o i : Int) (r : List UInt8) : plc a m o i (x ++ r) = plc (a + 1) m o (i + x.length) r := by
  match x, hn with
  | c :: t, _ =>
    have hc : (c.toNat : Int) = 32 := by have := hx c (by simp); omega
    have hst : stepS a m o c.toNat = some (a + 1, m, o) := by
      rw [hc]
      rcases ha with rfl | rfl
      · rw [stepS_lt (by omega)]; unfold daysS; simp [digB]
      · rw [stepS_lt (by omega)]; unfold daysS; simp [digB]
    rw [List.cons_append, plc_step hst, plc_skip (a + 1) (by omega) t (fun y hy => hx y (by simp [hy]))]
    congr 1
    simp; omega
/-- Behind the first day: a -. -/
theorem plc_minus (x : List UInt8) (hx : Blanks x) (c : UInt8) (hc : (c.toNat : Int) = 45) (m o i : Int) (r : List UInt8) : plc 1 m o i (x ++ c :: r) = plc 3 0 o (i + x.length + 1) r := by
  have h1 : ∀ a : Int, a = 1 ∨ a = 2 → ∀ j, plc a m o j (c :: r) = plc 3 0 o (j + 1) r := by
    intro a ha j
    have hst : stepS a m o c.toNat = some (3, m, o) := by
      rw [hc]
      rcases ha with rfl | rfl
      · rw [stepS_lt (by omega)]; unfold daysS; simp [digB]
      · rw [stepS_lt (by omega)]; unfold daysS; simp [digB]
    rw [plc_step hst, plc_d0 3 (by simp) r m 0]
  by_cases hn : x = []
  · subst hn; simpa using h1 1 (by simp) i
  · rw [plc_dayBlanks 1 (by simp) x hx hn, h1 (1 + 1) (by omega)]
theorem plc_minusNo (x l : List UInt8) (hx : Blanks x) (m o i : Int) (hm : 3 ≤ m ∨ digB (hd (x ++ l)) = false) (hb : ¬ hd l = 32) (hc : ¬ hd l = 45) : plc 1 m o i (x ++ l) = i + x.length := by
  by_cases hn : x = []
  · subst hn
    simp only [List.nil_append] at hm ⊢
    cases l with
    | nil => simp [plc]
    | cons c r =>
      simp only [hd] at hm hb hc
      rw [plc_stop]
      · simp
      · rw [stepS_lt (by omega)]; unfold daysS
        rcases hm with hm | hm
        · simp [show ¬ m < 3 by omega, hb, hc]
        · simp [hm, hb, hc]
  · rw [plc_dayBlanks 1 (by simp) x hx hn]
    cases l with
    | nil => simp [plc]
    | cons c r =>
      simp only [hd] at hb hc
      refine plc_stop ?_
      rw [stepS_lt (by omega)]; unfold daysS; simp [hb, hc]
/-- Behind a period: a comma, a bar, or nothing. -/
theorem plc_comma (x : List UInt8) (hx : Blanks x) (c : UInt8) (hc : (c.toNat : Int) = 44) (m o i : Int) (r : List UInt8) : plc 4 m o i (x ++ c :: r) = plc 0 0 o (i + x.length + 1) r := by
  have h1 : ∀ a : Int, a = 4 ∨ a = 5 → ∀ j, plc a m o j (c :: r) = plc 0 0 o (j + 1) r := by
    intro a ha j
    have hst : stepS a m o c.toNat = some (0, m, o) := by
      rw [hc]
      rcases ha with rfl | rfl
      · rw [stepS_lt (by omega)]; unfold daysS; simp [digB]
      · rw [stepS_lt (by omega)]; unfold daysS; simp [digB]
    rw [plc_step hst, plc_d0 0 (by simp) r m 0]
  by_cases hn : x = []
  · subst hn; simpa using h1 4 (by simp) i
  · rw [plc_dayBlanks 4 (by simp) x hx hn, h1 (4 + 1) (by omega)]
theorem plc_bar (x : List UInt8) (hx : Blanks x) (c : UInt8) (hc : (c.toNat : Int) = 124) (m o i : Int) (r : List UInt8) : plc 4 m o i (x ++ c :: r) = plc 6 0 o (i + x.length + 1) r := by
  have h1 : ∀ a : Int, a = 4 ∨ a = 5 → ∀ j, plc a m o j (c :: r) = plc 6 0 o (j + 1) r := by
    intro a ha j
    have hst : stepS a m o c.toNat = some (6, m, o) := by
      rw [hc]
      rcases ha with rfl | rfl
      · rw [stepS_lt (by omega)]; unfold daysS; simp [digB]
      · rw [stepS_lt (by omega)]; unfold daysS; simp [digB]
    rw [plc_step hst, plc_d r 6 m 0 _ _ (by simp)]
  by_cases hn : x = []
  · subst hn; simpa using h1 4 (by simp) i
  · rw [plc_dayBlanks 4 (by simp) x hx hn, h1 (4 + 1) (by omega)]
theorem plc_barNo (x l : List UInt8) (hx : Blanks x) (m o i : Int) (hm : 3 ≤ m ∨ digB (hd (x ++ l)) = false) (hb : ¬ hd l = 32) (hc : ¬ hd l = 44) (hc2 : ¬ hd l = 124) : plc 4 m o i (x ++ l) = i + x.length := by
  by_cases hn : x = []
  · subst hn
    simp only [List.nil_append] at hm ⊢
    cases l with
    | nil => simp [plc]
    | cons c r =>
      simp only [hd] at hm hb hc hc2
      rw [plc_stop]
      · simp
      · rw [stepS_lt (by omega)]; unfold daysS
        rcases hm with hm | hm
        · simp [show ¬ m < 3 by omega, hb, hc, hc2]
        · simp [hm, hb, hc, hc2]
  · rw [plc_dayBlanks 4 (by simp) x hx hn]
    cases l with
    | nil => simp [plc]
    | cons c r =>
      simp only [hd] at hb hc hc2
      refine plc_stop ?_
      rw [stepS_lt (by omega)]; unfold daysS; simp [hb, hc, hc2]

/-- Reading a period off l. -/
def Per (l : List UInt8) (ok : Bool) (l' : List UInt8) (a b : List UInt8) : Prop :=
  ∃ x, l = x ++ l' ∧ (ok = true → dayS a ∧ dayS b ∧ bare x = a ++ 45 :: b ∧ (b.length = 3 ∨ digB (hd l') = false) ∧ ∀ o i : Int, plc 0 0 o i l = plc 4 b.length o (i + x.length) l') ∧
    (ok = false → ∀ o i : Int, plc 0 0 o i l = i + x.length)
theorem bare_digs {ds : List UInt8} (h : ∀ c ∈ ds, digB c.toNat = true) : bare ds = ds := by
  unfold bare; rw [List.filter_eq_self]; intro c hc
  have := h c hc
  simp [digB] at this
  simp; omega
theorem u8_45 {c : UInt8} (h : (c.toNat : Int) = 45) : c = 45 := UInt8.toNat_inj.1 (by simp; omega)
theorem per_no1 {x l' a b : List UInt8} (hx : Blanks x) (h : digB (hd l') = false) (hb : ¬ hd l' = 32) : Per (x ++ l') false l' a b := by
  refine ⟨x, rfl, (fun h0 => by cases h0), fun _ o i => ?_⟩
  rw [plc_skip 0 (by simp) x hx, plc_dayNo 0 (by simp) l' h hb]
theorem per_no2 {x ds y l' a b : List UInt8} (hx : Blanks x) (hd1 : dayS ds) (hst : ds.length = 3 ∨ digB (hd (y ++ l')) = false) (hy : Blanks y) (hb : ¬ hd l' = 32) (hc : ¬ hd l' = 45) : Per (x ++ (ds ++ (y ++ l'))) false l' a b := by
  refine ⟨x ++ ds ++ y, by simp, (fun h0 => by cases h0), fun _ o i => ?_⟩
  rw [plc_skip 0 (by simp) x hx, plc_day 0 (by simp) ds hd1, show (0 : Int) + 1 = 1 from rfl, plc_minusNo y l' hy _ _ _ (by rcases hst with h | h; left; omega; right; exact h) hb hc]
  simp; omega
theorem per_no3 {x ds y z l' a b : List UInt8} {c : UInt8} (hx : Blanks x) (hd1 : dayS ds) (hy : Blanks y) (hc : (c.toNat : Int) = 45) (hz : Blanks z) (h : digB (hd l') = false) (hb : ¬ hd l' = 32) : Per (x ++ (ds ++ (y ++ c :: (z ++ l')))) false l' a b := by
  refine ⟨x ++ ds ++ y ++ [c] ++ z, by simp, (fun h0 => by cases h0), fun _ o i => ?_⟩
  rw [plc_skip 0 (by simp) x hx, plc_day 0 (by simp) ds hd1, show (0 : Int) + 1 = 1 from rfl, plc_minus y hy c hc, plc_skip 3 (by simp) z hz, plc_dayNo 3 (by simp) l' h hb]
  simp; omega
theorem per_yes {x a y z b l' : List UInt8} {c : UInt8} (hx : Blanks x) (ha : dayS a) (hy : Blanks y) (hc : (c.toNat : Int) = 45) (hz : Blanks z) (hb : dayS b) (hst : b.length = 3 ∨ digB (hd l') = false) : Per (x ++ (a ++ (y ++ c :: (z ++ (b ++ l'))))) true l' a b := by
  refine ⟨x ++ a ++ y ++ [c] ++ z ++ b, by simp, fun _ => ⟨ha, hb, ?_, hst, fun o i => ?_⟩, (fun h0 => by cases h0)⟩
  · simp only [bare_append, bare_blanks hx, bare_blanks hy, bare_blanks hz, bare_digs ha.2.2, bare_digs hb.2.2, u8_45 hc]
    simp
    rfl
  · rw [plc_skip 0 (by simp) x hx, plc_day 0 (by simp) a ha, show (0 : Int) + 1 = 1 from rfl, plc_minus y hy c hc, plc_skip 3 (by simp) z hz, plc_day 3 (by simp) b hb, show (3 : Int) + 1 = 4 from rfl]
    congr 1
    simp; omega

end Db
namespace Go.Proofs.YtdchbenfccofpaaGreatDoor
open Go.RowKit Db

theorem dg_day {l ds l' : List UInt8} (h : Dg 3 l ds l') (h0 : 0 < ds.length) : dayS ds := ⟨h0, h.le, h.dig⟩
theorem dg_none {m : Nat} {l ds l' : List UInt8} (h : Dg m l ds l') (h0 : ¬ 0 < ds.length) (hm : 0 < m) : digB (hd l') = false ∧ l = l' := by
  have hz : ds = [] := by cases ds with | nil => rfl | cons => simp at h0
  subst hz
  refine ⟨?_, h.eq⟩
  rcases h.stop with h | h
  · simp at h; omega
  · exact h

theorem Rd.fresh {w : World} {b : Nat} {t : ByteArray} {a : Nat} {v : Value} {ps : List Pt} (h : Rd w b t a v ps) : ∀ j, w.heap.size ≤ j → ¬ XR b v j := by
  rintro j hj (rfl | e)
  · have := h.blk.lt; omega
  · have := (h.own.lt j e.symm).2; omega
theorem ownsRow_setOther {w : World} {base : Nat} {e : TypeId} {size : Nat} {v : Value} {n : Nat} {xs : List Value} (h : w.ownsRow base e size v n xs) {a : Addr} (ha : some a.block ≠ v.ownBlock) (u : Value) : (w.setCell a u).ownsRow base e size v n xs := by
  refine ⟨h.1, ?_⟩
  rcases h.2 with hn | ⟨g, cap, cur, rfl, hbg, hgg, rest⟩
  · exact .inl hn
  · exact .inr ⟨g, cap, cur, rfl, hbg, by rw [Below.heap_setCell _ _ _ _ (fun e => ha (by rw [← e]; rfl))]; exact hgg, rest⟩
theorem RdR.localSet {b : Nat} {t : ByteArray} {v v' : Value} {w w1 : World} {a : Nat} {ps : List Pt} (h : RdR b t v w w1 a v' ps) {j : Nat} (hj : w.heap.size ≤ j) (hx : ¬ XR b v' j) (i : Nat) (u : Value) : RdR b t v w (w1.setCell ⟨j, i, none⟩ u) a v' ps :=
  ⟨⟨h.rd.blk.setOther _ _ (fun e => hx (.inl e.symm)), ownsRow_setOther h.rd.own (fun e => hx (.inr e)) _, h.rd.le, h.rd.cnt, h.rd.sz⟩, h.frm.setCell (.inl hj) _, h.own⟩

set_option maxHeartbeats 2000000 in
theorem period_any (b : Nat) (t : ByteArray) (p : Nat) (v : Value) (ps : List Pt) (w : World) (h : Rd w b t p v ps) :
    Calls Tryz.prog 172 #[.pointer (some ⟨b, 0, none⟩)] w fun e w' => ∃ ok x y p' da db, e = .returned (.tuple #[.agg #[.int .i64 x, .int .i64 y], .bool ok]) ∧
      Per ((L t).drop p) ok ((L t).drop p') da db ∧ (ok = true → x = val da ∧ y = val db) ∧ p ≤ p' ∧ RdR b t v w w' p' v ps := by
  have Hfr := hide h.fresh
  have H0 := hide (h.below ((Below.refl _ _).alloc (Nat.le_refl _) (.cells #[.int .i64 0, .int .i64 0] 177)))
  clear h
  go_enter Tryz.func172, Tryz.ntmps172
  go_wp2_with fail
  refine (day_any b t p v ps _ (unhide H0).rd).mono ?_
  rintro e w1 ⟨x1, d1, q1, p1, rfl, hs1, hg1, he1, hr1⟩
  have HB1 : Hid (Blk w1 w.heap.size #[.int .i64 0, .int .i64 0] 177) := (Blk.new _ _ _).frm hr1.frm (by simp) (unhide Hfr _ (Nat.le_refl _))
  have H1 := hide ((unhide H0).trans hr1)
  have Hs1 := hide hs1
  have Hg1 := hide hg1
  have He1 := hide he1
  have c0 := (unhide HB1).cell 0
  have c1 := (unhide HB1).cell 1
  have z0 := (unhide HB1).frozen 0
  have z1 := (unhide HB1).frozen 1
  simp only [List.getElem?_toArray, List.getElem?_cons_zero, List.getElem?_cons_succ] at c0 c1
  clear hs1 hg1 he1 hr1
  by_cases hd1 : 0 < d1.length
  · have e1 : decide (0 < d1.length) = true := decide_eq_true hd1
    rw [e1]
    clear e1
    have Hd1 := hide (dg_day (unhide Hg1) hd1)
    clear hd1
    go_wp2_with fail
    refine (accept_any b t p1 v ps 45 _ (unhide H1).rd (by omega)).mono ?_
    rintro e w2 ⟨p2, x2, hs2, ⟨hn2, rfl, hr2⟩ | ⟨y2, hy2, hl2, rfl, hr2⟩⟩
    · have HB2 := hide ((unhide HB1).frm hr2.frm (unhide HB1).lt (unhide Hfr _ (Nat.le_refl _)))
      have H2 := hide ((unhide H1).trans hr2)
      have Hs2 := hide hs2
      have Hn2 := hide hn2
      have c0 := (unhide HB2).cell 0
      have c1 := (unhide HB2).cell 1
      have z0 := (unhide HB2).frozen 0
      have z1 := (unhide HB2).frozen 1
      simp only [List.getElem?_toArray, List.getElem?_cons_zero, List.getElem?_cons_succ] at c0 c1
      clear hs2 hn2 hr2
      go_wp2_with fail
      refine bodyPost_ret (v := .tuple #[.agg #[.int .i64 0, .int .i64 0], .bool false]) (by simp [results, Tryz.results172, go_sem, c0, c1]) rfl ⟨false, 0, 0, p2, [], [], rfl, ?_, (fun h0 => by cases h0), ?_, ?_⟩
      · rw [(unhide Hs1).eq, (unhide Hg1).eq, (unhide Hs2).eq]
        exact per_no2 (unhide Hs1).bl (unhide Hd1) (by rw [← (unhide Hs2).eq]; exact (unhide Hg1).stop) (unhide Hs2).bl (unhide Hs2).nb (unhide Hn2)
      · have h1 := (unhide Hs1).le; have h2 := unhide He1; have h3 := (unhide Hs2).le; omega
      · exact ((unhide H2).localSet (Nat.le_refl _) (unhide Hfr _ (Nat.le_refl _)) _ _).localSet (Nat.le_refl _) (unhide Hfr _ (Nat.le_refl _)) _ _
    · have HB2 := hide ((unhide HB1).frm hr2.frm (unhide HB1).lt (unhide Hfr _ (Nat.le_refl _)))
      have H2 := hide ((unhide H1).trans hr2)
      have Hs2 := hide hs2
      have Hy2 := hide hy2
      have Hl2 := hide hl2
      clear hs2 hr2 hy2 hl2 c0 c1 z0 z1
      go_wp2_with fail
      refine (day_any b t (p2 + 1) v ps _ (unhide H2).rd).mono ?_
      rintro e w3 ⟨x3, d3, q3, p3, rfl, hs3, hg3, he3, hr3⟩
      have HB3 := hide ((unhide HB2).frm hr3.frm (unhide HB2).lt (unhide Hfr _ (Nat.le_refl _)))
      have H3 := hide ((unhide H2).trans hr3)
      have Hs3 := hide hs3
      have Hg3 := hide hg3
      have He3 := hide he3
      have c0 := (unhide HB3).cell 0
      have c1 := (unhide HB3).cell 1
      have z0 := (unhide HB3).frozen 0
      have z1 := (unhide HB3).frozen 1
      simp only [List.getElem?_toArray, List.getElem?_cons_zero, List.getElem?_cons_succ] at c0 c1
      clear hs3 hg3 he3 hr3
      have Hle : Hid (p ≤ p3) := by
        have h1 := (unhide Hs1).le; have h2 := unhide He1; have h3 := (unhide Hs2).le; have h4 := (unhide Hs3).le; have h5 := unhide He3
        show _ ≤ _
        omega
      by_cases hd3 : 0 < d3.length
      · have e1 : decide (0 < d3.length) = true := decide_eq_true hd3
        rw [e1]
        clear e1
        have Hd3 := hide (dg_day (unhide Hg3) hd3)
        clear hd3
        go_wp2_with fail
        refine bodyPost_ret (v := .tuple #[.agg #[.int .i64 (val d1), .int .i64 (val d3)], .bool true]) (by simp [results, Tryz.results172, go_sem, c0, c1]) rfl ⟨true, _, _, p3, d1, d3, rfl, ?_, fun _ => ⟨rfl, rfl⟩, unhide Hle, ?_⟩
        · rw [(unhide Hs1).eq, (unhide Hg1).eq, (unhide Hs2).eq, unhide Hl2, (unhide Hs3).eq, (unhide Hg3).eq]
          exact per_yes (unhide Hs1).bl (unhide Hd1) (unhide Hs2).bl (unhide Hy2) (unhide Hs3).bl (unhide Hd3) (unhide Hg3).stop
        · exact ((unhide H3).localSet (Nat.le_refl _) (unhide Hfr _ (Nat.le_refl _)) _ _).localSet (Nat.le_refl _) (unhide Hfr _ (Nat.le_refl _)) _ _
      · have e1 : decide (0 < d3.length) = false := decide_eq_false hd3
        rw [e1]
        clear e1
        have Hz := hide (dg_none (m := 3) (unhide Hg3) hd3 (by omega))
        clear hd3
        go_wp2_with fail
        refine bodyPost_ret (v := .tuple #[.agg #[.int .i64 0, .int .i64 0], .bool false]) (by simp [results, Tryz.results172, go_sem, c0, c1]) rfl ⟨false, 0, 0, p3, [], [], rfl, ?_, (fun h0 => by cases h0), unhide Hle, ?_⟩
        · rw [(unhide Hs1).eq, (unhide Hg1).eq, (unhide Hs2).eq, unhide Hl2, (unhide Hs3).eq, (unhide Hz).2]
          exact per_no3 (unhide Hs1).bl (unhide Hd1) (unhide Hs2).bl (unhide Hy2) (unhide Hs3).bl (unhide Hz).1 (by rw [← (unhide Hz).2]; exact (unhide Hs3).nb)
        · exact ((unhide H3).localSet (Nat.le_refl _) (unhide Hfr _ (Nat.le_refl _)) _ _).localSet (Nat.le_refl _) (unhide Hfr _ (Nat.le_refl _)) _ _
  · have e1 : decide (0 < d1.length) = false := decide_eq_false hd1
    rw [e1]
    clear e1
    have Hz := hide (dg_none (m := 3) (unhide Hg1) hd1 (by omega))
    clear hd1
    go_wp2_with fail
    refine bodyPost_ret (v := .tuple #[.agg #[.int .i64 0, .int .i64 0], .bool false]) (by simp [results, Tryz.results172, go_sem, c0, c1]) rfl ⟨false, 0, 0, p1, [], [], rfl, ?_, (fun h0 => by cases h0), ?_, ?_⟩
    · rw [(unhide Hs1).eq, (unhide Hz).2]
      exact per_no1 (unhide Hs1).bl (unhide Hz).1 (by rw [← (unhide Hz).2]; exact (unhide Hs1).nb)
    · have h1 := (unhide Hs1).le; have h2 := unhide He1; omega
    · exact ((unhide H1).localSet (Nat.le_refl _) (unhide Hfr _ (Nat.le_refl _)) _ _).localSet (Nat.le_refl _) (unhide Hfr _ (Nat.le_refl _)) _ _

end Go.Proofs.YtdchbenfccofpaaGreatDoor
namespace Db

/-- Some periods have been read, each with its comma. -/
structure PerSt (l l' : List UInt8) (pd : List (List UInt8 × List UInt8)) : Prop where
  ex : ∃ x, l = x ++ l' ∧ (∀ i : Int, plc 0 0 0 i l = plc 0 0 0 (i + x.length) l') ∧ (∀ r, split (bare x ++ r) 44 = pd.map (fun p => p.1 ++ 45 :: p.2) ++ split r 44) ∧ ∀ c ∈ bare x, ¬ c.toNat = 124
  days : ∀ p ∈ pd, dayS p.1 ∧ dayS p.2
/-- All periods have been read, and the bar. -/
structure PerEnd (l : List UInt8) (ok : Bool) (l' : List UInt8) (pd : List (List UInt8 × List UInt8)) : Prop where
  ex : ∃ x, l = x ++ l' ∧ (ok = true → (∀ i : Int, plc 0 0 0 i l = plc 6 0 0 (i + x.length) l') ∧ ∃ y, bare x = y ++ [124] ∧ split y 44 = pd.map (fun p => p.1 ++ 45 :: p.2) ∧ ∀ c ∈ y, ¬ c.toNat = 124) ∧
    (ok = false → ∀ i : Int, plc 0 0 0 i l = i + x.length)
  days : ok = true → ∀ p ∈ pd, dayS p.1 ∧ dayS p.2

theorem PerSt.start (l : List UInt8) : PerSt l l [] := ⟨⟨[], rfl, fun i => by simp, fun r => by simp [bare], by simp [bare]⟩, by simp⟩
theorem seg_ne {a b : List UInt8} (ha : dayS a) (hb : dayS b) (k : UInt8) (hk : digB k.toNat = false) (h45 : ¬ k = 45) : ∀ c ∈ a ++ 45 :: b, c ≠ k := by
  intro c hc
  rw [List.mem_append, List.mem_cons] at hc
  rcases hc with hc | rfl | hc
  · exact dayS_ne ha k hk c hc
  · exact fun e => h45 e.symm
  · exact dayS_ne hb k hk c hc
theorem seg_124 {a b : List UInt8} (ha : dayS a) (hb : dayS b) : ∀ c ∈ a ++ 45 :: b, ¬ c.toNat = 124 := by
  intro c hc h
  exact seg_ne ha hb 124 rfl (by decide) c hc (UInt8.toNat_inj.1 (by rw [h]; rfl))
theorem u8_44 {c : UInt8} (h : (c.toNat : Int) = 44) : c = 44 := UInt8.toNat_inj.1 (by simp; omega)
theorem u8_124 {c : UInt8} (h : (c.toNat : Int) = 124) : c = 124 := UInt8.toNat_inj.1 (by simp; omega)

theorem PerSt.no {l l1 l' : List UInt8} {pd : List (List UInt8 × List UInt8)} {a b : List UInt8} (h : PerSt l l1 pd) (hp : Per l1 false l' a b) (pd' : List (List UInt8 × List UInt8)) : PerEnd l false l' pd' := by
  obtain ⟨x, rfl, h1, h2, h3⟩ := h.ex
  obtain ⟨y, rfl, g1, g2⟩ := hp
  refine ⟨⟨x ++ y, by simp, (fun h0 => by cases h0), fun _ i => ?_⟩, (fun h0 => by cases h0)⟩
  rw [h1, g2 rfl]; simp; omega
theorem PerSt.comma {l l1 y r : List UInt8} {pd : List (List UInt8 × List UInt8)} {a b : List UInt8} {c : UInt8} (h : PerSt l l1 pd) (hp : Per l1 true (y ++ c :: r) a b) (hy : Blanks y) (hc : (c.toNat : Int) = 44) : PerSt l r (pd ++ [(a, b)]) := by
  obtain ⟨x, rfl, h1, h2, h3⟩ := h.ex
  obtain ⟨z, rfl, g1, g2⟩ := hp
  obtain ⟨ha, hb, hbare, hst, hplc⟩ := g1 rfl
  refine ⟨⟨x ++ z ++ y ++ [c], by simp, fun i => ?_, fun q => ?_, ?_⟩, ?_⟩
  · rw [h1, hplc, plc_comma y hy c hc]
    congr 1
    simp; omega
  · simp only [bare_append, hbare, bare_blanks hy, u8_44 hc, List.append_nil]
    rw [show bare [44] = [44] from rfl]
    simp only [List.append_assoc]
    rw [h2]
    rw [show (a ++ ((45 :: b) ++ ([44] ++ q))) = (a ++ 45 :: b) ++ 44 :: q by simp, split_cons 44 _ q (seg_ne ha hb 44 rfl (by decide))]
    simp
  · intro k hk
    simp only [bare_append, hbare, bare_blanks hy, u8_44 hc, List.append_nil, List.mem_append] at hk
    rcases hk with (hk | hk) | hk
    · exact h3 k hk
    · exact seg_124 ha hb k (by simpa using hk)
    · rw [show bare [44] = [44] from rfl] at hk
      simp at hk; subst hk; decide
  · intro p hp
    simp at hp
    rcases hp with hp | rfl
    · exact h.days p hp
    · exact ⟨ha, hb⟩
theorem PerSt.bar {l l1 y r : List UInt8} {pd : List (List UInt8 × List UInt8)} {a b : List UInt8} {c : UInt8} (h : PerSt l l1 pd) (hp : Per l1 true (y ++ c :: r) a b) (hy : Blanks y) (hc : (c.toNat : Int) = 124) : PerEnd l true r (pd ++ [(a, b)]) := by
  obtain ⟨x, rfl, h1, h2, h3⟩ := h.ex
  obtain ⟨z, rfl, g1, g2⟩ := hp
  obtain ⟨ha, hb, hbare, hst, hplc⟩ := g1 rfl
  refine ⟨⟨x ++ z ++ y ++ [c], by simp, fun _ => ⟨fun i => ?_, bare x ++ (a ++ 45 :: b), ?_, ?_, ?_⟩, (fun h0 => by cases h0)⟩, ?_⟩
  · rw [h1, hplc, plc_bar y hy c hc]
    congr 1
    simp; omega
  · simp only [bare_append, hbare, bare_blanks hy, u8_124 hc, List.append_nil]
    rw [show bare [124] = [124] from rfl]
  · rw [h2, split_one 44 _ (seg_ne ha hb 44 rfl (by decide))]
    simp
  · intro k hk
    rw [List.mem_append] at hk
    rcases hk with hk | hk
    · exact h3 k hk
    · exact seg_124 ha hb k hk
  · intro _ p hp
    simp at hp
    rcases hp with hp | rfl
    · exact h.days p hp
    · exact ⟨ha, hb⟩
theorem PerSt.nobar {l l1 y l' : List UInt8} {pd : List (List UInt8 × List UInt8)} {a b : List UInt8} (h : PerSt l l1 pd) (hp : Per l1 true (y ++ l') a b) (hy : Blanks y) (h32 : ¬ hd l' = 32) (h44 : ¬ hd l' = 44) (h124 : ¬ hd l' = 124) (pd' : List (List UInt8 × List UInt8)) : PerEnd l false l' pd' := by
  obtain ⟨x, rfl, h1, h2, h3⟩ := h.ex
  obtain ⟨z, rfl, g1, g2⟩ := hp
  obtain ⟨ha, hb, hbare, hst, hplc⟩ := g1 rfl
  refine ⟨⟨x ++ z ++ y, by simp, (fun h0 => by cases h0), fun _ i => ?_⟩, (fun h0 => by cases h0)⟩
  rw [h1, hplc, plc_barNo y l' hy _ _ _ (by rcases hst with h | h; left; omega; right; exact h) h32 h44 h124]
  simp; omega

end Db
namespace Go.Proofs.YtdchbenfccofpaaGreatDoor
open Go.RowKit Db

theorem RdR.alloc {b : Nat} {t : ByteArray} {v v' : Value} {w w1 : World} {a : Nat} {ps : List Pt} (h : RdR b t v w w1 a v' ps) (o : Obj) : RdR b t v w (w1.alloc o) a v' ps :=
  h.trans (h.rd.below ((Below.refl _ _).alloc (Nat.le_refl _) o))
theorem RdR.grown {b : Nat} {t : ByteArray} {v v' : Value} {w w1 w2 : World} {a : Nat} {ps : List Pt} {row : Option Nat} (h : RdR b t v w w1 a v' ps) (hg : w1.grownBy w2 row) (hr : ∀ k, row = some k → w.heap.size ≤ k ∧ ¬ XR b v' k) : RdR b t v w w2 a v' ps := by
  refine ⟨⟨h.rd.blk.grown hg ?_, h.rd.own.kept hg ?_, h.rd.le, h.rd.cnt, h.rd.sz⟩, h.frm.grown hg h.frm.size (fun k hk => .inl (hr k hk).1), h.own⟩
  · intro e; exact (hr b e.symm).2 (.inl rfl)
  · cases hv : v'.ownBlock with
    | none => exact .inl rfl
    | some k => exact .inr (fun e => (hr k e.symm).2 (.inr hv.symm))

theorem cell_two_new' (w : World) (n : Nat) (hn : n = w.heap.size) (x y : Value) (t : TypeId) : ∀ j u, [x, y][j]? = some u → (w.alloc (.cells #[x, y] t)).cell? ((⟨n, 0, none⟩ : Addr).add j) = some u := by
  subst hn; exact cell_two_new w x y t
def cellsD (pd : List (List UInt8 × List UInt8)) : List Value := pd.flatMap fun p => [.int .i64 (val p.1), .int .i64 (val p.2)]
theorem cellsD_append (p q : List (List UInt8 × List UInt8)) : cellsD (p ++ q) = cellsD p ++ cellsD q := by simp [cellsD]
theorem info_period : (Tryz.prog.info? 177).map (fun i => (i.zero, i.size, i.bytes)) = some (some (.agg #[.int .i64 0, .int .i64 0]), 2, 16) := by kernel_rfl

theorem per_lt {t : ByteArray} {k k1 : Nat} {a b : List UInt8} (h : Per ((L t).drop k) true ((L t).drop k1) a b) (hk : k ≤ t.size) (hk1 : k1 ≤ t.size) : k < k1 := by
  obtain ⟨x, hx, h1, _⟩ := h
  have hb := (h1 rfl).2.2.1
  have hl := congrArg List.length hx
  simp only [List.length_append, List.length_drop, L_length] at hl
  have hn : 0 < x.length := by
    cases x with
    | nil => exact absurd hb (by simp [bare])
    | cons => simp
  omega
/-- Where no blank stands nothing is passed over. -/
theorem skp_same {t : ByteArray} {p p' : Nat} {x : List UInt8} (h : Skp t p p' x) (hb : ¬ hd ((L t).drop p) = 32) : (L t).drop p = (L t).drop p' := by
  have he := h.eq
  match x, h.bl with
  | [], _ => simpa using he
  | c :: r, hbl =>
    rw [he] at hb
    exact absurd (by have := hbl c (by simp); simp [hd]; omega) hb

/-- Where the loop over the periods stands. -/
def PLoop (l : List UInt8) (more : Bool) (l' : List UInt8) (pd : List (List UInt8 × List UInt8)) : Prop :=
  (more = true → PerSt l l' pd) ∧ (more = false → ∃ l1 pd0 a b y, PerSt l l1 pd0 ∧ Per l1 true (y ++ l') a b ∧ Blanks y ∧ ¬ hd l' = 32 ∧ ¬ hd l' = 44 ∧ pd = pd0 ++ [(a, b)])

set_option maxRecDepth 100000 in
set_option maxHeartbeats 2000000 in
theorem periods_any (b : Nat) (t : ByteArray) (p : Nat) (v : Value) (ps : List Pt) (w : World) (h : Rd w b t p v ps) :
    Calls Tryz.prog 127 #[.pointer (some ⟨b, 0, none⟩)] w fun e w' => ∃ ok vp p' pd, e = .returned (.tuple #[vp, .bool ok]) ∧ PerEnd ((L t).drop p) ok ((L t).drop p') pd ∧
      (ok = true → w'.ownsRow w.heap.size 177 2 vp pd.length (cellsD pd)) ∧ (ok = false → vp = .slice none 0 0) ∧ p ≤ p' ∧ RdR b t v w w' p' v ps := by
  obtain ⟨ii, hi, hz0, hz1, hz2⟩ := info_parts info_period
  have hsz := h.sz
  have Hfr := hide h.fresh
  have H := hide h
  clear h
  go_enter Tryz.func127, Tryz.ntmps127
  go_wp2_with fail
  go_loopg [4, 5] (2 * (t.size - p) + 1) (fun m vp mo wr => ∃ k, ∃ more : Bool, ∃ pd, p ≤ k ∧ k ≤ t.size ∧ m = 2 * (t.size - k) + (if more then 1 else 0) ∧ mo = .bool more ∧ pd.length ≤ k ∧ Hid (PLoop ((L t).drop p) more ((L t).drop k) pd) ∧
      Hid (wr.ownsRow w.heap.size 177 2 vp pd.length (cellsD pd)) ∧ Hid (RdR b t v w wr k v ps))
  case atStart => exact ⟨p, true, [], Nat.le_refl _, (unhide H).le, rfl, rfl, Nat.zero_le _, ⟨fun _ => PerSt.start _, (fun h0 => by cases h0)⟩, World.ownsRow_nil _ _ _ _, RdR.refl (unhide H)⟩
  case round =>
    obtain ⟨k, more, pd, hpk, hk, rfl, rfl, hpl, Hl, Ho, Hr⟩ := hrel
    have hwr := (unhide Hr).frm.size
    obtain ⟨aop, capp, hvp⟩ := ownsRow_form (unhide Ho)
    subst hvp
    cases more with
    | true =>
      go_wp2_with fail
      refine (period_any b t k v ps _ (unhide Hr).rd).mono ?_
      rintro e w1 ⟨ok, x, y, k1, da, db, rfl, hper, hval, hle, hr1⟩
      have H1 := hide ((unhide Hr).trans hr1)
      have Ho1 := hide (ownsRow_frm (unhide Ho) hr1.frm (fun j hj => ⟨((unhide Ho).lt j hj).2, unhide Hfr j ((unhide Ho).lt j hj).1⟩))
      have hk1 := hr1.rd.le
      have Hper := hide hper
      clear hr1 hper
      cases ok with
      | false =>
        clear hval
        go_wp2_with fail
        go_ret2
        exact ⟨false, _, k1, [], rfl, ((unhide Hl).1 rfl).no (unhide Hper) [], (fun h0 => by cases h0), fun _ => rfl, by omega, (unhide H1).alloc _⟩
      | true =>
        obtain ⟨rfl, rfl⟩ := hval rfl
        clear hval
        have hsz1 := (unhide H1).frm.size
        go_wp2_with (first
          | (at_builtin; refine wpList_append_own_at _ rfl (.tmp 18) (.tmp 20) 107 rfl w.heap.size 177 ii (.agg #[.int .i64 0, .int .i64 0]) 2 16 Tryz.underlying107 hi hz0 hz1 hz2 rfl (by decide) (.slice aop pd.length capp) pd.length _ rfl (((unhide Ho1).alloc _).alloc _) ⟨w1.heap.size + 1, 0, none⟩ 1 1 [.int .i64 (val da), .int .i64 (val db)] rfl rfl (cell_two_new' _ _ (by simp) _ _ _) (fun x hx => by simp at hx; rcases hx with rfl | rfl <;> rfl) (by unfold maxLen; omega) (by omega) (by simp; omega) ?_; intro vp' w5 hown5 hgr5 _ hat5; obtain ⟨gf, cf, rfl, hgf, hgf'⟩ := ownsRow_some hown5 (Nat.succ_pos _)))
        have Ho5 : Hid (w5.ownsRow w.heap.size 177 2 (.slice (some ⟨gf, 0, none⟩) (pd.length + 1) cf) (pd ++ [(da, db)]).length (cellsD (pd ++ [(da, db)]))) := by
          show World.ownsRow _ _ _ _ _ _ _
          rw [cellsD_append]
          simpa [cellsD] using hown5
        have H5 := hide ((((unhide H1).alloc _).alloc _).grown hgr5 (fun j hj => ⟨((unhide Ho1).lt j hj).1, unhide Hfr j ((unhide Ho1).lt j hj).1⟩))
        have Hl1 := hide ((unhide Hl).1 rfl)
        clear hown5 hgr5 hat5
        go_wp2_with fail
        refine (accept_any b t k1 v ps 44 _ (unhide H5).rd (by omega)).mono ?_
        rintro e w6 ⟨k2, x2, hs2, ⟨hn2, rfl, hr2⟩ | ⟨y2, hy2, hl2, rfl, hr2⟩⟩
        · have H6 := hide ((unhide H5).trans hr2)
          have Ho6 := hide (ownsRow_frm (unhide Ho5) hr2.frm (fun j hj => ⟨((unhide Ho5).lt j hj).2, unhide Hfr j ((unhide Ho5).lt j hj).1⟩))
          have hk2 := hr2.rd.le
          have Hs2 := hide hs2
          have Hn2 := hide hn2
          clear hs2 hn2 hr2
          go_wp2_with fail
          have hle2 := (unhide Hs2).le
          go_roundg (2 * (t.size - k2) + 0)
          case measure => simp; omega
          case rel =>
            refine ⟨k2, false, pd ++ [(da, db)], by omega, hk2, by simp, rfl, ?_, ⟨(fun h0 => by cases h0), fun _ => ⟨_, pd, da, db, x2, unhide Hl1, by rw [← (unhide Hs2).eq]; exact unhide Hper, (unhide Hs2).bl, (unhide Hs2).nb, unhide Hn2, rfl⟩⟩, unhide Ho6, unhide H6⟩
            have := per_lt (unhide Hper) hk hk1
            simp; omega
        · have H6 := hide ((unhide H5).trans hr2)
          have Ho6 := hide (ownsRow_frm (unhide Ho5) hr2.frm (fun j hj => ⟨((unhide Ho5).lt j hj).2, unhide Hfr j ((unhide Ho5).lt j hj).1⟩))
          have hk2 := hr2.rd.le
          have Hs2 := hide hs2
          have Hy2 := hide hy2
          have Hl2 := hide hl2
          clear hs2 hy2 hl2 hr2
          go_wp2_with fail
          have hle2 := (unhide Hs2).le
          go_roundg (2 * (t.size - (k2 + 1)) + 1)
          case measure => simp; omega
          case rel =>
            refine ⟨k2 + 1, true, pd ++ [(da, db)], by omega, hk2, by simp, rfl, by simp; omega, ⟨fun _ => (unhide Hl1).comma (c := y2) (y := x2) (by rw [← unhide Hl2, ← (unhide Hs2).eq]; exact unhide Hper) (unhide Hs2).bl (unhide Hy2), (fun h0 => by cases h0)⟩, unhide Ho6, unhide H6⟩
    | false =>
      obtain ⟨l1, pd0, da, db, y, hst, hper, hy, h32, h44, rfl⟩ := (unhide Hl).2 rfl
      have Hst := hide hst
      have Hper := hide hper
      have Hy := hide hy
      have H32 := hide h32
      have H44 := hide h44
      clear hst hper hy h32 h44
      go_wp2_with fail
      refine (accept_any b t k v ps 124 _ (unhide Hr).rd (by omega)).mono ?_
      rintro e w6 ⟨k2, x2, hs2, ⟨hn2, rfl, hr2⟩ | ⟨y2, hy2, hl2, rfl, hr2⟩⟩
      · have H6 := hide ((unhide Hr).trans hr2)
        have Hs2 := hide hs2
        have Hn2 := hide hn2
        clear hs2 hn2 hr2
        go_wp2_with fail
        go_ret2
        have hz := skp_same (unhide Hs2) (unhide H32)
        refine ⟨false, _, k2, [], rfl, ?_, (fun h0 => by cases h0), fun _ => rfl, by have := (unhide Hs2).le; omega, unhide H6⟩
        rw [hz] at Hper H32 H44
        exact (unhide Hst).nobar (unhide Hper) (unhide Hy) (unhide H32) (unhide H44) (unhide Hn2) []
      · have H6 := hide ((unhide Hr).trans hr2)
        have Ho6 := hide (ownsRow_frm (unhide Ho) hr2.frm (fun j hj => ⟨((unhide Ho).lt j hj).2, unhide Hfr j ((unhide Ho).lt j hj).1⟩))
        have Hs2 := hide hs2
        have Hy2 := hide hy2
        have Hl2 := hide hl2
        clear hs2 hy2 hl2 hr2
        go_wp2_with fail
        go_ret2
        have hz := skp_same (unhide Hs2) (unhide H32)
        refine ⟨true, .slice aop (pd0.length + 1) capp, k2 + 1, pd0 ++ [(da, db)], rfl, ?_, fun _ => (by have := unhide Ho6; simpa using this), (fun h0 => by cases h0), by have := (unhide Hs2).le; omega, unhide H6⟩
        rw [hz, unhide Hl2] at Hper
        exact (unhide Hst).bar (unhide Hper) (unhide Hy) (unhide Hy2)

end Go.Proofs.YtdchbenfccofpaaGreatDoor
namespace Go.Proofs.YtdchbenfccofpaaGreatDoor
open Go.RowKit Db

theorem info_cell : (Tryz.prog.info? 139).map (fun i => (i.zero, i.size, i.bytes)) = some (some (.agg #[.int .i64 0, .int .u8 0]), 2, 16) := by kernel_rfl
theorem info_cells : (Tryz.prog.info? 141).map (fun i => (i.zero, i.size, i.bytes)) = some (some (.slice none 0 0), 1, 24) := by kernel_rfl
theorem own_down {w : World} {B B' : Nat} {e : TypeId} {size : Nat} {v : Value} {n : Nat} {xs : List Value} (h : w.ownsRow B e size v n xs) (hB : B' ≤ B) : w.ownsRow B' e size v n xs := by
  refine ⟨h.1, ?_⟩
  rcases h.2 with hn | ⟨g, cap, cur, rfl, hbg, rest⟩
  · exact .inl hn
  · exact .inr ⟨g, cap, cur, rfl, Nat.le_trans hB hbg, rest⟩
/-- One row more. -/
theorem CellsAt.snoc {W w5 : World} {B : Nat} {vc vc' v2 : Value} {vs : List Value} {cells : List (List Cl)} {row : List Cl} (h : CellsAt W B vc vs cells) (o : Obj)
    (hv : W.ownsRow B 139 2 v2 row.length (cellsC row)) (hown : w5.ownsRow B 141 1 vc' (vs.length + 1) (vs ++ [v2])) (hgr : (W.alloc o).grownBy w5 vc.ownBlock) : CellsAt w5 B vc' (vs ++ [v2]) (cells ++ [row]) := by
  refine ⟨by simpa using hown, by simp [h.len], ?_⟩
  intro i v c h1 h2
  by_cases hi : i < vs.length
  · rw [List.getElem?_append_left hi] at h1
    rw [List.getElem?_append_left (by rw [← h.len]; exact hi)] at h2
    exact ((h.row i v c h1 h2).alloc o).kept hgr (own_apart' (h.row i v c h1 h2) h.own (by decide))
  · rw [List.getElem?_append_right (by omega)] at h1
    rw [List.getElem?_append_right (by rw [← h.len]; omega)] at h2
    rw [← h.len] at h2
    match hk : i - vs.length, h1, h2 with
    | 0, h1, h2 =>
      simp at h1 h2
      subst h1 h2
      exact (hv.alloc o).kept hgr (own_apart' hv h.own (by decide))
    | k + 1, h1, h2 => simp at h1
theorem CellsAt.set {W : World} {B : Nat} {vc : Value} {vs : List Value} {cells : List (List Cl)} (h : CellsAt W B vc vs cells) {a : Addr} (ha : a.block < B) (u : Value) : CellsAt (W.setCell a u) B vc vs cells :=
  ⟨ownsRow_setCell_below h.own ha u, h.len, fun i v c h1 h2 => ownsRow_setCell_below (h.row i v c h1 h2) ha u⟩
/-- The cells of the first k periods. -/
def rowP (s : Bk) (pd : List (Int × Int)) (cells : List (List Cl)) (ps : List Pt) (k : Nat) : List Cl := (List.range k).map fun i => cel (opE s pd cells i) ps
theorem rowP_snoc (s : Bk) (pd : List (Int × Int)) (cells : List (List Cl)) (ps : List Pt) (k : Nat) : rowP s pd cells ps (k + 1) = rowP s pd cells ps k ++ [cel (opE s pd cells k) ps] := by
  unfold rowP; rw [List.range_succ, List.map_append]; rfl
theorem rowP_len (s : Bk) (pd : List (Int × Int)) (cells : List (List Cl)) (ps : List Pt) (k : Nat) : (rowP s pd cells ps k).length = k := by simp [rowP]
theorem shC_snoc {s : Bk} {pd : List (Int × Int)} {pss : List (List Pt)} {j : Nat} {ps : List Pt} (h : pss[j]? = some ps) : shC s pd (pss.take (j + 1)) = shC s pd (pss.take j) ++ [rowP s pd (shC s pd (pss.take j)) ps pd.length] := by
  unfold shC
  rw [List.take_add_one, h]
  simp only [Option.toList_some, List.foldl_append, List.foldl_cons, List.foldl_nil]
  rfl
theorem shC_len (s : Bk) (pd : List (Int × Int)) (pss : List (List Pt)) : (shC s pd pss).length = pss.length := by
  have key : ∀ (l : List (List Pt)) (acc : List (List Cl)), (l.foldl (fun cells ps => cells ++ [rowC s pd cells ps]) acc).length = acc.length + l.length := by
    intro l
    induction l with
    | nil => intro acc; simp
    | cons x t ih => intro acc; rw [List.foldl_cons, ih]; simp; omega
  unfold shC; rw [key]; simp

/-- A row that can be worked out, at place i. -/
structure RowW (t : ByteArray) (ps : List Pt) (i : Nat) : Prop where
  wf : ∃ n, Wf n (L t) ps
  sz : t.size ≤ 200
  old : ∀ p ∈ ps, oldB p.1 = true → p.2.toNat < i
/-- Where the loop over the rows stands. -/
structure WkSt (w wr : World) (s : Bk) (pd : List (List UInt8 × List UInt8)) (cells : List (List Cl)) (pb B : Nat) (vf vt vr vc : Value) (ss : List ByteArray) (vs : List Value) : Prop where
  sb : Blk wr w.heap.size #[vf, vt, vr] 129
  gr : GridAt wr (w.heap.size + 1) s pd cells pb B vf vt vr vc ss vs
  bel : Below w.heap.size w wr
theorem WkSt.kept {w wr w' : World} {s : Bk} {pd : List (List UInt8 × List UInt8)} {cells : List (List Cl)} {pb B : Nat} {vf vt vr vc : Value} {ss : List ByteArray} {vs : List Value} (h : WkSt w wr s pd cells pb B vf vt vr vc ss vs) (hb : Below wr.heap.size wr w') : WkSt w w' s pd cells pb B vf vt vr vc ss vs :=
  ⟨h.sb.kept hb, h.gr.kept hb, h.bel.then' h.bel.size hb⟩
/-- A row is laid behind the others. -/
theorem WkSt.push {w wr w5 : World} {s : Bk} {pd : List (List UInt8 × List UInt8)} {cells : List (List Cl)} {pb B B' : Nat} {vf vt vr vc vc' v2 : Value} {ss : List ByteArray} {vs : List Value} {row : List Cl} {o : Obj} (h : WkSt w wr s pd cells pb B vf vt vr vc ss vs) (hR : Rfd w B' pb s) (hsh : SheetAt w B vf vt vr pd ss)
    (hv : wr.ownsRow (w.heap.size + 2) 139 2 v2 row.length (cellsC row)) (hown : w5.ownsRow (w.heap.size + 2) 141 1 vc' (vs.length + 1) (vs ++ [v2])) (hgr : (wr.alloc o).grownBy w5 vc.ownBlock) (hw : row.length = pd.length) (h8 : cells.length < 8) (hok : ∀ c ∈ row, ClOk c) :
    WkSt w (w5.setCell ⟨w.heap.size + 1, 4, none⟩ vc') s pd (cells ++ [row]) pb B vf vt vr vc' ss (vs ++ [v2]) := by
  have hsz := h.bel.size
  have hbel : Below w.heap.size w (w5.setCell ⟨w.heap.size + 1, 4, none⟩ vc') := by
    refine Below.setCell ?_ (by simp) _
    exact (h.bel.alloc hsz o).grown hgr (by simp; omega) (fun g hg => by have := (h.gr.cs.own.lt g hg).1; omega)
  refine ⟨?_, ⟨?_, ⟨B', hR.kept hbel⟩, hsh.kept hbel, ?_, ?_, ⟨h.gr.few.1, by simp; omega⟩, ?_⟩, hbel⟩
  · exact ((h.sb.alloc o).grown hgr (fun e => by have := (h.gr.cs.own.lt _ e.symm).1; omega)).setOther _ _ (by simp)
  · have := ((h.gr.blk.alloc o).grown hgr (fun e => by have := (h.gr.cs.own.lt _ e.symm).1; omega)).set 4 vc'
    simpa using this
  · exact (CellsAt.snoc h.gr.cs o hv hown hgr).set (by simp) _
  · intro r hr
    simp at hr
    rcases hr with hr | rfl
    · exact h.gr.wid r hr
    · exact hw
  · intro r hr
    simp at hr
    rcases hr with hr | rfl
    · exact h.gr.ok r hr
    · exact hok

set_option maxRecDepth 100000 in
set_option maxHeartbeats 8000000 in
theorem worked_any (pb B B' : Nat) (s : Bk) (pd : List (List UInt8 × List UInt8)) (ss : List ByteArray) (pss : List (List Pt)) (vf vt vr : Value) (w : World) (hR : Rfd w B' pb s) (hsh : SheetAt w B vf vt vr pd ss) (hp4 : pd.length ≤ 4) (hlen : ss.length = pss.length) (h8 : pss.length ≤ 8)
    (hrow : ∀ (i : Nat) t ps, ss[i]? = some t → pss[i]? = some ps → RowW t ps i) :
    Calls Tryz.prog 79 #[.pointer (some ⟨pb, 0, none⟩), .agg #[vf, vt, vr]] w fun e w' => ∃ g vc vs, e = .returned vc ∧ w.heap.size ≤ g ∧ GridAt w' g s pd (shC s (pdv pd) pss) pb B vf vt vr vc ss vs ∧ Below w.heap.size w w' := by
  obtain ⟨i1, hi1, hz10, hz11, hz12⟩ := info_parts info_cell
  obtain ⟨i2, hi2, hz20, hz21, hz22⟩ := info_parts info_cells
  obtain ⟨aof, capf, rfl⟩ := ownsRow_form hsh.rf
  obtain ⟨aot, capt, rfl⟩ := ownsRow_form hsh.rt
  obtain ⟨aor, capr, rfl⟩ := ownsRow_form hsh.rr
  have HR := hide hR
  have Hsh := hide hsh
  have Hrow := hide hrow
  have hpdl : (pdv pd).length = pd.length := by simp [pdv]
  have Hlen := hide hlen
  have hs8 : ss.length ≤ 8 := by omega
  have Hst : Hid (WkSt w ((w.alloc (.cells #[.slice aof pd.length capf, .slice aot pd.length capt, .slice aor ss.length capr] 129)).alloc (.cells #[.pointer (some ⟨pb, 0, none⟩), .slice aof pd.length capf, .slice aot pd.length capt, .slice aor ss.length capr, .slice none 0 0] 136)) s pd [] pb B (.slice aof pd.length capf) (.slice aot pd.length capt) (.slice aor ss.length capr) (.slice none 0 0) ss []) := by
    have hb : Below w.heap.size w ((w.alloc (.cells #[.slice aof pd.length capf, .slice aot pd.length capt, .slice aor ss.length capr] 129)).alloc (.cells #[.pointer (some ⟨pb, 0, none⟩), .slice aof pd.length capf, .slice aot pd.length capt, .slice aor ss.length capr, .slice none 0 0] 136)) := ((Below.refl _ _).alloc (Nat.le_refl _) _).alloc (by simp) _
    refine ⟨(Blk.new _ _ _).alloc _, ⟨?_, ⟨B', hR.kept hb⟩, hsh.kept hb, CellsAt.nil _ _, by simp, ⟨hp4, by simp⟩, by simp⟩, hb⟩
    have := Blk.new (w.alloc (.cells #[.slice aof pd.length capf, .slice aot pd.length capt, .slice aor ss.length capr] 129)) #[.pointer (some ⟨pb, 0, none⟩), .slice aof pd.length capf, .slice aot pd.length capt, .slice aor ss.length capr, .slice none 0 0] 136
    simpa using this
  clear hR hsh hrow hlen
  go_enter Tryz.func79, Tryz.ntmps79
  go_wp2_with fail
  go_loopg [6] ss.length (fun m i wr => ∃ j : Nat, ∃ cells vc vs, j ≤ ss.length ∧ m = ss.length - j ∧ i = .int .i64 j ∧ Hid (cells = shC s (pdv pd) (pss.take j)) ∧ Hid (WkSt w wr s pd cells pb B (.slice aof pd.length capf) (.slice aot pd.length capt) (.slice aor ss.length capr) vc ss vs))
  case atStart => exact ⟨0, [], .slice none 0 0, [], by omega, rfl, rfl, rfl, unhide Hst⟩
  case round =>
    obtain ⟨j, cells, vc, vs, hj, rfl, rfl, Hcs, Hw⟩ := hrel
    have hszw := (unhide Hw).bel.size
    obtain ⟨g0, g1, g2, g3, g4⟩ := five_cells (unhide Hw).gr.blk
    have b0 := (unhide Hw).sb.cell 0
    have b2 := (unhide Hw).sb.cell 2
    have gl := (unhide Hw).gr.blk.lt
    simp only [List.getElem?_toArray, List.getElem?_cons_zero, List.getElem?_cons_succ] at b0 b2
    by_cases hlt : j < ss.length
    · obtain ⟨t, ht⟩ : ∃ t, ss[j]? = some t := ⟨ss[j], List.getElem?_eq_getElem hlt⟩
      obtain ⟨ps, hps⟩ : ∃ ps, pss[j]? = some ps := ⟨pss[j]'(by have := unhide Hlen; omega), List.getElem?_eq_getElem _⟩
      have hrw := unhide Hrow j t ps ht hps
      have hcl : cells.length = j := by rw [unhide Hcs, shC_len, List.length_take]; have := unhide Hlen; omega
      have Hsn : Hid (∀ row, row = rowP s (pdv pd) cells ps pd.length → cells ++ [row] = shC s (pdv pd) (pss.take (j + 1))) := by
        intro row hr
        rw [shC_snoc hps, ← unhide Hcs, hr, hpdl]
      have Hwo : Hid (∀ (k : Nat) (wx : World), Grd wx (w.heap.size + 1) s pd cells → k < pd.length → Calls Tryz.prog 118 #[.pointer (some ⟨w.heap.size + 1, 0, none⟩), .string t, .int .i64 (k : Int)] wx fun e w' => ∃ c : Cl, e = .returned (clV c) ∧ c = cel (opE s (pdv pd) cells k) ps ∧ ClOk c ∧ Below wx.heap.size wx w') := by
        intro k wx hg hk
        obtain ⟨n, hwf⟩ := hrw.wf
        refine (worth_any n t ps _ k s pd cells wx hrw.sz hwf hg hk (by rw [hcl]; exact hrw.old)).mono ?_
        rintro e w1 ⟨c, rfl, hv, hok, hb⟩
        exact ⟨c, rfl, (cel_val hv).symm, hok, hb⟩
      obtain ⟨gr, _, e1, hgr, hgr'⟩ := ownsRow_some (unhide Hsh).rr (by omega)
      simp only [Value.slice.injEq, true_and] at e1
      obtain ⟨rfl, rfl⟩ := e1
      have Ht : Hid (w.cell? ⟨gr, j, none⟩ = some (.string t)) := ownsRow_cell (unhide Hsh).rr (j := j) (u := .string t) (by rw [List.getElem?_map, ht]; rfl)
      clear ht hps hrw
      go_wp2_with fail
      obtain ⟨W1, hW1⟩ : ∃ W1, wr = W1 := ⟨_, rfl⟩
      rw [hW1] at Hw g0 g1 g2 g3 g4 b0 b2 gl hszw ⊢
      clear hW1
      go_loopg [7, 8] pd.length (fun m v i wx => ∃ k : Nat, k ≤ pd.length ∧ m = pd.length - k ∧ i = .int .i64 k ∧ Hid (wx.ownsRow W1.heap.size 139 2 v k (cellsC (rowP s (pdv pd) cells ps k))) ∧ Hid (∀ c ∈ rowP s (pdv pd) cells ps k, ClOk c) ∧ Hid (Below W1.heap.size W1 wx))
      case atStart => exact ⟨0, by omega, rfl, rfl, World.ownsRow_nil _ _ _ _, (fun c hc => by simp [rowP] at hc), Below.refl _ _⟩
      case round =>
        obtain ⟨k, hk, rfl, rfl, Hrw, Hok, Hbx⟩ := hrel
        obtain ⟨aov, capv, hvv⟩ := ownsRow_form (unhide Hrw)
        subst hvv
        have hszx := (unhide Hbx).size
        have b0' := kept_cell' (unhide Hbx) b0
        have b2' := kept_cell' (unhide Hbx) b2
        have g4' := kept_cell' (unhide Hbx) g4
        have hbw : Below w.heap.size w wr := (unhide Hw).bel.then' hszw (unhide Hbx)
        have ht' := hbw.cell (p := ⟨gr, j, none⟩) hgr'
        rw [unhide Ht] at ht'
        have hglx : w.heap.size + 1 < wr.heap.size := by omega
        have hgrx : gr < wr.heap.size := by omega
        have HWx := hide ((unhide Hw).kept (unhide Hbx))
        have z4' := (unhide HWx).gr.blk.frozen 4
        clear hbw
        by_cases hlk : k < pd.length
        · go_wp2_with fail
          refine (unhide Hwo k _ ⟨_, _, _, _, _, _, _, _, (unhide HWx).gr⟩ hlk).mono ?_
          rintro e w2 ⟨c, rfl, hc, hok, hb2⟩
          have Hc := hide hc
          have Hok2 := hide hok
          have Hrw2 := hide (ownsRow_below (unhide Hrw) hb2)
          have Hb2 := hide ((unhide Hbx).then' hszx hb2)
          have hsz2 := hb2.size
          obtain ⟨c1, c2⟩ := c
          unfold clV
          simp only
          clear hb2 hok hc
          go_wp2_with (first
            | (at_builtin; refine wpList_append_own _ rfl (.tmp 36) (.tmp 38) 141 rfl W1.heap.size 139 i1 (.agg #[.int .i64 0, .int .u8 0]) 2 16 Tryz.underlying141 hi1 hz10 hz11 hz12 rfl (by decide) (.slice aov k capv) k _ rfl (((unhide Hrw2).alloc _).alloc _) ⟨w2.heap.size + 1, 0, none⟩ 1 1 [.int .i64 c1, .int .u8 c2] rfl rfl (cell_two_new' _ _ (by simp) _ _ _) (fun x hx => by simp at hx; rcases hx with rfl | rfl <;> rfl) (by unfold maxLen; omega) (by omega) (by simp; omega) ?_; intro vq' w5 hown5 hgr5 _))
          have Hrw5 : Hid (w5.ownsRow W1.heap.size 139 2 vq' (k + 1) (cellsC (rowP s (pdv pd) cells ps (k + 1)))) := by
            show World.ownsRow _ _ _ _ _ _ _
            rw [rowP_snoc, ← unhide Hc, cellsC_snoc]
            exact hown5
          have Hok5 : Hid (∀ c ∈ rowP s (pdv pd) cells ps (k + 1), ClOk c) := by
            intro c hc
            rw [rowP_snoc, ← unhide Hc] at hc
            simp at hc
            rcases hc with hc | rfl
            · exact unhide Hok c hc
            · exact unhide Hok2
          have Hb5 : Hid (Below W1.heap.size W1 w5) := (((unhide Hb2).alloc (by omega) _).alloc (by simp; omega) _).grown hgr5 (by simp; omega) (fun g hg => ((unhide Hrw2).lt g hg).1)
          clear hown5 hgr5
          go_wp2_with fail
          go_roundg (pd.length - (k + 1))
          case measure => omega
          case rel => exact ⟨k + 1, by omega, rfl, by go_num, unhide Hrw5, unhide Hok5, unhide Hb5⟩
        · obtain rfl : k = pd.length := by omega
          obtain ⟨aoc, capc, hvc⟩ := ownsRow_form (unhide HWx).gr.cs.own
          have hvl : vs.length = j := by rw [(unhide HWx).gr.cs.len, hcl]
          rw [hvl] at hvc
          subst hvc
          have hwl := rowP_len s (pdv pd) cells ps pd.length
          go_wp2_with (first
            | (at_builtin; refine wpList_append_own _ rfl (.tmp 44) (.tmp 46) 134 rfl (w.heap.size + 2) 141 i2 (.slice none 0 0) 1 24 Tryz.underlying134 hi2 hz20 hz21 hz22 rfl (by decide) (.slice aoc j capc) j _ rfl (by have := (unhide HWx).gr.cs.own.alloc (.cells #[.slice aov pd.length capv] 141); rw [hvl] at this; exact this) ⟨wr.heap.size, 0, none⟩ 1 1 [.slice aov pd.length capv] rfl rfl (cell_one_new _ _ _) (fun x hx => by simp at hx; subst hx; rfl) (by unfold maxLen; omega) (by omega) (by simp; omega) ?_; intro vq' w5 hown5 hgr5 _; obtain ⟨gf, cf, rfl, hgf, hgf'⟩ := ownsRow_some hown5 (Nat.succ_pos _); have hbk : Blk w5 (w.heap.size + 1) #[.pointer (some ⟨pb, 0, none⟩), .slice aof pd.length capf, .slice aot pd.length capt, .slice (some ⟨gr, 0, none⟩) ss.length capr, .slice aoc j capc] 136 := ((unhide HWx).gr.blk.alloc _).grown hgr5 (fun e => by have := ((unhide HWx).gr.cs.own.lt _ e.symm).1; omega); have y4 := (five_cells hbk).2.2.2.2; have yz := hbk.frozen 4; have yl := hbk.lt; clear hbk))
          have HW5 := hide ((unhide HWx).push (unhide HR) (unhide Hsh) (row := rowP s (pdv pd) cells ps pd.length) (by rw [hwl]; exact own_down (unhide Hrw) (by omega)) (by rw [hvl]; exact hown5) hgr5 hwl (by omega) (unhide Hok))
          have Hcs5 := hide (unhide Hsn _ rfl)
          clear hown5 hgr5
          go_wp2_with fail
          go_roundg (ss.length - (j + 1))
          case measure => omega
          case rel => exact ⟨j + 1, _, _, _, by omega, rfl, by go_num, unhide Hcs5, unhide HW5⟩
    · obtain rfl : j = ss.length := by omega
      have Hfin : Hid (cells = shC s (pdv pd) pss) := by show _ = _; rw [unhide Hcs, unhide Hlen, List.take_length]
      obtain ⟨aoc, capc, hvc⟩ := ownsRow_form (unhide Hw).gr.cs.own
      subst hvc
      go_wp2_with fail
      go_ret
      rw [← unhide Hfin]
      exact ⟨w.heap.size + 1, _, _, rfl, by omega, (unhide Hw).gr, (unhide Hw).bel⟩
end Go.Proofs.YtdchbenfccofpaaGreatDoor
namespace Db
theorem dg2_stop {d : List UInt8} {m : Nat} (hm : m ≤ 2) (hd : ∀ c ∈ d.take m, digB c.toNat = true) (he : m = 2 ∨ d.length ≤ m ∨ ∃ c, d[m]? = some c ∧ digB c.toNat = false) : dg2 d = d.take m := by
  unfold dg2
  match m, hm, hd, he with
  | 0, _, _, he =>
    cases d with
    | nil => rfl
    | cons a r =>
      rcases he with he | he | ⟨c, hc, hn⟩
      · cases he
      · simp at he
      · simp at hc; subst hc; simp [hn]
  | 1, _, hd, he =>
    match d with
    | [] => rfl
    | [a] => have := hd a (by simp); simp [this]
    | a :: b :: r =>
      have h1 := hd a (by simp)
      rcases he with he | he | ⟨c, hc, hn⟩
      · cases he
      · simp at he
      · simp at hc; subst hc; simp [h1, hn]
  | 2, _, hd, _ =>
    match d with
    | [] => rfl
    | [a] => have := hd a (by simp); simp [this]
    | a :: b :: r =>
      have h1 := hd a (by simp)
      have h2 := hd b (by simp)
      simp [h1, h2]
end Db
namespace Go.Proofs.YtdchbenfccofpaaGreatDoor
open Go.RowKit Db

/-- Names a row an account that the book does not have? -/
def notB (s : Bk) (n : Int) : Bool := !ther s n
theorem strg_step (q : Int → Bool) (t : ByteArray) (i : Nat) (h : i < t.size) : strg q ((L t).drop i) = ((selB (t[i].toNat : Int) && q (val (dg2 ((L t).drop (i + 1))))) || strg q ((L t).drop (i + 1))) := by
  rw [L_drop t i h]; rfl
theorem take_dig {t : ByteArray} {i m : Nat} (h : i + m < t.size) (hd : ∀ c ∈ ((L t).drop i).take m, digB c.toNat = true) (h0 : digB (t[i + m].toNat : Int) = true) : ∀ c ∈ ((L t).drop i).take (m + 1), digB c.toNat = true := by
  intro c hc
  rw [List.take_succ_eq_append_getElem (by rw [List.length_drop, L_length]; omega)] at hc
  simp only [List.mem_append, List.mem_singleton] at hc
  rcases hc with hc | rfl
  · exact hd c hc
  · rw [List.getElem_drop, L_get t (i + m) h]; exact h0

set_option maxRecDepth 100000 in
set_option maxHeartbeats 4000000 in
theorem strange_any (B p : Nat) (s : Bk) (t : ByteArray) (w : World) (h : Rfd w B p s) (hs : t.size ≤ 200) :
    Calls Tryz.prog 166 #[.pointer (some ⟨p, 0, none⟩), .string t] w fun e w' => e = .returned (.bool (strg (notB s) (L t))) ∧ Below w.heap.size w w' := by
  have Hth := hide (fun (n : Int) (wx : World) (hb : Below w.heap.size w wx) => there_any B p s n wx (h.kept hb))
  clear h
  go_enter Tryz.func166, Tryz.ntmps166
  go_wp2_with fail
  go_loopg [5] t.size (fun m i wr => ∃ j : Nat, j ≤ t.size ∧ m = t.size - j ∧ i = .int .i64 j ∧ Hid (strg (notB s) ((L t).drop j) = strg (notB s) (L t)) ∧ Hid (Below w.heap.size w wr))
  case atStart => exact ⟨0, by omega, rfl, rfl, rfl, Below.refl _ _⟩
  case round =>
    obtain ⟨j, hj, rfl, rfl, Ho, Hb⟩ := hrel
    by_cases hlt : j < t.size
    · have Hst := hide (strg_step (notB s) t j hlt)
      obtain ⟨sel, hsel⟩ : ∃ sel, selB (t[j].toNat : Int) = sel := ⟨_, rfl⟩
      have Hsel := hide hsel
      rw [hsel] at Hst
      clear hsel
      go_wp2_with fail
      refine (selector_any _ _).mono ?_
      rintro e w1 ⟨rfl, rfl⟩
      rw [unhide Hsel]
      cases sel with
      | false =>
        go_wp2_with fail
        go_roundg (t.size - (j + 1))
        case measure => omega
        case rel => exact ⟨j + 1, by omega, rfl, by go_num, by show _ = _; rw [← unhide Ho, unhide Hst]; simp, unhide Hb⟩
      | true =>
        go_wp2_with fail
        obtain ⟨W, hW⟩ : ∃ W, w1 = W := ⟨_, rfl⟩
        rw [hW] at Hb ⊢
        clear hW
        go_loopg [7] 2 (fun mm i wx => ∃ m : Nat, m ≤ 2 ∧ mm = 2 - m ∧ j + 1 + m ≤ t.size ∧ i = .int .i64 ((j + 1 + m : Nat) : Int) ∧ wx = W ∧ Hid (∀ c ∈ ((L t).drop (j + 1)).take m, digB c.toNat = true))
        case atStart => exact ⟨0, by omega, rfl, by omega, by go_num, rfl, (fun c hc => by simp at hc)⟩
        case round =>
          obtain ⟨m, hm, rfl, hle, rfl, rfl, Hd⟩ := hrel
          have HX : Hid ((m = 2 ∨ ((L t).drop (j + 1)).length ≤ m ∨ ∃ c, ((L t).drop (j + 1))[m]? = some c ∧ digB c.toNat = false) → val (L (t.extract (j + 1) (j + 1 + m))) = val (dg2 ((L t).drop (j + 1)))) := by
            intro hx
            rw [dg2_stop hm (unhide Hd) hx, L_extract, show j + 1 + m - (j + 1) = m by omega]
          have hes : (t.extract (j + 1) (j + 1 + m)).size ≤ 18 := by rw [← L_length, L_extract]; simp; omega
          have Hed := hide (dig_at (t := t.extract (j + 1) (j + 1 + m)) (l := ((L t).drop (j + 1)).take m) (by rw [L_extract, show j + 1 + m - (j + 1) = m by omega]) (unhide Hd))
          have hcase : (t.size ≤ j + 1 + m) ∨ (j + 1 + m < t.size ∧ m = 2) ∨ (∃ h : j + 1 + m < t.size, m < 2 ∧ t[j + 1 + m].toNat < 48) ∨ (∃ h : j + 1 + m < t.size, m < 2 ∧ 48 ≤ t[j + 1 + m].toNat ∧ 57 < t[j + 1 + m].toNat) ∨ (∃ h : j + 1 + m < t.size, m < 2 ∧ 48 ≤ t[j + 1 + m].toNat ∧ t[j + 1 + m].toNat ≤ 57) := by
            by_cases h1 : t.size ≤ j + 1 + m
            · exact .inl h1
            by_cases h2 : m = 2
            · exact .inr (.inl ⟨by omega, h2⟩)
            have h3 : j + 1 + m < t.size := by omega
            by_cases h4 : t[j + 1 + m].toNat < 48
            · exact .inr (.inr (.inl ⟨h3, by omega, h4⟩))
            by_cases h5 : 57 < t[j + 1 + m].toNat
            · exact .inr (.inr (.inr (.inl ⟨h3, by omega, by omega, h5⟩)))
            · exact .inr (.inr (.inr (.inr ⟨h3, by omega, by omega, by omega⟩)))
          have hkk : ((j + 1 + m : Nat) : Int) = (j : Int) + 1 + m := by omega
          rcases hcase with hx | ⟨hx, rfl⟩ | ⟨hx, hm2, h48⟩ | ⟨hx, hm2, h48, h57⟩ | ⟨hx, hm2, h48, h57⟩
          rotate_right
          · have Hd2 := hide (take_dig hx (unhide Hd) (by unfold digB; simp; omega))
            go_wp2_with fail
            go_roundg (2 - (m + 1))
            case measure => omega
            case rel => exact ⟨m + 1, by omega, rfl, by omega, by go_num, rfl, unhide Hd2⟩
          · have Hv := hide (unhide HX (.inr (.inl (by rw [List.length_drop, L_length]; omega))))
            clear HX Hd
            go_wp2_with fail
            refine (value_any _ _ hes (unhide Hed)).mono ?_
            rintro e w2 ⟨rfl, _, _, rfl⟩
            obtain ⟨v, hv⟩ : ∃ v, val (dg2 ((L t).drop (j + 1))) = v := ⟨_, rfl⟩
            rw [unhide Hv, hv]
            rw [hv] at Hst
            clear hv Hv
            go_wp2_with fail
            refine (unhide Hth v _ (unhide Hb)).mono ?_
            rintro e w3 ⟨rfl, rfl⟩
            cases hth : ther s v with
            | true =>
              rw [show notB s v = false by unfold notB; rw [hth]; rfl] at Hst
              go_wp2_with fail
              go_roundg (t.size - (j + 1))
              case measure => omega
              case rel => exact ⟨j + 1, by omega, rfl, by go_num, by show _ = _; rw [← unhide Ho, unhide Hst]; simp, unhide Hb⟩
            | false =>
              rw [show notB s v = true by unfold notB; rw [hth]; rfl] at Hst
              go_wp2_with fail
              go_ret
              exact ⟨retB' (by rw [← unhide Ho, unhide Hst]; simp), unhide Hb⟩
          · have Hv := hide (unhide HX (.inl rfl))
            clear HX Hd
            go_wp2_with fail
            refine (value_any _ _ hes (unhide Hed)).mono ?_
            rintro e w2 ⟨rfl, _, _, rfl⟩
            obtain ⟨v, hv⟩ : ∃ v, val (dg2 ((L t).drop (j + 1))) = v := ⟨_, rfl⟩
            rw [unhide Hv, hv]
            rw [hv] at Hst
            clear hv Hv
            go_wp2_with fail
            refine (unhide Hth v _ (unhide Hb)).mono ?_
            rintro e w3 ⟨rfl, rfl⟩
            cases hth : ther s v with
            | true =>
              rw [show notB s v = false by unfold notB; rw [hth]; rfl] at Hst
              go_wp2_with fail
              go_roundg (t.size - (j + 1))
              case measure => omega
              case rel => exact ⟨j + 1, by omega, rfl, by go_num, by show _ = _; rw [← unhide Ho, unhide Hst]; simp, unhide Hb⟩
            | false =>
              rw [show notB s v = true by unfold notB; rw [hth]; rfl] at Hst
              go_wp2_with fail
              go_ret
              exact ⟨retB' (by rw [← unhide Ho, unhide Hst]; simp), unhide Hb⟩
          · have Hv := hide (unhide HX (.inr (.inr ⟨t[j + 1 + m], by rw [List.getElem?_drop]; exact L_get? t _ hx, by unfold digB; simp; omega⟩)))
            clear HX Hd
            go_wp2_with fail
            refine (value_any _ _ hes (unhide Hed)).mono ?_
            rintro e w2 ⟨rfl, _, _, rfl⟩
            obtain ⟨v, hv⟩ : ∃ v, val (dg2 ((L t).drop (j + 1))) = v := ⟨_, rfl⟩
            rw [unhide Hv, hv]
            rw [hv] at Hst
            clear hv Hv
            go_wp2_with fail
            refine (unhide Hth v _ (unhide Hb)).mono ?_
            rintro e w3 ⟨rfl, rfl⟩
            cases hth : ther s v with
            | true =>
              rw [show notB s v = false by unfold notB; rw [hth]; rfl] at Hst
              go_wp2_with fail
              go_roundg (t.size - (j + 1))
              case measure => omega
              case rel => exact ⟨j + 1, by omega, rfl, by go_num, by show _ = _; rw [← unhide Ho, unhide Hst]; simp, unhide Hb⟩
            | false =>
              rw [show notB s v = true by unfold notB; rw [hth]; rfl] at Hst
              go_wp2_with fail
              go_ret
              exact ⟨retB' (by rw [← unhide Ho, unhide Hst]; simp), unhide Hb⟩
          · have Hv := hide (unhide HX (.inr (.inr ⟨t[j + 1 + m], by rw [List.getElem?_drop]; exact L_get? t _ hx, by unfold digB; simp; omega⟩)))
            clear HX Hd
            go_wp2_with fail
            refine (value_any _ _ hes (unhide Hed)).mono ?_
            rintro e w2 ⟨rfl, _, _, rfl⟩
            obtain ⟨v, hv⟩ : ∃ v, val (dg2 ((L t).drop (j + 1))) = v := ⟨_, rfl⟩
            rw [unhide Hv, hv]
            rw [hv] at Hst
            clear hv Hv
            go_wp2_with fail
            refine (unhide Hth v _ (unhide Hb)).mono ?_
            rintro e w3 ⟨rfl, rfl⟩
            cases hth : ther s v with
            | true =>
              rw [show notB s v = false by unfold notB; rw [hth]; rfl] at Hst
              go_wp2_with fail
              go_roundg (t.size - (j + 1))
              case measure => omega
              case rel => exact ⟨j + 1, by omega, rfl, by go_num, by show _ = _; rw [← unhide Ho, unhide Hst]; simp, unhide Hb⟩
            | false =>
              rw [show notB s v = true by unfold notB; rw [hth]; rfl] at Hst
              go_wp2_with fail
              go_ret
              exact ⟨retB' (by rw [← unhide Ho, unhide Hst]; simp), unhide Hb⟩
    · obtain rfl : j = t.size := by omega
      go_wp2_with fail
      go_ret
      exact ⟨retB' (by rw [← unhide Ho, L_drop_end t _ (Nat.le_refl _)]; rfl), unhide Hb⟩

/-- A cell as a text. -/
def cellT (c : Cl) : List UInt8 := if c.2 == 0 then Lib.itoa c.1 else [UInt8.ofNat c.2.toNat]
set_option maxRecDepth 100000 in
set_option maxHeartbeats 2000000 in
theorem refText_any (c : Cl) (w : World) (hc : ClOk c) :
    Calls Tryz.prog 167 #[clV c] w fun e w' => ∃ u : ByteArray, e = .returned (.string u) ∧ L u = cellT c ∧ u.size ≤ 21 ∧ Below w.heap.size w w' := by
  rcases hc with ⟨h0, hin⟩ | rfl | rfl
  · obtain ⟨a, b⟩ := c
    simp only at h0 hin
    subst h0
    unfold clV
    have hr := inR_iff.1 hin
    simp only
    clear hin
    go_enter Tryz.func167, Tryz.ntmps167
    go_wp2_with fail
    refine (number10_any a _ hr.1 hr.2).mono ?_
    rintro e w1 ⟨u, rfl, hu, hb⟩
    have Hu := hide hu
    have Hb : Hid (Below w.heap.size w w1) := ((Below.refl _ _).alloc (Nat.le_refl _) _).then' (by simp) hb
    clear hu hb
    go_wp2_with fail
    go_ret
    exact ⟨u, rfl, unhide Hu, itoa_size hr.1 hr.2 (unhide Hu), unhide Hb⟩
  · have hcv : (convert 187 9 (.slice (some ⟨w.heap.size + 1, 0, none⟩) 1 1)).run Tryz.prog ((w.alloc (.cells #[.int .i64 0, .int .u8 122] 139)).alloc (.cells #[.int .u8 122] 5)) = .ok (.string ⟨#[122]⟩) ((w.alloc (.cells #[.int .i64 0, .int .u8 122] 139)).alloc (.cells #[.int .u8 122] 5)) :=
      conv_one 122 _ _ (by simp)
    unfold clV
    simp only
    go_enter Tryz.func167, Tryz.ntmps167
    go_wp2_with fail
    go_ret
    exact ⟨_, rfl, rfl, by decide, ((Below.refl _ _).alloc (Nat.le_refl _) _).alloc (by simp) _⟩
  · have hcv : (convert 187 9 (.slice (some ⟨w.heap.size + 1, 0, none⟩) 1 1)).run Tryz.prog ((w.alloc (.cells #[.int .i64 0, .int .u8 111] 139)).alloc (.cells #[.int .u8 111] 5)) = .ok (.string ⟨#[111]⟩) ((w.alloc (.cells #[.int .i64 0, .int .u8 111] 139)).alloc (.cells #[.int .u8 111] 5)) :=
      conv_one 111 _ _ (by simp)
    unfold clV
    simp only
    go_enter Tryz.func167, Tryz.ntmps167
    go_wp2_with fail
    go_ret
    exact ⟨_, rfl, rfl, by decide, ((Below.refl _ _).alloc (Nat.le_refl _) _).alloc (by simp) _⟩
end Go.Proofs.YtdchbenfccofpaaGreatDoor
namespace Db
/-- What stands ahead of the i-th text: those ahead of it, and a sign. -/
def jpre (sep : UInt8) (l : List (List UInt8)) (i : Nat) : List UInt8 := if i = 0 then [] else jn sep (l.take i) ++ [sep]
theorem jn_pre {sep : UInt8} {l : List (List UInt8)} {i : Nat} {x : List UInt8} (h : l[i]? = some x) : jn sep (l.take (i + 1)) = jpre sep l i ++ x := by
  unfold jpre
  by_cases hi : i = 0
  · subst hi; rw [if_pos rfl]; exact jn_one h
  · rw [if_neg hi, jn_more (by omega) h]; simp
theorem jpre_zero (sep : UInt8) (l : List (List UInt8)) : jpre sep l 0 = [] := rfl
theorem jpre_pos {sep : UInt8} {l : List (List UInt8)} {i : Nat} (h : 0 < i) : jpre sep l i = jn sep (l.take i) ++ [sep] := by unfold jpre; rw [if_neg (by omega)]
end Db
namespace Go.Proofs.YtdchbenfccofpaaGreatDoor
open Go.RowKit Db

theorem size_app (a b : ByteArray) : (a ++ b).size = a.size + b.size := by rw [size_L, L_append, List.length_append, L_length, L_length]
def rowX (row : List Cl) : List (List UInt8) := row.map cellT
def rptX (cells : List (List Cl)) : List (List UInt8) := cells.map fun row => jn 44 (rowX row)
/-- A report's cells as a text. -/
def rptT (cells : List (List Cl)) : List UInt8 := jn 59 (rptX cells)
theorem outc_few {pd : List (Int × Int)} {pss : List (List Pt)} {er pl : Int} (h : outc pd pss = (er, pl)) (h0 : er = 0) : pd.length ≤ 4 ∧ pss.length ≤ 8 ∧ pl = 0 ∧ badN 0 pss < 0 := by
  subst h0
  unfold outc at h
  split at h
  · simp at h
  · split at h
    · simp at h
    · split at h
      · simp at h
      · split at h
        · simp at h
        · simp at h; omega
theorem rowW_of {t : ByteArray} {pd : List (List UInt8 × List UInt8)} {rows : List (List UInt8)} {pss : List (List Pt)} {ss : List ByteArray} {pl : Int} (hf : Db.Form (L t) pd rows pss) (ho : outc (pdv pd) pss = (0, pl)) (hss : ss.map L = rows) : ∀ (i : Nat) u ps, ss[i]? = some u → pss[i]? = some ps → RowW u ps i := by
  intro i u ps hu hps
  have hr : rows[i]? = some (L u) := by rw [← hss, List.getElem?_map, hu]; rfl
  have h := hf.row i (L u) ps hr hps
  refine ⟨h.wf, by rw [← L_length]; exact h.len, ?_⟩
  have h1 := badN_all pss 0 (by omega) (outc_few ho rfl).2.2.2 i ps hps
  exact nameB_lt h1 h.pos i (by omega)
theorem strg_of {t : ByteArray} {pd : List (List UInt8 × List UInt8)} {rows : List (List UInt8)} {pss : List (List Pt)} {ss : List ByteArray} (hf : Db.Form (L t) pd rows pss) (hss : ss.map L = rows) (q : Int → Bool) : ∀ (i : Nat) u ps, ss[i]? = some u → pss[i]? = some ps → strg q (L u) = selq q ps := by
  intro i u ps hu hps
  exact (hf.row i (L u) ps (by rw [← hss, List.getElem?_map, hu]; rfl) hps).sel q
theorem any_drop {α : Type} {f : α → Bool} {l : List α} {j : Nat} {x : α} (h : l[j]? = some x) : (l.drop j).any f = (f x || (l.drop (j + 1)).any f) := by
  obtain ⟨hi, rfl⟩ := List.getElem?_eq_some_iff.1 h
  rw [List.drop_eq_getElem_cons hi]; rfl
theorem shC_wid {s : Bk} {pd : List (Int × Int)} : ∀ (pss : List (List Pt)), ∀ row ∈ shC s pd pss, row.length = pd.length := by
  intro pss
  have key : ∀ (l : List (List Pt)) (acc : List (List Cl)), (∀ row ∈ acc, row.length = pd.length) → ∀ row ∈ l.foldl (fun cells ps => cells ++ [rowC s pd cells ps]) acc, row.length = pd.length := by
    intro l
    induction l with
    | nil => intro acc h; exact h
    | cons x t ih =>
      intro acc h
      rw [List.foldl_cons]
      refine ih _ ?_
      intro row hr
      simp at hr
      rcases hr with hr | rfl
      · exact h row hr
      · simp [rowC]
  exact key pss [] (by simp)

/-- What Report answers. -/
def RepIs (b : Bk) (s u : ByteArray) (er : Int) : Prop :=
  (200 < s.size ∧ er = 1 ∧ u = ⟨#[]⟩) ∨ (s.size ≤ 200 ∧ er = 2 ∧ 0 ≤ plc 0 0 0 0 (L s) ∧ u = ⟨#[]⟩) ∨
  (s.size ≤ 200 ∧ ∃ pd rows pss e0 pl, Db.Form (L s) pd rows pss ∧ outc (pdv pd) pss = (e0, pl) ∧ ((¬ e0 = 0 ∧ er = e0 ∧ u = ⟨#[]⟩) ∨ (e0 = 0 ∧ pss.any (selq (notB b)) = true ∧ er = 7 ∧ u = ⟨#[]⟩) ∨ (e0 = 0 ∧ pss.any (selq (notB b)) = false ∧ er = 0 ∧ L u = rptT (shC b (pdv pd) pss))))

set_option maxRecDepth 100000 in
set_option maxHeartbeats 8000000 in
theorem refReport_ok (B p : Nat) (b : Bk) (s : ByteArray) (w : World) (hs : s.size ≤ 200) (pd : List (List UInt8 × List UInt8)) (rows : List (List UInt8)) (pss : List (List Pt)) (pl : Int) (hf : Db.Form (L s) pd rows pss) (ho : outc (pdv pd) pss = (0, pl)) (h : Rfd w B p b) :
    Calls Tryz.prog 124 #[.pointer (some ⟨p, 0, none⟩), .string s] w fun e w' => ((pss.any (selq (notB b)) = true ∧ e = .returned (.tuple #[.string ⟨#[]⟩, .int .i64 7])) ∨ (pss.any (selq (notB b)) = false ∧ ∃ u, e = .returned (.tuple #[.string u, .int .i64 0]) ∧ L u = rptT (shC b (pdv pd) pss))) ∧ Below w.heap.size w w' := by
  have hfew := outc_few ho rfl
  have Hf := hide hf
  have Ho := hide ho
  have H := hide h
  clear hf ho h
  go_enter Tryz.func124, Tryz.ntmps124
  go_wp2_with fail
  refine (refRead_ok s _ hs pd rows pss (unhide Hf)).mono ?_
  rintro e w1 ⟨a1, n1, k1, a2, n2, k2, a3, n3, k3, er', pl', rfl, ho', hb, hsh⟩
  have hh := (unhide Ho).symm.trans ho'
  simp only [Prod.mk.injEq] at hh
  obtain ⟨rfl, rfl⟩ := hh
  obtain ⟨ss, hss, hsh⟩ := hsh rfl
  have hp4 : pd.length ≤ 4 := by have := hfew.1; simpa [pdv] using this
  have hlen : ss.length = pss.length := by rw [← (unhide Hf).len, ← hss, List.length_map]
  have hs8 : ss.length ≤ 8 := by rw [hlen]; exact hfew.2.1
  obtain rfl : n3 = ss.length := by obtain ⟨_, _, e1⟩ := ownsRow_form hsh.rr; cases e1; rfl
  have HrowW := hide (rowW_of (unhide Hf) (unhide Ho) hss)
  have Hstr := hide (strg_of (unhide Hf) hss (notB b))
  have hsz := hb.size
  obtain ⟨W, hW⟩ : ∃ W, w1.alloc (.cells #[.slice a1 n1 k1, .slice a2 n2 k2, .slice a3 ss.length k3] 129) = W := ⟨_, rfl⟩
  have HbW : Hid (Below w.heap.size w W) := by rw [← hW]; exact hb.alloc hsz _
  have HB : Hid (Blk W w1.heap.size #[.slice a1 n1 k1, .slice a2 n2 k2, .slice a3 ss.length k3] 129) := by rw [← hW]; exact Blk.new _ _ _
  have Hsh : Hid (SheetAt W w.heap.size (.slice a1 n1 k1) (.slice a2 n2 k2) (.slice a3 ss.length k3) pd ss) := by rw [← hW]; exact hsh.alloc _
  have hWs : W.heap.size = w1.heap.size + 1 := by rw [← hW]; simp
  have Hlen := hide hlen
  clear hb ho' hsh hss hlen
  go_wp2_with fail
  try rw [hW]
  clear hW
  go_loopg [9] ss.length (fun m i wr => ∃ j : Nat, j ≤ ss.length ∧ m = ss.length - j ∧ i = .int .i64 j ∧ Hid ((pss.drop j).any (selq (notB b)) = pss.any (selq (notB b))) ∧ Hid (Below W.heap.size W wr))
  case atStart => exact ⟨0, by omega, rfl, rfl, rfl, Below.refl _ _⟩
  case round =>
    obtain ⟨j, hj, rfl, rfl, Hany, Hbx⟩ := hrel
    have hszx := (unhide Hbx).size
    have HBx := hide ((unhide HB).kept (unhide Hbx))
    have b0 := (unhide HBx).cell 0
    have b1 := (unhide HBx).cell 1
    have b2 := (unhide HBx).cell 2
    simp only [List.getElem?_toArray, List.getElem?_cons_zero, List.getElem?_cons_succ] at b0 b1 b2
    have Hbw := hide ((unhide HbW).then' (unhide HbW).size (unhide Hbx))
    by_cases hlt : j < ss.length
    · obtain ⟨t, ht⟩ : ∃ t, ss[j]? = some t := ⟨ss[j], List.getElem?_eq_getElem hlt⟩
      obtain ⟨ps, hps⟩ : ∃ ps, pss[j]? = some ps := ⟨pss[j]'(by have := unhide Hlen; omega), List.getElem?_eq_getElem _⟩
      have hts := (unhide HrowW j t ps ht hps).sz
      have hst := unhide Hstr j t ps ht hps
      have Hdr := hide (any_drop (f := selq (notB b)) hps)
      have hshx := (unhide Hsh).kept (unhide Hbx)
      obtain ⟨gr, _, e1, hgr, hgr'⟩ := ownsRow_some hshx.rr (by omega)
      simp only [Value.slice.injEq, true_and] at e1
      obtain ⟨rfl, rfl⟩ := e1
      have ht' := ownsRow_cell hshx.rr (j := j) (u := .string t) (by rw [List.getElem?_map, ht]; rfl)
      have Hstg := hide (strange_any B p b t wr ((unhide H).kept (unhide Hbw)) hts)
      rw [hst] at Hstg
      obtain ⟨r, hr⟩ : ∃ r, selq (notB b) ps = r := ⟨_, rfl⟩
      rw [hr] at Hstg Hdr
      clear ht hps hst hshx hr
      go_wp2_with fail
      refine (unhide Hstg).mono ?_
      rintro e w2 ⟨rfl, hb2⟩
      have Hb2 := hide ((unhide Hbx).then' hszx hb2)
      have Hb2w := hide ((unhide Hbw).then' (unhide Hbw).size hb2)
      clear hb2 Hstg
      cases r with
      | true =>
        go_wp2_with fail
        go_ret2
        exact ⟨.inl ⟨by rw [← unhide Hany, unhide Hdr]; rfl, rfl⟩, unhide Hb2w⟩
      | false =>
        go_wp2_with fail
        go_roundg (ss.length - (j + 1))
        case measure => omega
        case rel => exact ⟨j + 1, by omega, rfl, by go_num, by show _ = _; rw [← unhide Hany, unhide Hdr]; simp, unhide Hb2⟩
    · obtain rfl : j = ss.length := by omega
      have Hno : Hid (pss.any (selq (notB b)) = false) := by show _ = _; rw [← unhide Hany, unhide Hlen, List.drop_length]; rfl
      have Hwk := hide (worked_any p w.heap.size B b pd ss pss _ _ _ wr ((unhide H).kept (unhide Hbw)) ((unhide Hsh).kept (unhide Hbx)) hp4 (unhide Hlen) hfew.2.1 (unhide HrowW))
      go_wp2_with fail
      refine (unhide Hwk).mono ?_
      rintro e w2 ⟨g, vc, vs, rfl, _, hg, hb2⟩
      have Hb2 := hide ((unhide Hbw).then' (unhide Hbw).size hb2)
      obtain ⟨cells, hcells⟩ : ∃ cells, shC b (pdv pd) pss = cells := ⟨_, rfl⟩
      have hcl : cells.length = pss.length := by rw [← hcells, shC_len]
      rw [hcells] at hg
      have Hcells := hide hcells
      have HG := hide hg
      obtain ⟨aoc, capc, rfl⟩ := ownsRow_form hg.cs.own
      have hvl : vs.length = cells.length := hg.cs.len
      have hc8 : cells.length ≤ 8 := hg.few.2
      have hsz2 := (unhide Hb2).size
      rw [hvl]
      clear hb2 hg hcells Hwk hcl
      go_wp2_with fail
      go_loopg [12, 13] cells.length (fun m tv i wx => ∃ j : Nat, ∃ u : ByteArray, j ≤ cells.length ∧ m = cells.length - j ∧ i = .int .i64 j ∧ tv = .string u ∧ u.size ≤ 100 * j ∧ Hid (L u = jn 59 ((rptX cells).take j)) ∧ Hid (Below w2.heap.size w2 wx))
      case atStart => exact ⟨0, ⟨#[]⟩, by omega, rfl, rfl, rfl, Nat.zero_le _, rfl, Below.refl _ _⟩
      case round =>
        obtain ⟨i, u, hi, rfl, rfl, rfl, hus, Hu, Hb3⟩ := hrel
        have hsz3 := (unhide Hb3).size
        by_cases hlt2 : i < cells.length
        · obtain ⟨row, hrow⟩ : ∃ row, cells[i]? = some row := ⟨cells[i], List.getElem?_eq_getElem hlt2⟩
          have hwid : row.length = pd.length := (unhide HG).wid row (List.mem_of_getElem? hrow)
          have Hok := hide ((unhide HG).ok row (List.mem_of_getElem? hrow))
          have HX : Hid ((rptX cells)[i]? = some (jn 44 (rowX row))) := by show _ = _; unfold rptX; rw [List.getElem?_map, hrow]; rfl
          obtain ⟨v, hv⟩ : ∃ v, vs[i]? = some v := ⟨vs[i]'(by omega), List.getElem?_eq_getElem _⟩
          have HR := hide ((unhide HG).cs.row i v row hv hrow)
          obtain ⟨aor, capr, rfl⟩ := ownsRow_form (unhide HR)
          obtain ⟨gc, _, e1, hgc, hgc'⟩ := ownsRow_some (unhide HG).cs.own (by omega)
          simp only [Value.slice.injEq] at e1
          obtain ⟨rfl, _, rfl⟩ := e1
          have Hd := hide (ownsRow_cell (by have := (unhide HG).cs.own; exact this) (j := i) hv)
          have Hin : Hid (∀ u1 : ByteArray, L u1 = jpre 59 (rptX cells) i → ∀ u2 : ByteArray, L u2 = jpre 59 (rptX cells) i ++ jn 44 (rowX row) → L u2 = jn 59 ((rptX cells).take (i + 1))) := by
            intro u1 h1 u2 h2
            rw [jn_pre (unhide HX), h2]
          have Hstart : Hid (∃ u1 : ByteArray, u1 = (if i = 0 then u else u ++ ⟨#[59]⟩) ∧ L u1 = jpre 59 (rptX cells) i ∧ u1.size ≤ 100 * i + 1) := by
            refine ⟨_, rfl, ?_, ?_⟩
            · by_cases h0 : i = 0
              · subst h0; rw [if_pos rfl, jpre_zero]; have := unhide Hu; simpa [jn] using this
              · rw [if_neg h0, L_append, unhide Hu, jpre_pos (by omega)]; rfl
            · by_cases h0 : i = 0
              · rw [if_pos h0]; omega
              · rw [if_neg h0, size_L, L_append, List.length_append, L_length]; show u.size + 1 ≤ _; omega
          obtain ⟨u1, hu1, hL1, hs1⟩ := unhide Hstart
          have HL1 := hide hL1
          clear Hstart hL1 hrow hv
          have hin : (i : Int) < (cells.length : Int) := by omega
          by_cases h0 : i = 0
          · have hpos : ¬ (0 : Int) < (i : Int) := by omega
            rw [if_pos h0] at hu1
            clear h0
            go_wp2_with fail
            obtain ⟨W3, hW3⟩ : ∃ W3, wr = W3 := ⟨_, rfl⟩
            rw [hW3] at Hb3 hsz3 ⊢
            clear hW3
            go_loopg [12, 14] pd.length (fun m tv iv wx => ∃ k : Nat, ∃ u : ByteArray, k ≤ pd.length ∧ m = pd.length - k ∧ iv = .int .i64 k ∧ tv = .string u ∧ u.size ≤ 810 + 22 * k ∧ Hid (u.size ≤ 100 * i + 1 + 22 * k) ∧ Hid (L u = jpre 59 (rptX cells) i ++ jn 44 ((rowX row).take k)) ∧ Hid (Below W3.heap.size W3 wx))
            case atStart => exact ⟨0, u, by omega, rfl, rfl, rfl, by rw [← hu1]; omega, (show _ ≤ _ from by rw [← hu1]; omega), (show _ = _ from by rw [← hu1, unhide HL1]; simp [jn]), Below.refl _ _⟩
            case round =>
              obtain ⟨k, u2, hk, rfl, rfl, rfl, hu2s, Hu2s, Hu2, Hb4⟩ := hrel
              have hsz4 := (unhide Hb4).size
              have Hbw4 := hide ((unhide Hb3).then' hsz3 (unhide Hb4))
              have dd := kept_cell' (unhide Hbw4) (unhide Hd)
              by_cases hlk : k < pd.length
              · obtain ⟨c, hc⟩ : ∃ c, row[k]? = some c := ⟨row[k]'(by omega), List.getElem?_eq_getElem _⟩
                have hro := ownsRow_below (unhide HR) (unhide Hbw4)
                obtain ⟨gr, _, e1, hgr, hgr'⟩ := ownsRow_some hro (by omega)
                simp only [Value.slice.injEq, true_and] at e1
                obtain ⟨rfl, rfl⟩ := e1
                have h2 := two_get (fun c : Cl => Value.int .i64 c.1) (fun c => Value.int .u8 c.2) row k c hc
                have d1 := ownsRow_cell hro (j := k * 2) h2.1
                have d2 := ownsRow_cell hro (j := k * 2 + 1) h2.2
                have Hoc := hide (unhide Hok c (List.mem_of_getElem? hc))
                have Hxc : Hid ((rowX row)[k]? = some (cellT c)) := by show _ = _; unfold rowX; rw [List.getElem?_map, hc]; rfl
                have Htx := hide (fun wx : World => refText_any c wx (unhide Hoc))
                obtain ⟨c1, c2⟩ := c
                unfold clV at Htx
                simp only at d1 d2 Htx
                have hkr : (k : Int) < (row.length : Int) := by omega
                clear hro h2 hc
                by_cases hk0 : k = 0
                · have hk1 : ¬ (0 : Int) < (k : Int) := by omega
                  have Hk0 := hide hk0
                  clear hk0
                  go_wp2_with fail
                  refine (unhide Htx _).mono ?_
                  rintro e w6 ⟨u6, rfl, hu6, hs6, hb6⟩
                  have Hu6 : Hid (L (u2 ++ u6) = jpre 59 (rptX cells) i ++ jn 44 ((rowX row).take (k + 1))) := by
                    show _ = _
                    rw [L_append, unhide Hu2, hu6, jn_pre (unhide Hxc), unhide Hk0, jpre_zero]; simp [jn]
                  have Hs6 : Hid ((u2 ++ u6).size ≤ 100 * i + 1 + 22 * (k + 1) ∧ (u2 ++ u6).size ≤ 810 + 22 * (k + 1)) := by
                    have := unhide Hu2s
                    show _ ∧ _
                    rw [size_L, L_append, List.length_append, L_length, L_length]; omega
                  have Hb6 := hide ((unhide Hb4).then' hsz4 hb6)
                  clear hu6 hb6
                  go_wp2_with fail
                  go_roundg (pd.length - (k + 1))
                  case measure => omega
                  case rel => exact ⟨k + 1, _, by omega, rfl, by go_num, rfl, (unhide Hs6).2, (unhide Hs6).1, unhide Hu6, unhide Hb6⟩
                · have hk1 : (0 : Int) < (k : Int) := by omega
                  go_wp2_with fail
                  refine (unhide Htx _).mono ?_
                  rintro e w6 ⟨u6, rfl, hu6, hs6, hb6⟩
                  have Hu6 : Hid (L (u2 ++ ⟨#[44]⟩ ++ u6) = jpre 59 (rptX cells) i ++ jn 44 ((rowX row).take (k + 1))) := by
                    show _ = _
                    rw [L_append, L_append, unhide Hu2, hu6, jn_pre (unhide Hxc), jpre_pos (sep := 44) (i := k) (by omega), show L ⟨#[44]⟩ = [44] from rfl]; simp
                  have Hs6 : Hid ((u2 ++ ⟨#[44]⟩ ++ u6).size ≤ 100 * i + 1 + 22 * (k + 1) ∧ (u2 ++ ⟨#[44]⟩ ++ u6).size ≤ 810 + 22 * (k + 1)) := by
                    have := unhide Hu2s
                    show _ ∧ _
                    rw [size_app, size_app]; show u2.size + 1 + u6.size ≤ _ ∧ u2.size + 1 + u6.size ≤ _; omega
                  have Hb6 := hide ((unhide Hb4).then' hsz4 hb6)
                  clear hu6 hb6
                  go_wp2_with fail
                  go_roundg (pd.length - (k + 1))
                  case measure => omega
                  case rel => exact ⟨k + 1, _, by omega, rfl, by go_num, rfl, (unhide Hs6).2, (unhide Hs6).1, unhide Hu6, unhide Hb6⟩
              · obtain rfl : k = pd.length := by omega
                have Hu7 : Hid (L u2 = jn 59 ((rptX cells).take (i + 1))) := unhide Hin _ (unhide HL1) u2 (by rw [unhide Hu2, List.take_of_length_le (by simp [rowX, hwid])])
                have hs7 : u2.size ≤ 100 * (i + 1) := by have := unhide Hu2s; omega
                go_wp2_with fail
                go_roundg (cells.length - (i + 1))
                case measure => omega
                case rel => exact ⟨i + 1, u2, by omega, rfl, by go_num, rfl, hs7, unhide Hu7, unhide Hbw4⟩
          · have hpos : (0 : Int) < (i : Int) := by omega
            have hposN : decide (0 < i) = true := by simp; omega
            rw [if_neg h0] at hu1
            clear h0
            go_wp2_with fail
            obtain ⟨W3, hW3⟩ : ∃ W3, wr = W3 := ⟨_, rfl⟩
            rw [hW3] at Hb3 hsz3 ⊢
            clear hW3
            go_loopg [12, 14] pd.length (fun m tv iv wx => ∃ k : Nat, ∃ u : ByteArray, k ≤ pd.length ∧ m = pd.length - k ∧ iv = .int .i64 k ∧ tv = .string u ∧ u.size ≤ 810 + 22 * k ∧ Hid (u.size ≤ 100 * i + 1 + 22 * k) ∧ Hid (L u = jpre 59 (rptX cells) i ++ jn 44 ((rowX row).take k)) ∧ Hid (Below W3.heap.size W3 wx))
            case atStart => exact ⟨0, (u ++ ⟨#[59]⟩), by omega, rfl, rfl, rfl, by rw [← hu1]; omega, (show _ ≤ _ from by rw [← hu1]; omega), (show _ = _ from by rw [← hu1, unhide HL1]; simp [jn]), Below.refl _ _⟩
            case round =>
              obtain ⟨k, u2, hk, rfl, rfl, rfl, hu2s, Hu2s, Hu2, Hb4⟩ := hrel
              have hsz4 := (unhide Hb4).size
              have Hbw4 := hide ((unhide Hb3).then' hsz3 (unhide Hb4))
              have dd := kept_cell' (unhide Hbw4) (unhide Hd)
              by_cases hlk : k < pd.length
              · obtain ⟨c, hc⟩ : ∃ c, row[k]? = some c := ⟨row[k]'(by omega), List.getElem?_eq_getElem _⟩
                have hro := ownsRow_below (unhide HR) (unhide Hbw4)
                obtain ⟨gr, _, e1, hgr, hgr'⟩ := ownsRow_some hro (by omega)
                simp only [Value.slice.injEq, true_and] at e1
                obtain ⟨rfl, rfl⟩ := e1
                have h2 := two_get (fun c : Cl => Value.int .i64 c.1) (fun c => Value.int .u8 c.2) row k c hc
                have d1 := ownsRow_cell hro (j := k * 2) h2.1
                have d2 := ownsRow_cell hro (j := k * 2 + 1) h2.2
                have Hoc := hide (unhide Hok c (List.mem_of_getElem? hc))
                have Hxc : Hid ((rowX row)[k]? = some (cellT c)) := by show _ = _; unfold rowX; rw [List.getElem?_map, hc]; rfl
                have Htx := hide (fun wx : World => refText_any c wx (unhide Hoc))
                obtain ⟨c1, c2⟩ := c
                unfold clV at Htx
                simp only at d1 d2 Htx
                have hkr : (k : Int) < (row.length : Int) := by omega
                clear hro h2 hc
                by_cases hk0 : k = 0
                · have hk1 : ¬ (0 : Int) < (k : Int) := by omega
                  have Hk0 := hide hk0
                  clear hk0
                  go_wp2_with fail
                  refine (unhide Htx _).mono ?_
                  rintro e w6 ⟨u6, rfl, hu6, hs6, hb6⟩
                  have Hu6 : Hid (L (u2 ++ u6) = jpre 59 (rptX cells) i ++ jn 44 ((rowX row).take (k + 1))) := by
                    show _ = _
                    rw [L_append, unhide Hu2, hu6, jn_pre (unhide Hxc), unhide Hk0, jpre_zero]; simp [jn]
                  have Hs6 : Hid ((u2 ++ u6).size ≤ 100 * i + 1 + 22 * (k + 1) ∧ (u2 ++ u6).size ≤ 810 + 22 * (k + 1)) := by
                    have := unhide Hu2s
                    show _ ∧ _
                    rw [size_L, L_append, List.length_append, L_length, L_length]; omega
                  have Hb6 := hide ((unhide Hb4).then' hsz4 hb6)
                  clear hu6 hb6
                  go_wp2_with fail
                  go_roundg (pd.length - (k + 1))
                  case measure => omega
                  case rel => exact ⟨k + 1, _, by omega, rfl, by go_num, rfl, (unhide Hs6).2, (unhide Hs6).1, unhide Hu6, unhide Hb6⟩
                · have hk1 : (0 : Int) < (k : Int) := by omega
                  go_wp2_with fail
                  refine (unhide Htx _).mono ?_
                  rintro e w6 ⟨u6, rfl, hu6, hs6, hb6⟩
                  have Hu6 : Hid (L (u2 ++ ⟨#[44]⟩ ++ u6) = jpre 59 (rptX cells) i ++ jn 44 ((rowX row).take (k + 1))) := by
                    show _ = _
                    rw [L_append, L_append, unhide Hu2, hu6, jn_pre (unhide Hxc), jpre_pos (sep := 44) (i := k) (by omega), show L ⟨#[44]⟩ = [44] from rfl]; simp
                  have Hs6 : Hid ((u2 ++ ⟨#[44]⟩ ++ u6).size ≤ 100 * i + 1 + 22 * (k + 1) ∧ (u2 ++ ⟨#[44]⟩ ++ u6).size ≤ 810 + 22 * (k + 1)) := by
                    have := unhide Hu2s
                    show _ ∧ _
                    rw [size_app, size_app]; show u2.size + 1 + u6.size ≤ _ ∧ u2.size + 1 + u6.size ≤ _; omega
                  have Hb6 := hide ((unhide Hb4).then' hsz4 hb6)
                  clear hu6 hb6
                  go_wp2_with fail
                  go_roundg (pd.length - (k + 1))
                  case measure => omega
                  case rel => exact ⟨k + 1, _, by omega, rfl, by go_num, rfl, (unhide Hs6).2, (unhide Hs6).1, unhide Hu6, unhide Hb6⟩
              · obtain rfl : k = pd.length := by omega
                have Hu7 : Hid (L u2 = jn 59 ((rptX cells).take (i + 1))) := unhide Hin _ (unhide HL1) u2 (by rw [unhide Hu2, List.take_of_length_le (by simp [rowX, hwid])])
                have hs7 : u2.size ≤ 100 * (i + 1) := by have := unhide Hu2s; omega
                go_wp2_with fail
                go_roundg (cells.length - (i + 1))
                case measure => omega
                case rel => exact ⟨i + 1, u2, by omega, rfl, by go_num, rfl, hs7, unhide Hu7, unhide Hbw4⟩
        · obtain rfl : i = cells.length := by omega
          have Hfin : Hid (L u = rptT (shC b (pdv pd) pss)) := by
            show _ = _
            rw [unhide Hu, unhide Hcells]
            unfold rptT
            rw [List.take_of_length_le (by simp [rptX])]
          go_wp2_with fail
          go_ret2
          exact ⟨.inr ⟨unhide Hno, u, rfl, unhide Hfin⟩, (unhide Hb2).then' hsz2 (unhide Hb3)⟩
end Go.Proofs.YtdchbenfccofpaaGreatDoor
