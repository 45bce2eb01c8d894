/- Walks of the reader: period. -/
import Derived.Test.YtpcdkhmahbecaaaDoorRdB
import Derived.Test.YtpcdkhmahbecaaaDoorParF
namespace Go.Proofs.YtpcdkhmahbecaaaDoor
open Go.RowKit Db

theorem dg_day {l ds l' : List UInt8} (h : Dg 3 l ds l') (h0 : 0 < ds.length) : dayS ds := ⟨h0, h.le, h.dig⟩
theorem dg_none {m : Nat} {l ds l' : List UInt8} (h : Dg m l ds l') (h0 : ¬ 0 < ds.length) (hm : 0 < m) : digB (hd l') = false ∧ l = l' := by
  have hz : ds = [] := by cases ds with | nil => rfl | cons => simp at h0
  subst hz
  refine ⟨?_, h.eq⟩
  rcases h.stop with h | h
  · simp at h; omega
  · exact h

theorem Rd.fresh {w : World} {b : Nat} {t : ByteArray} {a : Nat} {v : Value} {ps : List Pt} (h : Rd w b t a v ps) : ∀ j, w.heap.size ≤ j → ¬ XR b v j := by
  rintro j hj (rfl | e)
  · have := h.blk.lt; omega
  · have := (h.own.lt j e.symm).2; omega
theorem ownsRow_setOther {w : World} {base : Nat} {e : TypeId} {size : Nat} {v : Value} {n : Nat} {xs : List Value} (h : w.ownsRow base e size v n xs) {a : Addr} (ha : some a.block ≠ v.ownBlock) (u : Value) : (w.setCell a u).ownsRow base e size v n xs := by
  refine ⟨h.1, ?_⟩
  rcases h.2 with hn | ⟨g, cap, cur, rfl, hbg, hgg, rest⟩
  · exact .inl hn
  · exact .inr ⟨g, cap, cur, rfl, hbg, by rw [Below.heap_setCell _ _ _ _ (fun e => ha (by rw [← e]; rfl))]; exact hgg, rest⟩
theorem RdR.localSet {b : Nat} {t : ByteArray} {v v' : Value} {w w1 : World} {a : Nat} {ps : List Pt} (h : RdR b t v w w1 a v' ps) {j : Nat} (hj : w.heap.size ≤ j) (hx : ¬ XR b v' j) (i : Nat) (u : Value) : RdR b t v w (w1.setCell ⟨j, i, none⟩ u) a v' ps :=
  ⟨⟨h.rd.blk.setOther _ _ (fun e => hx (.inl e.symm)), ownsRow_setOther h.rd.own (fun e => hx (.inr e)) _, h.rd.le, h.rd.cnt, h.rd.sz⟩, h.frm.setCell (.inl hj) _, h.own⟩

set_option maxHeartbeats 2000000 in
theorem period_any (b : Nat) (t : ByteArray) (p : Nat) (v : Value) (ps : List Pt) (w : World) (h : Rd w b t p v ps) :
    Calls Tryd.prog 77 #[.pointer (some ⟨b, 0, none⟩)] w fun e w' => ∃ ok x y p' da db, e = .returned (.tuple #[.agg #[.int .i64 x, .int .i64 y], .bool ok]) ∧
      Per ((L t).drop p) ok ((L t).drop p') da db ∧ (ok = true → x = val da ∧ y = val db) ∧ p ≤ p' ∧ RdR b t v w w' p' v ps := by
  have Hfr := hide h.fresh
  have H0 := hide (h.below ((Below.refl _ _).alloc (Nat.le_refl _) (.cells #[.int .i64 0, .int .i64 0] 70)))
  clear h
  go_enter Tryd.func77, Tryd.ntmps77
  go_wp2_with fail
  refine (day_any b t p v ps _ (unhide H0).rd).mono ?_
  rintro e w1 ⟨x1, d1, q1, p1, rfl, hs1, hg1, he1, hr1⟩
  have HB1 : Hid (Blk w1 w.heap.size #[.int .i64 0, .int .i64 0] 70) := (Blk.new _ _ _).frm hr1.frm (by simp) (unhide Hfr _ (Nat.le_refl _))
  have H1 := hide ((unhide H0).trans hr1)
  have Hs1 := hide hs1
  have Hg1 := hide hg1
  have He1 := hide he1
  have c0 := (unhide HB1).cell 0
  have c1 := (unhide HB1).cell 1
  have z0 := (unhide HB1).frozen 0
  have z1 := (unhide HB1).frozen 1
  simp only [List.getElem?_toArray, List.getElem?_cons_zero, List.getElem?_cons_succ] at c0 c1
  clear hs1 hg1 he1 hr1
  by_cases hd1 : 0 < d1.length
  · have e1 : decide (0 < d1.length) = true := decide_eq_true hd1
    rw [e1]
    clear e1
    have Hd1 := hide (dg_day (unhide Hg1) hd1)
    clear hd1
    go_wp2_with fail
    refine (accept_any b t p1 v ps 45 _ (unhide H1).rd (by omega)).mono ?_
    rintro e w2 ⟨p2, x2, hs2, ⟨hn2, rfl, hr2⟩ | ⟨y2, hy2, hl2, rfl, hr2⟩⟩
    · have HB2 := hide ((unhide HB1).frm hr2.frm (unhide HB1).lt (unhide Hfr _ (Nat.le_refl _)))
      have H2 := hide ((unhide H1).trans hr2)
      have Hs2 := hide hs2
      have Hn2 := hide hn2
      have c0 := (unhide HB2).cell 0
      have c1 := (unhide HB2).cell 1
      have z0 := (unhide HB2).frozen 0
      have z1 := (unhide HB2).frozen 1
      simp only [List.getElem?_toArray, List.getElem?_cons_zero, List.getElem?_cons_succ] at c0 c1
      clear hs2 hn2 hr2
      go_wp2_with fail
      refine bodyPost_ret (v := .tuple #[.agg #[.int .i64 0, .int .i64 0], .bool false]) (by simp [results, Tryd.results77, go_sem, c0, c1]) rfl ⟨false, 0, 0, p2, [], [], rfl, ?_, (fun h0 => by cases h0), ?_, ?_⟩
      · rw [(unhide Hs1).eq, (unhide Hg1).eq, (unhide Hs2).eq]
        exact per_no2 (unhide Hs1).bl (unhide Hd1) (by rw [← (unhide Hs2).eq]; exact (unhide Hg1).stop) (unhide Hs2).bl (unhide Hs2).nb (unhide Hn2)
      · have h1 := (unhide Hs1).le; have h2 := unhide He1; have h3 := (unhide Hs2).le; omega
      · exact ((unhide H2).localSet (Nat.le_refl _) (unhide Hfr _ (Nat.le_refl _)) _ _).localSet (Nat.le_refl _) (unhide Hfr _ (Nat.le_refl _)) _ _
    · have HB2 := hide ((unhide HB1).frm hr2.frm (unhide HB1).lt (unhide Hfr _ (Nat.le_refl _)))
      have H2 := hide ((unhide H1).trans hr2)
      have Hs2 := hide hs2
      have Hy2 := hide hy2
      have Hl2 := hide hl2
      clear hs2 hr2 hy2 hl2 c0 c1 z0 z1
      go_wp2_with fail
      refine (day_any b t (p2 + 1) v ps _ (unhide H2).rd).mono ?_
      rintro e w3 ⟨x3, d3, q3, p3, rfl, hs3, hg3, he3, hr3⟩
      have HB3 := hide ((unhide HB2).frm hr3.frm (unhide HB2).lt (unhide Hfr _ (Nat.le_refl _)))
      have H3 := hide ((unhide H2).trans hr3)
      have Hs3 := hide hs3
      have Hg3 := hide hg3
      have He3 := hide he3
      have c0 := (unhide HB3).cell 0
      have c1 := (unhide HB3).cell 1
      have z0 := (unhide HB3).frozen 0
      have z1 := (unhide HB3).frozen 1
      simp only [List.getElem?_toArray, List.getElem?_cons_zero, List.getElem?_cons_succ] at c0 c1
      clear hs3 hg3 he3 hr3
      have Hle : Hid (p ≤ p3) := by
        have h1 := (unhide Hs1).le; have h2 := unhide He1; have h3 := (unhide Hs2).le; have h4 := (unhide Hs3).le; have h5 := unhide He3
        show _ ≤ _
        omega
      by_cases hd3 : 0 < d3.length
      · have e1 : decide (0 < d3.length) = true := decide_eq_true hd3
        rw [e1]
        clear e1
        have Hd3 := hide (dg_day (unhide Hg3) hd3)
        clear hd3
        go_wp2_with fail
        refine bodyPost_ret (v := .tuple #[.agg #[.int .i64 (val d1), .int .i64 (val d3)], .bool true]) (by simp [results, Tryd.results77, go_sem, c0, c1]) rfl ⟨true, _, _, p3, d1, d3, rfl, ?_, fun _ => ⟨rfl, rfl⟩, unhide Hle, ?_⟩
        · rw [(unhide Hs1).eq, (unhide Hg1).eq, (unhide Hs2).eq, unhide Hl2, (unhide Hs3).eq, (unhide Hg3).eq]
          exact per_yes (unhide Hs1).bl (unhide Hd1) (unhide Hs2).bl (unhide Hy2) (unhide Hs3).bl (unhide Hd3) (unhide Hg3).stop
        · exact ((unhide H3).localSet (Nat.le_refl _) (unhide Hfr _ (Nat.le_refl _)) _ _).localSet (Nat.le_refl _) (unhide Hfr _ (Nat.le_refl _)) _ _
      · have e1 : decide (0 < d3.length) = false := decide_eq_false hd3
        rw [e1]
        clear e1
        have Hz := hide (dg_none (m := 3) (unhide Hg3) hd3 (by omega))
        clear hd3
        go_wp2_with fail
        refine bodyPost_ret (v := .tuple #[.agg #[.int .i64 0, .int .i64 0], .bool false]) (by simp [results, Tryd.results77, go_sem, c0, c1]) rfl ⟨false, 0, 0, p3, [], [], rfl, ?_, (fun h0 => by cases h0), unhide Hle, ?_⟩
        · rw [(unhide Hs1).eq, (unhide Hg1).eq, (unhide Hs2).eq, unhide Hl2, (unhide Hs3).eq, (unhide Hz).2]
          exact per_no3 (unhide Hs1).bl (unhide Hd1) (unhide Hs2).bl (unhide Hy2) (unhide Hs3).bl (unhide Hz).1 (by rw [← (unhide Hz).2]; exact (unhide Hs3).nb)
        · exact ((unhide H3).localSet (Nat.le_refl _) (unhide Hfr _ (Nat.le_refl _)) _ _).localSet (Nat.le_refl _) (unhide Hfr _ (Nat.le_refl _)) _ _
  · have e1 : decide (0 < d1.length) = false := decide_eq_false hd1
    rw [e1]
    clear e1
    have Hz := hide (dg_none (m := 3) (unhide Hg1) hd1 (by omega))
    clear hd1
    go_wp2_with fail
    refine bodyPost_ret (v := .tuple #[.agg #[.int .i64 0, .int .i64 0], .bool false]) (by simp [results, Tryd.results77, go_sem, c0, c1]) rfl ⟨false, 0, 0, p1, [], [], rfl, ?_, (fun h0 => by cases h0), ?_, ?_⟩
    · rw [(unhide Hs1).eq, (unhide Hz).2]
      exact per_no1 (unhide Hs1).bl (unhide Hz).1 (by rw [← (unhide Hz).2]; exact (unhide Hs1).nb)
    · have h1 := (unhide Hs1).le; have h2 := unhide He1; omega
    · exact ((unhide H1).localSet (Nat.le_refl _) (unhide Hfr _ (Nat.le_refl _)) _ _).localSet (Nat.le_refl _) (unhide Hfr _ (Nat.le_refl _)) _ _

end Go.Proofs.YtpcdkhmahbecaaaDoor
