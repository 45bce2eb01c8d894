/- Walks of the books: the program's find and repeated. -/
import Derived.Test.YtpcdkhmahbecaaaGreatDoorBkH
namespace Go.Proofs.YtpcdkhmahbecaaaGreatDoor
open Go.RowKit Db

theorem findT_step {id : Int} {l : List Tn} {j : Nat} {t : Tn} (h : l[j]? = some t) : findT id (l.drop j) = if t.1 == id then some t else findT id (l.drop (j + 1)) := by
  obtain ⟨hi, rfl⟩ := List.getElem?_eq_some_iff.1 h
  rw [List.drop_eq_getElem_cons hi]; rfl

set_option maxRecDepth 100000 in
set_option maxHeartbeats 2000000 in
theorem find_any (B p : Nat) (s : Bk) (id : Int) (va vt : Value) (tv : List (Tn × Value)) (w : World) (h : LedAt w B p va vt tv s) :
    Calls Tryz.prog 117 #[.pointer (some ⟨p, 0, none⟩), .int .i64 id] w fun e w' => ((∃ t v, findT id s.txs = some t ∧ (t, v) ∈ tv ∧ e = .returned (.tuple #[.agg #[.int .i64 t.1, .int .i64 t.2.1, v], .bool true])) ∨
      (findT id s.txs = none ∧ e = .returned (.tuple #[.agg #[.int .i64 0, .int .i64 0, .slice none 0 0], .bool false]))) ∧ Below w.heap.size w w' := by
  obtain ⟨ao, cap, rfl⟩ := ownsRow_form h.txs.own
  have c1 := h.blk.cell 1
  have hlp := h.blk.lt
  simp only [List.getElem?_toArray, List.getElem?_cons_zero, List.getElem?_cons_succ] at c1
  have hlen : tv.length ≤ 64 := by have := h.good.posts; rw [← h.jr, List.length_map] at this; exact this
  have Hjr := hide h.jr
  have H := hide h
  clear h
  go_enter Tryz.func117, Tryz.ntmps117
  go_wp2_with fail
  obtain ⟨W, hW⟩ : ∃ W, w.alloc (.cells #[.int .i64 0, .int .i64 0, .slice none 0 0] 101) = W := ⟨_, rfl⟩
  rw [hW]
  have hWs : W.heap.size = w.heap.size + 1 := by rw [← hW]; simp
  have HB : Hid (Blk W w.heap.size #[.int .i64 0, .int .i64 0, .slice none 0 0] 101) := by rw [← hW]; exact Blk.new _ _ _
  have Hw : Hid (Below w.heap.size w W) := by rw [← hW]; exact (Below.refl _ _).alloc (Nat.le_refl _) _
  have H1 := hide ((unhide H).kept (unhide Hw))
  clear hW H
  go_loopg [13] tv.length (fun m i wr => ∃ j : Nat, j ≤ tv.length ∧ m = tv.length - j ∧ i = .int .i64 j ∧ Hid (findT id (s.txs.drop j) = findT id s.txs) ∧ Hid (Below W.heap.size W wr))
  case atStart => exact ⟨0, by omega, rfl, rfl, rfl, Below.refl _ _⟩
  case round =>
    obtain ⟨j, hj, rfl, rfl, Ho, Hb⟩ := hrel
    have hsz := (unhide Hb).size
    have HB1 := hide ((unhide HB).kept (unhide Hb))
    have r0 := (unhide HB1).cell 0
    have r1 := (unhide HB1).cell 1
    have r2 := (unhide HB1).cell 2
    have y0 := (unhide HB1).frozen 0
    have y1 := (unhide HB1).frozen 1
    have y2 := (unhide HB1).frozen 2
    have ly := (unhide HB1).lt
    simp only [List.getElem?_toArray, List.getElem?_cons_zero, List.getElem?_cons_succ] at r0 r1 r2
    by_cases hlt : j < tv.length
    · obtain ⟨⟨t, v⟩, ht⟩ : ∃ t, tv[j]? = some t := ⟨tv[j], List.getElem?_eq_getElem hlt⟩
      obtain ⟨g, _, e1, hg, hg'⟩ := ownsRow_some (unhide H1).txs.own (by omega)
      simp only [Value.slice.injEq, true_and] at e1
      obtain ⟨rfl, rfl⟩ := e1
      have h3 := three_get (fun x : Tn × Value => Value.int .i64 x.1.1) (fun x => .int .i64 x.1.2.1) (fun x => x.2) tv j (t, v) ht
      have hro := ownsRow_below (unhide H1).txs.own (unhide Hb)
      have d0 := ownsRow_cell hro (j := j * 3) h3.1
      have d1 := ownsRow_cell hro (j := j * 3 + 1) h3.2.1
      have d2 := ownsRow_cell hro (j := j * 3 + 2) h3.2.2
      have hmem := List.mem_of_getElem? ht
      have hl := (unhide H1).txs.lns _ hmem
      have hst : s.txs[j]? = some t := by rw [← unhide Hjr, List.getElem?_map, ht]; rfl
      have Hst := hide (findT_step (id := id) hst)
      have Hmem := hide hmem
      obtain ⟨ti, td, ls⟩ := t
      simp only at d0 d1 d2 hl Hst Hmem
      obtain ⟨aol, capl, rfl⟩ := ownsRow_form hl
      clear h3 hro hmem hl hst ht
      by_cases hid : ti = id
      · subst hid
        go_wp2_with fail
        refine bodyPost_ret (v := .tuple #[.agg #[.int .i64 ti, .int .i64 td, .slice aol ls.length capl], .bool true]) (by simp [results, Tryz.results117, go_sem, r0, r1, r2, ly]) rfl ⟨.inl ⟨(ti, td, ls), _, by rw [← unhide Ho, unhide Hst]; simp, unhide Hmem, rfl⟩, ?_⟩
        have hb0 := (unhide Hw).then' (by omega) (unhide Hb)
        exact (((hb0.setCell (by simp) _).setCell (by simp) _).setCell (by simp) _).alloc (by simp [World.setCell]; omega) _
      · have hne : (ti == id) = false := by simpa using hid
        go_wp2_with fail
        go_roundg (tv.length - (j + 1))
        case measure => omega
        case rel => exact ⟨j + 1, by omega, rfl, by go_num, by show _ = _; rw [← unhide Ho, unhide Hst, hne]; simp, (unhide Hb).alloc hsz _⟩
    · obtain rfl : j = tv.length := by omega
      go_wp2_with fail
      refine bodyPost_ret (v := .tuple #[.agg #[.int .i64 0, .int .i64 0, .slice none 0 0], .bool false]) (by simp [results, Tryz.results117, go_sem, r0, r1, r2]) rfl ⟨.inr ⟨?_, rfl⟩, ?_⟩
      · rw [← unhide Ho, List.drop_of_length_le (by rw [← unhide Hjr, List.length_map]; exact Nat.le_refl _)]; rfl
      · have hb0 := (unhide Hw).then' (by omega) (unhide Hb)
        exact ((hb0.setCell (by simp) _).setCell (by simp) _).setCell (by simp) _

/-- The answer to what is there already. -/
def repE (td day : Int) (ls ls' : List Ln) : Int := if td = day ∧ ls = ls' then 0 else 13
theorem repE_yes {td day : Int} {ls ls' : List Ln} (h : td = day ∧ ls = ls') : repE td day ls ls' = 0 := if_pos h
theorem repE_no {td day : Int} {ls ls' : List Ln} (h : ¬ (td = day ∧ ls = ls')) : repE td day ls ls' = 13 := if_neg h
theorem take_more {α : Type} {a b : List α} {j : Nat} {x : α} (h : a.take j = b.take j) (ha : a[j]? = some x) (hb : b[j]? = some x) : a.take (j + 1) = b.take (j + 1) := by
  rw [List.take_add_one, List.take_add_one, h, ha, hb]

set_option maxRecDepth 100000 in
set_option maxHeartbeats 2000000 in
theorem repeated_any (ti td day : Int) (ls ls' : List Ln) (v v' : Value) (w : World) (h : LinesAt w v ls) (h' : LinesAt w v' ls') (h4 : ls.length ≤ 4) :
    Calls Tryz.prog 118 #[.agg #[.int .i64 ti, .int .i64 td, v], .int .i64 day, v'] w fun e w' => e = .returned (.int .i64 (repE td day ls ls')) ∧ Below w.heap.size w w' := by
  obtain ⟨ao, cap, rfl⟩ := h.form
  obtain ⟨ao', cap', rfl⟩ := h'.form
  have H := hide h
  have H' := hide h'
  clear h h'
  by_cases hday : td = day
  · subst hday
    by_cases hlen : ls.length = ls'.length
    · have he : ((ls.length : Int) != (ls'.length : Int)) = false := by simp; omega
      have Hlen := hide hlen
      have h4' : ls'.length ≤ 4 := by omega
      clear hlen
      go_enter Tryz.func118, Tryz.ntmps118
      go_wp2_with fail
      obtain ⟨W, hW⟩ : ∃ W, w.alloc (.cells #[.int .i64 ti, .int .i64 td, .slice ao ls.length cap] 101) = W := ⟨_, rfl⟩
      rw [hW]
      have hWs : W.heap.size = w.heap.size + 1 := by rw [← hW]; simp
      have Hw : Hid (Below w.heap.size w W) := by rw [← hW]; exact (Below.refl _ _).alloc (Nat.le_refl _) _
      clear hW
      go_loopg [24] ls.length (fun m i wr => ∃ j : Nat, j ≤ ls.length ∧ m = ls.length - j ∧ i = .int .i64 j ∧ Hid (ls.take j = ls'.take j) ∧ Hid (Below W.heap.size W wr))
      case atStart => exact ⟨0, by omega, rfl, rfl, rfl, Below.refl _ _⟩
      case round =>
        obtain ⟨j, hj, rfl, rfl, Ho, Hb⟩ := hrel
        have hsz := (unhide Hb).size
        have HbW := hide ((unhide Hw).then' (by omega) (unhide Hb))
        by_cases hlt : j < ls.length
        · obtain ⟨⟨la, lm⟩, hl⟩ : ∃ l, ls[j]? = some l := ⟨ls[j], List.getElem?_eq_getElem hlt⟩
          obtain ⟨⟨ra, rm⟩, hr⟩ : ∃ l, ls'[j]? = some l := ⟨ls'[j]'(by rw [← unhide Hlen]; exact hlt), List.getElem?_eq_getElem _⟩
          obtain ⟨_, b, off, rfl, hbl, d1, d2⟩ := ((unhide H).kept (unhide HbW)).line hl
          obtain ⟨_, b', off', rfl, hbl', f1, f2⟩ := ((unhide H').kept (unhide HbW)).line hr
          have hge : decide (ls'.length ≤ j) = false := by have := unhide Hlen; simp; omega
          have hlt' : (j : Int) < (ls'.length : Int) := by have := unhide Hlen; omega
          have Hl := hide hl
          have Hr := hide hr
          simp only at d1 d2 f1 f2
          clear hl hr
          by_cases hsame : ra = la ∧ rm = lm
          · obtain ⟨rfl, rfl⟩ := hsame
            go_upto_region 6 with fail
            go_quiet (fail)
            go_wp2_with fail
            go_roundg (ls.length - (j + 1))
            case measure => omega
            case rel => exact ⟨j + 1, by omega, rfl, by go_num, take_more (unhide Ho) (unhide Hl) (unhide Hr), ((unhide Hb).alloc hsz _).drewN _⟩
          · have Hno : Hid (13 = repE td td ls ls') := by
              refine (repE_no ?_).symm
              rintro ⟨_, e⟩
              have h1 := unhide Hl
              have h2 := unhide Hr
              rw [e, h2] at h1
              simp only [Option.some.injEq, Prod.mk.injEq] at h1
              exact hsame h1
            by_cases hra : ra = la
            · subst hra
              have hrm : (rm == lm) = false := by simpa using hsame
              have hrm2 : ¬ rm = lm := by simpa using hrm
              clear hsame
              go_upto_region 6 with fail
              go_quiet (fail)
              go_wp2_with fail
              go_ret
              exact ⟨retI' (unhide Hno), ((unhide HbW).alloc (by omega) _).drewN _⟩
            · have hrm : (ra == la) = false := by simpa using hra
              clear hsame
              go_upto_region 6 with fail
              go_quiet (fail)
              go_wp2_with fail
              go_ret
              exact ⟨retI' (unhide Hno), ((unhide HbW).alloc (by omega) _).drewN _⟩
        · obtain rfl : j = ls.length := by omega
          go_wp2_with fail
          go_ret
          refine ⟨retI' ?_, unhide HbW⟩
          have h1 := unhide Ho
          rw [List.take_length, unhide Hlen, List.take_length] at h1
          exact (repE_yes ⟨rfl, h1⟩).symm
    · have he : ((ls.length : Int) == (ls'.length : Int)) = false := by simp; omega
      go_enter Tryz.func118, Tryz.ntmps118
      go_wp2_with fail
      go_ret
      exact ⟨retI' (repE_no (by rintro ⟨_, e⟩; exact hlen (by rw [e]))).symm, (Below.refl _ _).alloc (Nat.le_refl _) _⟩
  · have he : (td == day) = false := by simpa using hday
    go_enter Tryz.func118, Tryz.ntmps118
    go_wp2_with fail
    go_ret
    exact ⟨retI' (repE_no (by rintro ⟨e, _⟩; exact hday e)).symm, (Below.refl _ _).alloc (Nat.le_refl _) _⟩

end Go.Proofs.YtpcdkhmahbecaaaGreatDoor
