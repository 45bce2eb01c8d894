/- Walks of the books: the document's looks at lines. -/
import Derived.Test.YtpcdkhmahbecaaaGreatDoorBkK
namespace Go.Proofs.YtpcdkhmahbecaaaGreatDoor
open Go.RowKit Db

def sameB (a b : List Ln) : Bool := decide (a = b)

set_option maxRecDepth 100000 in
set_option maxHeartbeats 2000000 in
theorem alike_any (ls ls' : List Ln) (v v' : Value) (w : World) (h : LinesAt w v ls) (h' : LinesAt w v' ls') (h4 : ls.length ≤ 4) :
    Calls Tryz.prog 26 #[v, v'] w fun e w' => e = .returned (.bool (sameB ls ls')) ∧ ∃ n, w' = w.drewN n := by
  obtain ⟨ao, cap, rfl⟩ := h.form
  obtain ⟨ao', cap', rfl⟩ := h'.form
  have H := hide h
  have H' := hide h'
  clear h h'
  by_cases hlen : ls.length = ls'.length
  · have he : ((ls.length : Int) != (ls'.length : Int)) = false := by simp; omega
    have Hlen := hide hlen
    have h4' : ls'.length ≤ 4 := by omega
    clear hlen
    go_enter Tryz.func26, Tryz.ntmps26
    go_wp2_with fail
    go_loopg [5] ls.length (fun m i wr => ∃ j n : Nat, j ≤ ls.length ∧ m = ls.length - j ∧ i = .int .i64 j ∧ Hid (ls.take j = ls'.take j) ∧ wr = w.drewN n)
    case atStart => exact ⟨0, 0, by omega, rfl, rfl, rfl, rfl⟩
    case round =>
      obtain ⟨j, n, hj, rfl, rfl, Ho, rfl⟩ := hrel
      by_cases hlt : j < ls.length
      · obtain ⟨⟨la, lm⟩, hl⟩ : ∃ l, ls[j]? = some l := ⟨ls[j], List.getElem?_eq_getElem hlt⟩
        obtain ⟨⟨ra, rm⟩, hr⟩ : ∃ l, ls'[j]? = some l := ⟨ls'[j]'(by rw [← unhide Hlen]; exact hlt), List.getElem?_eq_getElem _⟩
        obtain ⟨_, b, off, rfl, hbl, d1, d2⟩ := (unhide H).line hl
        obtain ⟨_, b', off', rfl, hbl', f1, f2⟩ := (unhide H').line hr
        have hlt' : j < ls'.length := by have := unhide Hlen; omega
        have Hl := hide hl
        have Hr := hide hr
        simp only at d1 d2 f1 f2
        clear hl hr
        by_cases hsame : la = ra ∧ lm = rm
        · obtain ⟨rfl, rfl⟩ := hsame
          go_upto_region 6 with fail
          go_quiet (fail)
          go_wp2_with fail
          go_roundg (ls.length - (j + 1))
          case measure => omega
          case rel => exact ⟨j + 1, _, by omega, rfl, by go_num, take_more (unhide Ho) (unhide Hl) (unhide Hr), by first | rfl | exact (World.drewN_drewN _ _ _)⟩
        · have Hno : Hid (false = sameB ls ls') := by
            show _ = _
            unfold sameB
            rw [eq_comm, decide_eq_false_iff_not]
            intro e
            have h1 := unhide Hl
            have h2 := unhide Hr
            rw [e, h2] at h1
            simp only [Option.some.injEq, Prod.mk.injEq] at h1
            exact hsame ⟨h1.1.symm, h1.2.symm⟩
          by_cases hra : la = ra
          · subst hra
            have hrm : (lm == rm) = false := by simpa using hsame
            have hrm2 : ¬ lm = rm := by simpa using hrm
            clear hsame
            go_upto_region 6 with fail
            go_quiet (fail)
            go_wp2_with fail
            go_ret
            exact ⟨retB' (unhide Hno), _, by first | rfl | exact (World.drewN_drewN _ _ _)⟩
          · have hrm : (la == ra) = false := by simpa using hra
            clear hsame
            go_upto_region 6 with fail
            go_quiet (fail)
            go_wp2_with fail
            go_ret
            exact ⟨retB' (unhide Hno), _, by first | rfl | exact (World.drewN_drewN _ _ _)⟩
      · obtain rfl : j = ls.length := by omega
        go_wp2_with fail
        go_ret
        refine ⟨retB' ?_, n, rfl⟩
        have h1 := unhide Ho
        rw [List.take_length, unhide Hlen, List.take_length] at h1
        unfold sameB
        simp [h1]
  · have he : ((ls.length : Int) != (ls'.length : Int)) = true := by simp; omega
    go_enter Tryz.func26, Tryz.ntmps26
    go_wp2_with fail
    go_ret
    refine ⟨retB' ?_, 0, rfl⟩
    unfold sameB
    rw [eq_comm, decide_eq_false_iff_not]
    intro e
    exact hlen (by rw [e])

set_option maxRecDepth 100000 in
set_option maxHeartbeats 2000000 in
theorem refAmounts_any (v : Value) (ls : List Ln) (w : World) (h : LinesAt w v ls) (h4 : ls.length ≤ 4) :
    Calls Tryz.prog 27 #[v] w fun e w' => e = .returned (.bool (!ls.any amtB)) ∧ w' = w := by
  obtain ⟨ao, cap, rfl⟩ := h.form
  have H := hide h
  clear h
  go_enter Tryz.func27, Tryz.ntmps27
  go_wp2_with fail
  go_loopg [3] ls.length (fun m i wr => ∃ j : Nat, j ≤ ls.length ∧ m = ls.length - j ∧ i = .int .i64 j ∧ Hid ((ls.drop j).any amtB = ls.any amtB) ∧ wr = w)
  case atStart => exact ⟨0, by omega, rfl, rfl, rfl, rfl⟩
  case round =>
    obtain ⟨j, hj, rfl, rfl, Ho, rfl⟩ := hrel
    by_cases hlt : j < ls.length
    · obtain ⟨⟨la, lm⟩, hl⟩ : ∃ l, ls[j]? = some l := ⟨ls[j], List.getElem?_eq_getElem hlt⟩
      obtain ⟨_, b, off, rfl, hbl, d1, d2⟩ := (unhide H).line hl
      have Hst := hide (any_step (f := amtB) hl)
      simp only at d1 d2 Hst
      clear hl
      by_cases h0 : lm = 0
      · subst h0
        go_wp2_with fail
        go_ret
        exact ⟨retB' (by rw [← unhide Ho, unhide Hst]; simp [amtB]), rfl⟩
      · have hne : (lm == 0) = false := by simpa using h0
        by_cases h1 : lm < -1000000000000
        · go_wp2_with fail
          go_ret
          exact ⟨retB' (by rw [← unhide Ho, unhide Hst]; simp [amtB, h1]), rfl⟩
        · by_cases h2 : 1000000000000 < lm
          · go_wp2_with fail
            go_ret
            exact ⟨retB' (by rw [← unhide Ho, unhide Hst]; simp [amtB, h2]), rfl⟩
          · have hst2 : amtB (la, lm) = false := by unfold amtB; simp [hne]; omega
            go_wp2_with fail
            go_roundg (ls.length - (j + 1))
            case measure => omega
            case rel => exact ⟨j + 1, by omega, rfl, by go_num, by show _ = _; rw [← unhide Ho, unhide Hst, hst2]; simp, rfl⟩
    · obtain rfl : j = ls.length := by omega
      go_wp2_with fail
      go_ret
      exact ⟨retB' (by rw [← unhide Ho, List.drop_length]; rfl), rfl⟩

end Go.Proofs.YtpcdkhmahbecaaaGreatDoor
