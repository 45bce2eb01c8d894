/- Walks of the books: lines; the program's looks at them. -/
import Derived.Test.YtpcdkhmahbecaaaGreatDoorBkF
import Derived.BigQuiet
import Derived.Deep.DeepCutAuto
namespace Go.Proofs.YtpcdkhmahbecaaaGreatDoor
open Go.RowKit Db

/-- A list of lines can be read at v. -/
def LinesAt (w : World) (v : Value) (ls : List Ln) : Prop :=
  ∃ ao cap, v = .slice ao ls.length cap ∧ (ls = [] ∨ ∃ b off, ao = some ⟨b, off, none⟩ ∧ b < w.heap.size ∧
    ∀ (i : Nat) (l : Ln), ls[i]? = some l → w.cell? ⟨b, off + i * 2, none⟩ = some (.int .i64 l.1) ∧ w.cell? ⟨b, off + i * 2 + 1, none⟩ = some (.int .i64 l.2))
theorem LinesAt.kept {w w' : World} {v : Value} {ls : List Ln} (h : LinesAt w v ls) (hb : Below w.heap.size w w') : LinesAt w' v ls := by
  obtain ⟨ao, cap, rfl, hr⟩ := h
  refine ⟨ao, cap, rfl, ?_⟩
  rcases hr with hr | ⟨b, off, ha, hlt, hc⟩
  · exact .inl hr
  · refine .inr ⟨b, off, ha, Nat.lt_of_lt_of_le hlt hb.size, fun i l hl => ?_⟩
    rw [hb.cell (p := ⟨b, off + i * 2, none⟩) hlt, hb.cell (p := ⟨b, off + i * 2 + 1, none⟩) hlt]
    exact hc i l hl
theorem LinesAt.of_own {w : World} {B : Nat} {v : Value} {ls : List Ln} (h : w.ownsRow B 52 2 v ls.length (cellsL ls)) : LinesAt w v ls := by
  obtain ⟨ao, cap, rfl⟩ := ownsRow_form h
  refine ⟨ao, cap, rfl, ?_⟩
  by_cases hl : ls.length = 0
  · exact .inl (List.length_eq_zero_iff.1 hl)
  · obtain ⟨g, _, e1, hg, hg'⟩ := ownsRow_some h (by omega)
    simp only [Value.slice.injEq, true_and] at e1
    obtain ⟨rfl, rfl⟩ := e1
    refine .inr ⟨g, 0, rfl, hg', fun i l hl => ?_⟩
    have h2 := two_get (fun x : Ln => Value.int .i64 x.1) (fun x => .int .i64 x.2) ls i l hl
    rw [Nat.zero_add]
    exact ⟨ownsRow_cell h h2.1, ownsRow_cell h h2.2⟩
/-- Where a line is. -/
theorem LinesAt.line {w : World} {ao : Option Addr} {n cap : Nat} {ls : List Ln} (h : LinesAt w (.slice ao n cap) ls) {i : Nat} {l : Ln} (hl : ls[i]? = some l) : n = ls.length ∧ ∃ b off, ao = some ⟨b, off, none⟩ ∧ b < w.heap.size ∧
    w.cell? ⟨b, off + i * 2, none⟩ = some (.int .i64 l.1) ∧ w.cell? ⟨b, off + i * 2 + 1, none⟩ = some (.int .i64 l.2) := by
  obtain ⟨ao', cap', e, hr⟩ := h
  simp only [Value.slice.injEq] at e
  obtain ⟨rfl, rfl, rfl⟩ := e
  refine ⟨rfl, ?_⟩
  rcases hr with rfl | ⟨b, off, ha, hlt, hc⟩
  · simp at hl
  · exact ⟨b, off, ha, hlt, hc i l hl⟩
theorem LinesAt.form {w : World} {v : Value} {ls : List Ln} (h : LinesAt w v ls) : ∃ ao cap, v = .slice ao ls.length cap := by
  obtain ⟨ao, cap, rfl, _⟩ := h; exact ⟨ao, cap, rfl⟩

theorem any_step {α : Type} {f : α → Bool} {l : List α} {j : Nat} {c : α} (h : l[j]? = some c) : (l.drop j).any f = (f c || (l.drop (j + 1)).any f) := by
  obtain ⟨hi, rfl⟩ := List.getElem?_eq_some_iff.1 h
  rw [List.drop_eq_getElem_cons hi, List.any_cons]
theorem all_step {α : Type} {f : α → Bool} {l : List α} {j : Nat} {c : α} (h : l[j]? = some c) : (l.drop j).all f = (f c && (l.drop (j + 1)).all f) := by
  obtain ⟨hi, rfl⟩ := List.getElem?_eq_some_iff.1 h
  rw [List.drop_eq_getElem_cons hi, List.all_cons]
theorem sumL_step {l : List Ln} {j : Nat} {c : Ln} (h : l[j]? = some c) : sumL (l.drop j) = c.2 + sumL (l.drop (j + 1)) := by
  obtain ⟨hi, rfl⟩ := List.getElem?_eq_some_iff.1 h
  rw [List.drop_eq_getElem_cons hi]; rfl

set_option maxRecDepth 100000 in
set_option maxHeartbeats 2000000 in
theorem amounts_any (v : Value) (ls : List Ln) (w : World) (h : LinesAt w v ls) (h4 : ls.length ≤ 4) :
    Calls Tryz.prog 134 #[v] w fun e w' => e = .returned (.bool (!ls.any amtB)) ∧ Below w.heap.size w w' := by
  obtain ⟨ao, cap, rfl⟩ := h.form
  have H := hide h
  clear h
  go_enter Tryz.func134, Tryz.ntmps134
  go_wp2_with fail
  go_loopg [7] ls.length (fun m i wr => ∃ j : Nat, j ≤ ls.length ∧ m = ls.length - j ∧ i = .int .i64 j ∧ Hid ((ls.drop j).any amtB = ls.any amtB) ∧ Hid (Below w.heap.size w wr))
  case atStart => exact ⟨0, by omega, rfl, rfl, rfl, Below.refl _ _⟩
  case round =>
    obtain ⟨j, hj, rfl, rfl, Ho, Hb⟩ := hrel
    have hsz := (unhide Hb).size
    by_cases hlt : j < ls.length
    · obtain ⟨⟨la, lm⟩, hl⟩ : ∃ l, ls[j]? = some l := ⟨ls[j], List.getElem?_eq_getElem hlt⟩
      obtain ⟨_, b, off, rfl, hbl, d1, d2⟩ := ((unhide H).kept (unhide Hb)).line hl
      have Hst := hide (any_step (f := amtB) hl)
      simp only at d1 d2 Hst
      clear hl
      by_cases h0 : lm = 0
      · subst h0
        go_wp2_with fail
        go_ret
        exact ⟨retB' (by rw [← unhide Ho, unhide Hst]; simp [amtB]), (unhide Hb).alloc hsz _⟩
      · have hne : (lm == 0) = false := by simpa using h0
        by_cases h1 : lm < -1000000000000
        · go_wp2_with fail
          go_ret
          exact ⟨retB' (by rw [← unhide Ho, unhide Hst]; simp [amtB, h1]), (unhide Hb).alloc hsz _⟩
        · by_cases h2 : 1000000000000 < lm
          · go_wp2_with fail
            go_ret
            exact ⟨retB' (by rw [← unhide Ho, unhide Hst]; simp [amtB, h2]), (unhide Hb).alloc hsz _⟩
          · have hst2 : amtB (la, lm) = false := by unfold amtB; simp [hne]; omega
            go_wp2_with fail
            go_roundg (ls.length - (j + 1))
            case measure => omega
            case rel => exact ⟨j + 1, by omega, rfl, by go_num, by show _ = _; rw [← unhide Ho, unhide Hst, hst2]; simp, (unhide Hb).alloc hsz _⟩
    · obtain rfl : j = ls.length := by omega
      go_wp2_with fail
      go_ret
      exact ⟨retB' (by rw [← unhide Ho, List.drop_length]; rfl), unhide Hb⟩

set_option maxRecDepth 100000 in
set_option maxHeartbeats 2000000 in
theorem total_any (v : Value) (ls : List Ln) (w : World) (h : LinesAt w v ls) (h4 : ls.length ≤ 4) (ha : ∀ l ∈ ls, -1000000000000 ≤ l.2 ∧ l.2 ≤ 1000000000000) :
    Calls Tryz.prog 137 #[v] w fun e w' => e = .returned (.int .i64 (sumL ls)) ∧ Below w.heap.size w w' := by
  obtain ⟨ao, cap, rfl⟩ := h.form
  have H := hide h
  have Ha := hide ha
  clear h ha
  go_enter Tryz.func137, Tryz.ntmps137
  go_wp2_with fail
  go_loopg [3, 8] ls.length (fun m v i wr => ∃ j : Nat, ∃ x : Int, j ≤ ls.length ∧ m = ls.length - j ∧ i = .int .i64 j ∧ v = .int .i64 x ∧ -(1000000000000 * (j : Int)) ≤ x ∧ x ≤ 1000000000000 * (j : Int) ∧ Hid (x + sumL (ls.drop j) = sumL ls) ∧ Hid (Below w.heap.size w wr))
  case atStart => exact ⟨0, 0, by omega, rfl, rfl, rfl, by omega, by omega, by show _ = _; simp, Below.refl _ _⟩
  case round =>
    obtain ⟨j, x, hj, rfl, rfl, rfl, hx0, hx1, Ho, Hb⟩ := hrel
    have hsz := (unhide Hb).size
    by_cases hlt : j < ls.length
    · obtain ⟨⟨la, lm⟩, hl⟩ : ∃ l, ls[j]? = some l := ⟨ls[j], List.getElem?_eq_getElem hlt⟩
      obtain ⟨_, b, off, rfl, hbl, d1, d2⟩ := ((unhide H).kept (unhide Hb)).line hl
      have Hst := hide (sumL_step hl)
      have hb := unhide Ha _ (List.mem_of_getElem? hl)
      simp only at d1 d2 Hst hb
      have hwr : IntKind.i64.wrap (x + lm) = x + lm := by rw [IntKind.wrap_i64]; omega
      clear hl
      go_wp2_with fail
      go_roundg (ls.length - (j + 1))
      case measure => omega
      case rel => exact ⟨j + 1, x + lm, by omega, rfl, by go_num, rfl, by omega, by omega, by show _ = _; have := unhide Ho; rw [unhide Hst] at this; omega, (unhide Hb).alloc hsz _⟩
    · obtain rfl : j = ls.length := by omega
      go_wp2_with fail
      go_ret
      refine ⟨retI' ?_, unhide Hb⟩
      have := unhide Ho
      rw [List.drop_length] at this
      simpa [sumL] using this

set_option maxRecDepth 100000 in
set_option maxHeartbeats 2000000 in
theorem hasAccounts_any (B p : Nat) (s : Bk) (v : Value) (ls : List Ln) (w : World) (hs : Led w B p s) (h : LinesAt w v ls) (h4 : ls.length ≤ 4) :
    Calls Tryz.prog 135 #[.pointer (some ⟨p, 0, none⟩), v] w fun e w' => e = .returned (.bool (ls.all (accB s))) ∧ Below w.heap.size w w' := by
  obtain ⟨va, vt, tv, hs⟩ := hs
  obtain ⟨g, capa, rfl, hg, hg'⟩ := ownsRow_some hs.acs hs.good.one
  have hfew := hs.good.few
  obtain ⟨ao, cap, rfl⟩ := h.form
  have H := hide h
  have HS := hide hs
  clear h hs
  go_enter Tryz.func135, Tryz.ntmps135
  go_wp2_with fail
  go_loopg [9] ls.length (fun m i wr => ∃ j : Nat, j ≤ ls.length ∧ m = ls.length - j ∧ i = .int .i64 j ∧ Hid ((ls.drop j).all (accB s) = ls.all (accB s)) ∧ Hid (Below w.heap.size w wr))
  case atStart => exact ⟨0, by omega, rfl, rfl, rfl, Below.refl _ _⟩
  case round =>
    obtain ⟨j, hj, rfl, rfl, Ho, Hb⟩ := hrel
    have hsz := (unhide Hb).size
    have hblk := (unhide HS).blk.kept (unhide Hb)
    have c0 := hblk.cell 0
    have hlb := hblk.lt
    simp only [List.getElem?_toArray, List.getElem?_cons_zero] at c0
    clear hblk
    by_cases hlt : j < ls.length
    · obtain ⟨⟨la, lm⟩, hl⟩ : ∃ l, ls[j]? = some l := ⟨ls[j], List.getElem?_eq_getElem hlt⟩
      obtain ⟨_, b, off, rfl, hbl, d1, d2⟩ := ((unhide H).kept (unhide Hb)).line hl
      have Hst := hide (all_step (f := accB s) hl)
      simp only at d1 d2 Hst
      clear hl
      by_cases h0 : la ≤ 0
      · have hacc : accB s (la, lm) = false := by unfold accB ther; simp; omega
        go_upto_region 4 with fail
        go_quiet (fail)
        go_wp2_with fail
        go_ret
        exact ⟨retB' (by rw [← unhide Ho, unhide Hst, hacc]; simp), ((unhide Hb).alloc hsz _).drewN _⟩
      · have hd0 : decide (la ≤ 0) = false := by simp; omega
        by_cases h1 : (s.acs.length : Int) ≤ la
        · have hacc : accB s (la, lm) = false := by unfold accB ther; simp; omega
          go_upto_region 4 with fail
          go_quiet (fail)
          go_wp2_with fail
          go_ret
          exact ⟨retB' (by rw [← unhide Ho, unhide Hst, hacc]; simp), ((unhide Hb).alloc hsz _).drewN _⟩
        · have hacc : accB s (la, lm) = true := by unfold accB ther; simp; omega
          have hd1 : decide ((s.acs.length : Int) ≤ la) = false := by simp; omega
          go_upto_region 4 with fail
          go_quiet (fail)
          go_wp2_with fail
          go_roundg (ls.length - (j + 1))
          case measure => omega
          case rel => exact ⟨j + 1, by omega, rfl, by go_num, by show _ = _; rw [← unhide Ho, unhide Hst, hacc]; simp, ((unhide Hb).alloc hsz _).drewN _⟩
    · obtain rfl : j = ls.length := by omega
      go_wp2_with fail
      go_ret
      exact ⟨retB' (by rw [← unhide Ho, List.drop_length]; rfl), unhide Hb⟩

end Go.Proofs.YtpcdkhmahbecaaaGreatDoor
