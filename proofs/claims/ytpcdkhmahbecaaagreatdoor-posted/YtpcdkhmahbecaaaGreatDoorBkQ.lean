/- The law's lists: handed, still, over. -/
import Derived.Test.YtpcdkhmahbecaaaGreatDoorBkM
namespace Go.Proofs.YtpcdkhmahbecaaaGreatDoor
open Go.RowKit Db

theorem made_zero (m : Nat) : (madeCells #[.int .i64 0, .int .i64 0] m).toList = List.replicate m (.int .i64 0) := by
  apply List.ext_getElem
  · rw [Array.length_toList, size_madeCells, List.length_replicate]
  · intro i h1 h2
    rw [List.getElem_replicate, Array.getElem_toList]
    simp only [madeCells, Array.getElem_map, Array.getElem_range]
    rcases Nat.mod_two_eq_zero_or_one i with h | h
    · show (#[Value.int .i64 0, .int .i64 0])[i % 2]! = _
      rw [h]; rfl
    · show (#[Value.int .i64 0, .int .i64 0])[i % 2]! = _
      rw [h]; rfl

/-- The list that is handed over, in its block: the lines, and two of the caller's in its spare room. -/
def spare4 (a b c d : Int) : List Value := [.int .i64 a, .int .i64 b, .int .i64 c, .int .i64 d]
def hcells (ls : List Ln) : Array Value := (cellsL ls ++ spare4 77 0 0 77).toArray
theorem hcells_size (ls : List Ln) : (hcells ls).size = (ls.length + 2) * 2 := by simp [hcells, spare4, cellsL_length]; omega
theorem spare_get (ls : List Ln) (a b c d : Int) : (cellsL ls ++ spare4 a b c d).toArray[ls.length * 2]? = some (.int .i64 a) ∧ (cellsL ls ++ spare4 a b c d).toArray[ls.length * 2 + 1]? = some (.int .i64 b) ∧ (cellsL ls ++ spare4 a b c d).toArray[(ls.length + 1) * 2]? = some (.int .i64 c) ∧ (cellsL ls ++ spare4 a b c d).toArray[(ls.length + 1) * 2 + 1]? = some (.int .i64 d) := by
  have h := cellsL_length ls
  refine ⟨?_, ?_, ?_, ?_⟩ <;> (rw [List.getElem?_toArray, List.getElem?_append_right (by omega), h])
  · rw [show ls.length * 2 - ls.length * 2 = 0 by omega]; rfl
  · rw [show ls.length * 2 + 1 - ls.length * 2 = 1 by omega]; rfl
  · rw [show (ls.length + 1) * 2 - ls.length * 2 = 2 by omega]; rfl
  · rw [show (ls.length + 1) * 2 + 1 - ls.length * 2 = 3 by omega]; rfl
theorem spare_set (ls : List Ln) : ((((cellsL ls ++ spare4 0 0 0 0).toArray.setIfInBounds (ls.length * 2) (.int .i64 77)).setIfInBounds (ls.length * 2 + 1) (.int .i64 0)).setIfInBounds ((ls.length + 1) * 2) (.int .i64 0)).setIfInBounds ((ls.length + 1) * 2 + 1) (.int .i64 77) = hcells ls := by
  have h := cellsL_length ls
  apply Array.toList_inj.1
  simp only [Array.toList_setIfInBounds, hcells]
  have hs : ∀ (i : Nat) (l : List Value) (x : Value), (cellsL ls ++ l).set (ls.length * 2 + i) x = cellsL ls ++ l.set i x := by
    intro i l x
    rw [List.set_append_right _ _ (by omega), h, show ls.length * 2 + i - ls.length * 2 = i by omega]
  rw [show ls.length * 2 = ls.length * 2 + 0 from rfl, hs 0, show ls.length * 2 + 0 + 1 = ls.length * 2 + 1 from rfl, hs 1, show (ls.length + 1) * 2 = ls.length * 2 + 2 by omega, hs 2, show ls.length * 2 + 2 + 1 = ls.length * 2 + 3 from rfl, hs 3]
  rfl
theorem handed_copied {w w3 : World} {ls : List Ln} (hg3 : w3.heap[w.heap.size]? = some (.cells (cellsL ls ++ (madeCells #[.int .i64 0, .int .i64 0] ((ls.length + 2) * 2)).toList.drop (cellsL ls).length).toArray 52 (0, 0))) :
    Blk w3 w.heap.size (cellsL ls ++ spare4 0 0 0 0).toArray 52 := by
  unfold Blk
  rw [hg3, made_zero, cellsL_length, List.drop_replicate, show (ls.length + 2) * 2 - ls.length * 2 = 4 by omega]
  rfl
theorem LinesAt.of_handed {w : World} {g cap : Nat} {ls : List Ln} (h : Blk w g (hcells ls) 52) : LinesAt w (.slice (some ⟨g, 0, none⟩) ls.length cap) ls := by
  refine ⟨_, _, rfl, .inr ⟨g, 0, rfl, h.lt, fun i l hl => ?_⟩⟩
  have h2 := two_get (fun x : Ln => Value.int .i64 x.1) (fun x => .int .i64 x.2) ls i l hl
  have hi := (List.getElem?_eq_some_iff.1 hl).1
  have hlen := cellsL_length ls
  rw [Nat.zero_add, h.cell, h.cell]
  simp only [hcells, List.getElem?_toArray]
  rw [List.getElem?_append_left (by omega), List.getElem?_append_left (by omega)]
  exact h2

set_option maxRecDepth 100000 in
set_option maxHeartbeats 4000000 in
theorem handed_any (v : Value) (ls : List Ln) (w : World) (h : LinesAt w v ls) (hn : ls.length ≤ 8796093022000) :
    Calls Tryz.prog 65 #[v] w fun e w' => e = .returned (.slice (some ⟨w.heap.size, 0, none⟩) ls.length (ls.length + 2)) ∧ Blk w' w.heap.size (hcells ls) 52 ∧ Below w.heap.size w w' := by
  obtain ⟨ao, cap, rfl, hr⟩ := h
  have hmk : ∀ w : World, (Instr.makeSlice 31 (.int .i64 ((ls.length : Int) + 2)) (.int .i64 ((ls.length : Int) + 2))).run Tryz.prog w = .ok (.slice (some ⟨w.heap.size, 0, none⟩) (ls.length + 2) (ls.length + 2)) (w.alloc (.cells (madeCells #[.int .i64 0, .int .i64 0] ((ls.length + 2) * 2)) 52)) := by
    intro w
    have := run_make2 (ls.length + 2) (by omega) w
    rw [show (((ls.length + 2 : Nat)) : Int) = (ls.length : Int) + 2 by omega] at this
    exact this
  have hwr : IntKind.i64.wrap ((ls.length : Int) + 2) = (ls.length : Int) + 2 := by rw [IntKind.wrap_i64]; omega
  have hwr1 : IntKind.i64.wrap ((ls.length : Int) + 1) = (ls.length : Int) + 1 := by rw [IntKind.wrap_i64]; omega
  have Hsrc : Hid (ls.length = 0 ∨ ∃ ad', ao = some ad' ∧ ∀ j u, (cellsL ls)[j]? = some u → (w.alloc (.cells (madeCells #[.int .i64 0, .int .i64 0] ((ls.length + 2) * 2)) 52)).cell? (ad'.add j) = some u) := by
    rcases hr with rfl | ⟨b, off, rfl, hbl, hcs⟩
    · exact .inl rfl
    · refine .inr ⟨⟨b, off, none⟩, rfl, fun j u hju => ?_⟩
      rw [← lines_cells hcs j u hju, Addr.add_lit]
      exact ((Below.refl _ w).alloc (Nat.le_refl _) _).cell (p := ⟨b, off + j, none⟩) hbl
  have tq1 : ((ls.length : Int) + 1).toNat = ls.length + 1 := by omega
  have lq1 : (0 : Int) ≤ (ls.length : Int) + 1 := by omega
  have lq2 : (ls.length : Int) + 1 < (ls.length : Int) + 2 := by omega
  have lq3 : (ls.length : Int) < (ls.length : Int) + 2 := by omega
  clear hr
  go_enter Tryz.func65, Tryz.ntmps65
  go_upto_region 3 with fail
  go_upto_region 4 with (first
    | (refine wpList_copy2 rfl (.tmp 10) (.tmp 11) 31 31 rfl 52 Tryz.underlying31 (by kernel_rfl) w.heap.size (ls.length + 2) (ls.length + 2) ao ls.length cap rfl rfl (madeCells #[.int .i64 0, .int .i64 0] ((ls.length + 2) * 2)) 52 (heap_alloc_new _ _) (cellsL ls) (cellsL_length ls) (by omega) (unhide Hsrc) (by rw [size_madeCells, cellsL_length]; omega) (cellsL_one ls) ?_; intro w3 hg3 ho3 hs3 os3 tp3 ou3; have HB3 := hide (handed_copied hg3); have Hb3 : Hid (Below w.heap.size w w3) := ⟨os3, tp3, ou3, (by rw [hs3]; simp), (fun k hk => by rw [ho3 k (by omega)]; exact Below.heap_alloc _ _ _ hk)⟩; have q0 := ((unhide HB3).cell (ls.length * 2)).trans (spare_get ls 0 0 0 0).1; have q1 := ((unhide HB3).cell (ls.length * 2 + 1)).trans (spare_get ls 0 0 0 0).2.1; have q2 := ((unhide HB3).cell ((ls.length + 1) * 2)).trans (spare_get ls 0 0 0 0).2.2.1; have q3 := ((unhide HB3).cell ((ls.length + 1) * 2 + 1)).trans (spare_get ls 0 0 0 0).2.2.2; have z0 := (unhide HB3).frozen (ls.length * 2); have z1 := (unhide HB3).frozen (ls.length * 2 + 1); have z2 := (unhide HB3).frozen ((ls.length + 1) * 2); have z3 := (unhide HB3).frozen ((ls.length + 1) * 2 + 1); clear hg3 ho3 hs3 os3 tp3 ou3))
  go_wp2_with fail
  go_ret
  refine ⟨rfl, ?_, ?_⟩
  · have hb := ((((unhide HB3).set (ls.length * 2) (.int .i64 77)).set (ls.length * 2 + 1) (.int .i64 0)).set ((ls.length + 1) * 2) (.int .i64 0)).set ((ls.length + 1) * 2 + 1) (.int .i64 77)
    rw [spare_set] at hb
    exact hb
  · exact ((((unhide Hb3).setCell (by simp) _).setCell (by simp) _).setCell (by simp) _).setCell (by simp) _

end Go.Proofs.YtpcdkhmahbecaaaGreatDoor
