/- Walks of the books: Accounts. The law's lists: handed, still, over. The law's lists: still, over. The disk: a number, and a record, as bytes. The disk: a record as a sector. The disk: a record is laid. The program's book, with its disk: Open, Close, Post. The law's pair of books: opened, closed. The law's pair of books: posted. The law's pair of books: do, begun, played. -/
import Derived.Test.YtdchbenfccofpaaGreatDoorC04
import Derived.Test.YtdchbenfccofpaaGreatDoorC01
import Derived.Laws.IdiomStrings
import Derived.Deep.LoopGhost
import Derived.Test.YtdchbenfccofpaaGreatDoorC03
import Derived.Deep.AppendLies
import Derived.Deep.RegionLaw
import Derived.Deep.RegionHeld3
namespace Go.Proofs.YtdchbenfccofpaaGreatDoor
open Go.RowKit Db

def acT (c : Ac) : List UInt8 := Lib.itoa c.1 ++ (if c.2 then [120] else [])
def accL (s : Bk) : List (List UInt8) := (s.acs.drop 1).map acT
def accT (s : Bk) : List UInt8 := jn 44 (accL s)
theorem accL_get {s : Bk} {j : Nat} {c : Ac} (h : s.acs[j + 1]? = some c) : (accL s)[j]? = some (acT c) := by
  unfold accL; rw [List.getElem?_map, List.getElem?_drop, Nat.add_comm 1 j, h]; rfl
theorem accL_all {s : Bk} {u : List UInt8} (h : u = jn 44 ((accL s).take (s.acs.length - 1))) : u = accT s := by
  rw [h, List.take_of_length_le (by unfold accL; simp)]; rfl
theorem acT_size {c : Ac} (h : -1 ≤ c.1 ∧ c.1 ≤ 16) {u : ByteArray} (hu : L u = Lib.itoa c.1) : u.size ≤ 21 := itoa_size (by omega) (by omega) hu

/-- One account more. -/
theorem acc_step {s : Bk} {j : Nat} {c : Ac} (h : s.acs[j + 1]? = some c) {u t : List UInt8} (hu : u = jn 44 ((accL s).take j)) (ht : t = Lib.itoa c.1) :
    (j = 0 → u ++ t ++ (if c.2 then [120] else []) = jn 44 ((accL s).take (j + 1))) ∧ (0 < j → u ++ [44] ++ t ++ (if c.2 then [120] else []) = jn 44 ((accL s).take (j + 1))) := by
  have hm := accL_get h
  constructor
  · rintro rfl
    rw [jn_one hm, hu, ht]; simp [jn, acT]
  · intro hj
    rw [jn_more hj hm, hu, ht]; simp [acT]

set_option maxRecDepth 100000 in
set_option maxHeartbeats 4000000 in
theorem ledAccounts_any (B p : Nat) (s : Bk) (w : World) (h : Led w B p s) (ht : Tab w) :
    Calls Tryz.prog 48 #[.pointer (some ⟨p, 0, none⟩)] w fun e w' => ∃ u : ByteArray, e = .returned (.string u) ∧ L u = accT s ∧ Below w.heap.size w w' := by
  obtain ⟨va, vt, tv, dk, h⟩ := h
  obtain ⟨g, cap, rfl, hg, hg'⟩ := ownsRow_some h.acs h.good.one
  have c0 := h.blk.cell 0
  simp only [List.getElem?_toArray, List.getElem?_cons_zero] at c0
  have hfew := h.good.few
  have hone := h.good.one
  have H := hide h
  have Ht := hide ht
  clear h ht
  go_enter Tryz.func48, Tryz.ntmps48
  go_wp2_with fail
  go_loopg [3, 11] s.acs.length (fun m vu i wr => ∃ j : Nat, ∃ u : ByteArray, j ≤ s.acs.length ∧ m = s.acs.length - j ∧ i = .int .i64 j ∧ vu = .string u ∧ u.size ≤ 24 * j ∧ Hid (L u = jn 44 ((accL s).take (j - 1))) ∧ Hid (Below w.heap.size w wr))
  case atStart => exact ⟨0, ⟨#[]⟩, by omega, rfl, rfl, rfl, Nat.le_refl 0, rfl, Below.refl _ _⟩
  case round =>
    obtain ⟨j, u, hj, rfl, rfl, rfl, hus, Hu, Hb⟩ := hrel
    have hsz := (unhide Hb).size
    by_cases hlt : j < s.acs.length
    · obtain ⟨c, hc⟩ := acs_get hlt
      have hro := ownsRow_below (unhide H).acs (unhide Hb)
      have d1 := ownsRow_cell hro (j := j * 2) (two_get (fun a : Ac => Value.int .i64 a.1) (fun a => .bool a.2) s.acs j c hc).1
      have d2 := ownsRow_cell hro (j := j * 2 + 1) (two_get (fun a : Ac => Value.int .i64 a.1) (fun a => .bool a.2) s.acs j c hc).2
      have hpar := (unhide H).good.par c (List.mem_of_getElem? hc)
      cases j with
      | zero =>
        obtain ⟨cp, cc⟩ := c
        simp only at d1 d2
        clear hro hc hpar
        go_wp2_with fail
        go_roundg (s.acs.length - (0 + 1))
        case measure => omega
        case rel => exact ⟨0 + 1, u, by omega, rfl, by go_num, rfl, by omega, unhide Hu, (unhide Hb).alloc hsz _⟩
      | succ j =>
        have Hst := hide (fun t => acc_step (t := t) hc (by exact unhide Hu))
        obtain ⟨cp, cc⟩ := c
        simp only at d1 d2 hpar Hst
        have hne : (((j + 1 : Nat) : Int) == 0) = false := by simp; omega
        clear hro hc
        by_cases hj0 : j = 0
        · subst hj0
          go_wp2_with fail
          refine (itoa_any cp _ (by omega) (by omega) ((unhide Ht).below (by exact (unhide Hb).alloc hsz _))).mono ?_
          rintro e w3 ⟨t, rfl, ht, hb3⟩
          have htz : t.size ≤ 21 := itoa_size (by omega) (by omega) ht
          have Hb3 : Hid (Below w.heap.size w w3) := ((unhide Hb).alloc hsz _).then' (by simp; omega) hb3
          have k1 := hb3.cell (p := ⟨wr.heap.size, 1, none⟩) (by simp)
          simp at k1
          have Hn := hide ((unhide Hst _ ht).1 (by simp))
          clear ht hb3
          cases cc with
          | true =>
            go_wp2_with fail
            go_roundg (s.acs.length - (0 + 1 + 1))
            case measure => omega
            case rel => exact ⟨0 + 1 + 1, u ++ t ++ ⟨#[120]⟩, by omega, rfl, by go_num, rfl, by rw [ByteArray.size_append, ByteArray.size_append]; show u.size + t.size + 1 ≤ _; omega, by show _ = _; rw [L_append, L_append]; exact unhide Hn, unhide Hb3⟩
          | false =>
            go_wp2_with fail
            go_roundg (s.acs.length - (0 + 1 + 1))
            case measure => omega
            case rel => exact ⟨0 + 1 + 1, u ++ t, by omega, rfl, by go_num, rfl, by rw [ByteArray.size_append]; omega, by show _ = _; rw [L_append]; simpa using unhide Hn, unhide Hb3⟩
        · have hgt : decide ((1 : Int) < ((j + 1 : Nat) : Int)) = true := by simp; omega
          go_wp2_with fail
          refine (itoa_any cp _ (by omega) (by omega) ((unhide Ht).below (by exact (unhide Hb).alloc hsz _))).mono ?_
          rintro e w3 ⟨t, rfl, ht, hb3⟩
          have htz : t.size ≤ 21 := itoa_size (by omega) (by omega) ht
          have Hb3 : Hid (Below w.heap.size w w3) := ((unhide Hb).alloc hsz _).then' (by simp; omega) hb3
          have k1 := hb3.cell (p := ⟨wr.heap.size, 1, none⟩) (by simp)
          simp at k1
          have Hn := hide ((unhide Hst _ ht).2 (by omega))
          clear ht hb3
          cases cc with
          | true =>
            go_wp2_with fail
            go_roundg (s.acs.length - (j + 1 + 1))
            case measure => omega
            case rel => exact ⟨j + 1 + 1, u ++ ⟨#[44]⟩ ++ t ++ ⟨#[120]⟩, by omega, rfl, by go_num, rfl, by rw [ByteArray.size_append, ByteArray.size_append, ByteArray.size_append]; show u.size + 1 + t.size + 1 ≤ _; omega, by show _ = _; rw [L_append, L_append, L_append]; exact unhide Hn, unhide Hb3⟩
          | false =>
            go_wp2_with fail
            go_roundg (s.acs.length - (j + 1 + 1))
            case measure => omega
            case rel => exact ⟨j + 1 + 1, u ++ ⟨#[44]⟩ ++ t, by omega, rfl, by go_num, rfl, by rw [ByteArray.size_append, ByteArray.size_append]; show u.size + 1 + t.size ≤ _; omega, by show _ = _; rw [L_append, L_append]; have := unhide Hn; simpa [L] using this, unhide Hb3⟩
    · obtain rfl : j = s.acs.length := by omega
      go_wp2_with fail
      go_ret
      exact ⟨u, rfl, accL_all (unhide Hu), unhide Hb⟩

set_option maxHeartbeats 1000000 in
theorem dayAccounts_any (B p : Nat) (s : Bk) (w : World) (h : Led w B p s) (ht : Tab w) :
    Calls Tryz.prog 18 #[.pointer (some ⟨p, 0, none⟩)] w fun e w' => ∃ u : ByteArray, e = .returned (.string u) ∧ L u = accT s ∧ Below w.heap.size w w' := by
  have Hc := hide (ledAccounts_any B p s w h ht)
  clear h ht
  go_enter Tryz.func18, Tryz.ntmps18
  go_wp2_with fail
  refine (unhide Hc).mono ?_
  rintro e w1 ⟨u, rfl, hu, hb⟩
  have Hu := hide hu
  have Hb := hide hb
  clear hu hb
  go_wp2_with fail
  go_ret
  exact ⟨u, rfl, unhide Hu, unhide Hb⟩

set_option maxRecDepth 100000 in
set_option maxHeartbeats 4000000 in
theorem refAccounts_any (B p : Nat) (s : Bk) (w : World) (h : Rfd w B p s) :
    Calls Tryz.prog 19 #[.pointer (some ⟨p, 0, none⟩)] w fun e w' => ∃ u : ByteArray, e = .returned (.string u) ∧ L u = accT s ∧ Below w.heap.size w w' := by
  obtain ⟨vp, vc, vt, tv, h⟩ := h
  obtain ⟨g, cap, rfl, hg, hg'⟩ := ownsRow_some h.par h.good.one
  obtain ⟨g2, cap2, rfl, hg2, hg2'⟩ := ownsRow_some h.clo h.good.one
  have hfew := h.good.few
  have hone := h.good.one
  have H := hide h
  clear h
  go_enter Tryz.func19, Tryz.ntmps19
  go_wp2_with fail
  go_loopg [3, 4] s.acs.length (fun m vu i wr => ∃ j : Nat, ∃ u : ByteArray, j + 1 ≤ s.acs.length ∧ m = s.acs.length - j ∧ i = .int .i64 ((j + 1 : Nat) : Int) ∧ vu = .string u ∧ u.size ≤ 24 * j ∧ Hid (L u = jn 44 ((accL s).take j)) ∧ Hid (Below w.heap.size w wr))
  case atStart => exact ⟨0, ⟨#[]⟩, by omega, by omega, rfl, rfl, Nat.le_refl 0, rfl, Below.refl _ _⟩
  case round =>
    obtain ⟨j, u, hj, rfl, rfl, rfl, hus, Hu, Hb⟩ := hrel
    have hsz := (unhide Hb).size
    have H1 := hide ((unhide H).kept (unhide Hb))
    have c0 := (unhide H1).blk.cell 0
    simp only [List.getElem?_toArray, List.getElem?_cons_zero] at c0
    by_cases hlt : j + 1 < s.acs.length
    · obtain ⟨c, hc⟩ := acs_get hlt
      have d1 := ownsRow_cell (unhide H1).par (j := j + 1) (u := .int .i64 c.1) (by rw [List.getElem?_map, hc]; rfl)
      have hpar := (unhide H).good.par c (List.mem_of_getElem? hc)
      have Hst := hide (fun t => acc_step (t := t) hc (unhide Hu))
      have Hcl := hide (fun (wx : World) (hb : Below w.heap.size w wx) => ownsRow_cell ((unhide H).kept hb).clo (j := j + 1) (u := .bool c.2) (by rw [List.getElem?_map, hc]; rfl))
      obtain ⟨cp, cc⟩ := c
      simp only at d1 hpar Hst Hcl
      clear hc
      by_cases hj0 : j = 0
      · subst hj0
        go_wp2_with fail
        refine (number10_any cp _ (by omega) (by omega)).mono ?_
        rintro e w3 ⟨t, rfl, ht, hb3⟩
        have htz : t.size ≤ 21 := itoa_size (by omega) (by omega) ht
        have Hb3 : Hid (Below w.heap.size w w3) := (unhide Hb).then' (by omega) hb3
        have d2 := unhide Hcl _ (unhide Hb3)
        have c3 := ((unhide H).kept (unhide Hb3)).blk.cell 1
        simp only [List.getElem?_toArray, List.getElem?_cons_zero, List.getElem?_cons_succ] at c3
        have Hn := hide ((unhide Hst _ ht).1 (by simp))
        clear ht hb3
        cases cc with
        | true =>
          go_wp2_with fail
          go_roundg (s.acs.length - (0 + 1))
          case measure => omega
          case rel => exact ⟨0 + 1, u ++ t ++ ⟨#[120]⟩, by omega, rfl, by go_num, rfl, by rw [ByteArray.size_append, ByteArray.size_append]; show u.size + t.size + 1 ≤ _; omega, by show _ = _; rw [L_append, L_append]; exact unhide Hn, unhide Hb3⟩
        | false =>
          go_wp2_with fail
          go_roundg (s.acs.length - (0 + 1))
          case measure => omega
          case rel => exact ⟨0 + 1, u ++ t, by omega, rfl, by go_num, rfl, by rw [ByteArray.size_append]; omega, by show _ = _; rw [L_append]; simpa using unhide Hn, unhide Hb3⟩
      · have hgt : decide ((1 : Int) < ((j + 1 : Nat) : Int)) = true := by simp; omega
        go_wp2_with fail
        refine (number10_any cp _ (by omega) (by omega)).mono ?_
        rintro e w3 ⟨t, rfl, ht, hb3⟩
        have htz : t.size ≤ 21 := itoa_size (by omega) (by omega) ht
        have Hb3 : Hid (Below w.heap.size w w3) := (unhide Hb).then' (by omega) hb3
        have d2 := unhide Hcl _ (unhide Hb3)
        have c3 := ((unhide H).kept (unhide Hb3)).blk.cell 1
        simp only [List.getElem?_toArray, List.getElem?_cons_zero, List.getElem?_cons_succ] at c3
        have Hn := hide ((unhide Hst _ ht).2 (by omega))
        clear ht hb3
        cases cc with
        | true =>
          go_wp2_with fail
          go_roundg (s.acs.length - (j + 1))
          case measure => omega
          case rel => exact ⟨j + 1, u ++ ⟨#[44]⟩ ++ t ++ ⟨#[120]⟩, by omega, rfl, by go_num, rfl, by rw [ByteArray.size_append, ByteArray.size_append, ByteArray.size_append]; show u.size + 1 + t.size + 1 ≤ _; omega, by show _ = _; rw [L_append, L_append, L_append]; exact unhide Hn, unhide Hb3⟩
        | false =>
          go_wp2_with fail
          go_roundg (s.acs.length - (j + 1))
          case measure => omega
          case rel => exact ⟨j + 1, u ++ ⟨#[44]⟩ ++ t, by omega, rfl, by go_num, rfl, by rw [ByteArray.size_append, ByteArray.size_append]; show u.size + 1 + t.size ≤ _; omega, by show _ = _; rw [L_append, L_append]; have := unhide Hn; simpa [L] using this, unhide Hb3⟩
    · obtain rfl : j = s.acs.length - 1 := by omega
      go_wp2_with fail
      go_ret
      exact ⟨u, rfl, accL_all (unhide Hu), unhide Hb⟩

end Go.Proofs.YtdchbenfccofpaaGreatDoor
namespace Go.Proofs.YtdchbenfccofpaaGreatDoor
open Go.RowKit Db

theorem made_zero (m : Nat) : (madeCells #[.int .i64 0, .int .i64 0] m).toList = List.replicate m (.int .i64 0) := by
  apply List.ext_getElem
  · rw [Array.length_toList, size_madeCells, List.length_replicate]
  · intro i h1 h2
    rw [List.getElem_replicate, Array.getElem_toList]
    simp only [madeCells, Array.getElem_map, Array.getElem_range]
    rcases Nat.mod_two_eq_zero_or_one i with h | h
    · show (#[Value.int .i64 0, .int .i64 0])[i % 2]! = _
      rw [h]; rfl
    · show (#[Value.int .i64 0, .int .i64 0])[i % 2]! = _
      rw [h]; rfl

/-- The list that is handed over, in its block: the lines, and two of the caller's in its spare room. -/
def spare4 (a b c d : Int) : List Value := [.int .i64 a, .int .i64 b, .int .i64 c, .int .i64 d]
def hcells (ls : List Ln) : Array Value := (cellsL ls ++ spare4 77 0 0 77).toArray
theorem hcells_size (ls : List Ln) : (hcells ls).size = (ls.length + 2) * 2 := by simp [hcells, spare4, cellsL_length]; omega
theorem spare_get (ls : List Ln) (a b c d : Int) : (cellsL ls ++ spare4 a b c d).toArray[ls.length * 2]? = some (.int .i64 a) ∧ (cellsL ls ++ spare4 a b c d).toArray[ls.length * 2 + 1]? = some (.int .i64 b) ∧ (cellsL ls ++ spare4 a b c d).toArray[(ls.length + 1) * 2]? = some (.int .i64 c) ∧ (cellsL ls ++ spare4 a b c d).toArray[(ls.length + 1) * 2 + 1]? = some (.int .i64 d) := by
  have h := cellsL_length ls
  refine ⟨?_, ?_, ?_, ?_⟩ <;> (rw [List.getElem?_toArray, List.getElem?_append_right (by omega), h])
  · rw [show ls.length * 2 - ls.length * 2 = 0 by omega]; rfl
  · rw [show ls.length * 2 + 1 - ls.length * 2 = 1 by omega]; rfl
  · rw [show (ls.length + 1) * 2 - ls.length * 2 = 2 by omega]; rfl
  · rw [show (ls.length + 1) * 2 + 1 - ls.length * 2 = 3 by omega]; rfl
theorem spare_set (ls : List Ln) : ((((cellsL ls ++ spare4 0 0 0 0).toArray.setIfInBounds (ls.length * 2) (.int .i64 77)).setIfInBounds (ls.length * 2 + 1) (.int .i64 0)).setIfInBounds ((ls.length + 1) * 2) (.int .i64 0)).setIfInBounds ((ls.length + 1) * 2 + 1) (.int .i64 77) = hcells ls := by
  have h := cellsL_length ls
  apply Array.toList_inj.1
  simp only [Array.toList_setIfInBounds, hcells]
  have hs : ∀ (i : Nat) (l : List Value) (x : Value), (cellsL ls ++ l).set (ls.length * 2 + i) x = cellsL ls ++ l.set i x := by
    intro i l x
    rw [List.set_append_right _ _ (by omega), h, show ls.length * 2 + i - ls.length * 2 = i by omega]
  rw [show ls.length * 2 = ls.length * 2 + 0 from rfl, hs 0, show ls.length * 2 + 0 + 1 = ls.length * 2 + 1 from rfl, hs 1, show (ls.length + 1) * 2 = ls.length * 2 + 2 by omega, hs 2, show ls.length * 2 + 2 + 1 = ls.length * 2 + 3 from rfl, hs 3]
  rfl
theorem handed_copied {w w3 : World} {ls : List Ln} (hg3 : w3.heap[w.heap.size]? = some (.cells (cellsL ls ++ (madeCells #[.int .i64 0, .int .i64 0] ((ls.length + 2) * 2)).toList.drop (cellsL ls).length).toArray 89 (0, 0))) :
    Blk w3 w.heap.size (cellsL ls ++ spare4 0 0 0 0).toArray 89 := by
  unfold Blk
  rw [hg3, made_zero, cellsL_length, List.drop_replicate, show (ls.length + 2) * 2 - ls.length * 2 = 4 by omega]
  rfl
theorem LinesAt.of_handed {w : World} {g cap : Nat} {ls : List Ln} (h : Blk w g (hcells ls) 89) : LinesAt w (.slice (some ⟨g, 0, none⟩) ls.length cap) ls := by
  refine ⟨_, _, rfl, .inr ⟨g, 0, rfl, h.lt, fun i l hl => ?_⟩⟩
  have h2 := two_get (fun x : Ln => Value.int .i64 x.1) (fun x => .int .i64 x.2) ls i l hl
  have hi := (List.getElem?_eq_some_iff.1 hl).1
  have hlen := cellsL_length ls
  rw [Nat.zero_add, h.cell, h.cell]
  simp only [hcells, List.getElem?_toArray]
  rw [List.getElem?_append_left (by omega), List.getElem?_append_left (by omega)]
  exact h2

set_option maxRecDepth 100000 in
set_option maxHeartbeats 4000000 in
theorem handed_any (v : Value) (ls : List Ln) (w : World) (h : LinesAt w v ls) (hn : ls.length ≤ 8796093022000) :
    Calls Tryz.prog 121 #[v] w fun e w' => e = .returned (.slice (some ⟨w.heap.size, 0, none⟩) ls.length (ls.length + 2)) ∧ Blk w' w.heap.size (hcells ls) 89 ∧ Below w.heap.size w w' := by
  obtain ⟨ao, cap, rfl, hr⟩ := h
  have hmk : ∀ w : World, (Instr.makeSlice 31 (.int .i64 ((ls.length : Int) + 2)) (.int .i64 ((ls.length : Int) + 2))).run Tryz.prog w = .ok (.slice (some ⟨w.heap.size, 0, none⟩) (ls.length + 2) (ls.length + 2)) (w.alloc (.cells (madeCells #[.int .i64 0, .int .i64 0] ((ls.length + 2) * 2)) 89)) := by
    intro w
    have := run_make2 (ls.length + 2) (by omega) w
    rw [show (((ls.length + 2 : Nat)) : Int) = (ls.length : Int) + 2 by omega] at this
    exact this
  have hwr : IntKind.i64.wrap ((ls.length : Int) + 2) = (ls.length : Int) + 2 := by rw [IntKind.wrap_i64]; omega
  have hwr1 : IntKind.i64.wrap ((ls.length : Int) + 1) = (ls.length : Int) + 1 := by rw [IntKind.wrap_i64]; omega
  have Hsrc : Hid (ls.length = 0 ∨ ∃ ad', ao = some ad' ∧ ∀ j u, (cellsL ls)[j]? = some u → (w.alloc (.cells (madeCells #[.int .i64 0, .int .i64 0] ((ls.length + 2) * 2)) 89)).cell? (ad'.add j) = some u) := by
    rcases hr with rfl | ⟨b, off, rfl, hbl, hcs⟩
    · exact .inl rfl
    · refine .inr ⟨⟨b, off, none⟩, rfl, fun j u hju => ?_⟩
      rw [← lines_cells hcs j u hju, Addr.add_lit]
      exact ((Below.refl _ w).alloc (Nat.le_refl _) _).cell (p := ⟨b, off + j, none⟩) hbl
  have tq1 : ((ls.length : Int) + 1).toNat = ls.length + 1 := by omega
  have lq1 : (0 : Int) ≤ (ls.length : Int) + 1 := by omega
  have lq2 : (ls.length : Int) + 1 < (ls.length : Int) + 2 := by omega
  have lq3 : (ls.length : Int) < (ls.length : Int) + 2 := by omega
  clear hr
  go_enter Tryz.func121, Tryz.ntmps121
  go_upto_region 3 with fail
  go_upto_region 4 with (first
    | (refine wpList_copy2 rfl (.tmp 10) (.tmp 11) 31 31 rfl 89 Tryz.underlying31 (by kernel_rfl) w.heap.size (ls.length + 2) (ls.length + 2) ao ls.length cap rfl rfl (madeCells #[.int .i64 0, .int .i64 0] ((ls.length + 2) * 2)) 89 (heap_alloc_new _ _) (cellsL ls) (cellsL_length ls) (by omega) (unhide Hsrc) (by rw [size_madeCells, cellsL_length]; omega) (cellsL_one ls) ?_; intro w3 hg3 ho3 hs3 os3 tp3 ou3; have HB3 := hide (handed_copied hg3); have Hb3 : Hid (Below w.heap.size w w3) := ⟨os3, tp3, ou3, (by rw [hs3]; simp), (fun k hk => by rw [ho3 k (by omega)]; exact Below.heap_alloc _ _ _ hk)⟩; have q0 := ((unhide HB3).cell (ls.length * 2)).trans (spare_get ls 0 0 0 0).1; have q1 := ((unhide HB3).cell (ls.length * 2 + 1)).trans (spare_get ls 0 0 0 0).2.1; have q2 := ((unhide HB3).cell ((ls.length + 1) * 2)).trans (spare_get ls 0 0 0 0).2.2.1; have q3 := ((unhide HB3).cell ((ls.length + 1) * 2 + 1)).trans (spare_get ls 0 0 0 0).2.2.2; have z0 := (unhide HB3).frozen (ls.length * 2); have z1 := (unhide HB3).frozen (ls.length * 2 + 1); have z2 := (unhide HB3).frozen ((ls.length + 1) * 2); have z3 := (unhide HB3).frozen ((ls.length + 1) * 2 + 1); clear hg3 ho3 hs3 os3 tp3 ou3))
  go_wp2_with fail
  go_ret
  refine ⟨rfl, ?_, ?_⟩
  · have hb := ((((unhide HB3).set (ls.length * 2) (.int .i64 77)).set (ls.length * 2 + 1) (.int .i64 0)).set ((ls.length + 1) * 2) (.int .i64 0)).set ((ls.length + 1) * 2 + 1) (.int .i64 77)
    rw [spare_set] at hb
    exact hb
  · exact ((((unhide Hb3).setCell (by simp) _).setCell (by simp) _).setCell (by simp) _).setCell (by simp) _

end Go.Proofs.YtdchbenfccofpaaGreatDoor
namespace Go.Proofs.YtdchbenfccofpaaGreatDoor
open Go.RowKit Db

set_option maxRecDepth 100000 in
set_option maxHeartbeats 4000000 in
theorem still_any (g : Nat) (v : Value) (ls : List Ln) (w : World) (hg : Blk w g (hcells ls) 89) (h : LinesAt w v ls) (hn : ls.length ≤ 8796093022000) :
    Calls Tryz.prog 122 #[.slice (some ⟨g, 0, none⟩) ls.length (ls.length + 2), v] w fun e w' => e = .returned (.bool true) ∧ ∃ n, w' = w.drewN n := by
  have HG := hide (LinesAt.of_handed (cap := ls.length + 2) hg)
  have q0 := (hg.cell (ls.length * 2)).trans (spare_get ls 77 0 0 77).1
  have q1 := (hg.cell (ls.length * 2 + 1)).trans (spare_get ls 77 0 0 77).2.1
  have q2 := (hg.cell ((ls.length + 1) * 2)).trans (spare_get ls 77 0 0 77).2.2.1
  have q3 := (hg.cell ((ls.length + 1) * 2 + 1)).trans (spare_get ls 77 0 0 77).2.2.2
  obtain ⟨ao, cap, rfl⟩ := h.form
  have H := hide h
  have hwr : IntKind.i64.wrap ((ls.length : Int) + 2) = (ls.length : Int) + 2 := by rw [IntKind.wrap_i64]; omega
  have hwr1 : IntKind.i64.wrap ((ls.length : Int) + 1) = (ls.length : Int) + 1 := by rw [IntKind.wrap_i64]; omega
  have tq1 : ((ls.length : Int) + 1).toNat = ls.length + 1 := by omega
  have tq2 : ((ls.length : Int) + 2).toNat = ls.length + 2 := by omega
  have lq1 : (0 : Int) ≤ (ls.length : Int) + 1 := by omega
  have lq4 : (0 : Int) ≤ (ls.length : Int) + 2 := by omega
  have lq2 : (ls.length : Int) + 1 < (ls.length : Int) + 2 := by omega
  have lq3 : (ls.length : Int) < (ls.length : Int) + 2 := by omega
  clear hg h
  go_enter Tryz.func122, Tryz.ntmps122
  go_wp2_with fail
  go_loopg [6] ls.length (fun m i wr => ∃ j n : Nat, j ≤ ls.length ∧ m = ls.length - j ∧ i = .int .i64 j ∧ wr = w.drewN n)
  case atStart => exact ⟨0, 0, by omega, rfl, rfl, rfl⟩
  case round =>
    obtain ⟨j, n, hj, rfl, rfl, rfl⟩ := hrel
    by_cases hlt : j < ls.length
    · obtain ⟨⟨la, lm⟩, hl⟩ : ∃ l, ls[j]? = some l := ⟨ls[j], List.getElem?_eq_getElem hlt⟩
      obtain ⟨_, b, off, e1, hbl, d1, d2⟩ := (unhide HG).line hl
      simp only [Option.some.injEq, Addr.mk.injEq, and_true] at e1
      obtain ⟨rfl, rfl⟩ := e1
      obtain ⟨_, b', off', rfl, hbl', f1, f2⟩ := (unhide H).line hl
      simp only [Nat.zero_add] at d1 d2 f1 f2
      clear hl
      go_upto_region 5 with fail
      go_quiet (fail)
      go_wp2_with fail
      go_roundg (ls.length - (j + 1))
      case measure => omega
      case rel => exact ⟨j + 1, _, by omega, rfl, by go_num, by first | rfl | exact (World.drewN_drewN _ _ _)⟩
    · obtain rfl : j = ls.length := by omega
      go_wp2_with fail
      go_ret
      exact ⟨rfl, n, rfl⟩

/-- Block g alone has turned. -/
theorem frm_set {w w' : World} {g i : Nat} (h : Frm w.heap.size (fun k => k = g) w w') (v : Value) : Frm w.heap.size (fun k => k = g) w (w'.setCell ⟨g, i, none⟩ v) := h.setCell (.inr rfl) v

set_option maxRecDepth 100000 in
set_option maxHeartbeats 4000000 in
theorem over_any (g n : Nat) (cs : Array Value) (w : World) (hg : Blk w g cs 89) (hs : cs.size = (n + 2) * 2) (hn : n ≤ 8796093022000) :
    Calls Tryz.prog 123 #[.slice (some ⟨g, 0, none⟩) n (n + 2)] w fun e w' => e = .returned (.tuple #[]) ∧ Frm w.heap.size (fun k => k = g) w w' := by
  have hwr : IntKind.i64.wrap ((n : Int) + 2) = (n : Int) + 2 := by rw [IntKind.wrap_i64]; omega
  have tq2 : ((n : Int) + 2).toNat = n + 2 := by omega
  have lq4 : (0 : Int) ≤ (n : Int) + 2 := by omega
  have Hg := hide hg
  have Hs := hide hs
  clear hg hs
  go_enter Tryz.func123, Tryz.ntmps123
  go_wp2_with fail
  go_loopg [3] (n + 2) (fun m i wr => ∃ j : Nat, ∃ ds : Array Value, j ≤ n + 2 ∧ m = n + 2 - j ∧ i = .int .i64 j ∧ Hid (Blk wr g ds 89) ∧ Hid (ds.size = (n + 2) * 2) ∧ Hid (Frm w.heap.size (fun k => k = g) w wr))
  case atStart => exact ⟨0, cs, by omega, rfl, rfl, unhide Hg, unhide Hs, Frm.refl _ _ _⟩
  case round =>
    obtain ⟨j, ds, hj, rfl, rfl, Hd, Hds, Hf⟩ := hrel
    by_cases hlt : j < n + 2
    · have hlt' : (j : Int) < (n : Int) + 2 := by omega
      have hd := unhide Hds
      have q0 := ((unhide Hd).cell (j * 2)).trans (Array.getElem?_eq_getElem (show j * 2 < ds.size by omega))
      have q1 := ((unhide Hd).cell (j * 2 + 1)).trans (Array.getElem?_eq_getElem (show j * 2 + 1 < ds.size by omega))
      have z0 := (unhide Hd).frozen (j * 2)
      have z1 := (unhide Hd).frozen (j * 2 + 1)
      obtain ⟨x0, hx0⟩ : ∃ x, ds[j * 2] = x := ⟨_, rfl⟩
      obtain ⟨x1, hx1⟩ : ∃ x, ds[j * 2 + 1] = x := ⟨_, rfl⟩
      rw [hx0] at q0
      rw [hx1] at q1
      clear hx0 hx1 hd
      go_wp2_with fail
      go_roundg (n + 2 - (j + 1))
      case measure => omega
      case rel => exact ⟨j + 1, _, by omega, rfl, by go_num, ((unhide Hd).set (j * 2) _).set (j * 2 + 1) _, by show _ = _; rw [Array.size_setIfInBounds, Array.size_setIfInBounds]; exact unhide Hds, frm_set (frm_set (unhide Hf) _) _⟩
    · obtain rfl : j = n + 2 := by omega
      go_wp2_with fail
      go_end0
      exact ⟨rfl, unhide Hf⟩

end Go.Proofs.YtdchbenfccofpaaGreatDoor
namespace Go.Proofs.YtdchbenfccofpaaGreatDoor
open Go.RowKit Db

/-- A number in six bytes, the lowest first, lifted by the greatest amount. -/
def nB (n : Int) : List UInt8 := (List.range 6).map fun i => UInt8.ofNat ((n + 1000000000000).toNat / 256 ^ i % 256)
theorem nB_length (n : Int) : (nB n).length = 6 := by simp [nB]
theorem nB_get (n : Int) {j : Nat} (h : j < 6) : (nB n)[j]? = some (UInt8.ofNat ((n + 1000000000000).toNat / 256 ^ j % 256)) := by
  unfold nB
  rw [List.getElem?_map, List.getElem?_range h]
  rfl
def cellsU (l : List UInt8) : List Value := l.map fun c => .int .u8 (c.toNat : Int)
theorem cellsU_take {n : Int} {j : Nat} (h : j < 6) : cellsU ((nB n).take (j + 1)) = cellsU ((nB n).take j) ++ [.int .u8 (((n + 1000000000000).toNat / 256 ^ j % 256 : Nat) : Int)] := by
  unfold cellsU
  rw [List.take_add_one, nB_get n h]
  simp
theorem conv_bytes (l : List UInt8) (W : World) (B : Nat) (v : Value) (h : W.ownsRow B 5 1 v l.length (cellsU l)) (hn : 0 < l.length) : (convert 187 9 v).run Tryz.prog W = .ok (.string ⟨l.toArray⟩) W := by
  obtain ⟨g, cap, rfl, hg, hg'⟩ := ownsRow_some h hn
  exact run_convert_bytes_back (P := Tryz.prog) W 187 9 5 ⟨g, 0, none⟩ cap l Tryz.underlying187 Tryz.underlying5 Tryz.underlying9 (fun j hj => by
    rw [Addr.add_lit, Nat.zero_add]
    exact ownsRow_cell h (j := j) (by simp [cellsU, hj]))
theorem info_u8 : (Tryz.prog.info? 5).map (fun i => (i.zero, i.size, i.bytes)) = some (some (.int .u8 0), 1, 1) := by kernel_rfl

set_option maxRecDepth 100000 in
set_option maxHeartbeats 2000000 in
theorem numberText_any (n : Int) (w : World) (h0 : -1000000000000 ≤ n) (h1 : n ≤ 1000000000000) :
    Calls Tryz.prog 184 #[.int .i64 n] w fun e w' => e = .returned (.string ⟨(nB n).toArray⟩) ∧ Below w.heap.size w w' := by
  obtain ⟨ii, hi, hz0, hz1, hz2⟩ := info_parts info_u8
  obtain ⟨x, hx⟩ : ∃ x : Nat, n + 1000000000000 = (x : Int) := ⟨(n + 1000000000000).toNat, by omega⟩
  have hxn : (n + 1000000000000).toNat = x := by omega
  have hxl : x ≤ 2000000000000 := by omega
  have Hcut := hide (fun (j : Nat) (h : j < 6) => cellsU_take (n := n) h)
  rw [hxn] at Hcut
  go_enter Tryz.func184, Tryz.ntmps184
  go_wp2_with fail
  go_loopg [3, 4, 5] 6 (fun m vr vb vi wr => ∃ j y : Nat, j ≤ 6 ∧ m = 6 - j ∧ vi = .int .i64 j ∧ vr = .int .i64 (y : Int) ∧ y ≤ 2000000000000 ∧ Hid (y = x / 256 ^ j) ∧ Hid (wr.ownsRow w.heap.size 5 1 vb j (cellsU ((nB n).take j))) ∧ Hid (Below w.heap.size w wr))
  case atStart => exact ⟨0, x, by omega, rfl, rfl, by rw [← hx], hxl, by simp [Hid], World.ownsRow_nil _ _ _ _, Below.refl _ _⟩
  case round =>
    obtain ⟨j, y, hj, rfl, rfl, rfl, hyl, Hy, Ho, Hb⟩ := hrel
    have hsz := (unhide Hb).size
    by_cases hlt : j < 6
    · have Hc := hide (unhide Hcut j hlt)
      have hnn : (0 : Int) ≤ (y : Int) := by omega
      obtain ⟨ao, cap, rfl⟩ := ownsRow_form (unhide Ho)
      go_wp2_with (first
        | (at_builtin; refine wpList_append_own _ rfl (.tmp 12) (.tmp 16) 187 rfl w.heap.size 5 ii (.int .u8 0) 1 1 Tryz.underlying187 hi hz0 hz1 hz2 rfl (by decide) _ j _ rfl ((unhide Ho).alloc _) ⟨wr.heap.size, 0, none⟩ 1 1 [.int .u8 ((y % 256 : Nat) : Int)] rfl rfl (new1 _ _ (by simp) _ _) (fun x hx => by simp at hx; subst hx; rfl) (by unfold maxLen; omega) (by omega) (by simp; omega) ?_; intro vq' w5 hown5 hgr5 _; obtain ⟨gf, cf, rfl, hgf, hgf'⟩ := ownsRow_some hown5 (Nat.succ_pos _); have Hown5 := hide hown5; have Hgr5 := hide hgr5; clear hown5 hgr5))
      go_roundg (6 - (j + 1))
      case measure => omega
      case rel =>
        refine ⟨j + 1, y / 256, by omega, rfl, by go_num, by simp, by omega, ?_, ?_, ?_⟩
        · show _ = _
          rw [unhide Hy, Nat.div_div_eq_div_mul, Nat.pow_succ]
        · show World.ownsRow _ _ _ _ _ _ _
          rw [unhide Hc, ← unhide Hy]
          exact unhide Hown5
        · exact ((unhide Hb).alloc hsz _).grown (unhide Hgr5) (by simp; omega) (fun k hk => (ownsRow_tg (unhide Ho) k hk).1)
    · obtain rfl : j = 6 := by omega
      have hcv := conv_bytes (nB n) wr w.heap.size _ (by rw [nB_length]; have := unhide Ho; rw [List.take_of_length_le (by rw [nB_length]; omega)] at this; exact this) (by rw [nB_length]; omega)
      go_wp2_with fail
      go_ret
      exact ⟨rfl, unhide Hb⟩

end Go.Proofs.YtdchbenfccofpaaGreatDoor
namespace Go.Proofs.YtdchbenfccofpaaGreatDoor
open Go.RowKit Db

/-- A record's bytes, and up to the end of the sector noughts. -/
def secH (k : Nat) (n d : Int) (m : Nat) : List UInt8 := [UInt8.ofNat k, UInt8.ofNat m] ++ nB n ++ nB d
def lnB (ls : List Ln) : List UInt8 := ls.flatMap fun l => nB l.1 ++ nB l.2
def secP (k : Nat) (n d : Int) (ls : List Ln) : List UInt8 := secH k n d ls.length ++ lnB ls
def secL (k : Nat) (n d : Int) (ls : List Ln) : List UInt8 := secP k n d ls ++ List.replicate (64 - (secP k n d ls).length) 0
def secB (k : Nat) (n d : Int) (ls : List Ln) : ByteArray := ⟨(secL k n d ls).toArray⟩
def AmtOk (n : Int) : Prop := -1000000000000 ≤ n ∧ n ≤ 1000000000000
theorem lnB_length (ls : List Ln) : (lnB ls).length = 12 * ls.length := by
  induction ls with
  | nil => rfl
  | cons l r ih => unfold lnB at ih ⊢; simp [nB_length] at ih ⊢; omega
theorem secH_length (k : Nat) (n d : Int) (m : Nat) : (secH k n d m).length = 14 := by simp [secH, nB_length]
theorem secP_length (k : Nat) (n d : Int) (ls : List Ln) : (secP k n d ls).length = 14 + 12 * ls.length := by simp [secP, secH_length, lnB_length]
theorem secL_length (k : Nat) (n d : Int) (ls : List Ln) (h : ls.length ≤ 4) : (secL k n d ls).length = 64 := by
  unfold secL; rw [List.length_append, List.length_replicate, secP_length]; omega
theorem lnB_take {ls : List Ln} {j : Nat} {l : Ln} (h : ls[j]? = some l) : lnB (ls.take (j + 1)) = lnB (ls.take j) ++ nB l.1 ++ nB l.2 := by
  unfold lnB; rw [List.take_add_one, h]; simp
theorem L_ext {u v : ByteArray} (h : L u = L v) : u = v := by
  cases u; cases v; unfold L at h; simp at h; rw [h]

theorem number_any (n : Int) (w : World) (h : AmtOk n) :
    Calls Tryz.prog 184 #[.int .i64 n] w fun e w' => ∃ u : ByteArray, e = .returned (.string u) ∧ L u = nB n ∧ u.size = 6 ∧ Below w.heap.size w w' := by
  refine (numberText_any n w h.1 h.2).mono ?_
  rintro e w1 ⟨rfl, hb⟩
  exact ⟨_, rfl, L_list _, by rw [size_L, L_list, nB_length], hb⟩

set_option maxRecDepth 100000 in
set_option maxHeartbeats 4000000 in
theorem sector_any (k : Nat) (n d : Int) (v : Value) (ls : List Ln) (w : World) (hk : k < 256) (hn : AmtOk n) (hd : AmtOk d) (hl : LinesAt w v ls) (h4 : ls.length ≤ 4) (hls : ∀ l ∈ ls, AmtOk l.1 ∧ AmtOk l.2) :
    Calls Tryz.prog 139 #[.agg #[.int .u8 (k : Int), .int .i64 n, .int .i64 d, v]] w fun e w' => e = .returned (.string (secB k n d ls)) ∧ Below w.heap.size w w' := by
  obtain ⟨ao, cap, rfl⟩ := hl.form
  obtain ⟨W, hW⟩ : ∃ W, w.alloc (.cells #[.int .u8 (k : Int), .int .i64 n, .int .i64 d, .slice ao ls.length cap] 173) = W := ⟨_, rfl⟩
  have hcv : (convert 187 9 (.slice (some ⟨w.heap.size + 1, 0, none⟩) 2 2)).run Tryz.prog (W.alloc (.cells #[.int .u8 (k : Int), .int .u8 (ls.length : Int)] 5)) = .ok (.string ⟨#[UInt8.ofNat k, UInt8.ofNat ls.length]⟩) (W.alloc (.cells #[.int .u8 (k : Int), .int .u8 (ls.length : Int)] 5)) := by
    have hs : W.heap.size = w.heap.size + 1 := by rw [← hW]; simp
    have hb := Blk.new W #[.int .u8 (k : Int), .int .u8 (ls.length : Int)] 5
    rw [hs] at hb
    exact run_convert_bytes_back (P := Tryz.prog) _ 187 9 5 ⟨w.heap.size + 1, 0, none⟩ 2 [UInt8.ofNat k, UInt8.ofNat ls.length] Tryz.underlying187 Tryz.underlying5 Tryz.underlying9 (fun j hj => by
      rw [Addr.add_lit, Nat.zero_add, hb.cell]
      rcases j with _ | _ | j
      · simp; omega
      · simp; omega
      · simp at hj; omega)
  have HX : Hid (Blk W w.heap.size #[.int .u8 (k : Int), .int .i64 n, .int .i64 d, .slice ao ls.length cap] 173) := by rw [← hW]; exact Blk.new _ _ _
  have Hb0 : Hid (Below w.heap.size w W) := by rw [← hW]; exact (Below.refl _ _).alloc (Nat.le_refl _) _
  have hWs : W.heap.size = w.heap.size + 1 := by rw [← hW]; simp
  have Hl := hide hl
  have Hls := hide hls
  have Hn := hide hn
  have Hd := hide hd
  have hwr : IntKind.u8.wrap (ls.length : Int) = (ls.length : Int) := by rw [IntKind.wrap_u8]; omega
  have x0 := (unhide HX).cell 0
  have x1 := (unhide HX).cell 1
  have x3 := (unhide HX).cell 3
  simp only [List.getElem?_toArray, List.getElem?_cons_zero, List.getElem?_cons_succ] at x0 x1 x3
  clear hl hls hn hd
  go_enter Tryz.func139, Tryz.ntmps139
  go_wp2_with fail
  try rw [hW]
  refine (number_any n _ (unhide Hn)).mono ?_
  rintro e w1 ⟨t1, rfl, ht1, hs1, hb1⟩
  have HX1 := hide (((unhide HX).alloc _).kept hb1)
  have Hb1 : Hid (Below w.heap.size w w1) := ((unhide Hb0).alloc (by omega) _).then' (by simp; omega) hb1
  have Ht1 := hide ht1
  have x2 := (unhide HX1).cell 2
  simp only [List.getElem?_toArray, List.getElem?_cons_zero, List.getElem?_cons_succ] at x2
  clear hb1 ht1 x0 x1 x3 hcv
  have hsz1 : (⟨#[UInt8.ofNat k, UInt8.ofNat ls.length]⟩ : ByteArray).size = 2 := rfl
  go_wp2_with fail
  refine (number_any d _ (unhide Hd)).mono ?_
  rintro e w2 ⟨t2, rfl, ht2, hs2, hb2⟩
  have HX2 := hide ((unhide HX1).kept hb2)
  have Hb2 : Hid (Below w.heap.size w w2) := (unhide Hb1).then hb2
  obtain ⟨u0, hu0⟩ : ∃ u0, (⟨#[UInt8.ofNat k, UInt8.ofNat ls.length]⟩ : ByteArray) ++ t1 ++ t2 = u0 := ⟨_, rfl⟩
  have Hu0 : Hid (L u0 = secH k n d ls.length ∧ u0.size = 14) := by
    have hL : L u0 = secH k n d ls.length := by rw [← hu0, L_append, L_append, unhide Ht1, ht2]; rfl
    exact ⟨hL, by rw [size_L, hL, secH_length]⟩
  have hs12 : ((⟨#[UInt8.ofNat k, UInt8.ofNat ls.length]⟩ : ByteArray) ++ t1).size = 8 := by rw [ByteArray.size_append]; omega
  have x3 := (unhide HX2).cell 3
  simp only [List.getElem?_toArray, List.getElem?_cons_zero, List.getElem?_cons_succ] at x3
  clear hb2 ht2 x2
  go_wp2_with fail
  try rw [hu0]
  go_loopg [3, 27] ls.length (fun m vt vi wr => ∃ j : Nat, ∃ u : ByteArray, j ≤ ls.length ∧ m = ls.length - j ∧ vi = .int .i64 j ∧ vt = .string u ∧ u.size = 14 + 12 * j ∧ Hid (L u = secH k n d ls.length ++ lnB (ls.take j)) ∧ Hid (Below w.heap.size w wr))
  case atStart => exact ⟨0, u0, by omega, rfl, rfl, rfl, (unhide Hu0).2, by show _ = _; rw [(unhide Hu0).1]; simp [lnB], unhide Hb2⟩
  case round =>
    obtain ⟨j, u, hj, rfl, rfl, rfl, hus, Hu, Hb⟩ := hrel
    have hsz := (unhide Hb).size
    by_cases hlt : j < ls.length
    · obtain ⟨⟨la, lm⟩, hlj⟩ : ∃ l, ls[j]? = some l := ⟨ls[j], List.getElem?_eq_getElem hlt⟩
      obtain ⟨_, b, off, rfl, hbl, d1, d2⟩ := ((unhide Hl).kept (unhide Hb)).line hlj
      have Hok := hide (unhide Hls _ (List.mem_of_getElem? hlj))
      have Hst := hide (lnB_take hlj)
      simp only at d1 d2 Hst Hok
      clear hlj
      go_wp2_with fail
      refine (number_any la _ (unhide Hok).1).mono ?_
      rintro e w3 ⟨t3, rfl, ht3, hs3, hb3⟩
      have Hb3 : Hid (Below w.heap.size w w3) := ((unhide Hb).alloc hsz _).then' (by simp; omega) hb3
      have k1 := hb3.cell (p := ⟨wr.heap.size, 1, none⟩) (by simp)
      simp at k1
      have Ht3 := hide ht3
      clear hb3 ht3
      go_wp2_with fail
      refine (number_any lm _ (unhide Hok).2).mono ?_
      rintro e w4 ⟨t4, rfl, ht4, hs4, hb4⟩
      have Hb4 : Hid (Below w.heap.size w w4) := (unhide Hb3).then hb4
      have Ht4 := hide ht4
      clear hb4 ht4
      have hs34 : (u ++ t3).size = 20 + 12 * j := by rw [ByteArray.size_append]; omega
      go_wp2_with fail
      go_roundg (ls.length - (j + 1))
      case measure => omega
      case rel => exact ⟨j + 1, u ++ t3 ++ t4, by omega, rfl, by go_num, rfl, by rw [ByteArray.size_append]; omega, by show _ = _; rw [L_append, L_append, unhide Hu, unhide Ht3, unhide Ht4, unhide Hst]; simp, unhide Hb4⟩
    · obtain rfl : j = ls.length := by omega
      have Hp : Hid (L u = secP k n d ls) := by have := unhide Hu; rw [List.take_length] at this; exact this
      go_wp2_with fail
      go_loopg [3] (64 - u.size) (fun m vt wr => ∃ j : Nat, ∃ u : ByteArray, u.size ≤ 64 ∧ m = 64 - u.size ∧ vt = .string u ∧ Hid (L u = secP k n d ls ++ List.replicate j 0) ∧ Hid (Below w.heap.size w wr))
      case atStart => exact ⟨0, u, by omega, rfl, rfl, by show _ = _; rw [unhide Hp]; simp, unhide Hb⟩
      case round =>
        clear Hb Hu Hp hus
        obtain ⟨j, u, hus, rfl, rfl, Hu, Hb⟩ := hrel
        by_cases hlt : u.size < 64
        · have hdc : decide ((u.size : Int) < 64) = true := by simp; omega
          go_wp2_with fail
          go_roundg (64 - (u.size + 1))
          case measure => omega
          case rel => exact ⟨j + 1, u ++ ⟨#[0]⟩, by rw [ByteArray.size_append]; show u.size + 1 ≤ 64; omega, by rw [ByteArray.size_append]; rfl, rfl, by show _ = _; rw [L_append, unhide Hu, List.replicate_succ', ← List.append_assoc]; rfl, unhide Hb⟩
        · have hdc : decide ((u.size : Int) < 64) = false := by simp; omega
          have Hfin : Hid (u = secB k n d ls) := by
            have h1 : u.size = (secP k n d ls).length + j := by rw [size_L, unhide Hu]; simp
            have h2 : L u = secL k n d ls := by
              rw [unhide Hu]
              unfold secL
              rw [show 64 - (secP k n d ls).length = j by omega]
            have h3 : L (secB k n d ls) = secL k n d ls := by unfold secB; exact L_list _
            exact L_ext (by rw [h2, h3])
          go_wp2_with fail
          go_ret
          exact ⟨congrArg (fun u => Ending.returned (.string u)) (unhide Hfin), unhide Hb⟩

end Go.Proofs.YtdchbenfccofpaaGreatDoor
namespace Go.Proofs.YtdchbenfccofpaaGreatDoor
open Go.RowKit Db

theorem info_write : (Tryz.prog.info? 153).map (fun i => (i.zero, i.size, i.bytes)) = some (some (.agg #[.int .i64 0, .string ⟨#[]⟩]), 2, 24) := by kernel_rfl
/-- What is on the disk's list behind a call: a record and a flush more, or nothing. -/
def dkU (yes : Bool) (u : Nat) : Nat := if yes then u + 1 else u
def dkW (yes : Bool) (u : Nat) (x : ByteArray) (ws : List Wr) : List Wr := if yes then ws ++ [((u : Int), x), (-1, ⟨#[]⟩)] else ws

set_option maxRecDepth 100000 in
set_option maxHeartbeats 4000000 in
theorem lay_any (B p u : Nat) (va vt vw : Value) (ws : List Wr) (k : Nat) (n d : Int) (v : Value) (ls : List Ln) (w : World) (hblk : Blk w p #[va, vt, .int .i64 (u : Int), vw] 102) (hB : B ≤ p) (how : w.ownsRow B 153 2 vw ws.length (cellsW ws)) (hwl : ws.length ≤ 2 * u) (hu : u ≤ 95)
    (hk : k < 256) (hn : AmtOk n) (hd : AmtOk d) (hl : LinesAt w v ls) (h4 : ls.length ≤ 4) (hls : ∀ l ∈ ls, AmtOk l.1 ∧ AmtOk l.2) :
    Calls Tryz.prog 103 #[.pointer (some ⟨p, 2, none⟩), .agg #[.int .u8 (k : Int), .int .i64 n, .int .i64 d, v]] w fun e w' => e = .returned (.tuple #[]) ∧ (∃ vw', Blk w' p #[va, vt, .int .i64 ((u + 1 : Nat) : Int), vw'] 102 ∧ w'.ownsRow B 153 2 vw' (ws.length + 1 + 1) (cellsW (ws ++ [((u : Int), secB k n d ls), (-1, ⟨#[]⟩)]))) ∧ FrT B [102, 153] w w' := by
  obtain ⟨ii, hi, hz0, hz1, hz2⟩ := info_parts info_write
  obtain ⟨ao, cap, rfl⟩ := hl.form
  obtain ⟨aw, cw, rfl⟩ := ownsRow_form how
  obtain ⟨bx, hbx⟩ : ∃ bx, w.heap.size = bx := ⟨_, rfl⟩
  obtain ⟨W, hW⟩ : ∃ W, w.alloc (.cells #[.int .u8 (k : Int), .int .i64 n, .int .i64 d, .slice ao ls.length cap] 173) = W := ⟨_, rfl⟩
  have HX : Hid (Blk W bx #[.int .u8 (k : Int), .int .i64 n, .int .i64 d, .slice ao ls.length cap] 173) := by rw [← hW, ← hbx]; exact Blk.new _ _ _
  have Hb0 : Hid (Below w.heap.size w W) := by rw [← hW]; exact (Below.refl _ _).alloc (Nat.le_refl _) _
  have Hsec := hide (sector_any k n d _ ls W hk hn hd (hl.kept (unhide Hb0)) h4 hls)
  have HK0 := hide (hblk.kept (unhide Hb0))
  have HO0 := hide (ownsRow_below how (unhide Hb0))
  have x0 := (unhide HX).cell 0
  have x1 := (unhide HX).cell 1
  have x2 := (unhide HX).cell 2
  have x3 := (unhide HX).cell 3
  simp only [List.getElem?_toArray, List.getElem?_cons_zero, List.getElem?_cons_succ] at x0 x1 x2 x3
  obtain ⟨sx, hsx⟩ : ∃ sx, secB k n d ls = sx := ⟨_, rfl⟩
  rw [hsx] at Hsec ⊢
  clear hblk how hn hd hl hls hsx hk
  go_enter Tryz.func103, Tryz.ntmps103
  go_wp2_with fail
  try rw [hW]
  try rw [hbx]
  clear hW hbx
  refine (unhide Hsec).mono ?_
  rintro e w1 ⟨rfl, hb1⟩
  have HK1 := hide ((unhide HK0).kept hb1)
  have HO1 := hide (ownsRow_below (unhide HO0) hb1)
  have HF1 : Hid (FrT B [102, 153] w w1) := (FrT.of_below (unhide Hb0)).then hb1
  have c2 := (unhide HK1).cell 2
  have c3 := (unhide HK1).cell 3
  have z3 := (unhide HK1).frozen 3
  have lq := (unhide HK1).lt
  simp only [List.getElem?_toArray, List.getElem?_cons_zero, List.getElem?_cons_succ] at c2 c3
  have hBw : B ≤ w1.heap.size := by omega
  have Hnb : Hid (Blk (w1.alloc (.cells #[.int .i64 (u : Int), .string sx] 153)) w1.heap.size #[.int .i64 (u : Int), .string sx] 153) := Blk.new _ _ _
  have hne1 : w1.heap.size ≠ p := by omega
  clear hb1 x0 x1 x2 x3
  go_upto_region 2 with fail
  go_region_law (refine step_append_lies _ rfl (.tmp 11) (.tmp 18) 72 rfl B 153 ii (.agg #[.int .i64 0, .string ⟨#[]⟩]) 2 24 Tryz.underlying72 hi hz0 hz1 hz2 rfl (by decide) (.slice aw ws.length cw) ws.length _ (by simp [Act.eval]) (by first | exact ((unhide HO1).alloc _).drew | exact ((unhide HO1).alloc _)) ⟨w1.heap.size, 0, none⟩ 1 1 [.int .i64 (u : Int), .string sx] (by simp [Act.eval]) rfl (World.news_of_block (by exact unhide Hnb)) (fun x hx => by simp at hx; rcases hx with rfl | rfl <;> rfl) (by decide) (by unfold maxLen; omega) (by omega) (by simp <;> omega) (w1.heap.size + 1) (by simp) ?_; intro gf cf w5 hown5 hgr5 hat5 hlt5; have hblk5 := Blk.grown (cs := #[va, vt, .int .i64 (u : Int), .slice aw ws.length cw]) (T := 102) (b := p) (by exact ((unhide HK1).alloc _)) hgr5 (blk_own_ne (unhide HK1) (unhide HO1) (by decide)); have c5 := hblk5.cell 3; have z5 := hblk5.frozen 3; have e5 := hblk5.cell 2; have y5 := hblk5.frozen 2; have l5 := hblk5.lt; simp only [List.getElem?_toArray, List.getElem?_cons_zero, List.getElem?_cons_succ] at c5 e5; have Hblk5 := hide hblk5; have Hown5 := hide hown5; have Hgr5 := hide hgr5; clear hblk5 hown5 hgr5 hat5)
  all_goals
    have Hf1 : Hid (FrT B [153] w1 w5) := ((((FrT.refl _ _ w1).alloc _).drew).grown (unhide Hgr5) (T := 153) (by simp) (fun j hj => ⟨(ownsRow_tg (unhide HO1) j hj).1, tg_alloc (ownsRow_tg (unhide HO1) j hj).2 _⟩))
    have Hown6 := hide (fun v => ownsRow_frT (unhide Hown5) ((FrT.refl B [102] w5).setCell (p := ⟨p, 3, none⟩) (T := 102) (by simp) (unhide Hblk5).tg hB v) (by decide))
    have Hblk6 := hide (fun v => (unhide Hblk5).set 3 v)
    go_wp2_with (first
      | (at_builtin; refine wpList_append_own _ rfl (.tmp 26) (.tmp 28) 72 rfl B 153 ii (.agg #[.int .i64 0, .string ⟨#[]⟩]) 2 24 Tryz.underlying72 hi hz0 hz1 hz2 rfl (by decide) (.slice (some ⟨gf, 0, none⟩) (ws.length + 1) cf) (ws.length + 1) _ rfl ((unhide Hown6 _).alloc _) ⟨w5.heap.size, 0, none⟩ 1 1 [.int .i64 (-1), .string ⟨#[]⟩] rfl rfl (new2 _ _ (by simp [World.setCell]) _ _ _) (fun x hx => by simp at hx; rcases hx with rfl | rfl <;> rfl) (by unfold maxLen; omega) (by omega) (by simp [World.setCell]; omega) ?_; intro vq' w6 hown6 hgr6 _; obtain ⟨gh, ch, rfl, hgh, hgh'⟩ := ownsRow_some hown6 (Nat.succ_pos _); have hblk6 := ((unhide Hblk6 _).alloc _).grown hgr6 (blk_own_ne (unhide Hblk6 vt) (unhide Hown6 vt) (by decide)); simp only [List.setIfInBounds_toArray, List.set_cons_zero, List.set_cons_succ] at hblk6; have c6 := hblk6.cell 3; have z6 := hblk6.frozen 3; have l6 := hblk6.lt; have e6 := hblk6.cell 2; have y6 := hblk6.frozen 2; simp only [List.getElem?_toArray, List.getElem?_cons_zero, List.getElem?_cons_succ] at c6 e6; have Hbl6 := hide hblk6; have Hown6' := hide hown6; have Hgr6 := hide hgr6; clear hblk6 hown6 hgr6))
    go_end0
    have g1 := (FrT.refl B [102, 153] w5).setCell (p := ⟨p, 3, none⟩) (T := 102) (by simp) (unhide Hblk5).tg hB (.slice (some ⟨gf, 0, none⟩) (ws.length + 1) cf)
    have g2 := (g1.alloc (.cells #[.int .i64 (-1), .string ⟨#[]⟩] 153)).grown (unhide Hgr6) (T := 153) (by simp) (fun j hj => ⟨(ownsRow_tg (unhide Hown6 vt) j hj).1, tg_alloc (ownsRow_tg (unhide Hown6 (.slice (some ⟨gf, 0, none⟩) (ws.length + 1) cf)) j hj).2 _⟩)
    have b7 := (unhide Hbl6).set 3 (.slice (some ⟨gh, 0, none⟩) (ws.length + 1 + 1) ch)
    have b8 := b7.set 2 (.int .i64 ((u + 1 : Nat) : Int))
    simp only [List.setIfInBounds_toArray, List.set_cons_zero, List.set_cons_succ] at b8
    have g3 := (g2.setCell (p := ⟨p, 3, none⟩) (T := 102) (by simp) (unhide Hbl6).tg hB (.slice (some ⟨gh, 0, none⟩) (ws.length + 1 + 1) ch)).setCell (p := ⟨p, 2, none⟩) (T := 102) (by simp) b7.tg hB (.int .i64 ((u + 1 : Nat) : Int))
    have g4 := ((FrT.refl B [102] w6).setCell (p := ⟨p, 3, none⟩) (T := 102) (by simp) (unhide Hbl6).tg hB (.slice (some ⟨gh, 0, none⟩) (ws.length + 1 + 1) ch)).setCell (p := ⟨p, 2, none⟩) (T := 102) (by simp) b7.tg hB (.int .i64 ((u + 1 : Nat) : Int))
    refine ⟨rfl, ⟨_, b8, ?_⟩, ((unhide HF1).trans ((unhide Hf1).mono (by simp))).trans g3⟩
    have := ownsRow_frT (unhide Hown6') g4 (by decide)
    simpa [cellsW] using this

end Go.Proofs.YtdchbenfccofpaaGreatDoor
namespace Go.Proofs.YtdchbenfccofpaaGreatDoor
open Go.RowKit Db

theorem opn_cnt {s : Bk} (hg : BkGood s) (a : Int) : ((opn s a).2.1 = 0 ∧ 0 ≤ a ∧ a < 16 ∧ cnt (opn s a).2.2 = cnt s + 1) ∨ (¬ (opn s a).2.1 = 0 ∧ (opn s a).2.2 = s) := by
  have h1 := hg.few
  unfold opn
  repeat' split
  all_goals first | exact .inr ⟨by simp, rfl⟩ | skip
  rename_i h2 _ _
  left
  unfold ther at h2
  simp only [Bool.not_eq_false, Bool.and_eq_true, decide_eq_true_eq] at h2
  exact ⟨rfl, by omega, by omega, cnt_more hg rfl⟩
theorem cls_cnt {s : Bk} (hg : BkGood s) (a : Int) : ((cls s a).1 = 0 ∧ 0 ≤ a ∧ a < 16 ∧ cnt (cls s a).2 = cnt s + 1) ∨ (¬ (cls s a).1 = 0 ∧ (cls s a).2 = s) := by
  have h1 := hg.few
  unfold cls
  repeat' split
  all_goals first | exact .inr ⟨by simp, rfl⟩ | skip
  rename_i h2 h3 _ _
  left
  have h4 : ther s a = true := by cases hx : ther s a with | true => rfl | false => exact absurd (.inl hx) h2
  unfold ther at h4
  simp only [Bool.and_eq_true, decide_eq_true_eq] at h4
  obtain ⟨c, hc⟩ := acs_get (s := s) (k := a.toNat) (by omega)
  have h5 : clsd s a = c.2 := by unfold clsd; simp [hc]
  have h6 : s.acs.getD a.toNat (0, false) = c := by simp [hc]
  refine ⟨rfl, by omega, by omega, ?_⟩
  simp only [h6]
  rw [cnt_shut hc, if_neg (by rw [← h5]; exact h3)]
theorem pst_cnt {s : Bk} (hg : BkGood s) (id day : Int) (ls : List Ln) : (isN s id day ls = true ∧ (pst s id day ls).1 = 0 ∧ 0 ≤ id ∧ id ≤ 9999 ∧ 0 ≤ day ∧ day ≤ 999 ∧ ls.length ≤ 4 ∧ (∀ l ∈ ls, 0 < l.1 ∧ l.1 < s.acs.length ∧ -1000000000000 ≤ l.2 ∧ l.2 ≤ 1000000000000) ∧ (pst s id day ls).2 = { s with txs := s.txs ++ [(id, day, ls)] } ∧ cnt (pst s id day ls).2 = cnt s + 1) ∨ (isN s id day ls = false ∧ (pst s id day ls).2 = s) := by
  by_cases hid : id < 0 ∨ 9999 < id
  · have := pst_id (s := s) (day := day) (ls := ls) hid
    exact .inr ⟨isN_no (by rw [this]), by rw [this]⟩
  cases hfd : findT id s.txs with
  | some t =>
    have := pst_old (day := day) (ls := ls) hid hfd
    exact .inr ⟨isN_no (by rw [this]), by rw [this]⟩
  | none =>
    by_cases hd : day < 0 ∨ 999 < day
    · have := pst_day (ls := ls) hid hfd hd
      exact .inr ⟨isN_no (by rw [this]), by rw [this]⟩
    by_cases hlz : lnsE s ls = 0
    · by_cases h64 : 64 ≤ s.txs.length
      · have := pst_full hid hfd hd hlz h64
        exact .inr ⟨isN_no (by rw [this]), by rw [this]⟩
      · have hok := pst_ok hid hfd hd hlz h64
        have hl := lnsE_ok hg hlz
        exact .inl ⟨isN_yes (by rw [hok]), by rw [hok], by omega, by omega, by omega, by omega, hl.1, hl.2, by rw [hok], by rw [hok]; exact cnt_post⟩
    · have := pst_bad hid hfd hd hlz
      exact .inr ⟨isN_no (by rw [this]), by rw [this]⟩

theorem LedAt.laid {w w2 : World} {B p u : Nat} {va vt vw vw' : Value} {tv : List (Tn × Value)} {ws : List Wr} {s : Bk} {x : ByteArray} (h : LedAt w B p va vt tv ⟨u, vw, ws⟩ s) (hc : u < cnt s) (hb : Blk w2 p #[va, vt, .int .i64 ((u + 1 : Nat) : Int), vw'] 102)
    (ho : w2.ownsRow B 153 2 vw' (ws.length + 1 + 1) (cellsW (ws ++ [((u : Int), x), (-1, ⟨#[]⟩)]))) (hf : FrT B [102, 153] w w2) : LedAt w2 B p va vt tv ⟨u + 1, vw', ws ++ [((u : Int), x), (-1, ⟨#[]⟩)]⟩ s :=
  ⟨hb, h.lo, ownsRow_frT h.acs hf (by decide), h.txs.frT hf (by decide) (by decide), h.jr, h.good, by simpa using ho, by have := h.dlen; simp at this ⊢; omega, hc⟩
theorem LinesAt.frTy {w w' : World} {B : Nat} {Ts : List TypeId} {v : Value} {ls : List Ln} (h : LinesAt w v ls) (hf : FrT B Ts w w') (ht : ∀ k, v.ownBlock = some k → Tg w k 89) (hn : 89 ∉ Ts) : LinesAt w' v ls := by
  obtain ⟨ao, cap, rfl, hr⟩ := h
  refine ⟨ao, cap, rfl, ?_⟩
  rcases hr with hr | ⟨b, off, rfl, hlt, hc⟩
  · exact .inl hr
  · obtain ⟨cs, fz, hg⟩ := ht b rfl
    have hb := hf.block b hlt (fun _ T hT ⟨ds, gz, h2⟩ => by rw [hg] at h2; simp at h2; exact hn (h2.2.1 ▸ hT))
    refine .inr ⟨b, off, rfl, Nat.lt_of_lt_of_le hlt hf.size, fun i l hl => ?_⟩
    have h1 : ∀ j, w'.cell? ⟨b, j, none⟩ = w.cell? ⟨b, j, none⟩ := fun j => World.cell?_of_block (a := ⟨b, j, none⟩) hb
    rw [h1, h1]
    exact hc i l hl
theorem LinesAt.nil (w : World) : LinesAt w (.slice none 0 0) [] := ⟨_, _, rfl, .inl rfl⟩

set_option maxRecDepth 100000 in
set_option maxHeartbeats 2000000 in
theorem dayOpenW_any (B p u : Nat) (ws : List Wr) (s : Bk) (a : Int) (w : World) (h : LedW w B p u ws s) :
    Calls Tryz.prog 66 #[.pointer (some ⟨p, 0, none⟩), .int .i64 a] w fun e w' => e = .returned (.tuple #[.int .i64 (opn s a).1, .int .i64 (opn s a).2.1]) ∧ LedW w' B p (dkU (decide ((opn s a).2.1 = 0)) u) (dkW (decide ((opn s a).2.1 = 0)) u (secB 1 a 0 []) ws) (opn s a).2.2 ∧ FrT B tP w w' := by
  obtain ⟨va, vt, tv, vw, h⟩ := h
  have hg := h.good
  have hcn := h.dcnt
  have hbd := cnt_bound hg
  simp only at hcn
  have Hc := hide (ledOpen_any B p ⟨u, vw, ws⟩ s a w ⟨va, vt, tv, h⟩)
  have hor := opn_cnt hg a
  obtain ⟨⟨x, y, s'⟩, hr⟩ : ∃ r, opn s a = r := ⟨_, rfl⟩
  rw [hr] at Hc hor ⊢
  simp only at Hc hor ⊢
  clear h hr hg
  rcases hor with ⟨rfl, h0, h1, h2⟩ | ⟨hy, rfl⟩
  · simp only [decide_true]
    have hn : AmtOk a := ⟨by omega, by omega⟩
    have hz : AmtOk 0 := ⟨by omega, by omega⟩
    have hlt : u < cnt s' := by omega
    have hu : u ≤ 95 := by omega
    go_enter Tryz.func66, Tryz.ntmps66
    go_wp2_with fail
    refine (unhide Hc).mono ?_
    rintro e w1 ⟨rfl, ⟨va1, vt1, tv1, k1⟩, k2⟩
    have HL := hide (lay_any B p u va1 vt1 vw ws 1 a 0 _ [] w1 k1.blk k1.lo k1.dsk k1.dlen hu (by omega) hn hz (LinesAt.nil w1) (by simp) (by simp))
    have K1 := hide k1
    have K2 := hide k2
    clear k1 k2 Hc
    go_wp2_with fail
    refine (unhide HL).mono ?_
    rintro e w2 ⟨rfl, ⟨vw2, j1, j2⟩, j3⟩
    have HF : Hid (LedW w2 B p (u + 1) (ws ++ [((u : Int), secB 1 a 0 []), (-1, ⟨#[]⟩)]) s' ∧ FrT B tP w w2) := ⟨⟨_, _, _, _, (unhide K1).laid hlt j1 j2 j3⟩, (unhide K2).trans (j3.mono (by simp [tP]))⟩
    clear j1 j2 j3 HL K1 K2
    go_wp2_with fail
    go_ret2
    exact ⟨rfl, (unhide HF).1, (unhide HF).2⟩
  · have hd : decide (y = 0) = false := by simpa using hy
    have hye : (y == 0) = false := by simpa using hy
    rw [hd]
    go_enter Tryz.func66, Tryz.ntmps66
    go_wp2_with fail
    refine (unhide Hc).mono ?_
    rintro e w1 ⟨rfl, ⟨va1, vt1, tv1, k1⟩, k2⟩
    have K1 := hide k1
    have K2 := hide k2
    clear k1 k2 Hc
    go_wp2_with fail
    go_ret2
    exact ⟨rfl, ⟨_, _, _, _, unhide K1⟩, unhide K2⟩

set_option maxRecDepth 100000 in
set_option maxHeartbeats 2000000 in
theorem dayCloseW_any (B p u : Nat) (ws : List Wr) (s : Bk) (a : Int) (w : World) (h : LedW w B p u ws s) :
    Calls Tryz.prog 67 #[.pointer (some ⟨p, 0, none⟩), .int .i64 a] w fun e w' => e = .returned (.int .i64 (cls s a).1) ∧ LedW w' B p (dkU (decide ((cls s a).1 = 0)) u) (dkW (decide ((cls s a).1 = 0)) u (secB 2 a 0 []) ws) (cls s a).2 ∧ FrT B tP w w' := by
  obtain ⟨va, vt, tv, vw, h⟩ := h
  have hg := h.good
  have hcn := h.dcnt
  have hbd := cnt_bound hg
  simp only at hcn
  have Hc := hide (ledClose_any B p ⟨u, vw, ws⟩ s a w ⟨va, vt, tv, h⟩)
  have hor := cls_cnt hg a
  obtain ⟨⟨y, s'⟩, hr⟩ : ∃ r, cls s a = r := ⟨_, rfl⟩
  rw [hr] at Hc hor ⊢
  simp only at Hc hor ⊢
  clear h hr hg
  rcases hor with ⟨rfl, h0, h1, h2⟩ | ⟨hy, rfl⟩
  · simp only [decide_true]
    have hn : AmtOk a := ⟨by omega, by omega⟩
    have hz : AmtOk 0 := ⟨by omega, by omega⟩
    have hlt : u < cnt s' := by omega
    have hu : u ≤ 95 := by omega
    go_enter Tryz.func67, Tryz.ntmps67
    go_wp2_with fail
    refine (unhide Hc).mono ?_
    rintro e w1 ⟨rfl, ⟨va1, vt1, tv1, k1⟩, k2⟩
    have HL := hide (lay_any B p u va1 vt1 vw ws 2 a 0 _ [] w1 k1.blk k1.lo k1.dsk k1.dlen hu (by omega) hn hz (LinesAt.nil w1) (by simp) (by simp))
    have K1 := hide k1
    have K2 := hide k2
    clear k1 k2 Hc
    go_wp2_with fail
    refine (unhide HL).mono ?_
    rintro e w2 ⟨rfl, ⟨vw2, j1, j2⟩, j3⟩
    have HF : Hid (LedW w2 B p (u + 1) (ws ++ [((u : Int), secB 2 a 0 []), (-1, ⟨#[]⟩)]) s' ∧ FrT B tP w w2) := ⟨⟨_, _, _, _, (unhide K1).laid hlt j1 j2 j3⟩, (unhide K2).trans (j3.mono (by simp [tP]))⟩
    clear j1 j2 j3 HL K1 K2
    go_wp2_with fail
    go_ret
    exact ⟨rfl, (unhide HF).1, (unhide HF).2⟩
  · have hd : decide (y = 0) = false := by simpa using hy
    have hye : (y == 0) = false := by simpa using hy
    rw [hd]
    go_enter Tryz.func67, Tryz.ntmps67
    go_wp2_with fail
    refine (unhide Hc).mono ?_
    rintro e w1 ⟨rfl, ⟨va1, vt1, tv1, k1⟩, k2⟩
    have K1 := hide k1
    have K2 := hide k2
    clear k1 k2 Hc
    go_wp2_with fail
    go_ret
    exact ⟨rfl, ⟨_, _, _, _, unhide K1⟩, unhide K2⟩

set_option maxRecDepth 100000 in
set_option maxHeartbeats 2000000 in
theorem dayPostN_any (B p u : Nat) (ws : List Wr) (s : Bk) (id day : Int) (v : Value) (ls : List Ln) (w : World) (va vt vw : Value) (tv : List (Tn × Value)) (h : LedAt w B p va vt tv ⟨u, vw, ws⟩ s) (hl : LinesAt w v ls) (hty : ∀ k, v.ownBlock = some k → Tg w k 89) :
    Calls Tryz.prog 69 #[.pointer (some ⟨p, 0, none⟩), .int .i64 id, .int .i64 day, v] w fun e w' => e = .returned (.int .i64 (pst s id day ls).1) ∧ (∃ vw', LedN w tv w' B p ⟨dkU (isN s id day ls) u, vw', dkW (isN s id day ls) u (secB 3 id day ls) ws⟩ (pst s id day ls).2) ∧ FrT B tP w w' := by
  have hg := h.good
  have hcn := h.dcnt
  have hbd := cnt_bound hg
  have hfew := hg.few
  simp only at hcn
  have Hc := hide (ledPost_any B p s id day v ls w va vt tv ⟨u, vw, ws⟩ h hl)
  have hor := pst_cnt hg id day ls
  obtain ⟨ao, cap, rfl⟩ := hl.form
  have Hl := hide hl
  have Hty := hide hty
  obtain ⟨⟨y, s'⟩, hr⟩ : ∃ r, pst s id day ls = r := ⟨_, rfl⟩
  rw [hr] at Hc hor ⊢
  obtain ⟨nw, hnw⟩ : ∃ r, isN s id day ls = r := ⟨_, rfl⟩
  rw [hnw] at Hc hor ⊢
  simp only at Hc hor ⊢
  clear h hr hg hl hty hnw
  rcases hor with ⟨rfl, rfl, h0, h1, h2, h3, h4, h5, h6, h7⟩ | ⟨rfl, rfl⟩
  · have hn : AmtOk id := ⟨by omega, by omega⟩
    have hz : AmtOk day := ⟨by omega, by omega⟩
    have hlt : u < cnt s' := by omega
    have hu : u ≤ 95 := by omega
    have Hls : Hid (∀ l ∈ ls, AmtOk l.1 ∧ AmtOk l.2) := fun l hl => by have := h5 l hl; exact ⟨⟨by omega, by omega⟩, ⟨by omega, by omega⟩⟩
    clear h5 h6
    go_enter Tryz.func69, Tryz.ntmps69
    go_wp2_with fail
    refine (unhide Hc).mono ?_
    rintro e w1 ⟨rfl, ⟨va1, vt1, tv1, k1, k3⟩, k2⟩
    have HL := hide (lay_any B p u va1 vt1 vw ws 3 id day _ ls w1 k1.blk k1.lo k1.dsk k1.dlen hu (by omega) hn hz ((unhide Hl).frTy k2 (unhide Hty) (by decide)) h4 (unhide Hls))
    have K1 := hide k1
    have K2 := hide k2
    have K3 := hide k3
    clear k1 k2 k3 Hc
    go_wp2_with fail
    refine (unhide HL).mono ?_
    rintro e w2 ⟨rfl, ⟨vw2, j1, j2⟩, j3⟩
    have HF : Hid ((∃ vw', LedN w tv w2 B p ⟨u + 1, vw', ws ++ [((u : Int), secB 3 id day ls), (-1, ⟨#[]⟩)]⟩ s') ∧ FrT B tP w w2) := ⟨⟨_, _, _, _, (unhide K1).laid hlt j1 j2 j3, unhide K3⟩, (unhide K2).trans (j3.mono (by simp [tP]))⟩
    clear j1 j2 j3 HL K1 K2 K3
    go_wp2_with fail
    go_ret
    exact ⟨rfl, (unhide HF).1, (unhide HF).2⟩
  · go_enter Tryz.func69, Tryz.ntmps69
    go_wp2_with fail
    refine (unhide Hc).mono ?_
    rintro e w1 ⟨rfl, k1, k2⟩
    have K1 := hide k1
    have K2 := hide k2
    clear k1 k2 Hc
    go_wp2_with fail
    go_ret
    exact ⟨rfl, ⟨_, unhide K1⟩, unhide K2⟩

theorem dayOpen_any (B p : Nat) (s : Bk) (a : Int) (w : World) (h : Led w B p s) :
    Calls Tryz.prog 66 #[.pointer (some ⟨p, 0, none⟩), .int .i64 a] w fun e w' => e = .returned (.tuple #[.int .i64 (opn s a).1, .int .i64 (opn s a).2.1]) ∧ Led w' B p (opn s a).2.2 ∧ FrT B tP w w' := by
  obtain ⟨u, ws, h⟩ := h.some
  exact (dayOpenW_any B p u ws s a w h).mono fun e w' ⟨h1, h2, h3⟩ => ⟨h1, h2.led, h3⟩
theorem dayClose_any (B p : Nat) (s : Bk) (a : Int) (w : World) (h : Led w B p s) :
    Calls Tryz.prog 67 #[.pointer (some ⟨p, 0, none⟩), .int .i64 a] w fun e w' => e = .returned (.int .i64 (cls s a).1) ∧ Led w' B p (cls s a).2 ∧ FrT B tP w w' := by
  obtain ⟨u, ws, h⟩ := h.some
  exact (dayCloseW_any B p u ws s a w h).mono fun e w' ⟨h1, h2, h3⟩ => ⟨h1, h2.led, h3⟩
theorem dayPost_any (B p : Nat) (s : Bk) (id day : Int) (v : Value) (ls : List Ln) (w : World) (va vt : Value) (tv : List (Tn × Value)) (d : Dk) (h : LedAt w B p va vt tv d s) (hl : LinesAt w v ls) (hty : ∀ k, v.ownBlock = some k → Tg w k 89) :
    Calls Tryz.prog 69 #[.pointer (some ⟨p, 0, none⟩), .int .i64 id, .int .i64 day, v] w fun e w' => e = .returned (.int .i64 (pst s id day ls).1) ∧ (∃ d', LedN w tv w' B p d' (pst s id day ls).2) ∧ FrT B tP w w' :=
  (dayPostN_any B p d.u d.ws s id day v ls w va vt d.vw tv h hl hty).mono fun _ _ ⟨h1, ⟨_, h2⟩, h3⟩ => ⟨h1, ⟨_, h2⟩, h3⟩
theorem dayPostW_any (B p u : Nat) (ws : List Wr) (s : Bk) (id day : Int) (v : Value) (ls : List Ln) (w : World) (h : LedW w B p u ws s) (hl : LinesAt w v ls) (hty : ∀ k, v.ownBlock = some k → Tg w k 89) :
    Calls Tryz.prog 69 #[.pointer (some ⟨p, 0, none⟩), .int .i64 id, .int .i64 day, v] w fun e w' => e = .returned (.int .i64 (pst s id day ls).1) ∧ LedW w' B p (dkU (isN s id day ls) u) (dkW (isN s id day ls) u (secB 3 id day ls) ws) (pst s id day ls).2 ∧ FrT B tP w w' := by
  obtain ⟨va, vt, tv, vw, h⟩ := h
  exact (dayPostN_any B p u ws s id day v ls w va vt vw tv h hl hty).mono fun _ _ ⟨h1, ⟨_, _, _, _, h2, _⟩, h3⟩ => ⟨h1, ⟨_, _, _, _, h2⟩, h3⟩

end Go.Proofs.YtdchbenfccofpaaGreatDoor
namespace Go.Proofs.YtdchbenfccofpaaGreatDoor
open Go.RowKit Db

/-- The program's book and the document's, both as s says. -/
structure PairAt (w : World) (B q p c : Nat) (s : Bk) : Prop where
  blk : Blk w q #[.pointer (some ⟨p, 0, none⟩), .pointer (some ⟨c, 0, none⟩), .slice none 0 0, .slice none 0 0] 30
  led : Led w B p s
  rfd : Rfd w B c s
theorem PairAt.kept {w w' : World} {B q p c : Nat} {s : Bk} (h : PairAt w B q p c s) (hb : Below w.heap.size w w') : PairAt w' B q p c s := by
  obtain ⟨h1, ⟨va, vt, tv, dk, h2⟩, ⟨vp, vc, vu, tu, h3⟩⟩ := h
  exact ⟨h1.kept hb, ⟨_, _, _, _, h2.kept hb⟩, ⟨_, _, _, _, h3.kept hb⟩⟩
theorem Rfd.frT {w w' : World} {B B' p : Nat} {s : Bk} (h : Rfd w B p s) (hf : FrT B' tP w w') : Rfd w' B p s := by
  obtain ⟨vp, vc, vu, tu, h3⟩ := h
  exact ⟨_, _, _, _, h3.frT hf (by decide) (by decide)⟩
theorem Led.frT {w w' : World} {B B' p : Nat} {s : Bk} (h : Led w B p s) (hf : FrT B' tR w w') : Led w' B p s := by
  obtain ⟨va, vt, tv, dk, h3⟩ := h
  exact ⟨_, _, _, _, h3.frT hf (by decide) (by decide)⟩
def tAll : List TypeId := tP ++ tR
theorem below_drew (w : World) : Below w.heap.size w w.drew := ⟨rfl, rfl, rfl, Nat.le_refl _, fun _ _ => rfl⟩
theorem Led.drew {w : World} {B p : Nat} {s : Bk} (h : Led w B p s) : Led w.drew B p s := by
  obtain ⟨va, vt, tv, dk, h⟩ := h; exact ⟨_, _, _, _, h.kept (below_drew w)⟩
theorem Rfd.drew {w : World} {B p : Nat} {s : Bk} (h : Rfd w B p s) : Rfd w.drew B p s := by
  obtain ⟨vp, vc, vu, tu, h⟩ := h; exact ⟨_, _, _, _, h.kept (below_drew w)⟩

set_option maxRecDepth 100000 in
set_option maxHeartbeats 4000000 in
theorem opened_any (B q p c : Nat) (s : Bk) (kd bk a b : Int) (ao : Option Addr) (n cap : Nat) (t : ByteArray) (w : World) (h : PairAt w B q p c s) :
    Calls Tryz.prog 81 #[.pointer (some ⟨q, 0, none⟩), .agg #[.int .i64 kd, .int .i64 bk, .int .i64 a, .int .i64 b, .slice ao n cap, .string t]] w fun e w' => e = .returned (.bool true) ∧ PairAt w' B q p c (opn s a).2.2 ∧ FrT B tAll w w' := by
  obtain ⟨bx, hbx⟩ : ∃ bx, w.heap.size = bx := ⟨_, rfl⟩
  obtain ⟨W, hW⟩ : ∃ W, w.alloc (.cells #[.int .i64 kd, .int .i64 bk, .int .i64 a, .int .i64 b, .slice ao n cap, .string t] 33) = W := ⟨_, rfl⟩
  have HX : Hid (Blk W bx #[.int .i64 kd, .int .i64 bk, .int .i64 a, .int .i64 b, .slice ao n cap, .string t] 33) := by rw [← hW, ← hbx]; exact Blk.new _ _ _
  have Hb0 : Hid (Below w.heap.size w W) := by rw [← hW]; exact (Below.refl _ _).alloc (Nat.le_refl _) _
  have H0 := hide (h.kept (unhide Hb0))
  have Hop := hide (fun (wx : World) (h : Led wx B p s) => dayOpen_any B p s a wx h)
  have Hor := hide (fun (wx : World) (h : Rfd wx B c s) => refOpen_any B c s a wx h)
  obtain ⟨⟨x, y, s'⟩, hr⟩ : ∃ r, opn s a = r := ⟨_, rfl⟩
  rw [hr] at Hop Hor ⊢
  simp only at Hop Hor ⊢
  have c0 := (unhide H0).blk.cell 0
  have x2 := (unhide HX).cell 2
  simp only [List.getElem?_toArray, List.getElem?_cons_zero, List.getElem?_cons_succ] at c0 x2
  clear h hr
  go_enter Tryz.func81, Tryz.ntmps81
  go_upto_region 1 with fail
  try rw [hW]
  try rw [hbx]
  clear hW hbx
  go_region_held3 (fun w' => w'.cell? ⟨q, 0, none⟩ = some (.pointer (some ⟨p, 0, none⟩)) ∧ w'.cell? ⟨bx, 2, none⟩ = some (.int .i64 a)) (first | go_keep | exact ⟨k1, k2⟩) (first | (go_at_call 66; refine (unhide Hop _ (by exact (unhide H0).led.drew)).mono ?_; rintro e w4 ⟨rfl, h1, h2⟩; have h2u := h2.undrew; have k1 := ((unhide H0).blk.frT h2u (by decide)).cell 0; have k2 := ((unhide HX).frT h2u (by decide)).cell 2; simp only [List.getElem?_toArray, List.getElem?_cons_zero, List.getElem?_cons_succ] at k1 k2))
  have HL4 := hide h1
  have HF4 := hide h2.undrew
  have HB4 := hide ((unhide H0).blk.frT h2.undrew (by decide))
  have HX4 := hide ((unhide HX).frT h2.undrew (by decide))
  have HR4 := hide ((unhide H0).rfd.frT h2.undrew)
  have k3 := (unhide HB4).cell 1
  simp only [List.getElem?_toArray, List.getElem?_cons_zero, List.getElem?_cons_succ] at k3
  clear h1 h2 h2u k1 c0 x2
  go_upto_region 2 with fail
  go_region_held3 (fun w' => w'.cell? ⟨q, 1, none⟩ = some (.pointer (some ⟨c, 0, none⟩)) ∧ w'.cell? ⟨bx, 2, none⟩ = some (.int .i64 a)) (first | go_keep | exact ⟨j1, j2⟩) (first | (go_at_call 13; refine (unhide Hor _ (by exact (unhide HR4).drew)).mono ?_; rintro e w5 ⟨rfl, h1, h2⟩; have h2u := h2.undrew; have j1 := ((unhide HB4).frT h2u (by decide)).cell 1; have j2 := ((unhide HX4).frT h2u (by decide)).cell 2; simp only [List.getElem?_toArray, List.getElem?_cons_zero, List.getElem?_cons_succ] at j1 j2))
  have HF : Hid (PairAt w5 B q p c s' ∧ FrT B tAll w w5) := ⟨⟨(unhide HB4).frT h2.undrew (by decide), (unhide HL4).frT h2.undrew, h1⟩, ((FrT.of_below (unhide Hb0)).trans ((unhide HF4).mono (by simp [tAll]; intros; simp [*]))).trans (h2.undrew.mono (by simp [tAll]; intros; simp [*]))⟩
  have e1 : (x == x) = true := by simp
  have e2 : (y == y) = true := by simp
  clear h1 h2 h2u j1 j2 k2 k3
  go_wp2_with fail
  go_ret
  exact ⟨rfl, (unhide HF).1, (unhide HF).2⟩

set_option maxRecDepth 100000 in
set_option maxHeartbeats 4000000 in
theorem closed_any (B q p c : Nat) (s : Bk) (kd bk a b : Int) (ao : Option Addr) (n cap : Nat) (t : ByteArray) (w : World) (h : PairAt w B q p c s) :
    Calls Tryz.prog 82 #[.pointer (some ⟨q, 0, none⟩), .agg #[.int .i64 kd, .int .i64 bk, .int .i64 a, .int .i64 b, .slice ao n cap, .string t]] w fun e w' => e = .returned (.bool true) ∧ PairAt w' B q p c (cls s a).2 ∧ FrT B tAll w w' := by
  obtain ⟨bx, hbx⟩ : ∃ bx, w.heap.size = bx := ⟨_, rfl⟩
  obtain ⟨W, hW⟩ : ∃ W, w.alloc (.cells #[.int .i64 kd, .int .i64 bk, .int .i64 a, .int .i64 b, .slice ao n cap, .string t] 33) = W := ⟨_, rfl⟩
  have HX : Hid (Blk W bx #[.int .i64 kd, .int .i64 bk, .int .i64 a, .int .i64 b, .slice ao n cap, .string t] 33) := by rw [← hW, ← hbx]; exact Blk.new _ _ _
  have Hb0 : Hid (Below w.heap.size w W) := by rw [← hW]; exact (Below.refl _ _).alloc (Nat.le_refl _) _
  have H0 := hide (h.kept (unhide Hb0))
  have Hop := hide (fun (wx : World) (h : Led wx B p s) => dayClose_any B p s a wx h)
  have Hor := hide (fun (wx : World) (h : Rfd wx B c s) => refClose_any B c s a wx h)
  obtain ⟨⟨x, s'⟩, hr⟩ : ∃ r, cls s a = r := ⟨_, rfl⟩
  rw [hr] at Hop Hor ⊢
  simp only at Hop Hor ⊢
  have c0 := (unhide H0).blk.cell 0
  have x2 := (unhide HX).cell 2
  simp only [List.getElem?_toArray, List.getElem?_cons_zero, List.getElem?_cons_succ] at c0 x2
  clear h hr
  go_enter Tryz.func82, Tryz.ntmps82
  go_upto_region 1 with fail
  try rw [hW]
  try rw [hbx]
  clear hW hbx
  go_region_held3 (fun w' => w'.cell? ⟨q, 0, none⟩ = some (.pointer (some ⟨p, 0, none⟩)) ∧ w'.cell? ⟨bx, 2, none⟩ = some (.int .i64 a)) (first | go_keep | exact ⟨k1, k2⟩) (first | (go_at_call 67; refine (unhide Hop _ (by exact (unhide H0).led.drew)).mono ?_; rintro e w4 ⟨rfl, h1, h2⟩; have h2u := h2.undrew; have k1 := ((unhide H0).blk.frT h2u (by decide)).cell 0; have k2 := ((unhide HX).frT h2u (by decide)).cell 2; simp only [List.getElem?_toArray, List.getElem?_cons_zero, List.getElem?_cons_succ] at k1 k2))
  have HL4 := hide h1
  have HF4 := hide h2.undrew
  have HB4 := hide ((unhide H0).blk.frT h2.undrew (by decide))
  have HX4 := hide ((unhide HX).frT h2.undrew (by decide))
  have HR4 := hide ((unhide H0).rfd.frT h2.undrew)
  have k3 := (unhide HB4).cell 1
  simp only [List.getElem?_toArray, List.getElem?_cons_zero, List.getElem?_cons_succ] at k3
  clear h1 h2 h2u k1 c0 x2
  go_upto_region 2 with fail
  go_region_held3 (fun w' => w'.cell? ⟨q, 1, none⟩ = some (.pointer (some ⟨c, 0, none⟩)) ∧ w'.cell? ⟨bx, 2, none⟩ = some (.int .i64 a)) (first | go_keep | exact ⟨j1, j2⟩) (first | (go_at_call 14; refine (unhide Hor _ (by exact (unhide HR4).drew)).mono ?_; rintro e w5 ⟨rfl, h1, h2⟩; have h2u := h2.undrew; have j1 := ((unhide HB4).frT h2u (by decide)).cell 1; have j2 := ((unhide HX4).frT h2u (by decide)).cell 2; simp only [List.getElem?_toArray, List.getElem?_cons_zero, List.getElem?_cons_succ] at j1 j2))
  have HF : Hid (PairAt w5 B q p c s' ∧ FrT B tAll w w5) := ⟨⟨(unhide HB4).frT h2.undrew (by decide), (unhide HL4).frT h2.undrew, h1⟩, ((FrT.of_below (unhide Hb0)).trans ((unhide HF4).mono (by simp [tAll]; intros; simp [*]))).trans (h2.undrew.mono (by simp [tAll]; intros; simp [*]))⟩
  have e1 : (x == x) = true := by simp
  clear h1 h2 h2u j1 j2 k2 k3
  go_wp2_with fail
  go_ret
  exact ⟨rfl, (unhide HF).1, (unhide HF).2⟩

end Go.Proofs.YtdchbenfccofpaaGreatDoor
namespace Go.Proofs.YtdchbenfccofpaaGreatDoor
open Go.RowKit Db

theorem ownsRow_block_lt {w : World} {base : Nat} {e : TypeId} {size : Nat} {v : Value} {n : Nat} {xs : List Value} (h : w.ownsRow base e size v n xs) : ∀ k, v.ownBlock = some k → k < w.heap.size := by
  intro k hk
  obtain ⟨_, cs, fz, hg⟩ := ownsRow_tg h k hk
  exact (Array.getElem?_eq_some_iff.1 hg).1
theorem ownsRow_only {w w' : World} {base g : Nat} {e : TypeId} {size : Nat} {v : Value} {n : Nat} {xs : List Value} (h : w.ownsRow base e size v n xs) (hf : Frm w.heap.size (fun k => k = g) w w') (hg : ∀ k, v.ownBlock = some k → k ≠ g) : w'.ownsRow base e size v n xs :=
  ownsRow_frm h hf (fun k hk => ⟨ownsRow_block_lt h k hk, hg k hk⟩)
theorem tg_ne {w : World} {k g : Nat} {T U : TypeId} (h : Tg w k T) (hg : Tg w g U) (hne : T ≠ U) : k ≠ g := by
  rintro rfl
  obtain ⟨cs, fz, h1⟩ := h
  obtain ⟨ds, gz, h2⟩ := hg
  rw [h1] at h2
  simp at h2
  exact hne h2.2.1
/-- The program's book, where a list of lines that is none of its own is written over. -/
theorem LedAt.only {w w' : World} {B p g : Nat} {va vt : Value} {tv : List (Tn × Value)} {d : Dk} {s : Bk} (h : LedAt w B p va vt tv d s) (hf : Frm w.heap.size (fun k => k = g) w w') (hg : Tg w g 89) (hn : ∀ x ∈ tv, ∀ k, x.2.ownBlock = some k → k ≠ g) : LedAt w' B p va vt tv d s :=
  ⟨h.blk.frm hf h.blk.lt (tg_ne h.blk.tg hg (by decide)), h.lo, ownsRow_only h.acs hf (fun k hk => tg_ne (ownsRow_tg h.acs k hk).2 hg (by decide)),
   ⟨ownsRow_only h.txs.own hf (fun k hk => tg_ne (ownsRow_tg h.txs.own k hk).2 hg (by decide)), fun x hx => ownsRow_only (h.txs.lns x hx) hf (hn x hx)⟩, h.jr, h.good, ownsRow_only h.dsk hf (fun k hk => tg_ne (ownsRow_tg h.dsk k hk).2 hg (by decide)), h.dlen, h.dcnt⟩
theorem RefAt.only {w w' : World} {B p g : Nat} {vp vc vt : Value} {tv : List (Tn × Value)} {s : Bk} (h : RefAt w B p vp vc vt tv s) (hf : Frm w.heap.size (fun k => k = g) w w') (hg : Tg w g 89) (hn : ∀ x ∈ tv, ∀ k, x.2.ownBlock = some k → k ≠ g) : RefAt w' B p vp vc vt tv s :=
  ⟨h.blk.frm hf h.blk.lt (tg_ne h.blk.tg hg (by decide)), h.lo, ownsRow_only h.par hf (fun k hk => tg_ne (ownsRow_tg h.par k hk).2 hg (by decide)), ownsRow_only h.clo hf (fun k hk => tg_ne (ownsRow_tg h.clo k hk).2 hg (by decide)),
   ⟨ownsRow_only h.txs.own hf (fun k hk => tg_ne (ownsRow_tg h.txs.own k hk).2 hg (by decide)), fun x hx => ownsRow_only (h.txs.lns x hx) hf (hn x hx)⟩, h.jr, h.good⟩
theorem LinesAt.only {w w' : World} {g : Nat} {v : Value} {ls : List Ln} (h : LinesAt w v ls) (hf : Frm w.heap.size (fun k => k = g) w w') (hg : ls = [] ∨ ∀ k, v.ownBlock = some k → k ≠ g) : LinesAt w' v ls := by
  obtain ⟨ao, cap, rfl, hr⟩ := h
  refine ⟨ao, cap, rfl, ?_⟩
  rcases hg with hg | hg
  · exact .inl hg
  rcases hr with hr | ⟨b, off, rfl, hlt, hc⟩
  · exact .inl hr
  · have hb := hf.block b hlt (hg b rfl)
    refine .inr ⟨b, off, rfl, Nat.lt_of_lt_of_le hlt hf.size, fun i l hl => ?_⟩
    have h1 : ∀ j, w'.cell? ⟨b, j, none⟩ = w.cell? ⟨b, j, none⟩ := fun j => World.cell?_of_block (a := ⟨b, j, none⟩) hb
    rw [h1, h1]
    exact hc i l hl
/-- Lines that lie below B are kept by what the books do. -/
theorem LinesAt.frT {w w' : World} {B : Nat} {Ts : List TypeId} {v : Value} {ls : List Ln} (h : LinesAt w v ls) (hf : FrT B Ts w w') (hg : ls = [] ∨ ∀ k, v.ownBlock = some k → k < B) : LinesAt w' v ls := by
  obtain ⟨ao, cap, rfl, hr⟩ := h
  refine ⟨ao, cap, rfl, ?_⟩
  rcases hg with hg | hg
  · exact .inl hg
  rcases hr with hr | ⟨b, off, rfl, hlt, hc⟩
  · exact .inl hr
  · have hb := hf.block b hlt (fun h => by have := hg b rfl; omega)
    refine .inr ⟨b, off, rfl, Nat.lt_of_lt_of_le hlt hf.size, fun i l hl => ?_⟩
    have h1 : ∀ j, w'.cell? ⟨b, j, none⟩ = w.cell? ⟨b, j, none⟩ := fun j => World.cell?_of_block (a := ⟨b, j, none⟩) hb
    rw [h1, h1]
    exact hc i l hl
theorem frm_frT {w w' : World} {B g : Nat} {Ts : List TypeId} {T : TypeId} (h : Frm w.heap.size (fun k => k = g) w w') (hB : B ≤ g) (hg : Tg w g T) (hT : T ∈ Ts) : FrT B Ts w w' :=
  ⟨h.os, h.tape, h.output, h.size, fun k hk hx => h.block k hk (by rintro rfl; exact hx hB T hT hg)⟩

def tLaw : List TypeId := 89 :: tAll

set_option maxRecDepth 100000 in
set_option maxHeartbeats 4000000 in
theorem posted_any (B q p c : Nat) (s : Bk) (kd bk a b : Int) (ao : Option Addr) (cap : Nat) (ls : List Ln) (t : ByteArray) (w : World) (h : PairAt w B q p c s) (hl : LinesAt w (.slice ao ls.length cap) ls) (hlo : ls = [] ∨ ∀ k, (Value.slice ao ls.length cap).ownBlock = some k → k < B) (hn : ls.length ≤ 8796093022000) :
    Calls Tryz.prog 83 #[.pointer (some ⟨q, 0, none⟩), .agg #[.int .i64 kd, .int .i64 bk, .int .i64 a, .int .i64 b, .slice ao ls.length cap, .string t]] w fun e w' => e = .returned (.bool true) ∧ PairAt w' B q p c (pst s a b ls).2 ∧ FrT B tLaw w w' := by
  obtain ⟨bx, hbx⟩ : ∃ bx, w.heap.size = bx := ⟨_, rfl⟩
  obtain ⟨W, hW⟩ : ∃ W, w.alloc (.cells #[.int .i64 kd, .int .i64 bk, .int .i64 a, .int .i64 b, .slice ao ls.length cap, .string t] 33) = W := ⟨_, rfl⟩
  have HX : Hid (Blk W bx #[.int .i64 kd, .int .i64 bk, .int .i64 a, .int .i64 b, .slice ao ls.length cap, .string t] 33) := by rw [← hW, ← hbx]; exact Blk.new _ _ _
  have Hb0 : Hid (Below w.heap.size w W) := by rw [← hW]; exact (Below.refl _ _).alloc (Nat.le_refl _) _
  have hWs : W.heap.size = bx + 1 := by rw [← hW, ← hbx]; simp
  obtain ⟨hq, ⟨va, vt, tv, dk, hled⟩, ⟨vp, vc, vu, tu, href⟩⟩ := h
  have Htv : Hid (∀ x ∈ tv, ∀ k, x.2.ownBlock = some k → k < bx) := fun x hx k hk => by rw [← hbx]; exact ownsRow_block_lt (hled.txs.lns x hx) k hk
  have Htu : Hid (∀ x ∈ tu, ∀ k, x.2.ownBlock = some k → k < bx) := fun x hx k hk => by rw [← hbx]; exact ownsRow_block_lt (href.txs.lns x hx) k hk
  have hBx : B ≤ bx := by have h1 := hled.lo; have h2 := hled.blk.lt; omega
  have HL0 := hide (hled.kept (unhide Hb0))
  have HR0 := hide (href.kept (unhide Hb0))
  have HQ0 := hide (hq.kept (unhide Hb0))
  have Hl0 := hide (hl.kept (unhide Hb0))
  have Hlo := hide hlo
  obtain ⟨⟨x, s'⟩, hr⟩ : ∃ r, pst s a b ls = r := ⟨_, rfl⟩
  have Hpp : Hid (∀ (wx : World) (va vt : Value) (tv : List (Tn × Value)) (dk : Dk) (g : Nat), LedAt wx B p va vt tv dk s → LinesAt wx (.slice (some ⟨g, 0, none⟩) ls.length (ls.length + 2)) ls → Tg wx g 89 → Calls Tryz.prog 69 #[.pointer (some ⟨p, 0, none⟩), .int .i64 a, .int .i64 b, .slice (some ⟨g, 0, none⟩) ls.length (ls.length + 2)] wx fun e w' => e = .returned (.int .i64 x) ∧ (∃ dk', LedN wx tv w' B p dk' s') ∧ FrT B tP wx w') := by
    intro wx va vt tv dk g h1 h2 h3
    have := dayPost_any B p s a b _ ls wx va vt tv dk h1 h2 (fun k hk => by simp only [Value.ownBlock, Option.some.injEq] at hk; subst hk; exact h3)
    rw [hr] at this
    exact this
  have Hrp : Hid (∀ (wx : World), Rfd wx B c s → LinesAt wx (.slice ao ls.length cap) ls → Calls Tryz.prog 15 #[.pointer (some ⟨c, 0, none⟩), .int .i64 a, .int .i64 b, .slice ao ls.length cap] wx fun e w' => e = .returned (.int .i64 x) ∧ Rfd w' B c s' ∧ FrT B tR wx w') := by
    intro wx h1 h2
    have := refPost_any B c s a b _ ls wx h1 h2
    rw [hr] at this
    exact this
  rw [hr]
  simp only
  have x4 := (unhide HX).cell 4
  simp only [List.getElem?_toArray, List.getElem?_cons_zero, List.getElem?_cons_succ] at x4
  clear hled href hq hl hlo hr
  go_enter Tryz.func83, Tryz.ntmps83
  go_wp2_with fail
  try rw [hW]
  try rw [hbx]
  clear hW hbx
  refine (handed_any _ ls W (unhide Hl0) hn).mono ?_
  rintro e w1 ⟨rfl, hg1, hb1⟩
  obtain ⟨g, hg⟩ : ∃ g, W.heap.size = g := ⟨_, rfl⟩
  rw [hg] at hg1 ⊢
  have hgx : bx < g := by omega
  have Hg1 := hide hg1
  have HB1 := hide hb1
  have HL1 := hide ((unhide HL0).kept hb1)
  have HR1 := hide ((unhide HR0).kept hb1)
  have HQ1 := hide ((unhide HQ0).kept hb1)
  have Hl1 := hide ((unhide Hl0).kept hb1)
  have HX1 := hide ((unhide HX).kept hb1)
  have hg1l := hg1.lt
  have c0 := (unhide HQ1).cell 0
  have x2 := (unhide HX1).cell 2
  have x3 := (unhide HX1).cell 3
  simp only [List.getElem?_toArray, List.getElem?_cons_zero, List.getElem?_cons_succ] at c0 x2 x3
  clear hg1 hb1 x4 hg
  go_upto_region 2 with fail
  go_region_held3 (fun w' => w'.cell? ⟨q, 0, none⟩ = some (.pointer (some ⟨p, 0, none⟩)) ∧ w'.cell? ⟨bx, 2, none⟩ = some (.int .i64 a) ∧ w'.cell? ⟨bx, 3, none⟩ = some (.int .i64 b)) (first | go_keep | exact ⟨k1, k2, k3⟩) (first | (go_at_call 69; refine (unhide Hpp _ _ _ _ _ _ (by exact (unhide HL1).kept (below_drew _)) (by exact (LinesAt.of_handed (unhide Hg1)).kept (below_drew _)) (by exact ((unhide Hg1).kept (below_drew _)).tg)).mono ?_; rintro e w2 ⟨rfl, h1, h2⟩; have h2u := h2.undrew; have k1 := ((unhide HQ1).frT h2u (by decide)).cell 0; have k2 := ((unhide HX1).frT h2u (by decide)).cell 2; have k3 := ((unhide HX1).frT h2u (by decide)).cell 3; simp only [List.getElem?_toArray, List.getElem?_cons_zero, List.getElem?_cons_succ] at k1 k2 k3))
  have hu2 := h2.undrew
  obtain ⟨dk2, va2, vt2, tv2, hled2, hnew⟩ := h1
  have HL2 := hide hled2
  have Hnew : Hid (∀ x ∈ tv2, ∀ k, x.2.ownBlock = some k → k ≠ g) := by
    intro x hx k hk
    rcases hnew x hx with hx | hx
    · have := unhide Htv x hx k hk; omega
    · have := hx k hk
      have h5 : w1.drew.heap.size = w1.heap.size := rfl
      omega
  have HF2 := hide hu2
  have HR2 := hide ((unhide HR1).frT hu2 (by decide) (by decide))
  have HQ2 := hide ((unhide HQ1).frT hu2 (by decide))
  have HX2 := hide ((unhide HX1).frT hu2 (by decide))
  have Hg2 := hide ((unhide Hg1).frT hu2 (by decide))
  have Hl2 := hide ((unhide Hl1).frT hu2 (unhide Hlo))
  have x4 := (unhide HX2).cell 4
  simp only [List.getElem?_toArray, List.getElem?_cons_zero, List.getElem?_cons_succ] at x4
  clear h2 h2u hu2 hled2 hnew k1 k2 k3 c0 x2 x3
  go_wp2_with fail
  refine (still_any g _ ls w2 (unhide Hg2) (unhide Hl2) hn).mono ?_
  rintro e w3 ⟨rfl, n3, hw3⟩
  have hb3 : Below w2.heap.size w2 w3 := by rw [hw3]; exact (Below.refl _ _).drewN n3
  have HL3 := hide ((unhide HL2).kept hb3)
  have HR3 := hide ((unhide HR2).kept hb3)
  have HQ3 := hide ((unhide HQ2).kept hb3)
  have HX3 := hide ((unhide HX2).kept hb3)
  have Hg3 := hide ((unhide Hg2).kept hb3)
  have Hl3 := hide ((unhide Hl2).kept hb3)
  have HF3 := hide ((unhide HF2).then hb3)
  clear hw3 hb3 x4
  go_wp2_with fail
  refine (over_any g ls.length (hcells ls) w3 (unhide Hg3) (hcells_size ls) hn).mono ?_
  rintro e w4 ⟨rfl, hf4⟩
  have HL4 := hide ((unhide HL3).only hf4 (unhide Hg3).tg (unhide Hnew))
  have HR4 := hide ((unhide HR3).only hf4 (unhide Hg3).tg (fun x hx k hk => by have := unhide Htu x hx k hk; omega))
  have HQ4 := hide ((unhide HQ3).frm hf4 (unhide HQ3).lt (tg_ne (unhide HQ3).tg (unhide Hg3).tg (by decide)))
  have HX4 := hide ((unhide HX3).frm hf4 (unhide HX3).lt (tg_ne (unhide HX3).tg (unhide Hg3).tg (by decide)))
  have Hl4 := hide ((unhide Hl3).only hf4 ((unhide Hlo).imp id (fun hh k hk => by have := hh k hk; omega)))
  have HF4 : Hid (FrT B tLaw w w4) := (((FrT.of_below (unhide Hb0)).then (unhide HB1)).trans ((unhide HF3).mono (by simp [tLaw, tAll]; intros; simp [*]))).trans (frm_frT hf4 (by omega) (unhide Hg3).tg (by simp [tLaw]))
  have c1 := (unhide HQ4).cell 1
  have x2 := (unhide HX4).cell 2
  have x3 := (unhide HX4).cell 3
  have x4 := (unhide HX4).cell 4
  simp only [List.getElem?_toArray, List.getElem?_cons_zero, List.getElem?_cons_succ] at c1 x2 x3 x4
  clear hf4
  go_upto_region 5 with fail
  go_region_held3 (fun w' => w'.cell? ⟨q, 1, none⟩ = some (.pointer (some ⟨c, 0, none⟩)) ∧ w'.cell? ⟨bx, 2, none⟩ = some (.int .i64 a) ∧ w'.cell? ⟨bx, 3, none⟩ = some (.int .i64 b) ∧ w'.cell? ⟨bx, 4, none⟩ = some (.slice ao ls.length cap)) (first | go_keep | exact ⟨k1, k2, k3, k4⟩) (first | (go_at_call 15; refine (unhide Hrp _ (by exact Rfd.drew ⟨_, _, _, _, unhide HR4⟩) (by exact (unhide Hl4).kept (below_drew _))).mono ?_; rintro e w5 ⟨rfl, h1, h2⟩; have h2u := h2.undrew; have k1 := ((unhide HQ4).frT h2u (by decide)).cell 1; have k2 := ((unhide HX4).frT h2u (by decide)).cell 2; have k3 := ((unhide HX4).frT h2u (by decide)).cell 3; have k4 := ((unhide HX4).frT h2u (by decide)).cell 4; simp only [List.getElem?_toArray, List.getElem?_cons_zero, List.getElem?_cons_succ] at k1 k2 k3 k4))
  have HF : Hid (PairAt w5 B q p c s' ∧ FrT B tLaw w w5) := ⟨⟨(unhide HQ4).frT h2.undrew (by decide), Led.frT ⟨_, _, _, _, unhide HL4⟩ h2.undrew, h1⟩, (unhide HF4).trans (h2.undrew.mono (by simp [tLaw, tAll]; intros; simp [*]))⟩
  have e1 : (x == x) = true := by simp
  clear h1 h2 h2u k1 k2 k3 k4 c1 x2 x3 x4
  go_wp2_with fail
  go_ret
  exact ⟨rfl, (unhide HF).1, (unhide HF).2⟩

end Go.Proofs.YtdchbenfccofpaaGreatDoor
namespace Go.Proofs.YtdchbenfccofpaaGreatDoor
open Go.RowKit Db

theorem ownsRow_down {w : World} {B B' : Nat} {e : TypeId} {size : Nat} {v : Value} {n : Nat} {xs : List Value} (h : w.ownsRow B e size v n xs) (hB : B' ≤ B) : w.ownsRow B' e size v n xs :=
  ownsRow_base h (fun k hk => Nat.le_trans hB (ownsRow_tg h k hk).1)
theorem RefAt.base {w : World} {B B' p : Nat} {vp vc vt : Value} {tv : List (Tn × Value)} {s : Bk} (h : RefAt w B p vp vc vt tv s) (hB : B' ≤ B) : RefAt w B' p vp vc vt tv s :=
  ⟨h.blk, Nat.le_trans hB h.lo, ownsRow_down h.par hB, ownsRow_down h.clo hB, ⟨ownsRow_down h.txs.own hB, fun x hx => ownsRow_down (h.txs.lns x hx) hB⟩, h.jr, h.good⟩
/-- A step as it came in. -/
structure ActV where
  kd : Int
  bk : Int
  a : Int
  b : Int
  ao : Option Addr
  cap : Nat
  ls : List Ln
  t : ByteArray
def ActV.val (x : ActV) : Value := .agg #[.int .i64 x.kd, .int .i64 x.bk, .int .i64 x.a, .int .i64 x.b, .slice x.ao x.ls.length x.cap, .string x.t]
/-- Its lines can be read, below B. -/
structure ActOk (w : World) (B : Nat) (x : ActV) : Prop where
  at' : LinesAt w (.slice x.ao x.ls.length x.cap) x.ls
  lo : x.ls = [] ∨ ∀ k, (Value.slice x.ao x.ls.length x.cap).ownBlock = some k → k < B
  few : x.ls.length ≤ 8796093022000
  txt : x.t.size ≤ maxLen
def does (k : Int) : Bool := k == 1 || k == 2 || k == 3
def stp (s : Bk) (x : ActV) : Bk := if x.kd == 1 then (opn s x.a).2.2 else if x.kd == 2 then (cls s x.a).2 else if x.kd == 3 then (pst s x.a x.b x.ls).2 else s

set_option maxRecDepth 100000 in
set_option maxHeartbeats 4000000 in
theorem do_any (B q p c : Nat) (s : Bk) (x : ActV) (w : World) (h : PairAt w B q p c s) (hx : ActOk w B x) (hd : does x.kd = true) :
    Calls Tryz.prog 47 #[.pointer (some ⟨q, 0, none⟩), x.val] w fun e w' => e = .returned (.bool true) ∧ PairAt w' B q p c (stp s x) ∧ FrT B tLaw w w' := by
  obtain ⟨kd, bk, a, b, ao, cap, ls, t⟩ := x
  obtain ⟨hl, hlo, hn, _⟩ := hx
  simp only at hl hlo hn hd
  unfold ActV.val
  simp only
  obtain ⟨W, hW⟩ : ∃ W, w.alloc (.cells #[.int .i64 kd, .int .i64 bk, .int .i64 a, .int .i64 b, .slice ao ls.length cap, .string t] 33) = W := ⟨_, rfl⟩
  have HX : Hid (Blk W w.heap.size #[.int .i64 kd, .int .i64 bk, .int .i64 a, .int .i64 b, .slice ao ls.length cap, .string t] 33) := by rw [← hW]; exact Blk.new _ _ _
  have Hb0 : Hid (Below w.heap.size w W) := by rw [← hW]; exact (Below.refl _ _).alloc (Nat.le_refl _) _
  have H0 := hide (h.kept (unhide Hb0))
  have Hl0 := hide (hl.kept (unhide Hb0))
  have Hlo := hide hlo
  have x0 := (unhide HX).cell 0
  have x1 := (unhide HX).cell 1
  have x2 := (unhide HX).cell 2
  have x3 := (unhide HX).cell 3
  have x4 := (unhide HX).cell 4
  have x5 := (unhide HX).cell 5
  simp only [List.getElem?_toArray, List.getElem?_cons_zero, List.getElem?_cons_succ] at x0 x1 x2 x3 x4 x5
  clear h hl hlo
  have h3 : kd = 1 ∨ kd = 2 ∨ kd = 3 := by
    unfold does at hd
    simp only [Bool.or_eq_true, beq_iff_eq] at hd
    omega
  rcases h3 with rfl | rfl | rfl
  · have hs : stp s ⟨1, bk, a, b, ao, cap, ls, t⟩ = (opn s a).2.2 := rfl
    rw [hs]
    have Hc := hide (opened_any B q p c s 1 bk a b ao ls.length cap t W (unhide H0))
    clear hs hd
    go_enter Tryz.func47, Tryz.ntmps47
    go_wp2_with fail
    try rw [hW]
    refine (unhide Hc).mono ?_
    rintro e w1 ⟨rfl, h1, h2⟩
    have H1 := hide h1
    have H2 : Hid (FrT B tLaw w w1) := (FrT.of_below (unhide Hb0)).trans (h2.mono (by simp [tLaw]; intros; simp [*]))
    clear h1 h2
    go_wp2_with fail
    go_ret
    exact ⟨rfl, unhide H1, unhide H2⟩
  · have hs : stp s ⟨2, bk, a, b, ao, cap, ls, t⟩ = (cls s a).2 := rfl
    rw [hs]
    have Hc := hide (closed_any B q p c s 2 bk a b ao ls.length cap t W (unhide H0))
    clear hs hd
    go_enter Tryz.func47, Tryz.ntmps47
    go_wp2_with fail
    try rw [hW]
    refine (unhide Hc).mono ?_
    rintro e w1 ⟨rfl, h1, h2⟩
    have H1 := hide h1
    have H2 : Hid (FrT B tLaw w w1) := (FrT.of_below (unhide Hb0)).trans (h2.mono (by simp [tLaw]; intros; simp [*]))
    clear h1 h2
    go_wp2_with fail
    go_ret
    exact ⟨rfl, unhide H1, unhide H2⟩
  · have hs : stp s ⟨3, bk, a, b, ao, cap, ls, t⟩ = (pst s a b ls).2 := rfl
    rw [hs]
    have Hc := hide (posted_any B q p c s 3 bk a b ao cap ls t W (unhide H0) (unhide Hl0) (unhide Hlo) hn)
    clear hs hd
    go_enter Tryz.func47, Tryz.ntmps47
    go_wp2_with fail
    try rw [hW]
    refine (unhide Hc).mono ?_
    rintro e w1 ⟨rfl, h1, h2⟩
    have H1 := hide h1
    have H2 : Hid (FrT B tLaw w w1) := (FrT.of_below (unhide Hb0)).trans h2
    clear h1 h2
    go_wp2_with fail
    go_ret
    exact ⟨rfl, unhide H1, unhide H2⟩

set_option maxRecDepth 100000 in
set_option maxHeartbeats 2000000 in
theorem begun_any (w : World) :
    Calls Tryz.prog 46 #[] w fun e w' => ∃ q p c, e = .returned (.pointer (some ⟨q, 0, none⟩)) ∧ PairAt w' w.heap.size q p c bk0 ∧ Below w.heap.size w w' := by
  go_enter Tryz.func46, Tryz.ntmps46
  go_wp2_with fail
  refine (dayNew_any _).mono ?_
  rintro e w1 ⟨p, rfl, hp, hb1⟩
  have Hp := hide hp
  have Hb1 := hide hb1
  clear hp hb1
  go_wp2_with fail
  refine (refNew_any _).mono ?_
  rintro e w2 ⟨c, rfl, hc, hb2⟩
  have HL : Hid (Led w2 w.heap.size p bk0) := by
    obtain ⟨va, vt, tv, dk, h⟩ := (unhide Hp).led
    exact ⟨_, _, _, _, h.kept hb2⟩
  have HR : Hid (Rfd w2 w.heap.size c bk0) := by
    obtain ⟨vp, vc, vu, tu, h⟩ := hc
    have hbs := (unhide Hb1).size
    exact ⟨_, _, _, _, h.base hbs⟩
  have Hb2 := hide ((unhide Hb1).then hb2)
  have hsz2 := (unhide Hb2).size
  clear hc hb2
  go_wp2_with fail
  go_ret
  have hal : Below w2.heap.size w2 (w2.alloc (Obj.cells #[Value.pointer (some { block := p, off := 0 }), Value.pointer (some { block := c, off := 0 }), Value.slice none 0 0, Value.slice none 0 0] 30)) := (Below.refl _ _).alloc (Nat.le_refl _) _
  obtain ⟨va, vt, tv, dk, h1⟩ := unhide HL
  obtain ⟨vp, vc, vu, tu, h2⟩ := unhide HR
  exact ⟨_, p, c, rfl, ⟨Blk.new _ _ _, ⟨_, _, _, _, h1.kept hal⟩, ⟨_, _, _, _, h2.kept hal⟩⟩, (unhide Hb2).alloc hsz2 _⟩

end Go.Proofs.YtdchbenfccofpaaGreatDoor
