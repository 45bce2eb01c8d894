/- The law's lists: handed, still, over. The law's lists: still, over. The law's pair of books: opened, closed. The law's pair of books: posted. The law's pair of books: do, begun, played. The law's pair of books: played; Accounted. Steps that came in: from the reading of the argument to the lists that the walk wants. Reports: the document's within and taken. Walks of the document's answer: value, bare, split. -/
import Derived.Test.YtfancgphkcjgmaaGreatDoorU04
import Derived.Deep.RegionHeld3
import Derived.Deep.SlicePairs
import Derived.SizedLaws
import Derived.Carry
import Derived.ProofKit
import Derived.OpenShut
import Derived.Test.YtfancgphkcjgmaaGreatDoorU03
import Derived.Test.YtfancgphkcjgmaaGreatDoorU01
import Derived.Deep.LoopGhost
namespace Go.Proofs.YtfancgphkcjgmaaGreatDoor
open Go.RowKit Db

theorem made_zero (m : Nat) : (madeCells #[.int .i64 0, .int .i64 0] m).toList = List.replicate m (.int .i64 0) := by
  apply List.ext_getElem
  · rw [Array.length_toList, size_madeCells, List.length_replicate]
  · intro i h1 h2
    rw [List.getElem_replicate, Array.getElem_toList]
    simp only [madeCells, Array.getElem_map, Array.getElem_range]
    rcases Nat.mod_two_eq_zero_or_one i with h | h
    · show (#[Value.int .i64 0, .int .i64 0])[i % 2]! = _
      rw [h]; rfl
    · show (#[Value.int .i64 0, .int .i64 0])[i % 2]! = _
      rw [h]; rfl

/-- The list that is handed over, in its block: the lines, and two of the caller's in its spare room. -/
def spare4 (a b c d : Int) : List Value := [.int .i64 a, .int .i64 b, .int .i64 c, .int .i64 d]
def hcells (ls : List Ln) : Array Value := (cellsL ls ++ spare4 77 0 0 77).toArray
theorem hcells_size (ls : List Ln) : (hcells ls).size = (ls.length + 2) * 2 := by simp [hcells, spare4, cellsL_length]; omega
theorem spare_get (ls : List Ln) (a b c d : Int) : (cellsL ls ++ spare4 a b c d).toArray[ls.length * 2]? = some (.int .i64 a) ∧ (cellsL ls ++ spare4 a b c d).toArray[ls.length * 2 + 1]? = some (.int .i64 b) ∧ (cellsL ls ++ spare4 a b c d).toArray[(ls.length + 1) * 2]? = some (.int .i64 c) ∧ (cellsL ls ++ spare4 a b c d).toArray[(ls.length + 1) * 2 + 1]? = some (.int .i64 d) := by
  have h := cellsL_length ls
  refine ⟨?_, ?_, ?_, ?_⟩ <;> (rw [List.getElem?_toArray, List.getElem?_append_right (by omega), h])
  · rw [show ls.length * 2 - ls.length * 2 = 0 by omega]; rfl
  · rw [show ls.length * 2 + 1 - ls.length * 2 = 1 by omega]; rfl
  · rw [show (ls.length + 1) * 2 - ls.length * 2 = 2 by omega]; rfl
  · rw [show (ls.length + 1) * 2 + 1 - ls.length * 2 = 3 by omega]; rfl
theorem spare_set (ls : List Ln) : ((((cellsL ls ++ spare4 0 0 0 0).toArray.setIfInBounds (ls.length * 2) (.int .i64 77)).setIfInBounds (ls.length * 2 + 1) (.int .i64 0)).setIfInBounds ((ls.length + 1) * 2) (.int .i64 0)).setIfInBounds ((ls.length + 1) * 2 + 1) (.int .i64 77) = hcells ls := by
  have h := cellsL_length ls
  apply Array.toList_inj.1
  simp only [Array.toList_setIfInBounds, hcells]
  have hs : ∀ (i : Nat) (l : List Value) (x : Value), (cellsL ls ++ l).set (ls.length * 2 + i) x = cellsL ls ++ l.set i x := by
    intro i l x
    rw [List.set_append_right _ _ (by omega), h, show ls.length * 2 + i - ls.length * 2 = i by omega]
  rw [show ls.length * 2 = ls.length * 2 + 0 from rfl, hs 0, show ls.length * 2 + 0 + 1 = ls.length * 2 + 1 from rfl, hs 1, show (ls.length + 1) * 2 = ls.length * 2 + 2 by omega, hs 2, show ls.length * 2 + 2 + 1 = ls.length * 2 + 3 from rfl, hs 3]
  rfl
theorem handed_copied {w w3 : World} {ls : List Ln} (hg3 : w3.heap[w.heap.size]? = some (.cells (cellsL ls ++ (madeCells #[.int .i64 0, .int .i64 0] ((ls.length + 2) * 2)).toList.drop (cellsL ls).length).toArray 76 (0, 0))) :
    Blk w3 w.heap.size (cellsL ls ++ spare4 0 0 0 0).toArray 76 := by
  unfold Blk
  rw [hg3, made_zero, cellsL_length, List.drop_replicate, show (ls.length + 2) * 2 - ls.length * 2 = 4 by omega]
  rfl
theorem LinesAt.of_handed {w : World} {g cap : Nat} {ls : List Ln} (h : Blk w g (hcells ls) 76) : LinesAt w (.slice (some ⟨g, 0, none⟩) ls.length cap) ls := by
  refine ⟨_, _, rfl, .inr ⟨g, 0, rfl, h.lt, fun i l hl => ?_⟩⟩
  have h2 := two_get (fun x : Ln => Value.int .i64 x.1) (fun x => .int .i64 x.2) ls i l hl
  have hi := (List.getElem?_eq_some_iff.1 hl).1
  have hlen := cellsL_length ls
  rw [Nat.zero_add, h.cell, h.cell]
  simp only [hcells, List.getElem?_toArray]
  rw [List.getElem?_append_left (by omega), List.getElem?_append_left (by omega)]
  exact h2

set_option maxRecDepth 100000 in
set_option maxHeartbeats 4000000 in
theorem handed_any (v : Value) (ls : List Ln) (w : World) (h : LinesAt w v ls) (hn : ls.length ≤ 8796093022000) :
    Calls Tryz.prog 100 #[v] w fun e w' => e = .returned (.slice (some ⟨w.heap.size, 0, none⟩) ls.length (ls.length + 2)) ∧ Blk w' w.heap.size (hcells ls) 76 ∧ Below w.heap.size w w' := by
  obtain ⟨ao, cap, rfl, hr⟩ := h
  have hmk : ∀ w : World, (Instr.makeSlice 31 (.int .i64 ((ls.length : Int) + 2)) (.int .i64 ((ls.length : Int) + 2))).run Tryz.prog w = .ok (.slice (some ⟨w.heap.size, 0, none⟩) (ls.length + 2) (ls.length + 2)) (w.alloc (.cells (madeCells #[.int .i64 0, .int .i64 0] ((ls.length + 2) * 2)) 76)) := by
    intro w
    have := run_make2 (ls.length + 2) (by omega) w
    rw [show (((ls.length + 2 : Nat)) : Int) = (ls.length : Int) + 2 by omega] at this
    exact this
  have hwr : IntKind.i64.wrap ((ls.length : Int) + 2) = (ls.length : Int) + 2 := by rw [IntKind.wrap_i64]; omega
  have hwr1 : IntKind.i64.wrap ((ls.length : Int) + 1) = (ls.length : Int) + 1 := by rw [IntKind.wrap_i64]; omega
  have Hsrc : Hid (ls.length = 0 ∨ ∃ ad', ao = some ad' ∧ ∀ j u, (cellsL ls)[j]? = some u → (w.alloc (.cells (madeCells #[.int .i64 0, .int .i64 0] ((ls.length + 2) * 2)) 76)).cell? (ad'.add j) = some u) := by
    rcases hr with rfl | ⟨b, off, rfl, hbl, hcs⟩
    · exact .inl rfl
    · refine .inr ⟨⟨b, off, none⟩, rfl, fun j u hju => ?_⟩
      rw [← lines_cells hcs j u hju, Addr.add_lit]
      exact ((Below.refl _ w).alloc (Nat.le_refl _) _).cell (p := ⟨b, off + j, none⟩) hbl
  have tq1 : ((ls.length : Int) + 1).toNat = ls.length + 1 := by omega
  have lq1 : (0 : Int) ≤ (ls.length : Int) + 1 := by omega
  have lq2 : (ls.length : Int) + 1 < (ls.length : Int) + 2 := by omega
  have lq3 : (ls.length : Int) < (ls.length : Int) + 2 := by omega
  clear hr
  go_enter Tryz.func100, Tryz.ntmps100
  go_upto_region 3 with fail
  go_upto_region 4 with (first
    | (refine wpList_copy2 rfl (.tmp 10) (.tmp 11) 31 31 rfl 76 Tryz.underlying31 (by kernel_rfl) w.heap.size (ls.length + 2) (ls.length + 2) ao ls.length cap rfl rfl (madeCells #[.int .i64 0, .int .i64 0] ((ls.length + 2) * 2)) 76 (heap_alloc_new _ _) (cellsL ls) (cellsL_length ls) (by omega) (unhide Hsrc) (by rw [size_madeCells, cellsL_length]; omega) (cellsL_one ls) ?_; intro w3 hg3 ho3 hs3 os3 tp3 ou3; have HB3 := hide (handed_copied hg3); have Hb3 : Hid (Below w.heap.size w w3) := ⟨os3, tp3, ou3, (by rw [hs3]; simp), (fun k hk => by rw [ho3 k (by omega)]; exact Below.heap_alloc _ _ _ hk)⟩; have q0 := ((unhide HB3).cell (ls.length * 2)).trans (spare_get ls 0 0 0 0).1; have q1 := ((unhide HB3).cell (ls.length * 2 + 1)).trans (spare_get ls 0 0 0 0).2.1; have q2 := ((unhide HB3).cell ((ls.length + 1) * 2)).trans (spare_get ls 0 0 0 0).2.2.1; have q3 := ((unhide HB3).cell ((ls.length + 1) * 2 + 1)).trans (spare_get ls 0 0 0 0).2.2.2; have z0 := (unhide HB3).frozen (ls.length * 2); have z1 := (unhide HB3).frozen (ls.length * 2 + 1); have z2 := (unhide HB3).frozen ((ls.length + 1) * 2); have z3 := (unhide HB3).frozen ((ls.length + 1) * 2 + 1); clear hg3 ho3 hs3 os3 tp3 ou3))
  go_wp2_with fail
  go_ret
  refine ⟨rfl, ?_, ?_⟩
  · have hb := ((((unhide HB3).set (ls.length * 2) (.int .i64 77)).set (ls.length * 2 + 1) (.int .i64 0)).set ((ls.length + 1) * 2) (.int .i64 0)).set ((ls.length + 1) * 2 + 1) (.int .i64 77)
    rw [spare_set] at hb
    exact hb
  · exact ((((unhide Hb3).setCell (by simp) _).setCell (by simp) _).setCell (by simp) _).setCell (by simp) _

end Go.Proofs.YtfancgphkcjgmaaGreatDoor
namespace Go.Proofs.YtfancgphkcjgmaaGreatDoor
open Go.RowKit Db

set_option maxRecDepth 100000 in
set_option maxHeartbeats 4000000 in
theorem still_any (g : Nat) (v : Value) (ls : List Ln) (w : World) (hg : Blk w g (hcells ls) 76) (h : LinesAt w v ls) (hn : ls.length ≤ 8796093022000) :
    Calls Tryz.prog 102 #[.slice (some ⟨g, 0, none⟩) ls.length (ls.length + 2), v] w fun e w' => e = .returned (.bool true) ∧ ∃ n, w' = w.drewN n := by
  have HG := hide (LinesAt.of_handed (cap := ls.length + 2) hg)
  have q0 := (hg.cell (ls.length * 2)).trans (spare_get ls 77 0 0 77).1
  have q1 := (hg.cell (ls.length * 2 + 1)).trans (spare_get ls 77 0 0 77).2.1
  have q2 := (hg.cell ((ls.length + 1) * 2)).trans (spare_get ls 77 0 0 77).2.2.1
  have q3 := (hg.cell ((ls.length + 1) * 2 + 1)).trans (spare_get ls 77 0 0 77).2.2.2
  obtain ⟨ao, cap, rfl⟩ := h.form
  have H := hide h
  have hwr : IntKind.i64.wrap ((ls.length : Int) + 2) = (ls.length : Int) + 2 := by rw [IntKind.wrap_i64]; omega
  have hwr1 : IntKind.i64.wrap ((ls.length : Int) + 1) = (ls.length : Int) + 1 := by rw [IntKind.wrap_i64]; omega
  have tq1 : ((ls.length : Int) + 1).toNat = ls.length + 1 := by omega
  have tq2 : ((ls.length : Int) + 2).toNat = ls.length + 2 := by omega
  have lq1 : (0 : Int) ≤ (ls.length : Int) + 1 := by omega
  have lq4 : (0 : Int) ≤ (ls.length : Int) + 2 := by omega
  have lq2 : (ls.length : Int) + 1 < (ls.length : Int) + 2 := by omega
  have lq3 : (ls.length : Int) < (ls.length : Int) + 2 := by omega
  clear hg h
  go_enter Tryz.func102, Tryz.ntmps102
  go_wp2_with fail
  go_loopg [6] ls.length (fun m i wr => ∃ j n : Nat, j ≤ ls.length ∧ m = ls.length - j ∧ i = .int .i64 j ∧ wr = w.drewN n)
  case atStart => exact ⟨0, 0, by omega, rfl, rfl, rfl⟩
  case round =>
    obtain ⟨j, n, hj, rfl, rfl, rfl⟩ := hrel
    by_cases hlt : j < ls.length
    · obtain ⟨⟨la, lm⟩, hl⟩ : ∃ l, ls[j]? = some l := ⟨ls[j], List.getElem?_eq_getElem hlt⟩
      obtain ⟨_, b, off, e1, hbl, d1, d2⟩ := (unhide HG).line hl
      simp only [Option.some.injEq, Addr.mk.injEq, and_true] at e1
      obtain ⟨rfl, rfl⟩ := e1
      obtain ⟨_, b', off', rfl, hbl', f1, f2⟩ := (unhide H).line hl
      simp only [Nat.zero_add] at d1 d2 f1 f2
      clear hl
      go_upto_region 5 with fail
      go_quiet (fail)
      go_wp2_with fail
      go_roundg (ls.length - (j + 1))
      case measure => omega
      case rel => exact ⟨j + 1, _, by omega, rfl, by go_num, by first | rfl | exact (World.drewN_drewN _ _ _)⟩
    · obtain rfl : j = ls.length := by omega
      go_wp2_with fail
      go_ret
      exact ⟨rfl, n, rfl⟩

/-- Block g alone has turned. -/
theorem frm_set {w w' : World} {g i : Nat} (h : Frm w.heap.size (fun k => k = g) w w') (v : Value) : Frm w.heap.size (fun k => k = g) w (w'.setCell ⟨g, i, none⟩ v) := h.setCell (.inr rfl) v

set_option maxRecDepth 100000 in
set_option maxHeartbeats 4000000 in
theorem over_any (g n : Nat) (cs : Array Value) (w : World) (hg : Blk w g cs 76) (hs : cs.size = (n + 2) * 2) (hn : n ≤ 8796093022000) :
    Calls Tryz.prog 103 #[.slice (some ⟨g, 0, none⟩) n (n + 2)] w fun e w' => e = .returned (.tuple #[]) ∧ Frm w.heap.size (fun k => k = g) w w' := by
  have hwr : IntKind.i64.wrap ((n : Int) + 2) = (n : Int) + 2 := by rw [IntKind.wrap_i64]; omega
  have tq2 : ((n : Int) + 2).toNat = n + 2 := by omega
  have lq4 : (0 : Int) ≤ (n : Int) + 2 := by omega
  have Hg := hide hg
  have Hs := hide hs
  clear hg hs
  go_enter Tryz.func103, Tryz.ntmps103
  go_wp2_with fail
  go_loopg [3] (n + 2) (fun m i wr => ∃ j : Nat, ∃ ds : Array Value, j ≤ n + 2 ∧ m = n + 2 - j ∧ i = .int .i64 j ∧ Hid (Blk wr g ds 76) ∧ Hid (ds.size = (n + 2) * 2) ∧ Hid (Frm w.heap.size (fun k => k = g) w wr))
  case atStart => exact ⟨0, cs, by omega, rfl, rfl, unhide Hg, unhide Hs, Frm.refl _ _ _⟩
  case round =>
    obtain ⟨j, ds, hj, rfl, rfl, Hd, Hds, Hf⟩ := hrel
    by_cases hlt : j < n + 2
    · have hlt' : (j : Int) < (n : Int) + 2 := by omega
      have hd := unhide Hds
      have q0 := ((unhide Hd).cell (j * 2)).trans (Array.getElem?_eq_getElem (show j * 2 < ds.size by omega))
      have q1 := ((unhide Hd).cell (j * 2 + 1)).trans (Array.getElem?_eq_getElem (show j * 2 + 1 < ds.size by omega))
      have z0 := (unhide Hd).frozen (j * 2)
      have z1 := (unhide Hd).frozen (j * 2 + 1)
      obtain ⟨x0, hx0⟩ : ∃ x, ds[j * 2] = x := ⟨_, rfl⟩
      obtain ⟨x1, hx1⟩ : ∃ x, ds[j * 2 + 1] = x := ⟨_, rfl⟩
      rw [hx0] at q0
      rw [hx1] at q1
      clear hx0 hx1 hd
      go_wp2_with fail
      go_roundg (n + 2 - (j + 1))
      case measure => omega
      case rel => exact ⟨j + 1, _, by omega, rfl, by go_num, ((unhide Hd).set (j * 2) _).set (j * 2 + 1) _, by show _ = _; rw [Array.size_setIfInBounds, Array.size_setIfInBounds]; exact unhide Hds, frm_set (frm_set (unhide Hf) _) _⟩
    · obtain rfl : j = n + 2 := by omega
      go_wp2_with fail
      go_end0
      exact ⟨rfl, unhide Hf⟩

end Go.Proofs.YtfancgphkcjgmaaGreatDoor
namespace Go.Proofs.YtfancgphkcjgmaaGreatDoor
open Go.RowKit Db

/-- The program's book and the document's, both as s says. -/
structure PairAt (w : World) (B q p c : Nat) (s : Bk) : Prop where
  blk : Blk w q #[.pointer (some ⟨p, 0, none⟩), .pointer (some ⟨c, 0, none⟩), .slice none 0 0, .slice none 0 0] 30
  led : Led w B p s
  rfd : Rfd w B c s
theorem PairAt.kept {w w' : World} {B q p c : Nat} {s : Bk} (h : PairAt w B q p c s) (hb : Below w.heap.size w w') : PairAt w' B q p c s := by
  obtain ⟨h1, ⟨va, vt, tv, h2⟩, ⟨vp, vc, vu, tu, h3⟩⟩ := h
  exact ⟨h1.kept hb, ⟨_, _, _, h2.kept hb⟩, ⟨_, _, _, _, h3.kept hb⟩⟩
theorem Rfd.frT {w w' : World} {B B' p : Nat} {s : Bk} (h : Rfd w B p s) (hf : FrT B' tP w w') : Rfd w' B p s := by
  obtain ⟨vp, vc, vu, tu, h3⟩ := h
  exact ⟨_, _, _, _, h3.frT hf (by decide) (by decide)⟩
theorem Led.frT {w w' : World} {B B' p : Nat} {s : Bk} (h : Led w B p s) (hf : FrT B' tR w w') : Led w' B p s := by
  obtain ⟨va, vt, tv, h3⟩ := h
  exact ⟨_, _, _, h3.frT hf (by decide) (by decide)⟩
def tAll : List TypeId := tP ++ tR
theorem below_drew (w : World) : Below w.heap.size w w.drew := ⟨rfl, rfl, rfl, Nat.le_refl _, fun _ _ => rfl⟩
theorem Led.drew {w : World} {B p : Nat} {s : Bk} (h : Led w B p s) : Led w.drew B p s := by
  obtain ⟨va, vt, tv, h⟩ := h; exact ⟨_, _, _, h.kept (below_drew w)⟩
theorem Rfd.drew {w : World} {B p : Nat} {s : Bk} (h : Rfd w B p s) : Rfd w.drew B p s := by
  obtain ⟨vp, vc, vu, tu, h⟩ := h; exact ⟨_, _, _, _, h.kept (below_drew w)⟩

set_option maxRecDepth 100000 in
set_option maxHeartbeats 4000000 in
theorem opened_any (B q p c : Nat) (s : Bk) (kd bk a b : Int) (ao : Option Addr) (n cap : Nat) (t : ByteArray) (w : World) (h : PairAt w B q p c s) :
    Calls Tryz.prog 61 #[.pointer (some ⟨q, 0, none⟩), .agg #[.int .i64 kd, .int .i64 bk, .int .i64 a, .int .i64 b, .slice ao n cap, .string t]] w fun e w' => e = .returned (.bool true) ∧ PairAt w' B q p c (opn s a).2.2 ∧ FrT B tAll w w' := by
  obtain ⟨bx, hbx⟩ : ∃ bx, w.heap.size = bx := ⟨_, rfl⟩
  obtain ⟨W, hW⟩ : ∃ W, w.alloc (.cells #[.int .i64 kd, .int .i64 bk, .int .i64 a, .int .i64 b, .slice ao n cap, .string t] 33) = W := ⟨_, rfl⟩
  have HX : Hid (Blk W bx #[.int .i64 kd, .int .i64 bk, .int .i64 a, .int .i64 b, .slice ao n cap, .string t] 33) := by rw [← hW, ← hbx]; exact Blk.new _ _ _
  have Hb0 : Hid (Below w.heap.size w W) := by rw [← hW]; exact (Below.refl _ _).alloc (Nat.le_refl _) _
  have H0 := hide (h.kept (unhide Hb0))
  have Hop := hide (fun (wx : World) (h : Led wx B p s) => dayOpen_any B p s a wx h)
  have Hor := hide (fun (wx : World) (h : Rfd wx B c s) => refOpen_any B c s a wx h)
  obtain ⟨⟨x, y, s'⟩, hr⟩ : ∃ r, opn s a = r := ⟨_, rfl⟩
  rw [hr] at Hop Hor ⊢
  simp only at Hop Hor ⊢
  have c0 := (unhide H0).blk.cell 0
  have x2 := (unhide HX).cell 2
  simp only [List.getElem?_toArray, List.getElem?_cons_zero, List.getElem?_cons_succ] at c0 x2
  clear h hr
  go_enter Tryz.func61, Tryz.ntmps61
  go_upto_region 1 with fail
  try rw [hW]
  try rw [hbx]
  clear hW hbx
  go_region_held3 (fun w' => w'.cell? ⟨q, 0, none⟩ = some (.pointer (some ⟨p, 0, none⟩)) ∧ w'.cell? ⟨bx, 2, none⟩ = some (.int .i64 a)) (first | go_keep | exact ⟨k1, k2⟩) (first | (go_at_call 98; refine (unhide Hop _ (by exact (unhide H0).led.drew)).mono ?_; rintro e w4 ⟨rfl, h1, h2⟩; have h2u := h2.undrew; have k1 := ((unhide H0).blk.frT h2u (by decide)).cell 0; have k2 := ((unhide HX).frT h2u (by decide)).cell 2; simp only [List.getElem?_toArray, List.getElem?_cons_zero, List.getElem?_cons_succ] at k1 k2))
  have HL4 := hide h1
  have HF4 := hide h2.undrew
  have HB4 := hide ((unhide H0).blk.frT h2.undrew (by decide))
  have HX4 := hide ((unhide HX).frT h2.undrew (by decide))
  have HR4 := hide ((unhide H0).rfd.frT h2.undrew)
  have k3 := (unhide HB4).cell 1
  simp only [List.getElem?_toArray, List.getElem?_cons_zero, List.getElem?_cons_succ] at k3
  clear h1 h2 h2u k1 c0 x2
  go_upto_region 2 with fail
  go_region_held3 (fun w' => w'.cell? ⟨q, 1, none⟩ = some (.pointer (some ⟨c, 0, none⟩)) ∧ w'.cell? ⟨bx, 2, none⟩ = some (.int .i64 a)) (first | go_keep | exact ⟨j1, j2⟩) (first | (go_at_call 11; refine (unhide Hor _ (by exact (unhide HR4).drew)).mono ?_; rintro e w5 ⟨rfl, h1, h2⟩; have h2u := h2.undrew; have j1 := ((unhide HB4).frT h2u (by decide)).cell 1; have j2 := ((unhide HX4).frT h2u (by decide)).cell 2; simp only [List.getElem?_toArray, List.getElem?_cons_zero, List.getElem?_cons_succ] at j1 j2))
  have HF : Hid (PairAt w5 B q p c s' ∧ FrT B tAll w w5) := ⟨⟨(unhide HB4).frT h2.undrew (by decide), (unhide HL4).frT h2.undrew, h1⟩, ((FrT.of_below (unhide Hb0)).trans ((unhide HF4).mono (by simp [tAll]; intros; simp [*]))).trans (h2.undrew.mono (by simp [tAll]; intros; simp [*]))⟩
  have e1 : (x == x) = true := by simp
  have e2 : (y == y) = true := by simp
  clear h1 h2 h2u j1 j2 k2 k3
  go_wp2_with fail
  go_ret
  exact ⟨rfl, (unhide HF).1, (unhide HF).2⟩

set_option maxRecDepth 100000 in
set_option maxHeartbeats 4000000 in
theorem closed_any (B q p c : Nat) (s : Bk) (kd bk a b : Int) (ao : Option Addr) (n cap : Nat) (t : ByteArray) (w : World) (h : PairAt w B q p c s) :
    Calls Tryz.prog 62 #[.pointer (some ⟨q, 0, none⟩), .agg #[.int .i64 kd, .int .i64 bk, .int .i64 a, .int .i64 b, .slice ao n cap, .string t]] w fun e w' => e = .returned (.bool true) ∧ PairAt w' B q p c (cls s a).2 ∧ FrT B tAll w w' := by
  obtain ⟨bx, hbx⟩ : ∃ bx, w.heap.size = bx := ⟨_, rfl⟩
  obtain ⟨W, hW⟩ : ∃ W, w.alloc (.cells #[.int .i64 kd, .int .i64 bk, .int .i64 a, .int .i64 b, .slice ao n cap, .string t] 33) = W := ⟨_, rfl⟩
  have HX : Hid (Blk W bx #[.int .i64 kd, .int .i64 bk, .int .i64 a, .int .i64 b, .slice ao n cap, .string t] 33) := by rw [← hW, ← hbx]; exact Blk.new _ _ _
  have Hb0 : Hid (Below w.heap.size w W) := by rw [← hW]; exact (Below.refl _ _).alloc (Nat.le_refl _) _
  have H0 := hide (h.kept (unhide Hb0))
  have Hop := hide (fun (wx : World) (h : Led wx B p s) => dayClose_any B p s a wx h)
  have Hor := hide (fun (wx : World) (h : Rfd wx B c s) => refClose_any B c s a wx h)
  obtain ⟨⟨x, s'⟩, hr⟩ : ∃ r, cls s a = r := ⟨_, rfl⟩
  rw [hr] at Hop Hor ⊢
  simp only at Hop Hor ⊢
  have c0 := (unhide H0).blk.cell 0
  have x2 := (unhide HX).cell 2
  simp only [List.getElem?_toArray, List.getElem?_cons_zero, List.getElem?_cons_succ] at c0 x2
  clear h hr
  go_enter Tryz.func62, Tryz.ntmps62
  go_upto_region 1 with fail
  try rw [hW]
  try rw [hbx]
  clear hW hbx
  go_region_held3 (fun w' => w'.cell? ⟨q, 0, none⟩ = some (.pointer (some ⟨p, 0, none⟩)) ∧ w'.cell? ⟨bx, 2, none⟩ = some (.int .i64 a)) (first | go_keep | exact ⟨k1, k2⟩) (first | (go_at_call 99; refine (unhide Hop _ (by exact (unhide H0).led.drew)).mono ?_; rintro e w4 ⟨rfl, h1, h2⟩; have h2u := h2.undrew; have k1 := ((unhide H0).blk.frT h2u (by decide)).cell 0; have k2 := ((unhide HX).frT h2u (by decide)).cell 2; simp only [List.getElem?_toArray, List.getElem?_cons_zero, List.getElem?_cons_succ] at k1 k2))
  have HL4 := hide h1
  have HF4 := hide h2.undrew
  have HB4 := hide ((unhide H0).blk.frT h2.undrew (by decide))
  have HX4 := hide ((unhide HX).frT h2.undrew (by decide))
  have HR4 := hide ((unhide H0).rfd.frT h2.undrew)
  have k3 := (unhide HB4).cell 1
  simp only [List.getElem?_toArray, List.getElem?_cons_zero, List.getElem?_cons_succ] at k3
  clear h1 h2 h2u k1 c0 x2
  go_upto_region 2 with fail
  go_region_held3 (fun w' => w'.cell? ⟨q, 1, none⟩ = some (.pointer (some ⟨c, 0, none⟩)) ∧ w'.cell? ⟨bx, 2, none⟩ = some (.int .i64 a)) (first | go_keep | exact ⟨j1, j2⟩) (first | (go_at_call 12; refine (unhide Hor _ (by exact (unhide HR4).drew)).mono ?_; rintro e w5 ⟨rfl, h1, h2⟩; have h2u := h2.undrew; have j1 := ((unhide HB4).frT h2u (by decide)).cell 1; have j2 := ((unhide HX4).frT h2u (by decide)).cell 2; simp only [List.getElem?_toArray, List.getElem?_cons_zero, List.getElem?_cons_succ] at j1 j2))
  have HF : Hid (PairAt w5 B q p c s' ∧ FrT B tAll w w5) := ⟨⟨(unhide HB4).frT h2.undrew (by decide), (unhide HL4).frT h2.undrew, h1⟩, ((FrT.of_below (unhide Hb0)).trans ((unhide HF4).mono (by simp [tAll]; intros; simp [*]))).trans (h2.undrew.mono (by simp [tAll]; intros; simp [*]))⟩
  have e1 : (x == x) = true := by simp
  clear h1 h2 h2u j1 j2 k2 k3
  go_wp2_with fail
  go_ret
  exact ⟨rfl, (unhide HF).1, (unhide HF).2⟩

end Go.Proofs.YtfancgphkcjgmaaGreatDoor
namespace Go.Proofs.YtfancgphkcjgmaaGreatDoor
open Go.RowKit Db

theorem ownsRow_block_lt {w : World} {base : Nat} {e : TypeId} {size : Nat} {v : Value} {n : Nat} {xs : List Value} (h : w.ownsRow base e size v n xs) : ∀ k, v.ownBlock = some k → k < w.heap.size := by
  intro k hk
  obtain ⟨_, cs, fz, hg⟩ := ownsRow_tg h k hk
  exact (Array.getElem?_eq_some_iff.1 hg).1
theorem ownsRow_only {w w' : World} {base g : Nat} {e : TypeId} {size : Nat} {v : Value} {n : Nat} {xs : List Value} (h : w.ownsRow base e size v n xs) (hf : Frm w.heap.size (fun k => k = g) w w') (hg : ∀ k, v.ownBlock = some k → k ≠ g) : w'.ownsRow base e size v n xs :=
  ownsRow_frm h hf (fun k hk => ⟨ownsRow_block_lt h k hk, hg k hk⟩)
theorem tg_ne {w : World} {k g : Nat} {T U : TypeId} (h : Tg w k T) (hg : Tg w g U) (hne : T ≠ U) : k ≠ g := by
  rintro rfl
  obtain ⟨cs, fz, h1⟩ := h
  obtain ⟨ds, gz, h2⟩ := hg
  rw [h1] at h2
  simp at h2
  exact hne h2.2.1
/-- The program's book, where a list of lines that is none of its own is written over. -/
theorem LedAt.only {w w' : World} {B p g : Nat} {va vt : Value} {tv : List (Tn × Value)} {s : Bk} (h : LedAt w B p va vt tv s) (hf : Frm w.heap.size (fun k => k = g) w w') (hg : Tg w g 76) (hn : ∀ x ∈ tv, ∀ k, x.2.ownBlock = some k → k ≠ g) : LedAt w' B p va vt tv s :=
  ⟨h.blk.frm hf h.blk.lt (tg_ne h.blk.tg hg (by decide)), h.lo, ownsRow_only h.acs hf (fun k hk => tg_ne (ownsRow_tg h.acs k hk).2 hg (by decide)),
   ⟨ownsRow_only h.txs.own hf (fun k hk => tg_ne (ownsRow_tg h.txs.own k hk).2 hg (by decide)), fun x hx => ownsRow_only (h.txs.lns x hx) hf (hn x hx)⟩, h.jr, h.good⟩
theorem RefAt.only {w w' : World} {B p g : Nat} {vp vc vt : Value} {tv : List (Tn × Value)} {s : Bk} (h : RefAt w B p vp vc vt tv s) (hf : Frm w.heap.size (fun k => k = g) w w') (hg : Tg w g 76) (hn : ∀ x ∈ tv, ∀ k, x.2.ownBlock = some k → k ≠ g) : RefAt w' B p vp vc vt tv s :=
  ⟨h.blk.frm hf h.blk.lt (tg_ne h.blk.tg hg (by decide)), h.lo, ownsRow_only h.par hf (fun k hk => tg_ne (ownsRow_tg h.par k hk).2 hg (by decide)), ownsRow_only h.clo hf (fun k hk => tg_ne (ownsRow_tg h.clo k hk).2 hg (by decide)),
   ⟨ownsRow_only h.txs.own hf (fun k hk => tg_ne (ownsRow_tg h.txs.own k hk).2 hg (by decide)), fun x hx => ownsRow_only (h.txs.lns x hx) hf (hn x hx)⟩, h.jr, h.good⟩
theorem LinesAt.only {w w' : World} {g : Nat} {v : Value} {ls : List Ln} (h : LinesAt w v ls) (hf : Frm w.heap.size (fun k => k = g) w w') (hg : ls = [] ∨ ∀ k, v.ownBlock = some k → k ≠ g) : LinesAt w' v ls := by
  obtain ⟨ao, cap, rfl, hr⟩ := h
  refine ⟨ao, cap, rfl, ?_⟩
  rcases hg with hg | hg
  · exact .inl hg
  rcases hr with hr | ⟨b, off, rfl, hlt, hc⟩
  · exact .inl hr
  · have hb := hf.block b hlt (hg b rfl)
    refine .inr ⟨b, off, rfl, Nat.lt_of_lt_of_le hlt hf.size, fun i l hl => ?_⟩
    have h1 : ∀ j, w'.cell? ⟨b, j, none⟩ = w.cell? ⟨b, j, none⟩ := fun j => World.cell?_of_block (a := ⟨b, j, none⟩) hb
    rw [h1, h1]
    exact hc i l hl
/-- Lines that lie below B are kept by what the books do. -/
theorem LinesAt.frT {w w' : World} {B : Nat} {Ts : List TypeId} {v : Value} {ls : List Ln} (h : LinesAt w v ls) (hf : FrT B Ts w w') (hg : ls = [] ∨ ∀ k, v.ownBlock = some k → k < B) : LinesAt w' v ls := by
  obtain ⟨ao, cap, rfl, hr⟩ := h
  refine ⟨ao, cap, rfl, ?_⟩
  rcases hg with hg | hg
  · exact .inl hg
  rcases hr with hr | ⟨b, off, rfl, hlt, hc⟩
  · exact .inl hr
  · have hb := hf.block b hlt (fun h => by have := hg b rfl; omega)
    refine .inr ⟨b, off, rfl, Nat.lt_of_lt_of_le hlt hf.size, fun i l hl => ?_⟩
    have h1 : ∀ j, w'.cell? ⟨b, j, none⟩ = w.cell? ⟨b, j, none⟩ := fun j => World.cell?_of_block (a := ⟨b, j, none⟩) hb
    rw [h1, h1]
    exact hc i l hl
theorem frm_frT {w w' : World} {B g : Nat} {Ts : List TypeId} {T : TypeId} (h : Frm w.heap.size (fun k => k = g) w w') (hB : B ≤ g) (hg : Tg w g T) (hT : T ∈ Ts) : FrT B Ts w w' :=
  ⟨h.os, h.tape, h.output, h.size, fun k hk hx => h.block k hk (by rintro rfl; exact hx hB T hT hg)⟩

def tLaw : List TypeId := 76 :: tAll

set_option maxRecDepth 100000 in
set_option maxHeartbeats 4000000 in
theorem posted_any (B q p c : Nat) (s : Bk) (kd bk a b : Int) (ao : Option Addr) (cap : Nat) (ls : List Ln) (t : ByteArray) (w : World) (h : PairAt w B q p c s) (hl : LinesAt w (.slice ao ls.length cap) ls) (hlo : ls = [] ∨ ∀ k, (Value.slice ao ls.length cap).ownBlock = some k → k < B) (hn : ls.length ≤ 8796093022000) :
    Calls Tryz.prog 63 #[.pointer (some ⟨q, 0, none⟩), .agg #[.int .i64 kd, .int .i64 bk, .int .i64 a, .int .i64 b, .slice ao ls.length cap, .string t]] w fun e w' => e = .returned (.bool true) ∧ PairAt w' B q p c (pst s a b ls).2 ∧ FrT B tLaw w w' := by
  obtain ⟨bx, hbx⟩ : ∃ bx, w.heap.size = bx := ⟨_, rfl⟩
  obtain ⟨W, hW⟩ : ∃ W, w.alloc (.cells #[.int .i64 kd, .int .i64 bk, .int .i64 a, .int .i64 b, .slice ao ls.length cap, .string t] 33) = W := ⟨_, rfl⟩
  have HX : Hid (Blk W bx #[.int .i64 kd, .int .i64 bk, .int .i64 a, .int .i64 b, .slice ao ls.length cap, .string t] 33) := by rw [← hW, ← hbx]; exact Blk.new _ _ _
  have Hb0 : Hid (Below w.heap.size w W) := by rw [← hW]; exact (Below.refl _ _).alloc (Nat.le_refl _) _
  have hWs : W.heap.size = bx + 1 := by rw [← hW, ← hbx]; simp
  obtain ⟨hq, ⟨va, vt, tv, hled⟩, ⟨vp, vc, vu, tu, href⟩⟩ := h
  have Htv : Hid (∀ x ∈ tv, ∀ k, x.2.ownBlock = some k → k < bx) := fun x hx k hk => by rw [← hbx]; exact ownsRow_block_lt (hled.txs.lns x hx) k hk
  have Htu : Hid (∀ x ∈ tu, ∀ k, x.2.ownBlock = some k → k < bx) := fun x hx k hk => by rw [← hbx]; exact ownsRow_block_lt (href.txs.lns x hx) k hk
  have hBx : B ≤ bx := by have h1 := hled.lo; have h2 := hled.blk.lt; omega
  have HL0 := hide (hled.kept (unhide Hb0))
  have HR0 := hide (href.kept (unhide Hb0))
  have HQ0 := hide (hq.kept (unhide Hb0))
  have Hl0 := hide (hl.kept (unhide Hb0))
  have Hlo := hide hlo
  obtain ⟨⟨x, s'⟩, hr⟩ : ∃ r, pst s a b ls = r := ⟨_, rfl⟩
  have Hpp : Hid (∀ (wx : World) (va vt : Value) (tv : List (Tn × Value)) (g : Nat), LedAt wx B p va vt tv s → LinesAt wx (.slice (some ⟨g, 0, none⟩) ls.length (ls.length + 2)) ls → Calls Tryz.prog 101 #[.pointer (some ⟨p, 0, none⟩), .int .i64 a, .int .i64 b, .slice (some ⟨g, 0, none⟩) ls.length (ls.length + 2)] wx fun e w' => e = .returned (.int .i64 x) ∧ LedN wx tv w' B p s' ∧ FrT B tP wx w') := by
    intro wx va vt tv g h1 h2
    have := dayPost_any B p s a b _ ls wx va vt tv h1 h2
    rw [hr] at this
    exact this
  have Hrp : Hid (∀ (wx : World), Rfd wx B c s → LinesAt wx (.slice ao ls.length cap) ls → Calls Tryz.prog 13 #[.pointer (some ⟨c, 0, none⟩), .int .i64 a, .int .i64 b, .slice ao ls.length cap] wx fun e w' => e = .returned (.int .i64 x) ∧ Rfd w' B c s' ∧ FrT B tR wx w') := by
    intro wx h1 h2
    have := refPost_any B c s a b _ ls wx h1 h2
    rw [hr] at this
    exact this
  rw [hr]
  simp only
  have x4 := (unhide HX).cell 4
  simp only [List.getElem?_toArray, List.getElem?_cons_zero, List.getElem?_cons_succ] at x4
  clear hled href hq hl hlo hr
  go_enter Tryz.func63, Tryz.ntmps63
  go_wp2_with fail
  try rw [hW]
  try rw [hbx]
  clear hW hbx
  refine (handed_any _ ls W (unhide Hl0) hn).mono ?_
  rintro e w1 ⟨rfl, hg1, hb1⟩
  obtain ⟨g, hg⟩ : ∃ g, W.heap.size = g := ⟨_, rfl⟩
  rw [hg] at hg1 ⊢
  have hgx : bx < g := by omega
  have Hg1 := hide hg1
  have HB1 := hide hb1
  have HL1 := hide ((unhide HL0).kept hb1)
  have HR1 := hide ((unhide HR0).kept hb1)
  have HQ1 := hide ((unhide HQ0).kept hb1)
  have Hl1 := hide ((unhide Hl0).kept hb1)
  have HX1 := hide ((unhide HX).kept hb1)
  have hg1l := hg1.lt
  have c0 := (unhide HQ1).cell 0
  have x2 := (unhide HX1).cell 2
  have x3 := (unhide HX1).cell 3
  simp only [List.getElem?_toArray, List.getElem?_cons_zero, List.getElem?_cons_succ] at c0 x2 x3
  clear hg1 hb1 x4 hg
  go_upto_region 2 with fail
  go_region_held3 (fun w' => w'.cell? ⟨q, 0, none⟩ = some (.pointer (some ⟨p, 0, none⟩)) ∧ w'.cell? ⟨bx, 2, none⟩ = some (.int .i64 a) ∧ w'.cell? ⟨bx, 3, none⟩ = some (.int .i64 b)) (first | go_keep | exact ⟨k1, k2, k3⟩) (first | (go_at_call 101; refine (unhide Hpp _ _ _ _ _ (by exact (unhide HL1).kept (below_drew _)) (by exact (LinesAt.of_handed (unhide Hg1)).kept (below_drew _))).mono ?_; rintro e w2 ⟨rfl, h1, h2⟩; have h2u := h2.undrew; have k1 := ((unhide HQ1).frT h2u (by decide)).cell 0; have k2 := ((unhide HX1).frT h2u (by decide)).cell 2; have k3 := ((unhide HX1).frT h2u (by decide)).cell 3; simp only [List.getElem?_toArray, List.getElem?_cons_zero, List.getElem?_cons_succ] at k1 k2 k3))
  have hu2 := h2.undrew
  obtain ⟨va2, vt2, tv2, hled2, hnew⟩ := h1
  have HL2 := hide hled2
  have Hnew : Hid (∀ x ∈ tv2, ∀ k, x.2.ownBlock = some k → k ≠ g) := by
    intro x hx k hk
    rcases hnew x hx with hx | hx
    · have := unhide Htv x hx k hk; omega
    · have := hx k hk
      have h5 : w1.drew.heap.size = w1.heap.size := rfl
      omega
  have HF2 := hide hu2
  have HR2 := hide ((unhide HR1).frT hu2 (by decide) (by decide))
  have HQ2 := hide ((unhide HQ1).frT hu2 (by decide))
  have HX2 := hide ((unhide HX1).frT hu2 (by decide))
  have Hg2 := hide ((unhide Hg1).frT hu2 (by decide))
  have Hl2 := hide ((unhide Hl1).frT hu2 (unhide Hlo))
  have x4 := (unhide HX2).cell 4
  simp only [List.getElem?_toArray, List.getElem?_cons_zero, List.getElem?_cons_succ] at x4
  clear h2 h2u hu2 hled2 hnew k1 k2 k3 c0 x2 x3
  go_wp2_with fail
  refine (still_any g _ ls w2 (unhide Hg2) (unhide Hl2) hn).mono ?_
  rintro e w3 ⟨rfl, n3, hw3⟩
  have hb3 : Below w2.heap.size w2 w3 := by rw [hw3]; exact (Below.refl _ _).drewN n3
  have HL3 := hide ((unhide HL2).kept hb3)
  have HR3 := hide ((unhide HR2).kept hb3)
  have HQ3 := hide ((unhide HQ2).kept hb3)
  have HX3 := hide ((unhide HX2).kept hb3)
  have Hg3 := hide ((unhide Hg2).kept hb3)
  have Hl3 := hide ((unhide Hl2).kept hb3)
  have HF3 := hide ((unhide HF2).then hb3)
  clear hw3 hb3 x4
  go_wp2_with fail
  refine (over_any g ls.length (hcells ls) w3 (unhide Hg3) (hcells_size ls) hn).mono ?_
  rintro e w4 ⟨rfl, hf4⟩
  have HL4 := hide ((unhide HL3).only hf4 (unhide Hg3).tg (unhide Hnew))
  have HR4 := hide ((unhide HR3).only hf4 (unhide Hg3).tg (fun x hx k hk => by have := unhide Htu x hx k hk; omega))
  have HQ4 := hide ((unhide HQ3).frm hf4 (unhide HQ3).lt (tg_ne (unhide HQ3).tg (unhide Hg3).tg (by decide)))
  have HX4 := hide ((unhide HX3).frm hf4 (unhide HX3).lt (tg_ne (unhide HX3).tg (unhide Hg3).tg (by decide)))
  have Hl4 := hide ((unhide Hl3).only hf4 ((unhide Hlo).imp id (fun hh k hk => by have := hh k hk; omega)))
  have HF4 : Hid (FrT B tLaw w w4) := (((FrT.of_below (unhide Hb0)).then (unhide HB1)).trans ((unhide HF3).mono (by simp [tLaw, tAll]; intros; simp [*]))).trans (frm_frT hf4 (by omega) (unhide Hg3).tg (by simp [tLaw]))
  have c1 := (unhide HQ4).cell 1
  have x2 := (unhide HX4).cell 2
  have x3 := (unhide HX4).cell 3
  have x4 := (unhide HX4).cell 4
  simp only [List.getElem?_toArray, List.getElem?_cons_zero, List.getElem?_cons_succ] at c1 x2 x3 x4
  clear hf4
  go_upto_region 5 with fail
  go_region_held3 (fun w' => w'.cell? ⟨q, 1, none⟩ = some (.pointer (some ⟨c, 0, none⟩)) ∧ w'.cell? ⟨bx, 2, none⟩ = some (.int .i64 a) ∧ w'.cell? ⟨bx, 3, none⟩ = some (.int .i64 b) ∧ w'.cell? ⟨bx, 4, none⟩ = some (.slice ao ls.length cap)) (first | go_keep | exact ⟨k1, k2, k3, k4⟩) (first | (go_at_call 13; refine (unhide Hrp _ (by exact Rfd.drew ⟨_, _, _, _, unhide HR4⟩) (by exact (unhide Hl4).kept (below_drew _))).mono ?_; rintro e w5 ⟨rfl, h1, h2⟩; have h2u := h2.undrew; have k1 := ((unhide HQ4).frT h2u (by decide)).cell 1; have k2 := ((unhide HX4).frT h2u (by decide)).cell 2; have k3 := ((unhide HX4).frT h2u (by decide)).cell 3; have k4 := ((unhide HX4).frT h2u (by decide)).cell 4; simp only [List.getElem?_toArray, List.getElem?_cons_zero, List.getElem?_cons_succ] at k1 k2 k3 k4))
  have HF : Hid (PairAt w5 B q p c s' ∧ FrT B tLaw w w5) := ⟨⟨(unhide HQ4).frT h2.undrew (by decide), Led.frT ⟨_, _, _, unhide HL4⟩ h2.undrew, h1⟩, (unhide HF4).trans (h2.undrew.mono (by simp [tLaw, tAll]; intros; simp [*]))⟩
  have e1 : (x == x) = true := by simp
  clear h1 h2 h2u k1 k2 k3 k4 c1 x2 x3 x4
  go_wp2_with fail
  go_ret
  exact ⟨rfl, (unhide HF).1, (unhide HF).2⟩

end Go.Proofs.YtfancgphkcjgmaaGreatDoor
namespace Go.Proofs.YtfancgphkcjgmaaGreatDoor
open Go.RowKit Db

theorem ownsRow_down {w : World} {B B' : Nat} {e : TypeId} {size : Nat} {v : Value} {n : Nat} {xs : List Value} (h : w.ownsRow B e size v n xs) (hB : B' ≤ B) : w.ownsRow B' e size v n xs :=
  ownsRow_base h (fun k hk => Nat.le_trans hB (ownsRow_tg h k hk).1)
theorem RefAt.base {w : World} {B B' p : Nat} {vp vc vt : Value} {tv : List (Tn × Value)} {s : Bk} (h : RefAt w B p vp vc vt tv s) (hB : B' ≤ B) : RefAt w B' p vp vc vt tv s :=
  ⟨h.blk, Nat.le_trans hB h.lo, ownsRow_down h.par hB, ownsRow_down h.clo hB, ⟨ownsRow_down h.txs.own hB, fun x hx => ownsRow_down (h.txs.lns x hx) hB⟩, h.jr, h.good⟩
/-- A step as it came in. -/
structure ActV where
  kd : Int
  bk : Int
  a : Int
  b : Int
  ao : Option Addr
  cap : Nat
  ls : List Ln
  t : ByteArray
def ActV.val (x : ActV) : Value := .agg #[.int .i64 x.kd, .int .i64 x.bk, .int .i64 x.a, .int .i64 x.b, .slice x.ao x.ls.length x.cap, .string x.t]
/-- Its lines can be read, below B. -/
structure ActOk (w : World) (B : Nat) (x : ActV) : Prop where
  at' : LinesAt w (.slice x.ao x.ls.length x.cap) x.ls
  lo : x.ls = [] ∨ ∀ k, (Value.slice x.ao x.ls.length x.cap).ownBlock = some k → k < B
  few : x.ls.length ≤ 8796093022000
  txt : x.t.size ≤ maxLen
def does (k : Int) : Bool := k == 1 || k == 2 || k == 3
def stp (s : Bk) (x : ActV) : Bk := if x.kd == 1 then (opn s x.a).2.2 else if x.kd == 2 then (cls s x.a).2 else if x.kd == 3 then (pst s x.a x.b x.ls).2 else s

set_option maxRecDepth 100000 in
set_option maxHeartbeats 4000000 in
theorem do_any (B q p c : Nat) (s : Bk) (x : ActV) (w : World) (h : PairAt w B q p c s) (hx : ActOk w B x) (hd : does x.kd = true) :
    Calls Tryz.prog 36 #[.pointer (some ⟨q, 0, none⟩), x.val] w fun e w' => e = .returned (.bool true) ∧ PairAt w' B q p c (stp s x) ∧ FrT B tLaw w w' := by
  obtain ⟨kd, bk, a, b, ao, cap, ls, t⟩ := x
  obtain ⟨hl, hlo, hn, _⟩ := hx
  simp only at hl hlo hn hd
  unfold ActV.val
  simp only
  obtain ⟨W, hW⟩ : ∃ W, w.alloc (.cells #[.int .i64 kd, .int .i64 bk, .int .i64 a, .int .i64 b, .slice ao ls.length cap, .string t] 33) = W := ⟨_, rfl⟩
  have HX : Hid (Blk W w.heap.size #[.int .i64 kd, .int .i64 bk, .int .i64 a, .int .i64 b, .slice ao ls.length cap, .string t] 33) := by rw [← hW]; exact Blk.new _ _ _
  have Hb0 : Hid (Below w.heap.size w W) := by rw [← hW]; exact (Below.refl _ _).alloc (Nat.le_refl _) _
  have H0 := hide (h.kept (unhide Hb0))
  have Hl0 := hide (hl.kept (unhide Hb0))
  have Hlo := hide hlo
  have x0 := (unhide HX).cell 0
  have x1 := (unhide HX).cell 1
  have x2 := (unhide HX).cell 2
  have x3 := (unhide HX).cell 3
  have x4 := (unhide HX).cell 4
  have x5 := (unhide HX).cell 5
  simp only [List.getElem?_toArray, List.getElem?_cons_zero, List.getElem?_cons_succ] at x0 x1 x2 x3 x4 x5
  clear h hl hlo
  have h3 : kd = 1 ∨ kd = 2 ∨ kd = 3 := by
    unfold does at hd
    simp only [Bool.or_eq_true, beq_iff_eq] at hd
    omega
  rcases h3 with rfl | rfl | rfl
  · have hs : stp s ⟨1, bk, a, b, ao, cap, ls, t⟩ = (opn s a).2.2 := rfl
    rw [hs]
    have Hc := hide (opened_any B q p c s 1 bk a b ao ls.length cap t W (unhide H0))
    clear hs hd
    go_enter Tryz.func36, Tryz.ntmps36
    go_wp2_with fail
    try rw [hW]
    refine (unhide Hc).mono ?_
    rintro e w1 ⟨rfl, h1, h2⟩
    have H1 := hide h1
    have H2 : Hid (FrT B tLaw w w1) := (FrT.of_below (unhide Hb0)).trans (h2.mono (by simp [tLaw]; intros; simp [*]))
    clear h1 h2
    go_wp2_with fail
    go_ret
    exact ⟨rfl, unhide H1, unhide H2⟩
  · have hs : stp s ⟨2, bk, a, b, ao, cap, ls, t⟩ = (cls s a).2 := rfl
    rw [hs]
    have Hc := hide (closed_any B q p c s 2 bk a b ao ls.length cap t W (unhide H0))
    clear hs hd
    go_enter Tryz.func36, Tryz.ntmps36
    go_wp2_with fail
    try rw [hW]
    refine (unhide Hc).mono ?_
    rintro e w1 ⟨rfl, h1, h2⟩
    have H1 := hide h1
    have H2 : Hid (FrT B tLaw w w1) := (FrT.of_below (unhide Hb0)).trans (h2.mono (by simp [tLaw]; intros; simp [*]))
    clear h1 h2
    go_wp2_with fail
    go_ret
    exact ⟨rfl, unhide H1, unhide H2⟩
  · have hs : stp s ⟨3, bk, a, b, ao, cap, ls, t⟩ = (pst s a b ls).2 := rfl
    rw [hs]
    have Hc := hide (posted_any B q p c s 3 bk a b ao cap ls t W (unhide H0) (unhide Hl0) (unhide Hlo) hn)
    clear hs hd
    go_enter Tryz.func36, Tryz.ntmps36
    go_wp2_with fail
    try rw [hW]
    refine (unhide Hc).mono ?_
    rintro e w1 ⟨rfl, h1, h2⟩
    have H1 := hide h1
    have H2 : Hid (FrT B tLaw w w1) := (FrT.of_below (unhide Hb0)).trans h2
    clear h1 h2
    go_wp2_with fail
    go_ret
    exact ⟨rfl, unhide H1, unhide H2⟩

set_option maxRecDepth 100000 in
set_option maxHeartbeats 2000000 in
theorem begun_any (w : World) :
    Calls Tryz.prog 35 #[] w fun e w' => ∃ q p c, e = .returned (.pointer (some ⟨q, 0, none⟩)) ∧ PairAt w' w.heap.size q p c bk0 ∧ Below w.heap.size w w' := by
  go_enter Tryz.func35, Tryz.ntmps35
  go_wp2_with fail
  refine (dayNew_any _).mono ?_
  rintro e w1 ⟨p, rfl, hp, hb1⟩
  have Hp := hide hp
  have Hb1 := hide hb1
  clear hp hb1
  go_wp2_with fail
  refine (refNew_any _).mono ?_
  rintro e w2 ⟨c, rfl, hc, hb2⟩
  have HL : Hid (Led w2 w.heap.size p bk0) := by
    obtain ⟨va, vt, tv, h⟩ := unhide Hp
    exact ⟨_, _, _, h.kept hb2⟩
  have HR : Hid (Rfd w2 w.heap.size c bk0) := by
    obtain ⟨vp, vc, vu, tu, h⟩ := hc
    have hbs := (unhide Hb1).size
    exact ⟨_, _, _, _, h.base hbs⟩
  have Hb2 := hide ((unhide Hb1).then hb2)
  have hsz2 := (unhide Hb2).size
  clear hc hb2
  go_wp2_with fail
  go_ret
  have hal : Below w2.heap.size w2 (w2.alloc (Obj.cells #[Value.pointer (some { block := p, off := 0 }), Value.pointer (some { block := c, off := 0 }), Value.slice none 0 0, Value.slice none 0 0] 30)) := (Below.refl _ _).alloc (Nat.le_refl _) _
  obtain ⟨va, vt, tv, h1⟩ := unhide HL
  obtain ⟨vp, vc, vu, tu, h2⟩ := unhide HR
  exact ⟨_, p, c, rfl, ⟨Blk.new _ _ _, ⟨_, _, _, h1.kept hal⟩, ⟨_, _, _, _, h2.kept hal⟩⟩, (unhide Hb2).alloc hsz2 _⟩

end Go.Proofs.YtfancgphkcjgmaaGreatDoor
namespace Go.Proofs.YtfancgphkcjgmaaGreatDoor
open Go.RowKit Db

/-- Steps that came in, below B. -/
structure ActsAt (w : World) (B : Nat) (v : Value) (xs : List ActV) : Prop where
  form : ∃ ao cap, v = .slice ao xs.length cap ∧ (xs = [] ∨ ∃ b off, ao = some ⟨b, off, none⟩ ∧ b < B ∧ ∀ (i : Nat) (x : ActV), xs[i]? = some x →
    w.cell? ⟨b, off + i * 6, none⟩ = some (.int .i64 x.kd) ∧ w.cell? ⟨b, off + i * 6 + 1, none⟩ = some (.int .i64 x.bk) ∧ w.cell? ⟨b, off + i * 6 + 2, none⟩ = some (.int .i64 x.a) ∧ w.cell? ⟨b, off + i * 6 + 3, none⟩ = some (.int .i64 x.b) ∧
    w.cell? ⟨b, off + i * 6 + 4, none⟩ = some (.slice x.ao x.ls.length x.cap) ∧ w.cell? ⟨b, off + i * 6 + 5, none⟩ = some (.string x.t))
  oks : ∀ x ∈ xs, ActOk w B x
theorem LinesAt.below {w w' : World} {B : Nat} {v : Value} {ls : List Ln} (h : LinesAt w v ls) (hb : Below B w w') (hg : ls = [] ∨ ∀ k, v.ownBlock = some k → k < B) : LinesAt w' v ls := by
  obtain ⟨ao, cap, rfl, hr⟩ := h
  refine ⟨ao, cap, rfl, ?_⟩
  rcases hg with hg | hg
  · exact .inl hg
  rcases hr with hr | ⟨b, off, rfl, hlt, hc⟩
  · exact .inl hr
  · refine .inr ⟨b, off, rfl, Nat.lt_of_lt_of_le hlt hb.size, fun i l hl => ?_⟩
    rw [hb.cell (p := ⟨b, off + i * 2, none⟩) (hg b rfl), hb.cell (p := ⟨b, off + i * 2 + 1, none⟩) (hg b rfl)]
    exact hc i l hl
theorem ActsAt.below {w w' : World} {B : Nat} {v : Value} {xs : List ActV} (h : ActsAt w B v xs) (hb : Below B w w') : ActsAt w' B v xs := by
  obtain ⟨⟨ao, cap, rfl, hr⟩, ho⟩ := h
  refine ⟨⟨ao, cap, rfl, ?_⟩, fun x hx => ⟨(ho x hx).at'.below hb (ho x hx).lo, (ho x hx).lo, (ho x hx).few, (ho x hx).txt⟩⟩
  rcases hr with hr | ⟨b, off, rfl, hlt, hc⟩
  · exact .inl hr
  · refine .inr ⟨b, off, rfl, hlt, fun i x hx => ?_⟩
    have h1 : ∀ j, w'.cell? ⟨b, j, none⟩ = w.cell? ⟨b, j, none⟩ := fun j => hb.cell (p := ⟨b, j, none⟩) hlt
    rw [h1, h1, h1, h1, h1, h1]
    exact hc i x hx

def run (s : Bk) (xs : List ActV) : Bk := xs.foldl (fun s x => if does x.kd then stp s x else s) s
theorem run_step {s : Bk} {xs : List ActV} {j : Nat} {x : ActV} (h : xs[j]? = some x) : run s (xs.take (j + 1)) = (if does x.kd then stp (run s (xs.take j)) x else run s (xs.take j)) := by
  unfold run
  rw [List.take_add_one, h]
  simp

set_option maxRecDepth 100000 in
set_option maxHeartbeats 4000000 in
theorem played_nil (w : World) :
    Calls Tryz.prog 15 #[.slice none 0 0, .int .i64 0, .int .i64 0] w fun e w' => ∃ q p c, e = .returned (.pointer (some ⟨q, 0, none⟩)) ∧ PairAt w' w.heap.size q p c bk0 ∧ Below w.heap.size w w' := by
  go_enter Tryz.func15, Tryz.ntmps15
  go_wp2_with fail
  refine (begun_any _).mono ?_
  rintro e w1 ⟨q, p, c, rfl, h1, hb1⟩
  have H1 := hide h1
  have Hb1 := hide hb1
  clear h1 hb1
  go_wp2_with fail
  go_loopg [8] 0 (fun m i wr => m = 0 ∧ i = .int .i64 0 ∧ wr = w1)
  case atStart => exact ⟨rfl, rfl, rfl⟩
  case round =>
    obtain ⟨rfl, rfl, rfl⟩ := hrel
    go_wp2_with fail
    go_ret
    exact ⟨q, p, c, rfl, unhide H1, unhide Hb1⟩

set_option maxRecDepth 100000 in
set_option maxHeartbeats 4000000 in
theorem played_any (v : Value) (xs : List ActV) (ka kb : Int) (w : World) (h : ActsAt w w.heap.size v xs) (hka : does ka = true) (hkb : does kb = true) (hlen : xs.length ≤ 9223372036854775800) :
    Calls Tryz.prog 15 #[v, .int .i64 ka, .int .i64 kb] w fun e w' => ∃ q p c, e = .returned (.pointer (some ⟨q, 0, none⟩)) ∧ PairAt w' w.heap.size q p c (run bk0 xs) ∧ Below w.heap.size w w' := by
  obtain ⟨ao, cap, rfl⟩ : ∃ ao cap, v = .slice ao xs.length cap := by obtain ⟨⟨ao, cap, rfl, _⟩, _⟩ := h; exact ⟨ao, cap, rfl⟩
  have H := hide h
  have Hka : Hid (∀ k, does k = false → (k == ka) = false) := fun k hk => by
    cases hx : (k == ka) with
    | false => rfl
    | true => rw [beq_iff_eq.1 hx, hka] at hk; cases hk
  have Hkb : Hid (∀ k, does k = false → (k == kb) = false) := fun k hk => by
    cases hx : (k == kb) with
    | false => rfl
    | true => rw [beq_iff_eq.1 hx, hkb] at hk; cases hk
  clear h hka hkb
  go_enter Tryz.func15, Tryz.ntmps15
  go_wp2_with fail
  refine (begun_any _).mono ?_
  rintro e w1 ⟨q, p, c, rfl, h1, hb1⟩
  have H1 := hide h1
  have Hb1 := hide hb1
  clear h1 hb1
  go_wp2_with fail
  go_loopg [8] xs.length (fun m i wr => ∃ j : Nat, j ≤ xs.length ∧ m = xs.length - j ∧ i = .int .i64 j ∧ Hid (PairAt wr w.heap.size q p c (run bk0 (xs.take j))) ∧ Hid (Below w.heap.size w wr))
  case atStart => exact ⟨0, by omega, rfl, rfl, unhide H1, unhide Hb1⟩
  case round =>
    obtain ⟨j, hj, rfl, rfl, HP, Hb⟩ := hrel
    by_cases hlt : j < xs.length
    · obtain ⟨x, hx⟩ : ∃ x, xs[j]? = some x := ⟨xs[j], List.getElem?_eq_getElem hlt⟩
      have hat := (unhide H).below (unhide Hb)
      have Hst := hide (run_step (s := bk0) hx)
      have Hok := hide (hat.oks x (List.mem_of_getElem? hx))
      obtain ⟨⟨ao', cap', e1, hr⟩, _⟩ := hat
      simp only [Value.slice.injEq, true_and] at e1
      obtain ⟨rfl, rfl⟩ := e1
      have hr2 := hr.resolve_left (by rintro rfl; simp at hx)
      obtain ⟨b, off, rfl, hbl, hc⟩ := hr2
      have hcx := hc j x hx
      obtain ⟨d0, d1, d2, d3, d4, d5⟩ := hcx
      have Hval : Hid (x.val = .agg #[.int .i64 x.kd, .int .i64 x.bk, .int .i64 x.a, .int .i64 x.b, .slice x.ao x.ls.length x.cap, .string x.t]) := rfl
      have hjj : (j : Int) < (xs.length : Int) := by omega
      clear hr hc hx
      cases hd : does x.kd with
      | false =>
        have ha := unhide Hka _ hd
        have hb := unhide Hkb _ hd
        have hd' := hd
        unfold does at hd'
        simp only [Bool.or_eq_false_iff] at hd'
        obtain ⟨⟨h1, h2⟩, h3⟩ := hd'
        have HP2 : Hid (PairAt wr w.heap.size q p c (run bk0 (xs.take (j + 1)))) := by
          have := unhide Hst
          rw [hd] at this
          simp only [Bool.false_eq_true, if_false] at this
          show PairAt _ _ _ _ _ _
          rw [this]
          exact unhide HP
        obtain ⟨kd, hkd⟩ : ∃ kd, x.kd = kd := ⟨_, rfl⟩
        rw [hkd] at d0 h1 h2 h3 ha hb
        have hna : (kd != ka) = true := by simp [bne, ha]
        have hnb : (kd != kb) = true := by simp [bne, hb]
        clear hd hkd Hst
        go_wp2_with fail
        go_roundg (xs.length - (j + 1))
        case measure => omega
        case rel => exact ⟨j + 1, by omega, rfl, by go_num, unhide HP2, unhide Hb⟩
      | true =>
        have Hdo := hide (do_any w.heap.size q p c (run bk0 (xs.take j)) x wr (unhide HP) (unhide Hok) hd)
        have Hst2 : Hid (run bk0 (xs.take (j + 1)) = stp (run bk0 (xs.take j)) x) := by
          show _ = _
          have := unhide Hst
          rw [hd] at this
          simpa using this
        have h3 : x.kd = 1 ∨ x.kd = 2 ∨ x.kd = 3 := by
          unfold does at hd
          simp only [Bool.or_eq_true, beq_iff_eq] at hd
          omega
        rw [unhide Hval] at Hdo
        have hsz := (unhide Hb).size
        clear hd Hst
        obtain ⟨kd, hkd⟩ : ∃ kd, x.kd = kd := ⟨_, rfl⟩
        rw [hkd] at d0 h3 Hdo
        clear hkd
        rcases h3 with rfl | rfl | rfl
        all_goals
          go_wp2_with fail
          refine (unhide Hdo).mono ?_
          rintro e w2 ⟨rfl, h1, h2⟩
          have HP2 : Hid (PairAt w2 w.heap.size q p c (run bk0 (xs.take (j + 1)))) := by show PairAt _ _ _ _ _ _; rw [unhide Hst2]; exact h1
          have Hb2 : Hid (Below w.heap.size w w2) := (unhide Hb).trans (h2.below hsz)
          clear h1 h2
          go_wp2_with fail
          go_roundg (xs.length - (j + 1))
          case measure => omega
          case rel => exact ⟨j + 1, by omega, rfl, by go_num, unhide HP2, unhide Hb2⟩
    · obtain rfl : j = xs.length := by omega
      have HP2 : Hid (PairAt wr w.heap.size q p c (run bk0 xs)) := by have := unhide HP; rw [List.take_length] at this; exact this
      go_wp2_with fail
      go_ret
      exact ⟨q, p, c, rfl, unhide HP2, unhide Hb⟩

theorem bk0_accT : accT bk0 = [] := rfl

set_option maxRecDepth 100000 in
set_option maxHeartbeats 4000000 in
theorem accounted_walk (v : Value) (xs : List ActV) (w : World) (h : ActsAt w w.heap.size v xs) (hlen : xs.length ≤ 9223372036854775800) (ht : Tab w) :
    Calls Tryz.prog 4 #[v] w fun e w' => e = .returned (.bool true) ∧ Below w.heap.size w w' := by
  obtain ⟨ao, cap, rfl⟩ : ∃ ao cap, v = .slice ao xs.length cap := by obtain ⟨⟨ao, cap, rfl, _⟩, _⟩ := h; exact ⟨ao, cap, rfl⟩
  have H := hide h
  have Ht := hide ht
  clear h ht
  go_enter Tryz.func4, Tryz.ntmps4
  go_wp2_with fail
  refine (played_nil _).mono ?_
  rintro e w1 ⟨q, p, c, rfl, h1, hb1⟩
  have H1 := hide h1
  have Hb1 := hide hb1
  have c0 := h1.blk.cell 0
  simp only [List.getElem?_toArray, List.getElem?_cons_zero] at c0
  clear h1 hb1
  go_wp2_with fail
  refine (dayAccounts_any w.heap.size p bk0 _ (unhide H1).led ((unhide Ht).below (unhide Hb1))).mono ?_
  rintro e w2 ⟨u, rfl, hu, hb2⟩
  have hu0 : u = ⟨#[]⟩ := L_inj (by rw [hu]; rfl)
  subst hu0
  have Hb2 := hide ((unhide Hb1).then hb2)
  have hsz2 := (unhide Hb2).size
  have HA : Hid (ActsAt w2 w2.heap.size (.slice ao xs.length cap) xs) := by
    have h2 := (unhide H).below (unhide Hb2)
    obtain ⟨⟨ao', cap', e1, hr⟩, ho⟩ := h2
    refine ⟨⟨ao', cap', e1, ?_⟩, fun x hx => ⟨(ho x hx).at', (ho x hx).lo.imp id (fun hh k hk => Nat.lt_of_lt_of_le (hh k hk) hsz2), (ho x hx).few, (ho x hx).txt⟩⟩
    rcases hr with hr | ⟨b, off, ha, hbl, hc⟩
    · exact .inl hr
    · exact .inr ⟨b, off, ha, Nat.lt_of_lt_of_le hbl hsz2, hc⟩
  clear hu hb2
  go_wp2_with fail
  refine (played_any _ xs 1 2 _ (unhide HA) rfl rfl hlen).mono ?_
  rintro e w3 ⟨q3, p3, c3, rfl, h3, hb3⟩
  have H3 := hide h3
  have Hb3 := hide ((unhide Hb2).then hb3)
  have d0 := h3.blk.cell 0
  simp only [List.getElem?_toArray, List.getElem?_cons_zero] at d0
  clear h3 hb3
  go_wp2_with fail
  refine (dayAccounts_any w2.heap.size p3 (run bk0 xs) _ (unhide H3).led ((unhide Ht).below (unhide Hb3))).mono ?_
  rintro e w4 ⟨u, rfl, hu, hb4⟩
  have H4 := hide ((unhide H3).kept hb4)
  have Hb4 := hide ((unhide Hb3).then hb4)
  have d1 := (unhide H4).blk.cell 1
  simp only [List.getElem?_toArray, List.getElem?_cons_zero, List.getElem?_cons_succ] at d1
  have Hu := hide hu
  clear hu hb4
  go_wp2_with fail
  refine (refAccounts_any w2.heap.size c3 (run bk0 xs) _ (unhide H4).rfd).mono ?_
  rintro e w5 ⟨u', rfl, hu', hb5⟩
  obtain rfl : u' = u := L_inj (hu'.trans (unhide Hu).symm)
  have Hb5 := hide ((unhide Hb4).then hb5)
  clear hu' hb5
  go_wp2_with fail
  go_ret
  exact ⟨rfl, unhide Hb5⟩

end Go.Proofs.YtfancgphkcjgmaaGreatDoor
namespace Go.Proofs.YtfancgphkcjgmaaGreatDoor
open Go.RowKit Db Go.ChangeShapes Go.WideShapes Go.ChangeAt Go.WideMaps Go.WideElems Go.Deep

theorem cInt : Tryz.prog.cellsOf 3 = 1 := by kernel_rfl
theorem cStr : Tryz.prog.cellsOf 9 = 1 := by kernel_rfl
theorem cLns : Tryz.prog.cellsOf 31 = 1 := by kernel_rfl
theorem cLine : Tryz.prog.cellsOf 76 = 2 := by kernel_rfl
theorem cAct : Tryz.prog.cellsOf 33 = 6 := by kernel_rfl
theorem bLine : Tryz.prog.bytesOf 76 = 16 := by kernel_rfl
theorem bAct : Tryz.prog.bytesOf 33 = 72 := by kernel_rfl
theorem reach_eq : reachBytes = 140737488351232 := rfl
theorem blk_lt {w : World} {a : Addr} {v : Value} (h : w.cell? a = some v) : a.block < w.heap.size := World.block_lt_of_cell? w a h
def intV : Value → Int
  | .int _ n => n
  | _ => 0

section
variable {H : Type} {enc : TypeId × Value → H} {W : World} {fuel : Nat} {x : DataW H × List MemPlace}
theorem open_lines {v : Value} (h : DataW.trod enc Tryz.prog W 0 (fun _ => true) true fuel 31 [v] = some x) :
    ∃ ao cap ls, v = .slice ao ls.length cap ∧ LinesAt W v ls ∧ (ls = [] ∨ ∀ k, v.ownBlock = some k → k < W.heap.size) ∧ (ls = [] ∨ ∃ el sp, x.1 = .slice el sp ∧ el.length = ls.length) := by
  rcases open_slice_pairs Tryz.underlying31 Tryz.underlying76 cLine rfl rfl cInt cInt h with ⟨hc, hx⟩ | ⟨a, len, cap, m, n, V0, V1, D0, D1, P0, P1, hc, _, hl, hm, hmm, hx, hcell⟩
  · simp only [List.cons.injEq, and_true] at hc
    subst hc
    exact ⟨none, 0, [], rfl, ⟨none, 0, rfl, .inl rfl⟩, .inl rfl, .inl rfl⟩
  · simp only [List.cons.injEq, and_true] at hc
    subst hc
    simp only [if_true] at hmm
    by_cases h0 : len = 0
    · subst h0
      exact ⟨some a, cap, [], rfl, ⟨some a, cap, rfl, .inl rfl⟩, .inl rfl, .inl rfl⟩
    · obtain ⟨b, off, spot⟩ := a
      have hspot : spot = none := by simpa [Addr.add] using World.cell?_spot (hcell 0 (by omega)).1
      subst hspot
      have hV : ∀ i, i < m → V0 i = .int .i64 (intV (V0 i)) ∧ V1 i = .int .i64 (intV (V1 i)) := by
        intro i hi
        obtain ⟨_, _, t0, t1⟩ := hcell i hi
        obtain ⟨k0, e0, _⟩ := DataW.trod_int Tryz.underlying3 t0
        obtain ⟨k1, e1, _⟩ := DataW.trod_int Tryz.underlying3 t1
        simp only [List.cons.injEq, and_true] at e0 e1
        rw [e0, e1]
        exact ⟨rfl, rfl⟩
      have hbl : b < W.heap.size := by
        have := blk_lt (hcell 0 (by omega)).1
        simpa [Addr.add] using this
      refine ⟨some ⟨b, off, none⟩, cap, (List.range len).map fun i => (intV (V0 i), intV (V1 i)), by simp, ⟨some ⟨b, off, none⟩, cap, by simp, .inr ⟨b, off, rfl, hbl, fun i l hl => ?_⟩⟩, .inr ?_, .inr ⟨_, _, by rw [hx], by simp⟩⟩
      · rw [List.getElem?_map] at hl
        have hi : i < len := by
          rcases Nat.lt_or_ge i len with hi | hi
          · exact hi
          · rw [List.getElem?_eq_none (by simpa using hi)] at hl; simp at hl
        rw [List.getElem?_range hi] at hl
        simp only [Option.map_some, Option.some.injEq] at hl
        subst hl
        have hc := hcell i (by omega)
        rw [Addr.add_lit, Addr.add_lit] at hc
        have hv := hV i (by omega)
        simp only
        rw [← hv.1, ← hv.2]
        exact ⟨hc.1, by rw [← Nat.add_assoc] at hc; exact hc.2.1⟩
      · intro k hk
        simp only [Value.ownBlock, Option.some.injEq] at hk
        omega

theorem weightsAll_mem {P : Program} {e : TypeId} : ∀ {l : List (DataW H)} {d : DataW H}, d ∈ l → ∀ n ∈ d.weights P e, n ∈ DataW.weightsAll P e l
  | d' :: r, d, hd, n, hn => by
    simp only [DataW.weightsAll, List.mem_append]
    rcases List.mem_cons.1 hd with rfl | h
    · exact Or.inl hn
    · exact Or.inr (weightsAll_mem h n hn)

instance : Inhabited ActV := ⟨⟨0, 0, 0, 0, none, 0, [], ⟨#[]⟩⟩⟩
set_option maxRecDepth 100000 in
/-- One step, from its six cells. -/
theorem open_act {cs : List Value} (h : DataW.trod enc Tryz.prog W 0 (fun _ => true) true fuel 33 cs = some x) (hcs : cs.length = 6) (hsz : ∀ n ∈ x.1.weights Tryz.prog 33, n ≤ reachBytes) :
    ∃ y : ActV, cs = [.int .i64 y.kd, .int .i64 y.bk, .int .i64 y.a, .int .i64 y.b, .slice y.ao y.ls.length y.cap, .string y.t] ∧ ActOk W W.heap.size y := by
  obtain ⟨xs, n, rfl, rfl, _, hxl, hf⟩ := DataW.trod_struct Tryz.underlying33 h
  match cs, hcs, xs, hxl with
  | [v0, v1, v2, v3, v4, v5], _, [y0, y1, y2, y3, y4, y5], _ =>
    have g0 := hf 0 _ rfl
    have g1 := hf 1 _ rfl
    have g2 := hf 2 _ rfl
    have g3 := hf 3 _ rfl
    have g4 := hf 4 _ rfl
    have g5 := hf 5 _ rfl
    simp [cInt, cStr, cLns] at g0 g1 g2 g3 g4 g5
    obtain ⟨k0, e0, _⟩ := DataW.trod_int Tryz.underlying3 g0
    obtain ⟨k1, e1, _⟩ := DataW.trod_int Tryz.underlying3 g1
    obtain ⟨k2, e2, _⟩ := DataW.trod_int Tryz.underlying3 g2
    obtain ⟨k3, e3, _⟩ := DataW.trod_int Tryz.underlying3 g3
    obtain ⟨s5, e5, _, hs5⟩ := DataW.trod_string Tryz.underlying9 g5
    obtain ⟨ao, cap, ls, e4, hL, hlo, hw⟩ := open_lines g4
    simp only [List.cons.injEq, and_true] at e0 e1 e2 e3 e5
    subst e0 e1 e2 e3 e4 e5
    refine ⟨⟨k0, k1, k2, k3, ao, cap, ls, s5⟩, rfl, hL, hlo, ?_, hs5⟩
    rcases hw with rfl | ⟨el, sp, hx4, hel⟩
    · simp
    · have := hsz ((el.length + sp.length) * 16) (by
        simp only [List.map_cons, List.map_nil, DataW.weights, Tryz.underlying33]
        simp [DataW.weightsEach, hx4, DataW.weights, Tryz.underlying31, bLine])
      rw [reach_eq] at this
      simp only
      omega

/-- All steps. -/
theorem open_acts {v : Value} {ts : List TypeId} {ds : List (DataW H)} (h : DataW.trod enc Tryz.prog W 0 (fun _ => true) true fuel 22 [v] = some x) (hsz : (DataW.weightsEach Tryz.prog ts ds).all (· ≤ reachBytes) = true) {j : Nat} (hj : ts[j]? = some 22) (hd : ds[j]? = some x.1) :
    ∃ ys : List ActV, ActsAt W W.heap.size v ys ∧ ys.length ≤ 9223372036854775800 := by
  rcases open_slice Tryz.underlying22 h with ⟨hc, hx⟩ | ⟨a, len, cap, m, n, D, Pl, hc, _, hl, hm, hmm, hx, hel⟩
  · simp only [List.cons.injEq, and_true] at hc
    subst hc
    exact ⟨[], ⟨⟨none, 0, rfl, .inl rfl⟩, by simp⟩, by simp⟩
  · simp only [List.cons.injEq, and_true] at hc
    subst hc
    simp only [if_true] at hmm
    subst hx
    have hbig := sized_slice hsz hj hd Tryz.underlying22
    rw [bAct, reach_eq] at hbig
    simp only [List.length_map, List.length_range] at hbig
    by_cases h0 : len = 0
    · subst h0
      exact ⟨[], ⟨⟨some a, cap, rfl, .inl rfl⟩, by simp⟩, by simp⟩
    · obtain ⟨b, off, spot⟩ := a
      have each : ∀ i, i < len → ∃ y : ActV, (∀ (f : Nat) (u : Value), [Value.int .i64 y.kd, .int .i64 y.bk, .int .i64 y.a, .int .i64 y.b, .slice y.ao y.ls.length y.cap, .string y.t][f]? = some u → W.cell? ((⟨b, off, spot⟩ : Addr).add (i * 6 + f)) = some u) ∧ ActOk W W.heap.size y := by
        intro i hi
        obtain ⟨cs', h1, h2⟩ := hel i (by omega)
        rw [cAct] at h1
        obtain ⟨_, hlen, hcell⟩ := World.cells?_some h1
        obtain ⟨y, rfl, hy⟩ := open_act h2 hlen (fun k hk => by
          refine of_decide_eq_true (List.all_eq_true.1 hsz _ (DataW.weights_mem_each hj hd _ ?_))
          simp only [DataW.weights, Tryz.underlying22, List.mem_cons, List.mem_append]
          exact Or.inr (Or.inl (weightsAll_mem (List.mem_map.2 ⟨i, List.mem_range.2 hi, rfl⟩) _ hk)))
        refine ⟨y, fun f u hu => ?_, hy⟩
        have hf : f < 6 := by have := (List.getElem?_eq_some_iff.1 hu).1; simpa using this
        have he := hcell f hf
        rw [hu, add_add] at he
        exact he
      have hspot : spot = none := by
        obtain ⟨y, hy, _⟩ := each 0 (by omega)
        have := World.cell?_spot (hy 0 _ rfl)
        simpa [Addr.add] using this
      subst hspot
      have hbl : b < W.heap.size := by
        obtain ⟨y, hy, _⟩ := each 0 (by omega)
        have := blk_lt (hy 0 _ rfl)
        simpa [Addr.add] using this
      obtain ⟨Y, hY⟩ := choose_lt each
      refine ⟨(List.range len).map Y, ⟨⟨some ⟨b, off, none⟩, cap, by simp, .inr ⟨b, off, rfl, hbl, fun i y hy => ?_⟩⟩, fun y hy => ?_⟩, by simp; omega⟩
      · rw [List.getElem?_map] at hy
        have hi : i < len := by
          rcases Nat.lt_or_ge i len with hi | hi
          · exact hi
          · rw [List.getElem?_eq_none (by simpa using hi)] at hy; simp at hy
        rw [List.getElem?_range hi] at hy
        simp only [Option.map_some, Option.some.injEq] at hy
        subst hy
        have hc := (hY i hi).1
        refine ⟨?_, ?_, ?_, ?_, ?_, ?_⟩
        · have := hc 0 _ rfl; rw [Addr.add_lit] at this; simpa [Nat.add_assoc] using this
        · have := hc 1 _ rfl; rw [Addr.add_lit] at this; simpa [Nat.add_assoc] using this
        · have := hc 2 _ rfl; rw [Addr.add_lit] at this; simpa [Nat.add_assoc] using this
        · have := hc 3 _ rfl; rw [Addr.add_lit] at this; simpa [Nat.add_assoc] using this
        · have := hc 4 _ rfl; rw [Addr.add_lit] at this; simpa [Nat.add_assoc] using this
        · have := hc 5 _ rfl; rw [Addr.add_lit] at this; simpa [Nat.add_assoc] using this
      · obtain ⟨i, hi, rfl⟩ := List.mem_map.1 hy
        exact (hY i (List.mem_range.1 hi)).2
end
end Go.Proofs.YtfancgphkcjgmaaGreatDoor
namespace Go.Proofs.YtfancgphkcjgmaaGreatDoor
open Go.RowKit Db

set_option maxRecDepth 100000 in
set_option maxHeartbeats 2000000 in
theorem within_any (B p : Nat) (s : Bk) (a n : Int) (w : World) (h : Rfd w B p s) (ha : a < s.acs.length) :
    Calls Tryz.prog 172 #[.pointer (some ⟨p, 0, none⟩), .int .i64 a, .int .i64 n] w fun e w' => e = .returned (.bool (wth s.acs n 16 a)) ∧ w' = w := by
  obtain ⟨vp, vc, vt, tv, h⟩ := h
  obtain ⟨g, cap, rfl, hg, hg'⟩ := ownsRow_some h.par h.good.one
  have c0 := h.blk.cell 0
  simp only [List.getElem?_toArray, List.getElem?_cons_zero] at c0
  have hfew := h.good.few
  have H := hide h
  clear h
  go_enter Tryz.func172, Tryz.ntmps172
  go_wp2_with fail
  go_loopg [1, 7] 16 (fun m v i wr => ∃ j : Nat, ∃ x : Int, j ≤ 16 ∧ m = 16 - j ∧ i = .int .i64 j ∧ v = .int .i64 x ∧ x < s.acs.length ∧ Hid (wth s.acs n (16 - j) x = wth s.acs n 16 a) ∧ wr = w)
  case atStart => exact ⟨0, a, by omega, rfl, rfl, rfl, ha, rfl, rfl⟩
  case round =>
    obtain ⟨j, x, hj, rfl, rfl, rfl, hx, Ho, rfl⟩ := hrel
    by_cases hlt : j < 16
    · obtain ⟨f, hf⟩ : ∃ f, 16 - j = f + 1 := ⟨15 - j, by omega⟩
      have hw := unhide Ho
      rw [hf, wth_at] at hw
      by_cases h0 : x < 0
      · have hng : ¬ 0 ≤ x := by omega
        rw [if_pos h0] at hw
        have Hw := hide hw
        clear hw
        go_wp2_with fail
        go_ret
        exact ⟨retB' (unhide Hw), rfl⟩
      · rw [if_neg h0] at hw
        have h0' : 0 ≤ x := by omega
        by_cases hn : x = n
        · subst hn
          rw [if_pos (by simp)] at hw
          have Hw := hide hw
          clear hw
          go_wp2_with fail
          go_ret
          exact ⟨retB' (unhide Hw), rfl⟩
        · have hne : (x == n) = false := by simpa using hn
          rw [hne] at hw
          simp only [Bool.false_eq_true, if_false] at hw
          obtain ⟨k, rfl⟩ : ∃ k : Nat, x = k := ⟨x.toNat, by omega⟩
          have hk : k < s.acs.length := by omega
          obtain ⟨c, hc⟩ := acs_get hk
          rw [Int.toNat_natCast, List.getD_eq_getElem?_getD, hc, Option.getD_some] at hw
          have hord := (unhide H).good.ord _ _ hc
          have d := ownsRow_cell (unhide H).par (j := k) (u := .int .i64 c.1) (by rw [List.getElem?_map, hc]; rfl)
          have Hw := hide hw
          obtain ⟨c1, c2⟩ := c
          simp only at d hord Hw
          clear hw hc
          go_wp2_with fail
          go_roundg (16 - (j + 1))
          case measure => omega
          case rel => exact ⟨j + 1, c1, by omega, rfl, by go_num, rfl, by omega, by show _ = _; rw [show 16 - (j + 1) = f by omega]; exact unhide Hw, rfl⟩
    · obtain rfl : j = 16 := by omega
      have Hw : Hid (false = wth s.acs n 16 a) := (unhide Ho)
      clear Ho
      go_wp2_with fail
      go_ret
      exact ⟨retB' (unhide Hw), rfl⟩

set_option maxRecDepth 100000 in
set_option maxHeartbeats 8000000 in
theorem taken_any (B p : Nat) (s : Bk) (sel n a b : Int) (w : World) (h : Rfd w B p s) :
    Calls Tryz.prog 142 #[.pointer (some ⟨p, 0, none⟩), .int .u8 sel, .int .i64 n, .int .i64 a, .int .i64 b] w fun e w' => e = .returned (.tuple #[.int .i64 (tkT (inA s sel n) a b s.txs).1, .int .i64 (tkT (inA s sel n) a b s.txs).2]) ∧ Below w.heap.size w w' := by
  have Hwi := hide (fun (wx : World) (x : Int) (hx : x < s.acs.length) (h : Rfd wx B p s) => within_any B p s x n wx h hx)
  obtain ⟨vp, vc, vt, tv, h⟩ := h
  obtain ⟨ao, cap, rfl⟩ := ownsRow_form h.txs.own
  have c2 := h.blk.cell 2
  simp only [List.getElem?_toArray, List.getElem?_cons_zero, List.getElem?_cons_succ] at c2
  have hlen : tv.length ≤ 64 := by have := h.good.posts; rw [← h.jr, List.length_map] at this; exact this
  have Hjr := hide h.jr
  obtain ⟨q, hq⟩ : ∃ q, inA s sel n = q := ⟨_, rfl⟩
  have Hq := hide hq
  rw [hq]
  have H := hide h
  clear h hq
  go_enter Tryz.func142, Tryz.ntmps142
  go_wp2_with fail
  go_loopg [12, 13, 14] tv.length (fun m v u i wr => ∃ j : Nat, ∃ x : Int, ∃ c : Int, j ≤ tv.length ∧ m = tv.length - j ∧ i = .int .i64 j ∧ v = .int .i64 x ∧ u = .int .i64 c ∧ -(4000000000000 * (j : Int)) ≤ x ∧ x ≤ 4000000000000 * (j : Int) ∧ 0 ≤ c ∧ c ≤ 4 * (j : Int) ∧ Hid (x + (tkT q a b (s.txs.drop j)).1 = (tkT q a b s.txs).1 ∧ c + (tkT q a b (s.txs.drop j)).2 = (tkT q a b s.txs).2) ∧ Hid (Below w.heap.size w wr))
  case atStart => exact ⟨0, 0, 0, by omega, rfl, rfl, rfl, rfl, by omega, by omega, by omega, by omega, ⟨by simp, by simp⟩, Below.refl _ _⟩
  case round =>
    obtain ⟨j, x, c, hj, rfl, rfl, rfl, rfl, hx0, hx1, hc0, hc1, Ho, Hb⟩ := hrel
    have hsz := (unhide Hb).size
    have HB := hide ((unhide H).blk.kept (unhide Hb))
    have e2 := (unhide HB).cell 2
    simp only [List.getElem?_toArray, List.getElem?_cons_zero, List.getElem?_cons_succ] at e2
    by_cases hlt : j < tv.length
    · obtain ⟨⟨t, v⟩, ht⟩ : ∃ t, tv[j]? = some t := ⟨tv[j], List.getElem?_eq_getElem hlt⟩
      obtain ⟨g, _, e1, hg, hg'⟩ := ownsRow_some (unhide H).txs.own (by omega)
      simp only [Value.slice.injEq, true_and] at e1
      obtain ⟨rfl, rfl⟩ := e1
      have h3 := three_get (fun x : Tn × Value => Value.int .i64 x.1.1) (fun x => .int .i64 x.1.2.1) (fun x => x.2) tv j (t, v) ht
      have hro := ownsRow_below (unhide H).txs.own (unhide Hb)
      have d0 := ownsRow_cell hro (j := j * 3) h3.1
      have d1 := ownsRow_cell hro (j := j * 3 + 1) h3.2.1
      have d2 := ownsRow_cell hro (j := j * 3 + 2) h3.2.2
      have hmem := List.mem_of_getElem? ht
      have hl := (unhide H).txs.lns _ hmem
      have hst : s.txs[j]? = some t := by rw [← unhide Hjr, List.getElem?_map, ht]; rfl
      have hgt := (unhide H).good.tx t (List.mem_of_getElem? hst)
      have hga := (unhide H).good.acc t (List.mem_of_getElem? hst)
      have Hst := hide (tkT_O (q := q) (a := a) (b := b) hst)
      obtain ⟨ti, td, ls⟩ := t
      simp only at d0 d1 d2 hl hgt Hst hga
      obtain ⟨aol, capl, rfl⟩ := ownsRow_form hl
      have hl4 := hgt.2.2.2.2.1
      have Hlb := hide hgt.2.2.2.2.2
      have Hga := hide hga
      have Hl := hide (ownsRow_below hl (unhide Hb))
      clear h3 hro hmem hl hst hgt ht hga
      obtain ⟨ok, hok⟩ : ∃ ok, inD a b td = ok := ⟨_, rfl⟩
      rw [hok] at Hst
      go_wp2_with fail
      obtain ⟨W, hW⟩ : ∃ W, W = wr.alloc (.cells #[.int .i64 ti, .int .i64 td, .slice aol ls.length capl] 74) := ⟨_, rfl⟩
      have HbW : Hid (Below w.heap.size w W) := by rw [hW]; exact (unhide Hb).alloc hsz _
      have HlW : Hid (W.ownsRow B 76 2 (.slice aol ls.length capl) ls.length (cellsL ls)) := by rw [hW]; exact (unhide Hl).alloc _
      have HTx : Hid (Blk W wr.heap.size #[.int .i64 ti, .int .i64 td, .slice aol ls.length capl] 74) := by rw [hW]; exact Blk.new _ _ _
      have hWs : W.heap.size = wr.heap.size + 1 := by rw [hW]; simp
      rw [← hW]
      clear hW
      go_loopg [12, 13, 16] ls.length (fun m v u i wx => ∃ k : Nat, ∃ y : Int, ∃ z : Int, k ≤ ls.length ∧ m = ls.length - k ∧ i = .int .i64 k ∧ v = .int .i64 y ∧ u = .int .i64 z ∧ -(4000000000000 * (j : Int)) - 1000000000000 * (k : Int) ≤ y ∧ y ≤ 4000000000000 * (j : Int) + 1000000000000 * (k : Int) ∧ 0 ≤ z ∧ z ≤ 4 * (j : Int) + k ∧ Hid (y + (tkO ok q (ls.drop k)).1 = x + (tkO ok q ls).1 ∧ z + (tkO ok q (ls.drop k)).2 = c + (tkO ok q ls).2) ∧ wx = W)
      case atStart => exact ⟨0, x, c, by omega, rfl, rfl, rfl, rfl, by omega, by omega, by omega, by omega, ⟨by simp, by simp⟩, rfl⟩
      case round =>
        obtain ⟨k, y, z, hk, rfl, rfl, rfl, rfl, hy0, hy1, hz0, hz1, Hy, hWx⟩ := hrel
        subst hWx
        have hszW := (unhide HbW).size
        have t1 := (unhide HTx).cell 1
        have t2 := (unhide HTx).cell 2
        simp only [List.getElem?_toArray, List.getElem?_cons_zero, List.getElem?_cons_succ] at t1 t2
        by_cases hlt2 : k < ls.length
        · obtain ⟨⟨la, lm⟩, hlk⟩ : ∃ l, ls[k]? = some l := ⟨ls[k], List.getElem?_eq_getElem hlt2⟩
          obtain ⟨g2, _, e1, hg2, hg2'⟩ := ownsRow_some (unhide HlW) (by omega)
          simp only [Value.slice.injEq, true_and] at e1
          obtain ⟨rfl, rfl⟩ := e1
          have h2 := two_get (fun x : Ln => Value.int .i64 x.1) (fun x => .int .i64 x.2) ls k (la, lm) hlk
          have f0 := ownsRow_cell (unhide HlW) (j := k * 2) h2.1
          have f1 := ownsRow_cell (unhide HlW) (j := k * 2 + 1) h2.2
          have hb := unhide Hlb (la, lm) (List.mem_of_getElem? hlk)
          have hla := unhide Hga (la, lm) (List.mem_of_getElem? hlk)
          have Hyes := hide (tkO_yes (ok := ok) (q := q) hlk)
          have Hno := hide (tkO_no (ok := ok) (q := q) hlk)
          simp only at f0 f1 hb hla Hyes Hno
          clear h2 hlk
          obtain ⟨wv, hwv⟩ : ∃ wv, wth s.acs n 16 la = wv := ⟨_, rfl⟩
          have Hc := hide (unhide Hwi wr la hla ⟨_, _, _, _, (unhide H).kept (unhide HbW)⟩)
          rw [hwv] at Hc
          have Hwr : Hid (lm ≤ 1000000000000 ∧ -1000000000000 ≤ lm) := ⟨hb.2.2.2, hb.2.2.1⟩
          have hwr : IntKind.i64.wrap (y + lm) = y + lm := by rw [IntKind.wrap_i64]; omega
          have hwz : IntKind.i64.wrap (z + 1) = z + 1 := by rw [IntKind.wrap_i64]; omega
          clear hb
          go_wp2_with fail
          refine (unhide Hc).mono ?_
          rintro e w1 ⟨rfl, hw1⟩
          subst hw1
          have Hin : Hid (q la = if sel == 33 then la == n else wv) := by show _ = _; rw [← unhide Hq, ← hwv]; rfl
          clear hwv Hc
          by_cases hs : sel = 33
          · subst hs
            have Hin2 : Hid (q la = (la == n)) := by show _ = _; have := unhide Hin; simpa using this
            clear Hin
            cases hv : (la == n) with
            | false =>
              have Hn := hide (unhide Hno (.inl (by rw [unhide Hin2, hv])))
              go_wp2_with fail
              go_roundg (ls.length - (k + 1))
              case measure => omega
              case rel => exact ⟨k + 1, y, z, by omega, rfl, by go_num, rfl, rfl, by omega, by omega, by omega, by omega, by have h1 := unhide Hy; have h2 := unhide Hn; show _ ∧ _; omega, rfl⟩
            | true =>
              have Hqt : Hid (q la = true) := by show _ = _; rw [unhide Hin2, hv]
              by_cases e1 : a ≤ td
              · by_cases e2 : td ≤ b
                · have Hn := hide (unhide Hyes (by rw [← hok]; simp [inD, e1, e2]) (unhide Hqt))
                  go_wp2_with fail
                  go_roundg (ls.length - (k + 1))
                  case measure => omega
                  case rel => exact ⟨k + 1, y + lm, z + 1, by omega, rfl, by go_num, rfl, rfl, by have := unhide Hwr; omega, by have := unhide Hwr; omega, by omega, by omega, by have h1 := unhide Hy; have h2 := unhide Hn; show _ ∧ _; omega, rfl⟩
                · have Hn := hide (unhide Hno (.inr (by rw [← hok]; simp [inD, e2])))
                  go_wp2_with fail
                  go_roundg (ls.length - (k + 1))
                  case measure => omega
                  case rel => exact ⟨k + 1, y, z, by omega, rfl, by go_num, rfl, rfl, by omega, by omega, by omega, by omega, by have h1 := unhide Hy; have h2 := unhide Hn; show _ ∧ _; omega, rfl⟩
              · have Hn := hide (unhide Hno (.inr (by rw [← hok]; simp [inD, e1])))
                go_wp2_with fail
                go_roundg (ls.length - (k + 1))
                case measure => omega
                case rel => exact ⟨k + 1, y, z, by omega, rfl, by go_num, rfl, rfl, by omega, by omega, by omega, by omega, by have h1 := unhide Hy; have h2 := unhide Hn; show _ ∧ _; omega, rfl⟩
          · have hne : (sel == 33) = false := by simpa using hs
            have Hin2 : Hid (q la = wv) := by have := unhide Hin; rw [hne] at this; exact this
            clear Hin
            cases wv with
            | false =>
              have Hn := hide (unhide Hno (.inl (unhide Hin2)))
              go_wp2_with fail
              go_roundg (ls.length - (k + 1))
              case measure => omega
              case rel => exact ⟨k + 1, y, z, by omega, rfl, by go_num, rfl, rfl, by omega, by omega, by omega, by omega, by have h1 := unhide Hy; have h2 := unhide Hn; show _ ∧ _; omega, rfl⟩
            | true =>
              by_cases e1 : a ≤ td
              · by_cases e2 : td ≤ b
                · have Hn := hide (unhide Hyes (by rw [← hok]; simp [inD, e1, e2]) (unhide Hin2))
                  go_wp2_with fail
                  go_roundg (ls.length - (k + 1))
                  case measure => omega
                  case rel => exact ⟨k + 1, y + lm, z + 1, by omega, rfl, by go_num, rfl, rfl, by have := unhide Hwr; omega, by have := unhide Hwr; omega, by omega, by omega, by have h1 := unhide Hy; have h2 := unhide Hn; show _ ∧ _; omega, rfl⟩
                · have Hn := hide (unhide Hno (.inr (by rw [← hok]; simp [inD, e2])))
                  go_wp2_with fail
                  go_roundg (ls.length - (k + 1))
                  case measure => omega
                  case rel => exact ⟨k + 1, y, z, by omega, rfl, by go_num, rfl, rfl, by omega, by omega, by omega, by omega, by have h1 := unhide Hy; have h2 := unhide Hn; show _ ∧ _; omega, rfl⟩
              · have Hn := hide (unhide Hno (.inr (by rw [← hok]; simp [inD, e1])))
                go_wp2_with fail
                go_roundg (ls.length - (k + 1))
                case measure => omega
                case rel => exact ⟨k + 1, y, z, by omega, rfl, by go_num, rfl, rfl, by omega, by omega, by omega, by omega, by have h1 := unhide Hy; have h2 := unhide Hn; show _ ∧ _; omega, rfl⟩
        · obtain rfl : k = ls.length := by omega
          have hyy : y = x + (tkO ok q ls).1 ∧ z = c + (tkO ok q ls).2 := by have := unhide Hy; rw [tkO_end] at this; simpa using this
          have Ho2 : Hid (y + (tkT q a b (s.txs.drop (j + 1))).1 = (tkT q a b s.txs).1 ∧ z + (tkT q a b (s.txs.drop (j + 1))).2 = (tkT q a b s.txs).2) := by
            have h1 := unhide Ho
            have h2 := unhide Hst
            show _ ∧ _
            omega
          clear hyy
          go_wp2_with fail
          go_roundg (tv.length - (j + 1))
          case measure => omega
          case rel => exact ⟨j + 1, y, z, by omega, rfl, by go_num, rfl, rfl, by omega, by omega, by omega, by omega, unhide Ho2, unhide HbW⟩
    · obtain rfl : j = tv.length := by omega
      have Hfin : Hid (x = (tkT q a b s.txs).1 ∧ c = (tkT q a b s.txs).2) := by
        have := unhide Ho
        rw [List.drop_of_length_le (by rw [← unhide Hjr, List.length_map]; exact Nat.le_refl _)] at this
        show _ ∧ _
        simpa [tkT] using this
      go_wp2_with fail
      go_ret2
      rw [(unhide Hfin).1, (unhide Hfin).2]
      exact ⟨rfl, unhide Hb⟩

end Go.Proofs.YtfancgphkcjgmaaGreatDoor
namespace Go.Proofs.YtfancgphkcjgmaaGreatDoor
open Go.RowKit Db

theorem ret_int {k : IntKind} {a b : Int} (h : a = b) : Ending.returned (.int k a) = .returned (.int k b) := by rw [h]

theorem bare_yes (s u : ByteArray) (k : Nat) (h : k < s.size) (hb : ¬ s[k].toNat = 32) (hu : L u = bare ((L s).take k)) :
    L (u ++ s.extract k (k + 1)) = bare ((L s).take (k + 1)) := by
  rw [L_append, L_one s k h, L_take_succ s k h, bare_append, bare_other hb, hu]
theorem bare_no (s u : ByteArray) (k : Nat) (h : k < s.size) (hb : s[k].toNat = 32) (hu : L u = bare ((L s).take k)) :
    L u = bare ((L s).take (k + 1)) := by
  rw [L_take_succ s k h, bare_append, bare_blank hb, hu, List.append_nil]
theorem bare_size (s u : ByteArray) (k : Nat) (hu : L u = bare ((L s).take k)) : u.size ≤ k := by
  rw [← L_length, hu]; exact Nat.le_trans (bare_le _) (List.length_take_le _ _)

set_option maxHeartbeats 400000 in
theorem bare_any (s : ByteArray) (w : World) (hs : s.size ≤ 200) :
    Calls Tryz.prog 130 #[.string s] w fun e w' => ∃ t : ByteArray, e = .returned (.string t) ∧ L t = bare (L s) ∧ w' = w := by
  go_enter Tryz.func130, Tryz.ntmps130
  go_wp2
  go_loop [3, 4] (fun t i => ∃ k : Nat, ∃ u : ByteArray, k ≤ s.size ∧ i = .int .i64 k ∧ t = .string u ∧ Hid (L u = bare ((L s).take k))) (fun _ i => s.size - (intOf i).toNat)
  case atStart => exact ⟨0, _, Nat.zero_le _, rfl, rfl, hide rfl⟩
  case round =>
    obtain ⟨k, u, hk, rfl, rfl, Hu⟩ := hrel
    have hz := bare_size s u k (unhide Hu)
    by_cases hlt : k < s.size
    · by_cases hb : s[k].toNat = 32
      · have hb' : ((s[k].toNat : Int) != 32) = false := by simp; omega
        go_wp2
        go_round
        case rel => exact ⟨k + 1, u, by omega, by go_num, rfl, bare_no s u k hlt hb (unhide Hu)⟩
        case measure => simp [intOf]; omega
      · have hb' : ((s[k].toNat : Int) != 32) = true := by simp; omega
        go_wp2
        go_round
        case rel => exact ⟨k + 1, _, by omega, by go_num, rfl, bare_yes s u k hlt hb (unhide Hu)⟩
        case measure => simp [intOf]; omega
    · go_wp2
      go_ret
      exact ⟨u, rfl, by rw [unhide Hu, L_take_end s k (by omega)], rfl⟩

theorem val_step (s : ByteArray) (k : Nat) (h : k < s.size) (n : Int) : valGo n ((L s).drop k) = valGo (10 * n + ((s[k].toNat : Int) - 48)) ((L s).drop (k + 1)) := by
  rw [L_drop s k h]; rfl
def pow10 (k : Nat) : Int := 10 ^ k
theorem pow10_succ (k : Nat) : pow10 (k + 1) = 10 * pow10 k := by unfold pow10; rw [Int.pow_succ]; omega
theorem pow10_pos (k : Nat) : 1 ≤ pow10 k := by
  induction k with
  | zero => decide
  | succ k ih => rw [pow10_succ]; omega
theorem pow10_le (k : Nat) (h : k ≤ 17) : pow10 k ≤ 100000000000000000 := by
  have : pow10 17 = 100000000000000000 := by decide
  have key : ∀ d j : Nat, j + d = 17 → pow10 j ≤ pow10 17 := by
    intro d
    induction d with
    | zero => intro j hj; rw [show j = 17 by omega]; exact Int.le_refl _
    | succ d ih => intro j hj; have := ih (j + 1) (by omega); rw [pow10_succ] at this; have := pow10_pos j; omega
  have := key (17 - k) k (by omega)
  omega

set_option maxHeartbeats 400000 in
theorem value_any (s : ByteArray) (w : World) (hs : s.size ≤ 18) (hd : ∀ k (h : k < s.size), 48 ≤ s[k].toNat ∧ s[k].toNat ≤ 57) :
    Calls Tryz.prog 131 #[.string s] w fun e w' => e = .returned (.int .i64 (val (L s))) ∧ 0 ≤ val (L s) ∧ val (L s) < pow10 s.size ∧ w' = w := by
  have Hd := hide hd
  clear hd
  go_enter Tryz.func131, Tryz.ntmps131
  go_wp2
  go_loop [3, 4] (fun t i => ∃ k : Nat, ∃ n : Int, k ≤ s.size ∧ i = .int .i64 k ∧ t = .int .i64 n ∧ 0 ≤ n ∧ n < pow10 k ∧ Hid (val (L s) = valGo n ((L s).drop k))) (fun _ i => s.size - (intOf i).toNat)
  case atStart => exact ⟨0, 0, Nat.zero_le _, rfl, rfl, by omega, by decide, hide rfl⟩
  case round =>
    obtain ⟨k, n, hk, rfl, rfl, h0, h1, Hu⟩ := hrel
    by_cases hlt : k < s.size
    · have hdd := unhide Hd k hlt
      have hp := pow10_le k (by omega)
      have hn : n ≤ 99999999999999999 := by omega
      clear hp
      go_wp2
      go_round
      case rel =>
        have hp2 := pow10_succ k
        refine ⟨k + 1, _, by omega, by go_num, rfl, by omega, by omega, ?_⟩
        show val _ = _
        rw [unhide Hu, val_step s k hlt]
      case measure => simp [intOf]; omega
    · go_wp2
      go_ret
      have hk' : k = s.size := by omega
      subst hk'
      have e : val (L s) = n := by rw [unhide Hu, L_drop_end s _ (Nat.le_refl _)]; rfl
      exact ⟨ret_int e.symm, by omega, by omega, rfl⟩


theorem split_step (s : ByteArray) (c : UInt8) (acc : List (List UInt8)) (f k : Nat) (hf : f ≤ k) (h : k < s.size) (hb : ¬ s[k] = c) :
    splitGo c acc (L (s.extract f k)) ((L s).drop k) = splitGo c acc (L (s.extract f (k + 1))) ((L s).drop (k + 1)) := by
  rw [L_drop s k h]
  show (if s[k] = c then _ else _) = _
  rw [if_neg hb]
  congr 1
  rw [L_extract, L_extract, show k + 1 - f = (k - f) + 1 by omega, List.take_succ_eq_append_getElem (by rw [List.length_drop, L_length]; omega)]
  congr 2
  rw [List.getElem_drop]
  simp only [show f + (k - f) = k by omega]
  exact (L_get s k h).symm
theorem split_cut (s : ByteArray) (c : UInt8) (acc : List (List UInt8)) (f k : Nat) (h : k < s.size) (hb : s[k] = c) :
    splitGo c acc (L (s.extract f k)) ((L s).drop k) = splitGo c (acc ++ [L (s.extract f k)]) (L (s.extract (k + 1) (k + 1))) ((L s).drop (k + 1)) := by
  rw [L_drop s k h]
  show (if s[k] = c then _ else _) = _
  rw [if_pos hb, L_extract s (k + 1) (k + 1), Nat.sub_self, List.take_zero]

theorem info_string : (Tryz.prog.info? 9).map (fun i => (i.zero, i.size, i.bytes)) = some (some (.string ⟨#[]⟩), 1, 16) := by kernel_rfl

set_option maxHeartbeats 400000 in
theorem split_any (s : ByteArray) (c : UInt8) (w : World) (hs : s.size ≤ 50000) :
    Calls Tryz.prog 56 #[.string s, .int .u8 (c.toNat : Int)] w fun e w' => ∃ v : Value, ∃ ss : List ByteArray, e = .returned v ∧ ss.map L = split (L s) c ∧
      w'.ownsRow w.heap.size 9 1 v ss.length (ss.map Value.string) ∧ Below w.heap.size w w' := by
  obtain ⟨i, hi, hz0, hz1, hz2⟩ := info_parts info_string
  go_enter Tryz.func56, Tryz.ntmps56
  go_wp2
  go_loopw [5, 6, 7] (fun v f i wr => ∃ k fr : Nat, ∃ ss : List ByteArray, fr ≤ k ∧ k ≤ s.size ∧ i = .int .i64 k ∧ f = .int .i64 fr ∧ ss.length ≤ k ∧
      Hid (splitGo c (ss.map L) (L (s.extract fr k)) ((L s).drop k) = split (L s) c) ∧ Hid (wr.ownsRow w.heap.size 9 1 v ss.length (ss.map Value.string)) ∧ Hid (Below w.heap.size w wr)) (fun _ _ i _ => s.size - (intOf i).toNat)
  case atStart => exact ⟨0, 0, [], by omega, by omega, rfl, rfl, by simp, hide (by rw [L_extract]; rfl), hide (World.ownsRow_nil _ _ _ _), hide (Below.refl _ _)⟩
  case round =>
    obtain ⟨k, fr, ss, hfr, hk, rfl, rfl, hss, Hs, Ho, Hb⟩ := hrel
    have hsz := (unhide Hb).size
    by_cases hlt : k < s.size
    · by_cases hc : s[k] = c
      · have hc' : ((s[k].toNat : Int) == (c.toNat : Int)) = true := by rw [hc]; simp
        have HC := hide hc
        clear hc
        go_wp2_with (first
          | (at_builtin; refine wpList_append_own _ rfl _ _ 98 rfl w.heap.size 9 i (.string ⟨#[]⟩) 1 16 Tryz.underlying98 hi hz0 hz1 hz2 rfl (by decide) _ _ _ rfl ((unhide Ho).alloc _) ⟨wr.heap.size, 0, none⟩ 1 1 [.string (s.extract fr k)] rfl rfl (cell_one_new _ _ _) (fun x hx => by simp at hx; subst hx; rfl) (by unfold maxLen; omega) (by omega) (by simp; omega) ?_; intro v' w2 hown2 hgr2 _))
        have Hown := hide hown2
        have Hgr := hide hgr2
        clear hown2 hgr2
        go_wp2
        go_roundw
        case rel =>
          refine ⟨k + 1, k + 1, ss ++ [s.extract fr k], by omega, by omega, by go_num, by go_num, by simp; omega, ?_, ?_, ?_⟩
          · show splitGo _ _ _ _ = _
            rw [← unhide Hs, split_cut s c _ fr k hlt (unhide HC)]; simp
          · show World.ownsRow _ _ _ _ _ _ _
            simpa using unhide Hown
          · exact ((unhide Hb).alloc hsz _).grown (unhide Hgr) (by simp; omega) (fun g hg => ((unhide Ho).lt g hg).1)
        case measure => simp [intOf]; omega
      · have hc' : ((s[k].toNat : Int) == (c.toNat : Int)) = false := by
          rw [beq_eq_false_iff_ne]; intro h; exact hc (UInt8.toNat_inj.1 (by omega))
        go_wp2
        go_roundw
        case rel =>
          refine ⟨k + 1, fr, ss, by omega, by omega, by go_num, rfl, by omega, ?_, Ho, Hb⟩
          show splitGo _ _ _ _ = _
          rw [← unhide Hs, split_step s c _ fr k hfr hlt hc]
        case measure => simp [intOf]; omega
    · have hk' : k = s.size := by omega
      subst hk'
      clear hk hlt
      go_wp2_with (first
          | (at_builtin; refine wpList_append_own _ rfl _ _ 98 rfl w.heap.size 9 i (.string ⟨#[]⟩) 1 16 Tryz.underlying98 hi hz0 hz1 hz2 rfl (by decide) _ _ _ rfl ((unhide Ho).alloc _) ⟨wr.heap.size, 0, none⟩ 1 1 [.string (s.extract fr s.size)] rfl rfl (cell_one_new _ _ _) (fun x hx => by simp at hx; subst hx; rfl) (by unfold maxLen; omega) (by omega) (by simp; omega) ?_; intro v' w2 hown2 hgr2 _))
      have Hown := hide hown2
      have Hgr := hide hgr2
      clear hown2 hgr2
      go_wp2
      go_ret
      refine ⟨v', ss ++ [s.extract fr s.size], rfl, ?_, ?_, ?_⟩
      · rw [← unhide Hs, L_drop_end s _ (Nat.le_refl _)]; simp [splitGo]
      · simpa using unhide Hown
      · exact ((unhide Hb).alloc hsz _).grown (unhide Hgr) (by simp; omega) (fun g hg => ((unhide Ho).lt g hg).1)

end Go.Proofs.YtfancgphkcjgmaaGreatDoor
