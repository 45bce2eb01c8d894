/- The law's lists: still, over. -/
import Derived.Test.YtpcdkhmahbecaaaGreatDoorBkQ
namespace Go.Proofs.YtpcdkhmahbecaaaGreatDoor
open Go.RowKit Db

set_option maxRecDepth 100000 in
set_option maxHeartbeats 4000000 in
theorem still_any (g : Nat) (v : Value) (ls : List Ln) (w : World) (hg : Blk w g (hcells ls) 52) (h : LinesAt w v ls) (hn : ls.length ≤ 8796093022000) :
    Calls Tryz.prog 67 #[.slice (some ⟨g, 0, none⟩) ls.length (ls.length + 2), v] w fun e w' => e = .returned (.bool true) ∧ ∃ n, w' = w.drewN n := by
  have HG := hide (LinesAt.of_handed (cap := ls.length + 2) hg)
  have q0 := (hg.cell (ls.length * 2)).trans (spare_get ls 77 0 0 77).1
  have q1 := (hg.cell (ls.length * 2 + 1)).trans (spare_get ls 77 0 0 77).2.1
  have q2 := (hg.cell ((ls.length + 1) * 2)).trans (spare_get ls 77 0 0 77).2.2.1
  have q3 := (hg.cell ((ls.length + 1) * 2 + 1)).trans (spare_get ls 77 0 0 77).2.2.2
  obtain ⟨ao, cap, rfl⟩ := h.form
  have H := hide h
  have hwr : IntKind.i64.wrap ((ls.length : Int) + 2) = (ls.length : Int) + 2 := by rw [IntKind.wrap_i64]; omega
  have hwr1 : IntKind.i64.wrap ((ls.length : Int) + 1) = (ls.length : Int) + 1 := by rw [IntKind.wrap_i64]; omega
  have tq1 : ((ls.length : Int) + 1).toNat = ls.length + 1 := by omega
  have tq2 : ((ls.length : Int) + 2).toNat = ls.length + 2 := by omega
  have lq1 : (0 : Int) ≤ (ls.length : Int) + 1 := by omega
  have lq4 : (0 : Int) ≤ (ls.length : Int) + 2 := by omega
  have lq2 : (ls.length : Int) + 1 < (ls.length : Int) + 2 := by omega
  have lq3 : (ls.length : Int) < (ls.length : Int) + 2 := by omega
  clear hg h
  go_enter Tryz.func67, Tryz.ntmps67
  go_wp2_with fail
  go_loopg [6] ls.length (fun m i wr => ∃ j n : Nat, j ≤ ls.length ∧ m = ls.length - j ∧ i = .int .i64 j ∧ wr = w.drewN n)
  case atStart => exact ⟨0, 0, by omega, rfl, rfl, rfl⟩
  case round =>
    obtain ⟨j, n, hj, rfl, rfl, rfl⟩ := hrel
    by_cases hlt : j < ls.length
    · obtain ⟨⟨la, lm⟩, hl⟩ : ∃ l, ls[j]? = some l := ⟨ls[j], List.getElem?_eq_getElem hlt⟩
      obtain ⟨_, b, off, e1, hbl, d1, d2⟩ := (unhide HG).line hl
      simp only [Option.some.injEq, Addr.mk.injEq, and_true] at e1
      obtain ⟨rfl, rfl⟩ := e1
      obtain ⟨_, b', off', rfl, hbl', f1, f2⟩ := (unhide H).line hl
      simp only [Nat.zero_add] at d1 d2 f1 f2
      clear hl
      go_upto_region 5 with fail
      go_quiet (fail)
      go_wp2_with fail
      go_roundg (ls.length - (j + 1))
      case measure => omega
      case rel => exact ⟨j + 1, _, by omega, rfl, by go_num, by first | rfl | exact (World.drewN_drewN _ _ _)⟩
    · obtain rfl : j = ls.length := by omega
      go_wp2_with fail
      go_ret
      exact ⟨rfl, n, rfl⟩

/-- Block g alone has turned. -/
theorem frm_set {w w' : World} {g i : Nat} (h : Frm w.heap.size (fun k => k = g) w w') (v : Value) : Frm w.heap.size (fun k => k = g) w (w'.setCell ⟨g, i, none⟩ v) := h.setCell (.inr rfl) v

set_option maxRecDepth 100000 in
set_option maxHeartbeats 4000000 in
theorem over_any (g n : Nat) (cs : Array Value) (w : World) (hg : Blk w g cs 52) (hs : cs.size = (n + 2) * 2) (hn : n ≤ 8796093022000) :
    Calls Tryz.prog 68 #[.slice (some ⟨g, 0, none⟩) n (n + 2)] w fun e w' => e = .returned (.tuple #[]) ∧ Frm w.heap.size (fun k => k = g) w w' := by
  have hwr : IntKind.i64.wrap ((n : Int) + 2) = (n : Int) + 2 := by rw [IntKind.wrap_i64]; omega
  have tq2 : ((n : Int) + 2).toNat = n + 2 := by omega
  have lq4 : (0 : Int) ≤ (n : Int) + 2 := by omega
  have Hg := hide hg
  have Hs := hide hs
  clear hg hs
  go_enter Tryz.func68, Tryz.ntmps68
  go_wp2_with fail
  go_loopg [3] (n + 2) (fun m i wr => ∃ j : Nat, ∃ ds : Array Value, j ≤ n + 2 ∧ m = n + 2 - j ∧ i = .int .i64 j ∧ Hid (Blk wr g ds 52) ∧ Hid (ds.size = (n + 2) * 2) ∧ Hid (Frm w.heap.size (fun k => k = g) w wr))
  case atStart => exact ⟨0, cs, by omega, rfl, rfl, unhide Hg, unhide Hs, Frm.refl _ _ _⟩
  case round =>
    obtain ⟨j, ds, hj, rfl, rfl, Hd, Hds, Hf⟩ := hrel
    by_cases hlt : j < n + 2
    · have hlt' : (j : Int) < (n : Int) + 2 := by omega
      have hd := unhide Hds
      have q0 := ((unhide Hd).cell (j * 2)).trans (Array.getElem?_eq_getElem (show j * 2 < ds.size by omega))
      have q1 := ((unhide Hd).cell (j * 2 + 1)).trans (Array.getElem?_eq_getElem (show j * 2 + 1 < ds.size by omega))
      have z0 := (unhide Hd).frozen (j * 2)
      have z1 := (unhide Hd).frozen (j * 2 + 1)
      obtain ⟨x0, hx0⟩ : ∃ x, ds[j * 2] = x := ⟨_, rfl⟩
      obtain ⟨x1, hx1⟩ : ∃ x, ds[j * 2 + 1] = x := ⟨_, rfl⟩
      rw [hx0] at q0
      rw [hx1] at q1
      clear hx0 hx1 hd
      go_wp2_with fail
      go_roundg (n + 2 - (j + 1))
      case measure => omega
      case rel => exact ⟨j + 1, _, by omega, rfl, by go_num, ((unhide Hd).set (j * 2) _).set (j * 2 + 1) _, by show _ = _; rw [Array.size_setIfInBounds, Array.size_setIfInBounds]; exact unhide Hds, frm_set (frm_set (unhide Hf) _) _⟩
    · obtain rfl : j = n + 2 := by omega
      go_wp2_with fail
      go_end0
      exact ⟨rfl, unhide Hf⟩

end Go.Proofs.YtpcdkhmahbecaaaGreatDoor
