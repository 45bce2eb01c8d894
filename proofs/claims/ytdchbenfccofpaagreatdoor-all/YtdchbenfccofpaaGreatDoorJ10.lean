/- Own texts of the theorem in YtdchbenfccofpaaGreatDoorWAlY, part 10. -/
import Derived.Test.YtdchbenfccofpaaGreatDoorJ08
set_option maxHeartbeats 1000000
set_option linter.unusedVariables false
namespace Go.Proofs.YtdchbenfccofpaaGreatDoor
open Go.RowKit Db
theorem factor_6c32 (d o : Int) (w : World) (hd0 : 0 ≤ d) (hd1 : d ≤ 18) (ho0 : 0 ≤ o) (ho1 : o ≤ 200) :
  Calls Tryz.prog 151 #[.agg #[.int .i64 6, .int .i64 d, .int .i64 o], .int .u8 32] w fun e w' => SpotR (factS 6 d o 32) e ∧ Below w.heap.size w w' := by
 have edig : digB 32 = false := rfl
 have esel : selB 32 = false := rfl
 have eold : oldB 32 = false := rfl
 have Hr : Hid (factS 6 d o 32 = some (6, d, o)) := by
  show _ = _
  unfold factS
  simp +decide [*]
 go_enter Tryz.func151, Tryz.ntmps151
 go_wp2_with (first | (go_at_call 158; refine (dgt _ _).mono ?_; rintro e w' ⟨rfl, rfl⟩) | (go_at_call 160; refine (slr _ _).mono ?_; rintro e w' ⟨rfl, rfl⟩) | (go_at_call 155; refine (older_any _ _).mono ?_; rintro e w' ⟨rfl, rfl⟩))
 refine bodyPost_ret (v := .tuple #[.agg #[.int .i64 (6), .int .i64 (d), .int .i64 (o)], .bool true]) (by simp [results, Tryz.results151, go_sem]) rfl ⟨⟨_, _, _, _, rfl, ?_⟩, ?_⟩
 ·rw [Hr.u]; rfl
 ·repeat (first | exact Below.refl _ _ | refine Below.alloc ?_ (by simp) _ | refine Below.setCell ?_ (by simp) _)
theorem factor_6c45 (d o : Int) (w : World) (hd0 : 0 ≤ d) (hd1 : d ≤ 18) (ho0 : 0 ≤ o) (ho1 : o ≤ 200) :
  Calls Tryz.prog 151 #[.agg #[.int .i64 6, .int .i64 d, .int .i64 o], .int .u8 45] w fun e w' => SpotR (factS 6 d o 45) e ∧ Below w.heap.size w w' := by
 have edig : digB 45 = false := rfl
 have esel : selB 45 = false := rfl
 have eold : oldB 45 = false := rfl
 have Hr : Hid (factS 6 d o 45 = some (6, d, o)) := by
  show _ = _
  unfold factS
  simp +decide [*]
 go_enter Tryz.func151, Tryz.ntmps151
 go_wp2_with (first | (go_at_call 158; refine (dgt _ _).mono ?_; rintro e w' ⟨rfl, rfl⟩) | (go_at_call 160; refine (slr _ _).mono ?_; rintro e w' ⟨rfl, rfl⟩) | (go_at_call 155; refine (older_any _ _).mono ?_; rintro e w' ⟨rfl, rfl⟩))
 refine bodyPost_ret (v := .tuple #[.agg #[.int .i64 (6), .int .i64 (d), .int .i64 (o)], .bool true]) (by simp [results, Tryz.results151, go_sem]) rfl ⟨⟨_, _, _, _, rfl, ?_⟩, ?_⟩
 ·rw [Hr.u]; rfl
 ·repeat (first | exact Below.refl _ _ | refine Below.alloc ?_ (by simp) _ | refine Below.setCell ?_ (by simp) _)
theorem factor_6c40 (d o : Int) (w : World) (hd0 : 0 ≤ d) (hd1 : d ≤ 18) (ho0 : 0 ≤ o) (ho1 : o ≤ 200) :
  Calls Tryz.prog 151 #[.agg #[.int .i64 6, .int .i64 d, .int .i64 o], .int .u8 40] w fun e w' => SpotR (factS 6 d o 40) e ∧ Below w.heap.size w w' := by
 have edig : digB 40 = false := rfl
 have esel : selB 40 = false := rfl
 have eold : oldB 40 = false := rfl
 have Hr : Hid (factS 6 d o 40 = some (6, d, o + 1)) := by
  show _ = _
  unfold factS
  simp +decide [*]
 go_enter Tryz.func151, Tryz.ntmps151
 go_wp2_with (first | (go_at_call 158; refine (dgt _ _).mono ?_; rintro e w' ⟨rfl, rfl⟩) | (go_at_call 160; refine (slr _ _).mono ?_; rintro e w' ⟨rfl, rfl⟩) | (go_at_call 155; refine (older_any _ _).mono ?_; rintro e w' ⟨rfl, rfl⟩))
 refine bodyPost_ret (v := .tuple #[.agg #[.int .i64 (6), .int .i64 (d), .int .i64 (o + 1)], .bool true]) (by simp [results, Tryz.results151, go_sem]) rfl ⟨⟨_, _, _, _, rfl, ?_⟩, ?_⟩
 ·rw [Hr.u]; rfl
 ·repeat (first | exact Below.refl _ _ | refine Below.alloc ?_ (by simp) _ | refine Below.setCell ?_ (by simp) _)
theorem factor_6dig (d o c : Int) (w : World) (hd0 : 0 ≤ d) (hd1 : d ≤ 18) (ho0 : 0 ≤ o) (ho1 : o ≤ 200) (hc : digB c = true) :
  Calls Tryz.prog 151 #[.agg #[.int .i64 6, .int .i64 d, .int .i64 o], .int .u8 c] w fun e w' => SpotR (factS 6 d o c) e ∧ Below w.heap.size w w' := by
 have n32 := dig_ne hc 32 rfl
 have n45 := dig_ne hc 45 rfl
 have n40 := dig_ne hc 40 rfl
 have Hr : Hid (factS 6 d o c = some (7, 1, o)) := by
  show _ = _
  unfold factS
  simp +decide [*]
 go_enter Tryz.func151, Tryz.ntmps151
 go_wp2_with (first | (go_at_call 158; refine (dgt _ _).mono ?_; rintro e w' ⟨rfl, rfl⟩) | (go_at_call 160; refine (slr _ _).mono ?_; rintro e w' ⟨rfl, rfl⟩) | (go_at_call 155; refine (older_any _ _).mono ?_; rintro e w' ⟨rfl, rfl⟩))
 refine bodyPost_ret (v := .tuple #[.agg #[.int .i64 (7), .int .i64 (1), .int .i64 (o)], .bool true]) (by simp [results, Tryz.results151, go_sem]) rfl ⟨⟨_, _, _, _, rfl, ?_⟩, ?_⟩
 ·rw [Hr.u]; rfl
 ·repeat (first | exact Below.refl _ _ | refine Below.alloc ?_ (by simp) _ | refine Below.setCell ?_ (by simp) _)
theorem factor_6sel (d o c : Int) (w : World) (hd0 : 0 ≤ d) (hd1 : d ≤ 18) (ho0 : 0 ≤ o) (ho1 : o ≤ 200) (hc : selB c = true) :
  Calls Tryz.prog 151 #[.agg #[.int .i64 6, .int .i64 d, .int .i64 o], .int .u8 c] w fun e w' => SpotR (factS 6 d o c) e ∧ Below w.heap.size w w' := by
 have n32 := sel_ne hc 32 rfl
 have n45 := sel_ne hc 45 rfl
 have n40 := sel_ne hc 40 rfl
 have hd := sel_dig hc
 have Hr : Hid (factS 6 d o c = some (8, d, o)) := by
  show _ = _
  unfold factS
  simp +decide [*]
 go_enter Tryz.func151, Tryz.ntmps151
 go_wp2_with (first | (go_at_call 158; refine (dgt _ _).mono ?_; rintro e w' ⟨rfl, rfl⟩) | (go_at_call 160; refine (slr _ _).mono ?_; rintro e w' ⟨rfl, rfl⟩) | (go_at_call 155; refine (older_any _ _).mono ?_; rintro e w' ⟨rfl, rfl⟩))
 refine bodyPost_ret (v := .tuple #[.agg #[.int .i64 (8), .int .i64 (d), .int .i64 (o)], .bool true]) (by simp [results, Tryz.results151, go_sem]) rfl ⟨⟨_, _, _, _, rfl, ?_⟩, ?_⟩
 ·rw [Hr.u]; rfl
 ·repeat (first | exact Below.refl _ _ | refine Below.alloc ?_ (by simp) _ | refine Below.setCell ?_ (by simp) _)
theorem factor_6old (d o c : Int) (w : World) (hd0 : 0 ≤ d) (hd1 : d ≤ 18) (ho0 : 0 ≤ o) (ho1 : o ≤ 200) (hc : oldB c = true) :
  Calls Tryz.prog 151 #[.agg #[.int .i64 6, .int .i64 d, .int .i64 o], .int .u8 c] w fun e w' => SpotR (factS 6 d o c) e ∧ Below w.heap.size w w' := by
 have n32 := old_ne hc 32 rfl
 have n45 := old_ne hc 45 rfl
 have n40 := old_ne hc 40 rfl
 have hd := old_dig hc
 have hs := old_sel hc
 have Hr : Hid (factS 6 d o c = some (9, d, o)) := by
  show _ = _
  unfold factS
  simp +decide [*]
 go_enter Tryz.func151, Tryz.ntmps151
 go_wp2_with (first | (go_at_call 158; refine (dgt _ _).mono ?_; rintro e w' ⟨rfl, rfl⟩) | (go_at_call 160; refine (slr _ _).mono ?_; rintro e w' ⟨rfl, rfl⟩) | (go_at_call 155; refine (older_any _ _).mono ?_; rintro e w' ⟨rfl, rfl⟩))
 refine bodyPost_ret (v := .tuple #[.agg #[.int .i64 (9), .int .i64 (d), .int .i64 (o)], .bool true]) (by simp [results, Tryz.results151, go_sem]) rfl ⟨⟨_, _, _, _, rfl, ?_⟩, ?_⟩
 ·rw [Hr.u]; rfl
 ·repeat (first | exact Below.refl _ _ | refine Below.alloc ?_ (by simp) _ | refine Below.setCell ?_ (by simp) _)
theorem factor_6oth (d o c : Int) (w : World) (hd0 : 0 ≤ d) (hd1 : d ≤ 18) (ho0 : 0 ≤ o) (ho1 : o ≤ 200) (h32 : (c == 32) = false) (h45 : (c == 45) = false) (h40 : (c == 40) = false) (hd : digB c = false) (hs : selB c = false) (hl : oldB c = false) :
  Calls Tryz.prog 151 #[.agg #[.int .i64 6, .int .i64 d, .int .i64 o], .int .u8 c] w fun e w' => SpotR (factS 6 d o c) e ∧ Below w.heap.size w w' := by
 have Hr : Hid (factS 6 d o c = none) := by
  show _ = _
  unfold factS
  simp +decide [*]
 go_enter Tryz.func151, Tryz.ntmps151
 go_wp2_with (first | (go_at_call 158; refine (dgt _ _).mono ?_; rintro e w' ⟨rfl, rfl⟩) | (go_at_call 160; refine (slr _ _).mono ?_; rintro e w' ⟨rfl, rfl⟩) | (go_at_call 155; refine (older_any _ _).mono ?_; rintro e w' ⟨rfl, rfl⟩))
 refine bodyPost_ret (v := .tuple #[.agg #[.int .i64 (6), .int .i64 (d), .int .i64 (o)], .bool false]) (by simp [results, Tryz.results151, go_sem]) rfl ⟨⟨_, _, _, _, rfl, ?_⟩, ?_⟩
 ·rw [Hr.u]; rfl
 ·repeat (first | exact Below.refl _ _ | refine Below.alloc ?_ (by simp) _ | refine Below.setCell ?_ (by simp) _)
theorem factor_8c32 (d o : Int) (w : World) (hd0 : 0 ≤ d) (hd1 : d ≤ 18) (ho0 : 0 ≤ o) (ho1 : o ≤ 200) :
  Calls Tryz.prog 151 #[.agg #[.int .i64 8, .int .i64 d, .int .i64 o], .int .u8 32] w fun e w' => SpotR (factS 8 d o 32) e ∧ Below w.heap.size w w' := by
 have edig : digB 32 = false := rfl
 have esel : selB 32 = false := rfl
 have eold : oldB 32 = false := rfl
 have Hr : Hid (factS 8 d o 32 = none) := by
  show _ = _
  unfold factS
  simp +decide [*]
 go_enter Tryz.func151, Tryz.ntmps151
 go_wp2_with (first | (go_at_call 158; refine (dgt _ _).mono ?_; rintro e w' ⟨rfl, rfl⟩) | (go_at_call 160; refine (slr _ _).mono ?_; rintro e w' ⟨rfl, rfl⟩) | (go_at_call 155; refine (older_any _ _).mono ?_; rintro e w' ⟨rfl, rfl⟩))
 refine bodyPost_ret (v := .tuple #[.agg #[.int .i64 (8), .int .i64 (d), .int .i64 (o)], .bool false]) (by simp [results, Tryz.results151, go_sem]) rfl ⟨⟨_, _, _, _, rfl, ?_⟩, ?_⟩
 ·rw [Hr.u]; rfl
 ·repeat (first | exact Below.refl _ _ | refine Below.alloc ?_ (by simp) _ | refine Below.setCell ?_ (by simp) _)
theorem factor_8c45 (d o : Int) (w : World) (hd0 : 0 ≤ d) (hd1 : d ≤ 18) (ho0 : 0 ≤ o) (ho1 : o ≤ 200) :
  Calls Tryz.prog 151 #[.agg #[.int .i64 8, .int .i64 d, .int .i64 o], .int .u8 45] w fun e w' => SpotR (factS 8 d o 45) e ∧ Below w.heap.size w w' := by
 have edig : digB 45 = false := rfl
 have esel : selB 45 = false := rfl
 have eold : oldB 45 = false := rfl
 have Hr : Hid (factS 8 d o 45 = none) := by
  show _ = _
  unfold factS
  simp +decide [*]
 go_enter Tryz.func151, Tryz.ntmps151
 go_wp2_with (first | (go_at_call 158; refine (dgt _ _).mono ?_; rintro e w' ⟨rfl, rfl⟩) | (go_at_call 160; refine (slr _ _).mono ?_; rintro e w' ⟨rfl, rfl⟩) | (go_at_call 155; refine (older_any _ _).mono ?_; rintro e w' ⟨rfl, rfl⟩))
 refine bodyPost_ret (v := .tuple #[.agg #[.int .i64 (8), .int .i64 (d), .int .i64 (o)], .bool false]) (by simp [results, Tryz.results151, go_sem]) rfl ⟨⟨_, _, _, _, rfl, ?_⟩, ?_⟩
 ·rw [Hr.u]; rfl
 ·repeat (first | exact Below.refl _ _ | refine Below.alloc ?_ (by simp) _ | refine Below.setCell ?_ (by simp) _)
theorem factor_8c40 (d o : Int) (w : World) (hd0 : 0 ≤ d) (hd1 : d ≤ 18) (ho0 : 0 ≤ o) (ho1 : o ≤ 200) :
  Calls Tryz.prog 151 #[.agg #[.int .i64 8, .int .i64 d, .int .i64 o], .int .u8 40] w fun e w' => SpotR (factS 8 d o 40) e ∧ Below w.heap.size w w' := by
 have edig : digB 40 = false := rfl
 have esel : selB 40 = false := rfl
 have eold : oldB 40 = false := rfl
 have Hr : Hid (factS 8 d o 40 = none) := by
  show _ = _
  unfold factS
  simp +decide [*]
 go_enter Tryz.func151, Tryz.ntmps151
 go_wp2_with (first | (go_at_call 158; refine (dgt _ _).mono ?_; rintro e w' ⟨rfl, rfl⟩) | (go_at_call 160; refine (slr _ _).mono ?_; rintro e w' ⟨rfl, rfl⟩) | (go_at_call 155; refine (older_any _ _).mono ?_; rintro e w' ⟨rfl, rfl⟩))
 refine bodyPost_ret (v := .tuple #[.agg #[.int .i64 (8), .int .i64 (d), .int .i64 (o)], .bool false]) (by simp [results, Tryz.results151, go_sem]) rfl ⟨⟨_, _, _, _, rfl, ?_⟩, ?_⟩
 ·rw [Hr.u]; rfl
 ·repeat (first | exact Below.refl _ _ | refine Below.alloc ?_ (by simp) _ | refine Below.setCell ?_ (by simp) _)
theorem factor_8dig (d o c : Int) (w : World) (hd0 : 0 ≤ d) (hd1 : d ≤ 18) (ho0 : 0 ≤ o) (ho1 : o ≤ 200) (hc : digB c = true) :
  Calls Tryz.prog 151 #[.agg #[.int .i64 8, .int .i64 d, .int .i64 o], .int .u8 c] w fun e w' => SpotR (factS 8 d o c) e ∧ Below w.heap.size w w' := by
 have n32 := dig_ne hc 32 rfl
 have n45 := dig_ne hc 45 rfl
 have n40 := dig_ne hc 40 rfl
 have Hr : Hid (factS 8 d o c = some (10, d, o)) := by
  show _ = _
  unfold factS
  simp +decide [*]
 go_enter Tryz.func151, Tryz.ntmps151
 go_wp2_with (first | (go_at_call 158; refine (dgt _ _).mono ?_; rintro e w' ⟨rfl, rfl⟩) | (go_at_call 160; refine (slr _ _).mono ?_; rintro e w' ⟨rfl, rfl⟩) | (go_at_call 155; refine (older_any _ _).mono ?_; rintro e w' ⟨rfl, rfl⟩))
 refine bodyPost_ret (v := .tuple #[.agg #[.int .i64 (10), .int .i64 (d), .int .i64 (o)], .bool true]) (by simp [results, Tryz.results151, go_sem]) rfl ⟨⟨_, _, _, _, rfl, ?_⟩, ?_⟩
 ·rw [Hr.u]; rfl
 ·repeat (first | exact Below.refl _ _ | refine Below.alloc ?_ (by simp) _ | refine Below.setCell ?_ (by simp) _)
theorem factor_8sel (d o c : Int) (w : World) (hd0 : 0 ≤ d) (hd1 : d ≤ 18) (ho0 : 0 ≤ o) (ho1 : o ≤ 200) (hc : selB c = true) :
  Calls Tryz.prog 151 #[.agg #[.int .i64 8, .int .i64 d, .int .i64 o], .int .u8 c] w fun e w' => SpotR (factS 8 d o c) e ∧ Below w.heap.size w w' := by
 have n32 := sel_ne hc 32 rfl
 have n45 := sel_ne hc 45 rfl
 have n40 := sel_ne hc 40 rfl
 have hd := sel_dig hc
 have Hr : Hid (factS 8 d o c = none) := by
  show _ = _
  unfold factS
  simp +decide [*]
 go_enter Tryz.func151, Tryz.ntmps151
 go_wp2_with (first | (go_at_call 158; refine (dgt _ _).mono ?_; rintro e w' ⟨rfl, rfl⟩) | (go_at_call 160; refine (slr _ _).mono ?_; rintro e w' ⟨rfl, rfl⟩) | (go_at_call 155; refine (older_any _ _).mono ?_; rintro e w' ⟨rfl, rfl⟩))
 refine bodyPost_ret (v := .tuple #[.agg #[.int .i64 (8), .int .i64 (d), .int .i64 (o)], .bool false]) (by simp [results, Tryz.results151, go_sem]) rfl ⟨⟨_, _, _, _, rfl, ?_⟩, ?_⟩
 ·rw [Hr.u]; rfl
 ·repeat (first | exact Below.refl _ _ | refine Below.alloc ?_ (by simp) _ | refine Below.setCell ?_ (by simp) _)
theorem factor_8old (d o c : Int) (w : World) (hd0 : 0 ≤ d) (hd1 : d ≤ 18) (ho0 : 0 ≤ o) (ho1 : o ≤ 200) (hc : oldB c = true) :
  Calls Tryz.prog 151 #[.agg #[.int .i64 8, .int .i64 d, .int .i64 o], .int .u8 c] w fun e w' => SpotR (factS 8 d o c) e ∧ Below w.heap.size w w' := by
 have n32 := old_ne hc 32 rfl
 have n45 := old_ne hc 45 rfl
 have n40 := old_ne hc 40 rfl
 have hd := old_dig hc
 have hs := old_sel hc
 have Hr : Hid (factS 8 d o c = none) := by
  show _ = _
  unfold factS
  simp +decide [*]
 go_enter Tryz.func151, Tryz.ntmps151
 go_wp2_with (first | (go_at_call 158; refine (dgt _ _).mono ?_; rintro e w' ⟨rfl, rfl⟩) | (go_at_call 160; refine (slr _ _).mono ?_; rintro e w' ⟨rfl, rfl⟩) | (go_at_call 155; refine (older_any _ _).mono ?_; rintro e w' ⟨rfl, rfl⟩))
 refine bodyPost_ret (v := .tuple #[.agg #[.int .i64 (8), .int .i64 (d), .int .i64 (o)], .bool false]) (by simp [results, Tryz.results151, go_sem]) rfl ⟨⟨_, _, _, _, rfl, ?_⟩, ?_⟩
 ·rw [Hr.u]; rfl
 ·repeat (first | exact Below.refl _ _ | refine Below.alloc ?_ (by simp) _ | refine Below.setCell ?_ (by simp) _)
theorem factor_8oth (d o c : Int) (w : World) (hd0 : 0 ≤ d) (hd1 : d ≤ 18) (ho0 : 0 ≤ o) (ho1 : o ≤ 200) (h32 : (c == 32) = false) (h45 : (c == 45) = false) (h40 : (c == 40) = false) (hd : digB c = false) (hs : selB c = false) (hl : oldB c = false) :
  Calls Tryz.prog 151 #[.agg #[.int .i64 8, .int .i64 d, .int .i64 o], .int .u8 c] w fun e w' => SpotR (factS 8 d o c) e ∧ Below w.heap.size w w' := by
 have Hr : Hid (factS 8 d o c = none) := by
  show _ = _
  unfold factS
  simp +decide [*]
 go_enter Tryz.func151, Tryz.ntmps151
 go_wp2_with (first | (go_at_call 158; refine (dgt _ _).mono ?_; rintro e w' ⟨rfl, rfl⟩) | (go_at_call 160; refine (slr _ _).mono ?_; rintro e w' ⟨rfl, rfl⟩) | (go_at_call 155; refine (older_any _ _).mono ?_; rintro e w' ⟨rfl, rfl⟩))
 refine bodyPost_ret (v := .tuple #[.agg #[.int .i64 (8), .int .i64 (d), .int .i64 (o)], .bool false]) (by simp [results, Tryz.results151, go_sem]) rfl ⟨⟨_, _, _, _, rfl, ?_⟩, ?_⟩
 ·rw [Hr.u]; rfl
 ·repeat (first | exact Below.refl _ _ | refine Below.alloc ?_ (by simp) _ | refine Below.setCell ?_ (by simp) _)
theorem factor_9c32 (d o : Int) (w : World) (hd0 : 0 ≤ d) (hd1 : d ≤ 18) (ho0 : 0 ≤ o) (ho1 : o ≤ 200) :
  Calls Tryz.prog 151 #[.agg #[.int .i64 9, .int .i64 d, .int .i64 o], .int .u8 32] w fun e w' => SpotR (factS 9 d o 32) e ∧ Below w.heap.size w w' := by
 have edig : digB 32 = false := rfl
 have esel : selB 32 = false := rfl
 have eold : oldB 32 = false := rfl
 have Hr : Hid (factS 9 d o 32 = none) := by
  show _ = _
  unfold factS
  simp +decide [*]
 go_enter Tryz.func151, Tryz.ntmps151
 go_wp2_with (first | (go_at_call 158; refine (dgt _ _).mono ?_; rintro e w' ⟨rfl, rfl⟩) | (go_at_call 160; refine (slr _ _).mono ?_; rintro e w' ⟨rfl, rfl⟩) | (go_at_call 155; refine (older_any _ _).mono ?_; rintro e w' ⟨rfl, rfl⟩))
 refine bodyPost_ret (v := .tuple #[.agg #[.int .i64 (9), .int .i64 (d), .int .i64 (o)], .bool false]) (by simp [results, Tryz.results151, go_sem]) rfl ⟨⟨_, _, _, _, rfl, ?_⟩, ?_⟩
 ·rw [Hr.u]; rfl
 ·repeat (first | exact Below.refl _ _ | refine Below.alloc ?_ (by simp) _ | refine Below.setCell ?_ (by simp) _)
theorem factor_9c45 (d o : Int) (w : World) (hd0 : 0 ≤ d) (hd1 : d ≤ 18) (ho0 : 0 ≤ o) (ho1 : o ≤ 200) :
  Calls Tryz.prog 151 #[.agg #[.int .i64 9, .int .i64 d, .int .i64 o], .int .u8 45] w fun e w' => SpotR (factS 9 d o 45) e ∧ Below w.heap.size w w' := by
 have edig : digB 45 = false := rfl
 have esel : selB 45 = false := rfl
 have eold : oldB 45 = false := rfl
 have Hr : Hid (factS 9 d o 45 = none) := by
  show _ = _
  unfold factS
  simp +decide [*]
 go_enter Tryz.func151, Tryz.ntmps151
 go_wp2_with (first | (go_at_call 158; refine (dgt _ _).mono ?_; rintro e w' ⟨rfl, rfl⟩) | (go_at_call 160; refine (slr _ _).mono ?_; rintro e w' ⟨rfl, rfl⟩) | (go_at_call 155; refine (older_any _ _).mono ?_; rintro e w' ⟨rfl, rfl⟩))
 refine bodyPost_ret (v := .tuple #[.agg #[.int .i64 (9), .int .i64 (d), .int .i64 (o)], .bool false]) (by simp [results, Tryz.results151, go_sem]) rfl ⟨⟨_, _, _, _, rfl, ?_⟩, ?_⟩
 ·rw [Hr.u]; rfl
 ·repeat (first | exact Below.refl _ _ | refine Below.alloc ?_ (by simp) _ | refine Below.setCell ?_ (by simp) _)
theorem factor_9c40 (d o : Int) (w : World) (hd0 : 0 ≤ d) (hd1 : d ≤ 18) (ho0 : 0 ≤ o) (ho1 : o ≤ 200) :
  Calls Tryz.prog 151 #[.agg #[.int .i64 9, .int .i64 d, .int .i64 o], .int .u8 40] w fun e w' => SpotR (factS 9 d o 40) e ∧ Below w.heap.size w w' := by
 have edig : digB 40 = false := rfl
 have esel : selB 40 = false := rfl
 have eold : oldB 40 = false := rfl
 have Hr : Hid (factS 9 d o 40 = none) := by
  show _ = _
  unfold factS
  simp +decide [*]
 go_enter Tryz.func151, Tryz.ntmps151
 go_wp2_with (first | (go_at_call 158; refine (dgt _ _).mono ?_; rintro e w' ⟨rfl, rfl⟩) | (go_at_call 160; refine (slr _ _).mono ?_; rintro e w' ⟨rfl, rfl⟩) | (go_at_call 155; refine (older_any _ _).mono ?_; rintro e w' ⟨rfl, rfl⟩))
 refine bodyPost_ret (v := .tuple #[.agg #[.int .i64 (9), .int .i64 (d), .int .i64 (o)], .bool false]) (by simp [results, Tryz.results151, go_sem]) rfl ⟨⟨_, _, _, _, rfl, ?_⟩, ?_⟩
 ·rw [Hr.u]; rfl
 ·repeat (first | exact Below.refl _ _ | refine Below.alloc ?_ (by simp) _ | refine Below.setCell ?_ (by simp) _)
theorem factor_9dig (d o c : Int) (w : World) (hd0 : 0 ≤ d) (hd1 : d ≤ 18) (ho0 : 0 ≤ o) (ho1 : o ≤ 200) (hc : digB c = true) :
  Calls Tryz.prog 151 #[.agg #[.int .i64 9, .int .i64 d, .int .i64 o], .int .u8 c] w fun e w' => SpotR (factS 9 d o c) e ∧ Below w.heap.size w w' := by
 have n32 := dig_ne hc 32 rfl
 have n45 := dig_ne hc 45 rfl
 have n40 := dig_ne hc 40 rfl
 have Hr : Hid (factS 9 d o c = some (11, d, o)) := by
  show _ = _
  unfold factS
  simp +decide [*]
 go_enter Tryz.func151, Tryz.ntmps151
 go_wp2_with (first | (go_at_call 158; refine (dgt _ _).mono ?_; rintro e w' ⟨rfl, rfl⟩) | (go_at_call 160; refine (slr _ _).mono ?_; rintro e w' ⟨rfl, rfl⟩) | (go_at_call 155; refine (older_any _ _).mono ?_; rintro e w' ⟨rfl, rfl⟩))
 refine bodyPost_ret (v := .tuple #[.agg #[.int .i64 (11), .int .i64 (d), .int .i64 (o)], .bool true]) (by simp [results, Tryz.results151, go_sem]) rfl ⟨⟨_, _, _, _, rfl, ?_⟩, ?_⟩
 ·rw [Hr.u]; rfl
 ·repeat (first | exact Below.refl _ _ | refine Below.alloc ?_ (by simp) _ | refine Below.setCell ?_ (by simp) _)
theorem factor_9sel (d o c : Int) (w : World) (hd0 : 0 ≤ d) (hd1 : d ≤ 18) (ho0 : 0 ≤ o) (ho1 : o ≤ 200) (hc : selB c = true) :
  Calls Tryz.prog 151 #[.agg #[.int .i64 9, .int .i64 d, .int .i64 o], .int .u8 c] w fun e w' => SpotR (factS 9 d o c) e ∧ Below w.heap.size w w' := by
 have n32 := sel_ne hc 32 rfl
 have n45 := sel_ne hc 45 rfl
 have n40 := sel_ne hc 40 rfl
 have hd := sel_dig hc
 have Hr : Hid (factS 9 d o c = none) := by
  show _ = _
  unfold factS
  simp +decide [*]
 go_enter Tryz.func151, Tryz.ntmps151
 go_wp2_with (first | (go_at_call 158; refine (dgt _ _).mono ?_; rintro e w' ⟨rfl, rfl⟩) | (go_at_call 160; refine (slr _ _).mono ?_; rintro e w' ⟨rfl, rfl⟩) | (go_at_call 155; refine (older_any _ _).mono ?_; rintro e w' ⟨rfl, rfl⟩))
 refine bodyPost_ret (v := .tuple #[.agg #[.int .i64 (9), .int .i64 (d), .int .i64 (o)], .bool false]) (by simp [results, Tryz.results151, go_sem]) rfl ⟨⟨_, _, _, _, rfl, ?_⟩, ?_⟩
 ·rw [Hr.u]; rfl
 ·repeat (first | exact Below.refl _ _ | refine Below.alloc ?_ (by simp) _ | refine Below.setCell ?_ (by simp) _)
theorem factor_9old (d o c : Int) (w : World) (hd0 : 0 ≤ d) (hd1 : d ≤ 18) (ho0 : 0 ≤ o) (ho1 : o ≤ 200) (hc : oldB c = true) :
  Calls Tryz.prog 151 #[.agg #[.int .i64 9, .int .i64 d, .int .i64 o], .int .u8 c] w fun e w' => SpotR (factS 9 d o c) e ∧ Below w.heap.size w w' := by
 have n32 := old_ne hc 32 rfl
 have n45 := old_ne hc 45 rfl
 have n40 := old_ne hc 40 rfl
 have hd := old_dig hc
 have hs := old_sel hc
 have Hr : Hid (factS 9 d o c = none) := by
  show _ = _
  unfold factS
  simp +decide [*]
 go_enter Tryz.func151, Tryz.ntmps151
 go_wp2_with (first | (go_at_call 158; refine (dgt _ _).mono ?_; rintro e w' ⟨rfl, rfl⟩) | (go_at_call 160; refine (slr _ _).mono ?_; rintro e w' ⟨rfl, rfl⟩) | (go_at_call 155; refine (older_any _ _).mono ?_; rintro e w' ⟨rfl, rfl⟩))
 refine bodyPost_ret (v := .tuple #[.agg #[.int .i64 (9), .int .i64 (d), .int .i64 (o)], .bool false]) (by simp [results, Tryz.results151, go_sem]) rfl ⟨⟨_, _, _, _, rfl, ?_⟩, ?_⟩
 ·rw [Hr.u]; rfl
 ·repeat (first | exact Below.refl _ _ | refine Below.alloc ?_ (by simp) _ | refine Below.setCell ?_ (by simp) _)
theorem factor_9oth (d o c : Int) (w : World) (hd0 : 0 ≤ d) (hd1 : d ≤ 18) (ho0 : 0 ≤ o) (ho1 : o ≤ 200) (h32 : (c == 32) = false) (h45 : (c == 45) = false) (h40 : (c == 40) = false) (hd : digB c = false) (hs : selB c = false) (hl : oldB c = false) :
  Calls Tryz.prog 151 #[.agg #[.int .i64 9, .int .i64 d, .int .i64 o], .int .u8 c] w fun e w' => SpotR (factS 9 d o c) e ∧ Below w.heap.size w w' := by
 have Hr : Hid (factS 9 d o c = none) := by
  show _ = _
  unfold factS
  simp +decide [*]
 go_enter Tryz.func151, Tryz.ntmps151
 go_wp2_with (first | (go_at_call 158; refine (dgt _ _).mono ?_; rintro e w' ⟨rfl, rfl⟩) | (go_at_call 160; refine (slr _ _).mono ?_; rintro e w' ⟨rfl, rfl⟩) | (go_at_call 155; refine (older_any _ _).mono ?_; rintro e w' ⟨rfl, rfl⟩))
 refine bodyPost_ret (v := .tuple #[.agg #[.int .i64 (9), .int .i64 (d), .int .i64 (o)], .bool false]) (by simp [results, Tryz.results151, go_sem]) rfl ⟨⟨_, _, _, _, rfl, ?_⟩, ?_⟩
 ·rw [Hr.u]; rfl
 ·repeat (first | exact Below.refl _ _ | refine Below.alloc ?_ (by simp) _ | refine Below.setCell ?_ (by simp) _)
theorem factor_any (a d o c : Int) (w : World) (ha : a = 6 ∨ a = 8 ∨ a = 9) (hd0 : 0 ≤ d) (hd1 : d ≤ 18) (ho0 : 0 ≤ o) (ho1 : o ≤ 200) :
  Calls Tryz.prog 151 #[.agg #[.int .i64 a, .int .i64 d, .int .i64 o], .int .u8 c] w fun e w' => SpotR (factS a d o c) e ∧ Below w.heap.size w w' := by
 by_cases h32 : c = 32
 ·subst h32
  rcases ha with rfl | rfl | rfl
  ·exact factor_6c32 d o w hd0 hd1 ho0 ho1
  ·exact factor_8c32 d o w hd0 hd1 ho0 ho1
  ·exact factor_9c32 d o w hd0 hd1 ho0 ho1
 by_cases h45 : c = 45
 ·subst h45
  rcases ha with rfl | rfl | rfl
  ·exact factor_6c45 d o w hd0 hd1 ho0 ho1
  ·exact factor_8c45 d o w hd0 hd1 ho0 ho1
  ·exact factor_9c45 d o w hd0 hd1 ho0 ho1
 by_cases h40 : c = 40
 ·subst h40
  rcases ha with rfl | rfl | rfl
  ·exact factor_6c40 d o w hd0 hd1 ho0 ho1
  ·exact factor_8c40 d o w hd0 hd1 ho0 ho1
  ·exact factor_9c40 d o w hd0 hd1 ho0 ho1
 cases hdig : digB c with
 | true =>
  rcases ha with rfl | rfl | rfl
  ·exact factor_6dig d o c w hd0 hd1 ho0 ho1 hdig
  ·exact factor_8dig d o c w hd0 hd1 ho0 ho1 hdig
  ·exact factor_9dig d o c w hd0 hd1 ho0 ho1 hdig
 | false =>
 cases hsel : selB c with
 | true =>
  rcases ha with rfl | rfl | rfl
  ·exact factor_6sel d o c w hd0 hd1 ho0 ho1 hsel
  ·exact factor_8sel d o c w hd0 hd1 ho0 ho1 hsel
  ·exact factor_9sel d o c w hd0 hd1 ho0 ho1 hsel
 | false =>
 cases hold : oldB c with
 | true =>
  rcases ha with rfl | rfl | rfl
  ·exact factor_6old d o c w hd0 hd1 ho0 ho1 hold
  ·exact factor_8old d o c w hd0 hd1 ho0 ho1 hold
  ·exact factor_9old d o c w hd0 hd1 ho0 ho1 hold
 | false =>
 rcases ha with rfl | rfl | rfl
 ·exact factor_6oth d o c w hd0 hd1 ho0 ho1 (beq_false_of h32) (beq_false_of h45) (beq_false_of h40) hdig hsel hold
 ·exact factor_8oth d o c w hd0 hd1 ho0 ho1 (beq_false_of h32) (beq_false_of h45) (beq_false_of h40) hdig hsel hold
 ·exact factor_9oth d o c w hd0 hd1 ho0 ho1 (beq_false_of h32) (beq_false_of h45) (beq_false_of h40) hdig hsel hold
end Go.Proofs.YtdchbenfccofpaaGreatDoor
