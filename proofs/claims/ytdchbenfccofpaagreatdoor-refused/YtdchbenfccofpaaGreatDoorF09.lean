/- Walks of the document's answer: the spots, case by case (laid by genC.py). Walks of the document's answer: the spots, case by case (laid by genC.py). Walks of the document's answer: place. -/
import Derived.Test.YtdchbenfccofpaaGreatDoorF07
import Derived.Test.YtdchbenfccofpaaGreatDoorF01
import Derived.Test.YtdchbenfccofpaaGreatDoorF02
import Derived.Test.YtdchbenfccofpaaGreatDoorF08
import Derived.Deep.RegionWith
import Derived.Deep.DeepCutAuto
set_option linter.unusedVariables false
namespace Go.Proofs.YtdchbenfccofpaaGreatDoor
open Go.RowKit Db
set_option maxHeartbeats 1000000 in
theorem factor_6c32 (d o : Int) (w : World) (hd0 : 0 ≤ d) (hd1 : d ≤ 18) (ho0 : 0 ≤ o) (ho1 : o ≤ 200) :
    Calls Tryz.prog 151 #[.agg #[.int .i64 6, .int .i64 d, .int .i64 o], .int .u8 32] w fun e w' => SpotR (factS 6 d o 32) e ∧ Below w.heap.size w w' := by
  have edig : digB 32 = false := rfl
  have esel : selB 32 = false := rfl
  have eold : oldB 32 = false := rfl
  have Hr : Hid (factS 6 d o 32 = some (6, d, o)) := by
    show _ = _
    unfold factS
    simp (config := { decide := true }) [*]
  go_enter Tryz.func151, Tryz.ntmps151
  go_wp2_with (first | (go_at_call 158; refine (digit_any _ _).mono ?_; rintro e w' ⟨rfl, rfl⟩) | (go_at_call 160; refine (selector_any _ _).mono ?_; rintro e w' ⟨rfl, rfl⟩) | (go_at_call 155; refine (older_any _ _).mono ?_; rintro e w' ⟨rfl, rfl⟩))
  refine bodyPost_ret (v := .tuple #[.agg #[.int .i64 (6), .int .i64 (d), .int .i64 (o)], .bool true]) (by simp [results, Tryz.results151, go_sem]) rfl ⟨⟨_, _, _, _, rfl, ?_⟩, ?_⟩
  · rw [unhide Hr]; rfl
  · repeat (first | exact Below.refl _ _ | refine Below.alloc ?_ (by simp) _ | refine Below.setCell ?_ (by simp) _)

set_option maxHeartbeats 1000000 in
theorem factor_6c45 (d o : Int) (w : World) (hd0 : 0 ≤ d) (hd1 : d ≤ 18) (ho0 : 0 ≤ o) (ho1 : o ≤ 200) :
    Calls Tryz.prog 151 #[.agg #[.int .i64 6, .int .i64 d, .int .i64 o], .int .u8 45] w fun e w' => SpotR (factS 6 d o 45) e ∧ Below w.heap.size w w' := by
  have edig : digB 45 = false := rfl
  have esel : selB 45 = false := rfl
  have eold : oldB 45 = false := rfl
  have Hr : Hid (factS 6 d o 45 = some (6, d, o)) := by
    show _ = _
    unfold factS
    simp (config := { decide := true }) [*]
  go_enter Tryz.func151, Tryz.ntmps151
  go_wp2_with (first | (go_at_call 158; refine (digit_any _ _).mono ?_; rintro e w' ⟨rfl, rfl⟩) | (go_at_call 160; refine (selector_any _ _).mono ?_; rintro e w' ⟨rfl, rfl⟩) | (go_at_call 155; refine (older_any _ _).mono ?_; rintro e w' ⟨rfl, rfl⟩))
  refine bodyPost_ret (v := .tuple #[.agg #[.int .i64 (6), .int .i64 (d), .int .i64 (o)], .bool true]) (by simp [results, Tryz.results151, go_sem]) rfl ⟨⟨_, _, _, _, rfl, ?_⟩, ?_⟩
  · rw [unhide Hr]; rfl
  · repeat (first | exact Below.refl _ _ | refine Below.alloc ?_ (by simp) _ | refine Below.setCell ?_ (by simp) _)

set_option maxHeartbeats 1000000 in
theorem factor_6c40 (d o : Int) (w : World) (hd0 : 0 ≤ d) (hd1 : d ≤ 18) (ho0 : 0 ≤ o) (ho1 : o ≤ 200) :
    Calls Tryz.prog 151 #[.agg #[.int .i64 6, .int .i64 d, .int .i64 o], .int .u8 40] w fun e w' => SpotR (factS 6 d o 40) e ∧ Below w.heap.size w w' := by
  have edig : digB 40 = false := rfl
  have esel : selB 40 = false := rfl
  have eold : oldB 40 = false := rfl
  have Hr : Hid (factS 6 d o 40 = some (6, d, o + 1)) := by
    show _ = _
    unfold factS
    simp (config := { decide := true }) [*]
  go_enter Tryz.func151, Tryz.ntmps151
  go_wp2_with (first | (go_at_call 158; refine (digit_any _ _).mono ?_; rintro e w' ⟨rfl, rfl⟩) | (go_at_call 160; refine (selector_any _ _).mono ?_; rintro e w' ⟨rfl, rfl⟩) | (go_at_call 155; refine (older_any _ _).mono ?_; rintro e w' ⟨rfl, rfl⟩))
  refine bodyPost_ret (v := .tuple #[.agg #[.int .i64 (6), .int .i64 (d), .int .i64 (o + 1)], .bool true]) (by simp [results, Tryz.results151, go_sem]) rfl ⟨⟨_, _, _, _, rfl, ?_⟩, ?_⟩
  · rw [unhide Hr]; rfl
  · repeat (first | exact Below.refl _ _ | refine Below.alloc ?_ (by simp) _ | refine Below.setCell ?_ (by simp) _)

set_option maxHeartbeats 1000000 in
theorem factor_6dig (d o c : Int) (w : World) (hd0 : 0 ≤ d) (hd1 : d ≤ 18) (ho0 : 0 ≤ o) (ho1 : o ≤ 200) (hc : digB c = true) :
    Calls Tryz.prog 151 #[.agg #[.int .i64 6, .int .i64 d, .int .i64 o], .int .u8 c] w fun e w' => SpotR (factS 6 d o c) e ∧ Below w.heap.size w w' := by
  have n32 := dig_ne hc 32 rfl
  have n45 := dig_ne hc 45 rfl
  have n40 := dig_ne hc 40 rfl
  have Hr : Hid (factS 6 d o c = some (7, 1, o)) := by
    show _ = _
    unfold factS
    simp (config := { decide := true }) [*]
  go_enter Tryz.func151, Tryz.ntmps151
  go_wp2_with (first | (go_at_call 158; refine (digit_any _ _).mono ?_; rintro e w' ⟨rfl, rfl⟩) | (go_at_call 160; refine (selector_any _ _).mono ?_; rintro e w' ⟨rfl, rfl⟩) | (go_at_call 155; refine (older_any _ _).mono ?_; rintro e w' ⟨rfl, rfl⟩))
  refine bodyPost_ret (v := .tuple #[.agg #[.int .i64 (7), .int .i64 (1), .int .i64 (o)], .bool true]) (by simp [results, Tryz.results151, go_sem]) rfl ⟨⟨_, _, _, _, rfl, ?_⟩, ?_⟩
  · rw [unhide Hr]; rfl
  · repeat (first | exact Below.refl _ _ | refine Below.alloc ?_ (by simp) _ | refine Below.setCell ?_ (by simp) _)

set_option maxHeartbeats 1000000 in
theorem factor_6sel (d o c : Int) (w : World) (hd0 : 0 ≤ d) (hd1 : d ≤ 18) (ho0 : 0 ≤ o) (ho1 : o ≤ 200) (hc : selB c = true) :
    Calls Tryz.prog 151 #[.agg #[.int .i64 6, .int .i64 d, .int .i64 o], .int .u8 c] w fun e w' => SpotR (factS 6 d o c) e ∧ Below w.heap.size w w' := by
  have n32 := sel_ne hc 32 rfl
  have n45 := sel_ne hc 45 rfl
  have n40 := sel_ne hc 40 rfl
  have hd := sel_dig hc
  have Hr : Hid (factS 6 d o c = some (8, d, o)) := by
    show _ = _
    unfold factS
    simp (config := { decide := true }) [*]
  go_enter Tryz.func151, Tryz.ntmps151
  go_wp2_with (first | (go_at_call 158; refine (digit_any _ _).mono ?_; rintro e w' ⟨rfl, rfl⟩) | (go_at_call 160; refine (selector_any _ _).mono ?_; rintro e w' ⟨rfl, rfl⟩) | (go_at_call 155; refine (older_any _ _).mono ?_; rintro e w' ⟨rfl, rfl⟩))
  refine bodyPost_ret (v := .tuple #[.agg #[.int .i64 (8), .int .i64 (d), .int .i64 (o)], .bool true]) (by simp [results, Tryz.results151, go_sem]) rfl ⟨⟨_, _, _, _, rfl, ?_⟩, ?_⟩
  · rw [unhide Hr]; rfl
  · repeat (first | exact Below.refl _ _ | refine Below.alloc ?_ (by simp) _ | refine Below.setCell ?_ (by simp) _)

set_option maxHeartbeats 1000000 in
theorem factor_6old (d o c : Int) (w : World) (hd0 : 0 ≤ d) (hd1 : d ≤ 18) (ho0 : 0 ≤ o) (ho1 : o ≤ 200) (hc : oldB c = true) :
    Calls Tryz.prog 151 #[.agg #[.int .i64 6, .int .i64 d, .int .i64 o], .int .u8 c] w fun e w' => SpotR (factS 6 d o c) e ∧ Below w.heap.size w w' := by
  have n32 := old_ne hc 32 rfl
  have n45 := old_ne hc 45 rfl
  have n40 := old_ne hc 40 rfl
  have hd := old_dig hc
  have hs := old_sel hc
  have Hr : Hid (factS 6 d o c = some (9, d, o)) := by
    show _ = _
    unfold factS
    simp (config := { decide := true }) [*]
  go_enter Tryz.func151, Tryz.ntmps151
  go_wp2_with (first | (go_at_call 158; refine (digit_any _ _).mono ?_; rintro e w' ⟨rfl, rfl⟩) | (go_at_call 160; refine (selector_any _ _).mono ?_; rintro e w' ⟨rfl, rfl⟩) | (go_at_call 155; refine (older_any _ _).mono ?_; rintro e w' ⟨rfl, rfl⟩))
  refine bodyPost_ret (v := .tuple #[.agg #[.int .i64 (9), .int .i64 (d), .int .i64 (o)], .bool true]) (by simp [results, Tryz.results151, go_sem]) rfl ⟨⟨_, _, _, _, rfl, ?_⟩, ?_⟩
  · rw [unhide Hr]; rfl
  · repeat (first | exact Below.refl _ _ | refine Below.alloc ?_ (by simp) _ | refine Below.setCell ?_ (by simp) _)

set_option maxHeartbeats 1000000 in
theorem factor_6oth (d o c : Int) (w : World) (hd0 : 0 ≤ d) (hd1 : d ≤ 18) (ho0 : 0 ≤ o) (ho1 : o ≤ 200) (h32 : (c == 32) = false) (h45 : (c == 45) = false) (h40 : (c == 40) = false) (hd : digB c = false) (hs : selB c = false) (hl : oldB c = false) :
    Calls Tryz.prog 151 #[.agg #[.int .i64 6, .int .i64 d, .int .i64 o], .int .u8 c] w fun e w' => SpotR (factS 6 d o c) e ∧ Below w.heap.size w w' := by
  have Hr : Hid (factS 6 d o c = none) := by
    show _ = _
    unfold factS
    simp (config := { decide := true }) [*]
  go_enter Tryz.func151, Tryz.ntmps151
  go_wp2_with (first | (go_at_call 158; refine (digit_any _ _).mono ?_; rintro e w' ⟨rfl, rfl⟩) | (go_at_call 160; refine (selector_any _ _).mono ?_; rintro e w' ⟨rfl, rfl⟩) | (go_at_call 155; refine (older_any _ _).mono ?_; rintro e w' ⟨rfl, rfl⟩))
  refine bodyPost_ret (v := .tuple #[.agg #[.int .i64 (6), .int .i64 (d), .int .i64 (o)], .bool false]) (by simp [results, Tryz.results151, go_sem]) rfl ⟨⟨_, _, _, _, rfl, ?_⟩, ?_⟩
  · rw [unhide Hr]; rfl
  · repeat (first | exact Below.refl _ _ | refine Below.alloc ?_ (by simp) _ | refine Below.setCell ?_ (by simp) _)

set_option maxHeartbeats 1000000 in
theorem factor_8c32 (d o : Int) (w : World) (hd0 : 0 ≤ d) (hd1 : d ≤ 18) (ho0 : 0 ≤ o) (ho1 : o ≤ 200) :
    Calls Tryz.prog 151 #[.agg #[.int .i64 8, .int .i64 d, .int .i64 o], .int .u8 32] w fun e w' => SpotR (factS 8 d o 32) e ∧ Below w.heap.size w w' := by
  have edig : digB 32 = false := rfl
  have esel : selB 32 = false := rfl
  have eold : oldB 32 = false := rfl
  have Hr : Hid (factS 8 d o 32 = none) := by
    show _ = _
    unfold factS
    simp (config := { decide := true }) [*]
  go_enter Tryz.func151, Tryz.ntmps151
  go_wp2_with (first | (go_at_call 158; refine (digit_any _ _).mono ?_; rintro e w' ⟨rfl, rfl⟩) | (go_at_call 160; refine (selector_any _ _).mono ?_; rintro e w' ⟨rfl, rfl⟩) | (go_at_call 155; refine (older_any _ _).mono ?_; rintro e w' ⟨rfl, rfl⟩))
  refine bodyPost_ret (v := .tuple #[.agg #[.int .i64 (8), .int .i64 (d), .int .i64 (o)], .bool false]) (by simp [results, Tryz.results151, go_sem]) rfl ⟨⟨_, _, _, _, rfl, ?_⟩, ?_⟩
  · rw [unhide Hr]; rfl
  · repeat (first | exact Below.refl _ _ | refine Below.alloc ?_ (by simp) _ | refine Below.setCell ?_ (by simp) _)

set_option maxHeartbeats 1000000 in
theorem factor_8c45 (d o : Int) (w : World) (hd0 : 0 ≤ d) (hd1 : d ≤ 18) (ho0 : 0 ≤ o) (ho1 : o ≤ 200) :
    Calls Tryz.prog 151 #[.agg #[.int .i64 8, .int .i64 d, .int .i64 o], .int .u8 45] w fun e w' => SpotR (factS 8 d o 45) e ∧ Below w.heap.size w w' := by
  have edig : digB 45 = false := rfl
  have esel : selB 45 = false := rfl
  have eold : oldB 45 = false := rfl
  have Hr : Hid (factS 8 d o 45 = none) := by
    show _ = _
    unfold factS
    simp (config := { decide := true }) [*]
  go_enter Tryz.func151, Tryz.ntmps151
  go_wp2_with (first | (go_at_call 158; refine (digit_any _ _).mono ?_; rintro e w' ⟨rfl, rfl⟩) | (go_at_call 160; refine (selector_any _ _).mono ?_; rintro e w' ⟨rfl, rfl⟩) | (go_at_call 155; refine (older_any _ _).mono ?_; rintro e w' ⟨rfl, rfl⟩))
  refine bodyPost_ret (v := .tuple #[.agg #[.int .i64 (8), .int .i64 (d), .int .i64 (o)], .bool false]) (by simp [results, Tryz.results151, go_sem]) rfl ⟨⟨_, _, _, _, rfl, ?_⟩, ?_⟩
  · rw [unhide Hr]; rfl
  · repeat (first | exact Below.refl _ _ | refine Below.alloc ?_ (by simp) _ | refine Below.setCell ?_ (by simp) _)

set_option maxHeartbeats 1000000 in
theorem factor_8c40 (d o : Int) (w : World) (hd0 : 0 ≤ d) (hd1 : d ≤ 18) (ho0 : 0 ≤ o) (ho1 : o ≤ 200) :
    Calls Tryz.prog 151 #[.agg #[.int .i64 8, .int .i64 d, .int .i64 o], .int .u8 40] w fun e w' => SpotR (factS 8 d o 40) e ∧ Below w.heap.size w w' := by
  have edig : digB 40 = false := rfl
  have esel : selB 40 = false := rfl
  have eold : oldB 40 = false := rfl
  have Hr : Hid (factS 8 d o 40 = none) := by
    show _ = _
    unfold factS
    simp (config := { decide := true }) [*]
  go_enter Tryz.func151, Tryz.ntmps151
  go_wp2_with (first | (go_at_call 158; refine (digit_any _ _).mono ?_; rintro e w' ⟨rfl, rfl⟩) | (go_at_call 160; refine (selector_any _ _).mono ?_; rintro e w' ⟨rfl, rfl⟩) | (go_at_call 155; refine (older_any _ _).mono ?_; rintro e w' ⟨rfl, rfl⟩))
  refine bodyPost_ret (v := .tuple #[.agg #[.int .i64 (8), .int .i64 (d), .int .i64 (o)], .bool false]) (by simp [results, Tryz.results151, go_sem]) rfl ⟨⟨_, _, _, _, rfl, ?_⟩, ?_⟩
  · rw [unhide Hr]; rfl
  · repeat (first | exact Below.refl _ _ | refine Below.alloc ?_ (by simp) _ | refine Below.setCell ?_ (by simp) _)

set_option maxHeartbeats 1000000 in
theorem factor_8dig (d o c : Int) (w : World) (hd0 : 0 ≤ d) (hd1 : d ≤ 18) (ho0 : 0 ≤ o) (ho1 : o ≤ 200) (hc : digB c = true) :
    Calls Tryz.prog 151 #[.agg #[.int .i64 8, .int .i64 d, .int .i64 o], .int .u8 c] w fun e w' => SpotR (factS 8 d o c) e ∧ Below w.heap.size w w' := by
  have n32 := dig_ne hc 32 rfl
  have n45 := dig_ne hc 45 rfl
  have n40 := dig_ne hc 40 rfl
  have Hr : Hid (factS 8 d o c = some (10, d, o)) := by
    show _ = _
    unfold factS
    simp (config := { decide := true }) [*]
  go_enter Tryz.func151, Tryz.ntmps151
  go_wp2_with (first | (go_at_call 158; refine (digit_any _ _).mono ?_; rintro e w' ⟨rfl, rfl⟩) | (go_at_call 160; refine (selector_any _ _).mono ?_; rintro e w' ⟨rfl, rfl⟩) | (go_at_call 155; refine (older_any _ _).mono ?_; rintro e w' ⟨rfl, rfl⟩))
  refine bodyPost_ret (v := .tuple #[.agg #[.int .i64 (10), .int .i64 (d), .int .i64 (o)], .bool true]) (by simp [results, Tryz.results151, go_sem]) rfl ⟨⟨_, _, _, _, rfl, ?_⟩, ?_⟩
  · rw [unhide Hr]; rfl
  · repeat (first | exact Below.refl _ _ | refine Below.alloc ?_ (by simp) _ | refine Below.setCell ?_ (by simp) _)

set_option maxHeartbeats 1000000 in
theorem factor_8sel (d o c : Int) (w : World) (hd0 : 0 ≤ d) (hd1 : d ≤ 18) (ho0 : 0 ≤ o) (ho1 : o ≤ 200) (hc : selB c = true) :
    Calls Tryz.prog 151 #[.agg #[.int .i64 8, .int .i64 d, .int .i64 o], .int .u8 c] w fun e w' => SpotR (factS 8 d o c) e ∧ Below w.heap.size w w' := by
  have n32 := sel_ne hc 32 rfl
  have n45 := sel_ne hc 45 rfl
  have n40 := sel_ne hc 40 rfl
  have hd := sel_dig hc
  have Hr : Hid (factS 8 d o c = none) := by
    show _ = _
    unfold factS
    simp (config := { decide := true }) [*]
  go_enter Tryz.func151, Tryz.ntmps151
  go_wp2_with (first | (go_at_call 158; refine (digit_any _ _).mono ?_; rintro e w' ⟨rfl, rfl⟩) | (go_at_call 160; refine (selector_any _ _).mono ?_; rintro e w' ⟨rfl, rfl⟩) | (go_at_call 155; refine (older_any _ _).mono ?_; rintro e w' ⟨rfl, rfl⟩))
  refine bodyPost_ret (v := .tuple #[.agg #[.int .i64 (8), .int .i64 (d), .int .i64 (o)], .bool false]) (by simp [results, Tryz.results151, go_sem]) rfl ⟨⟨_, _, _, _, rfl, ?_⟩, ?_⟩
  · rw [unhide Hr]; rfl
  · repeat (first | exact Below.refl _ _ | refine Below.alloc ?_ (by simp) _ | refine Below.setCell ?_ (by simp) _)

set_option maxHeartbeats 1000000 in
theorem factor_8old (d o c : Int) (w : World) (hd0 : 0 ≤ d) (hd1 : d ≤ 18) (ho0 : 0 ≤ o) (ho1 : o ≤ 200) (hc : oldB c = true) :
    Calls Tryz.prog 151 #[.agg #[.int .i64 8, .int .i64 d, .int .i64 o], .int .u8 c] w fun e w' => SpotR (factS 8 d o c) e ∧ Below w.heap.size w w' := by
  have n32 := old_ne hc 32 rfl
  have n45 := old_ne hc 45 rfl
  have n40 := old_ne hc 40 rfl
  have hd := old_dig hc
  have hs := old_sel hc
  have Hr : Hid (factS 8 d o c = none) := by
    show _ = _
    unfold factS
    simp (config := { decide := true }) [*]
  go_enter Tryz.func151, Tryz.ntmps151
  go_wp2_with (first | (go_at_call 158; refine (digit_any _ _).mono ?_; rintro e w' ⟨rfl, rfl⟩) | (go_at_call 160; refine (selector_any _ _).mono ?_; rintro e w' ⟨rfl, rfl⟩) | (go_at_call 155; refine (older_any _ _).mono ?_; rintro e w' ⟨rfl, rfl⟩))
  refine bodyPost_ret (v := .tuple #[.agg #[.int .i64 (8), .int .i64 (d), .int .i64 (o)], .bool false]) (by simp [results, Tryz.results151, go_sem]) rfl ⟨⟨_, _, _, _, rfl, ?_⟩, ?_⟩
  · rw [unhide Hr]; rfl
  · repeat (first | exact Below.refl _ _ | refine Below.alloc ?_ (by simp) _ | refine Below.setCell ?_ (by simp) _)

set_option maxHeartbeats 1000000 in
theorem factor_8oth (d o c : Int) (w : World) (hd0 : 0 ≤ d) (hd1 : d ≤ 18) (ho0 : 0 ≤ o) (ho1 : o ≤ 200) (h32 : (c == 32) = false) (h45 : (c == 45) = false) (h40 : (c == 40) = false) (hd : digB c = false) (hs : selB c = false) (hl : oldB c = false) :
    Calls Tryz.prog 151 #[.agg #[.int .i64 8, .int .i64 d, .int .i64 o], .int .u8 c] w fun e w' => SpotR (factS 8 d o c) e ∧ Below w.heap.size w w' := by
  have Hr : Hid (factS 8 d o c = none) := by
    show _ = _
    unfold factS
    simp (config := { decide := true }) [*]
  go_enter Tryz.func151, Tryz.ntmps151
  go_wp2_with (first | (go_at_call 158; refine (digit_any _ _).mono ?_; rintro e w' ⟨rfl, rfl⟩) | (go_at_call 160; refine (selector_any _ _).mono ?_; rintro e w' ⟨rfl, rfl⟩) | (go_at_call 155; refine (older_any _ _).mono ?_; rintro e w' ⟨rfl, rfl⟩))
  refine bodyPost_ret (v := .tuple #[.agg #[.int .i64 (8), .int .i64 (d), .int .i64 (o)], .bool false]) (by simp [results, Tryz.results151, go_sem]) rfl ⟨⟨_, _, _, _, rfl, ?_⟩, ?_⟩
  · rw [unhide Hr]; rfl
  · repeat (first | exact Below.refl _ _ | refine Below.alloc ?_ (by simp) _ | refine Below.setCell ?_ (by simp) _)

set_option maxHeartbeats 1000000 in
theorem factor_9c32 (d o : Int) (w : World) (hd0 : 0 ≤ d) (hd1 : d ≤ 18) (ho0 : 0 ≤ o) (ho1 : o ≤ 200) :
    Calls Tryz.prog 151 #[.agg #[.int .i64 9, .int .i64 d, .int .i64 o], .int .u8 32] w fun e w' => SpotR (factS 9 d o 32) e ∧ Below w.heap.size w w' := by
  have edig : digB 32 = false := rfl
  have esel : selB 32 = false := rfl
  have eold : oldB 32 = false := rfl
  have Hr : Hid (factS 9 d o 32 = none) := by
    show _ = _
    unfold factS
    simp (config := { decide := true }) [*]
  go_enter Tryz.func151, Tryz.ntmps151
  go_wp2_with (first | (go_at_call 158; refine (digit_any _ _).mono ?_; rintro e w' ⟨rfl, rfl⟩) | (go_at_call 160; refine (selector_any _ _).mono ?_; rintro e w' ⟨rfl, rfl⟩) | (go_at_call 155; refine (older_any _ _).mono ?_; rintro e w' ⟨rfl, rfl⟩))
  refine bodyPost_ret (v := .tuple #[.agg #[.int .i64 (9), .int .i64 (d), .int .i64 (o)], .bool false]) (by simp [results, Tryz.results151, go_sem]) rfl ⟨⟨_, _, _, _, rfl, ?_⟩, ?_⟩
  · rw [unhide Hr]; rfl
  · repeat (first | exact Below.refl _ _ | refine Below.alloc ?_ (by simp) _ | refine Below.setCell ?_ (by simp) _)

set_option maxHeartbeats 1000000 in
theorem factor_9c45 (d o : Int) (w : World) (hd0 : 0 ≤ d) (hd1 : d ≤ 18) (ho0 : 0 ≤ o) (ho1 : o ≤ 200) :
    Calls Tryz.prog 151 #[.agg #[.int .i64 9, .int .i64 d, .int .i64 o], .int .u8 45] w fun e w' => SpotR (factS 9 d o 45) e ∧ Below w.heap.size w w' := by
  have edig : digB 45 = false := rfl
  have esel : selB 45 = false := rfl
  have eold : oldB 45 = false := rfl
  have Hr : Hid (factS 9 d o 45 = none) := by
    show _ = _
    unfold factS
    simp (config := { decide := true }) [*]
  go_enter Tryz.func151, Tryz.ntmps151
  go_wp2_with (first | (go_at_call 158; refine (digit_any _ _).mono ?_; rintro e w' ⟨rfl, rfl⟩) | (go_at_call 160; refine (selector_any _ _).mono ?_; rintro e w' ⟨rfl, rfl⟩) | (go_at_call 155; refine (older_any _ _).mono ?_; rintro e w' ⟨rfl, rfl⟩))
  refine bodyPost_ret (v := .tuple #[.agg #[.int .i64 (9), .int .i64 (d), .int .i64 (o)], .bool false]) (by simp [results, Tryz.results151, go_sem]) rfl ⟨⟨_, _, _, _, rfl, ?_⟩, ?_⟩
  · rw [unhide Hr]; rfl
  · repeat (first | exact Below.refl _ _ | refine Below.alloc ?_ (by simp) _ | refine Below.setCell ?_ (by simp) _)

set_option maxHeartbeats 1000000 in
theorem factor_9c40 (d o : Int) (w : World) (hd0 : 0 ≤ d) (hd1 : d ≤ 18) (ho0 : 0 ≤ o) (ho1 : o ≤ 200) :
    Calls Tryz.prog 151 #[.agg #[.int .i64 9, .int .i64 d, .int .i64 o], .int .u8 40] w fun e w' => SpotR (factS 9 d o 40) e ∧ Below w.heap.size w w' := by
  have edig : digB 40 = false := rfl
  have esel : selB 40 = false := rfl
  have eold : oldB 40 = false := rfl
  have Hr : Hid (factS 9 d o 40 = none) := by
    show _ = _
    unfold factS
    simp (config := { decide := true }) [*]
  go_enter Tryz.func151, Tryz.ntmps151
  go_wp2_with (first | (go_at_call 158; refine (digit_any _ _).mono ?_; rintro e w' ⟨rfl, rfl⟩) | (go_at_call 160; refine (selector_any _ _).mono ?_; rintro e w' ⟨rfl, rfl⟩) | (go_at_call 155; refine (older_any _ _).mono ?_; rintro e w' ⟨rfl, rfl⟩))
  refine bodyPost_ret (v := .tuple #[.agg #[.int .i64 (9), .int .i64 (d), .int .i64 (o)], .bool false]) (by simp [results, Tryz.results151, go_sem]) rfl ⟨⟨_, _, _, _, rfl, ?_⟩, ?_⟩
  · rw [unhide Hr]; rfl
  · repeat (first | exact Below.refl _ _ | refine Below.alloc ?_ (by simp) _ | refine Below.setCell ?_ (by simp) _)

set_option maxHeartbeats 1000000 in
theorem factor_9dig (d o c : Int) (w : World) (hd0 : 0 ≤ d) (hd1 : d ≤ 18) (ho0 : 0 ≤ o) (ho1 : o ≤ 200) (hc : digB c = true) :
    Calls Tryz.prog 151 #[.agg #[.int .i64 9, .int .i64 d, .int .i64 o], .int .u8 c] w fun e w' => SpotR (factS 9 d o c) e ∧ Below w.heap.size w w' := by
  have n32 := dig_ne hc 32 rfl
  have n45 := dig_ne hc 45 rfl
  have n40 := dig_ne hc 40 rfl
  have Hr : Hid (factS 9 d o c = some (11, d, o)) := by
    show _ = _
    unfold factS
    simp (config := { decide := true }) [*]
  go_enter Tryz.func151, Tryz.ntmps151
  go_wp2_with (first | (go_at_call 158; refine (digit_any _ _).mono ?_; rintro e w' ⟨rfl, rfl⟩) | (go_at_call 160; refine (selector_any _ _).mono ?_; rintro e w' ⟨rfl, rfl⟩) | (go_at_call 155; refine (older_any _ _).mono ?_; rintro e w' ⟨rfl, rfl⟩))
  refine bodyPost_ret (v := .tuple #[.agg #[.int .i64 (11), .int .i64 (d), .int .i64 (o)], .bool true]) (by simp [results, Tryz.results151, go_sem]) rfl ⟨⟨_, _, _, _, rfl, ?_⟩, ?_⟩
  · rw [unhide Hr]; rfl
  · repeat (first | exact Below.refl _ _ | refine Below.alloc ?_ (by simp) _ | refine Below.setCell ?_ (by simp) _)

set_option maxHeartbeats 1000000 in
theorem factor_9sel (d o c : Int) (w : World) (hd0 : 0 ≤ d) (hd1 : d ≤ 18) (ho0 : 0 ≤ o) (ho1 : o ≤ 200) (hc : selB c = true) :
    Calls Tryz.prog 151 #[.agg #[.int .i64 9, .int .i64 d, .int .i64 o], .int .u8 c] w fun e w' => SpotR (factS 9 d o c) e ∧ Below w.heap.size w w' := by
  have n32 := sel_ne hc 32 rfl
  have n45 := sel_ne hc 45 rfl
  have n40 := sel_ne hc 40 rfl
  have hd := sel_dig hc
  have Hr : Hid (factS 9 d o c = none) := by
    show _ = _
    unfold factS
    simp (config := { decide := true }) [*]
  go_enter Tryz.func151, Tryz.ntmps151
  go_wp2_with (first | (go_at_call 158; refine (digit_any _ _).mono ?_; rintro e w' ⟨rfl, rfl⟩) | (go_at_call 160; refine (selector_any _ _).mono ?_; rintro e w' ⟨rfl, rfl⟩) | (go_at_call 155; refine (older_any _ _).mono ?_; rintro e w' ⟨rfl, rfl⟩))
  refine bodyPost_ret (v := .tuple #[.agg #[.int .i64 (9), .int .i64 (d), .int .i64 (o)], .bool false]) (by simp [results, Tryz.results151, go_sem]) rfl ⟨⟨_, _, _, _, rfl, ?_⟩, ?_⟩
  · rw [unhide Hr]; rfl
  · repeat (first | exact Below.refl _ _ | refine Below.alloc ?_ (by simp) _ | refine Below.setCell ?_ (by simp) _)

set_option maxHeartbeats 1000000 in
theorem factor_9old (d o c : Int) (w : World) (hd0 : 0 ≤ d) (hd1 : d ≤ 18) (ho0 : 0 ≤ o) (ho1 : o ≤ 200) (hc : oldB c = true) :
    Calls Tryz.prog 151 #[.agg #[.int .i64 9, .int .i64 d, .int .i64 o], .int .u8 c] w fun e w' => SpotR (factS 9 d o c) e ∧ Below w.heap.size w w' := by
  have n32 := old_ne hc 32 rfl
  have n45 := old_ne hc 45 rfl
  have n40 := old_ne hc 40 rfl
  have hd := old_dig hc
  have hs := old_sel hc
  have Hr : Hid (factS 9 d o c = none) := by
    show _ = _
    unfold factS
    simp (config := { decide := true }) [*]
  go_enter Tryz.func151, Tryz.ntmps151
  go_wp2_with (first | (go_at_call 158; refine (digit_any _ _).mono ?_; rintro e w' ⟨rfl, rfl⟩) | (go_at_call 160; refine (selector_any _ _).mono ?_; rintro e w' ⟨rfl, rfl⟩) | (go_at_call 155; refine (older_any _ _).mono ?_; rintro e w' ⟨rfl, rfl⟩))
  refine bodyPost_ret (v := .tuple #[.agg #[.int .i64 (9), .int .i64 (d), .int .i64 (o)], .bool false]) (by simp [results, Tryz.results151, go_sem]) rfl ⟨⟨_, _, _, _, rfl, ?_⟩, ?_⟩
  · rw [unhide Hr]; rfl
  · repeat (first | exact Below.refl _ _ | refine Below.alloc ?_ (by simp) _ | refine Below.setCell ?_ (by simp) _)

set_option maxHeartbeats 1000000 in
theorem factor_9oth (d o c : Int) (w : World) (hd0 : 0 ≤ d) (hd1 : d ≤ 18) (ho0 : 0 ≤ o) (ho1 : o ≤ 200) (h32 : (c == 32) = false) (h45 : (c == 45) = false) (h40 : (c == 40) = false) (hd : digB c = false) (hs : selB c = false) (hl : oldB c = false) :
    Calls Tryz.prog 151 #[.agg #[.int .i64 9, .int .i64 d, .int .i64 o], .int .u8 c] w fun e w' => SpotR (factS 9 d o c) e ∧ Below w.heap.size w w' := by
  have Hr : Hid (factS 9 d o c = none) := by
    show _ = _
    unfold factS
    simp (config := { decide := true }) [*]
  go_enter Tryz.func151, Tryz.ntmps151
  go_wp2_with (first | (go_at_call 158; refine (digit_any _ _).mono ?_; rintro e w' ⟨rfl, rfl⟩) | (go_at_call 160; refine (selector_any _ _).mono ?_; rintro e w' ⟨rfl, rfl⟩) | (go_at_call 155; refine (older_any _ _).mono ?_; rintro e w' ⟨rfl, rfl⟩))
  refine bodyPost_ret (v := .tuple #[.agg #[.int .i64 (9), .int .i64 (d), .int .i64 (o)], .bool false]) (by simp [results, Tryz.results151, go_sem]) rfl ⟨⟨_, _, _, _, rfl, ?_⟩, ?_⟩
  · rw [unhide Hr]; rfl
  · repeat (first | exact Below.refl _ _ | refine Below.alloc ?_ (by simp) _ | refine Below.setCell ?_ (by simp) _)

theorem factor_any (a d o c : Int) (w : World) (ha : a = 6 ∨ a = 8 ∨ a = 9) (hd0 : 0 ≤ d) (hd1 : d ≤ 18) (ho0 : 0 ≤ o) (ho1 : o ≤ 200) :
    Calls Tryz.prog 151 #[.agg #[.int .i64 a, .int .i64 d, .int .i64 o], .int .u8 c] w fun e w' => SpotR (factS a d o c) e ∧ Below w.heap.size w w' := by
  by_cases h32 : c = 32
  · subst h32
    rcases ha with rfl | rfl | rfl
    · exact factor_6c32 d o w hd0 hd1 ho0 ho1
    · exact factor_8c32 d o w hd0 hd1 ho0 ho1
    · exact factor_9c32 d o w hd0 hd1 ho0 ho1
  by_cases h45 : c = 45
  · subst h45
    rcases ha with rfl | rfl | rfl
    · exact factor_6c45 d o w hd0 hd1 ho0 ho1
    · exact factor_8c45 d o w hd0 hd1 ho0 ho1
    · exact factor_9c45 d o w hd0 hd1 ho0 ho1
  by_cases h40 : c = 40
  · subst h40
    rcases ha with rfl | rfl | rfl
    · exact factor_6c40 d o w hd0 hd1 ho0 ho1
    · exact factor_8c40 d o w hd0 hd1 ho0 ho1
    · exact factor_9c40 d o w hd0 hd1 ho0 ho1
  cases hdig : digB c with
  | true =>
    rcases ha with rfl | rfl | rfl
    · exact factor_6dig d o c w hd0 hd1 ho0 ho1 hdig
    · exact factor_8dig d o c w hd0 hd1 ho0 ho1 hdig
    · exact factor_9dig d o c w hd0 hd1 ho0 ho1 hdig
  | false =>
  cases hsel : selB c with
  | true =>
    rcases ha with rfl | rfl | rfl
    · exact factor_6sel d o c w hd0 hd1 ho0 ho1 hsel
    · exact factor_8sel d o c w hd0 hd1 ho0 ho1 hsel
    · exact factor_9sel d o c w hd0 hd1 ho0 ho1 hsel
  | false =>
  cases hold : oldB c with
  | true =>
    rcases ha with rfl | rfl | rfl
    · exact factor_6old d o c w hd0 hd1 ho0 ho1 hold
    · exact factor_8old d o c w hd0 hd1 ho0 ho1 hold
    · exact factor_9old d o c w hd0 hd1 ho0 ho1 hold
  | false =>
  rcases ha with rfl | rfl | rfl
  · exact factor_6oth d o c w hd0 hd1 ho0 ho1 (beq_false_of h32) (beq_false_of h45) (beq_false_of h40) hdig hsel hold
  · exact factor_8oth d o c w hd0 hd1 ho0 ho1 (beq_false_of h32) (beq_false_of h45) (beq_false_of h40) hdig hsel hold
  · exact factor_9oth d o c w hd0 hd1 ho0 ho1 (beq_false_of h32) (beq_false_of h45) (beq_false_of h40) hdig hsel hold

end Go.Proofs.YtdchbenfccofpaaGreatDoor
set_option linter.unusedVariables false
namespace Go.Proofs.YtdchbenfccofpaaGreatDoor
open Go.RowKit Db
set_option maxHeartbeats 1000000 in
theorem onward_7dig (d o c : Int) (w : World) (hd0 : 0 ≤ d) (hd1 : d ≤ 18) (ho0 : 0 ≤ o) (ho1 : o ≤ 200) (hc : digB c = true) (h18 : d < 18) :
    Calls Tryz.prog 152 #[.agg #[.int .i64 7, .int .i64 d, .int .i64 o], .int .u8 c] w fun e w' => SpotR (onwS 7 d o c) e ∧ Below w.heap.size w w' := by
  have n32 := dig_ne hc 32 rfl
  have n59 := dig_ne hc 59 rfl
  have n41 := dig_ne hc 41 rfl
  have hp : opB c = false := by cases h : opB c with | false => rfl | true => rw [op_dig h] at hc; cases hc
  have Hr : Hid (onwS 7 d o c = some (7, d + 1, o)) := by
    show _ = _
    unfold onwS
    simp (config := { decide := true }) [*]
  go_enter Tryz.func152, Tryz.ntmps152
  go_wp2_with (first | (go_at_call 158; refine (digit_any _ _).mono ?_; rintro e w' ⟨rfl, rfl⟩) | (go_at_call 161; refine (operation_any _ _).mono ?_; rintro e w' ⟨rfl, rfl⟩))
  refine bodyPost_ret (v := .tuple #[.agg #[.int .i64 (7), .int .i64 (d + 1), .int .i64 (o)], .bool true]) (by simp [results, Tryz.results152, go_sem]) rfl ⟨⟨_, _, _, _, rfl, ?_⟩, ?_⟩
  · rw [unhide Hr]; rfl
  · repeat (first | exact Below.refl _ _ | refine Below.alloc ?_ (by simp) _ | refine Below.setCell ?_ (by simp) _)

set_option maxHeartbeats 1000000 in
theorem onward_7dig18 (d o c : Int) (w : World) (hd0 : 0 ≤ d) (hd1 : d ≤ 18) (ho0 : 0 ≤ o) (ho1 : o ≤ 200) (hc : digB c = true) (h18 : ¬ d < 18) :
    Calls Tryz.prog 152 #[.agg #[.int .i64 7, .int .i64 d, .int .i64 o], .int .u8 c] w fun e w' => SpotR (onwS 7 d o c) e ∧ Below w.heap.size w w' := by
  have n32 := dig_ne hc 32 rfl
  have n59 := dig_ne hc 59 rfl
  have n41 := dig_ne hc 41 rfl
  have hp : opB c = false := by cases h : opB c with | false => rfl | true => rw [op_dig h] at hc; cases hc
  have Hr : Hid (onwS 7 d o c = none) := by
    show _ = _
    unfold onwS
    simp (config := { decide := true }) [*]
  go_enter Tryz.func152, Tryz.ntmps152
  go_wp2_with (first | (go_at_call 158; refine (digit_any _ _).mono ?_; rintro e w' ⟨rfl, rfl⟩) | (go_at_call 161; refine (operation_any _ _).mono ?_; rintro e w' ⟨rfl, rfl⟩))
  refine bodyPost_ret (v := .tuple #[.agg #[.int .i64 (7), .int .i64 (d), .int .i64 (o)], .bool false]) (by simp [results, Tryz.results152, go_sem]) rfl ⟨⟨_, _, _, _, rfl, ?_⟩, ?_⟩
  · rw [unhide Hr]; rfl
  · repeat (first | exact Below.refl _ _ | refine Below.alloc ?_ (by simp) _ | refine Below.setCell ?_ (by simp) _)

set_option maxHeartbeats 1000000 in
theorem onward_7c32 (d o : Int) (w : World) (hd0 : 0 ≤ d) (hd1 : d ≤ 18) (ho0 : 0 ≤ o) (ho1 : o ≤ 200) :
    Calls Tryz.prog 152 #[.agg #[.int .i64 7, .int .i64 d, .int .i64 o], .int .u8 32] w fun e w' => SpotR (onwS 7 d o 32) e ∧ Below w.heap.size w w' := by
  have edig : digB 32 = false := rfl
  have eop : opB 32 = false := rfl
  have Hr : Hid (onwS 7 d o 32 = some (11, d, o)) := by
    show _ = _
    unfold onwS
    simp (config := { decide := true }) [*]
  go_enter Tryz.func152, Tryz.ntmps152
  go_wp2_with (first | (go_at_call 158; refine (digit_any _ _).mono ?_; rintro e w' ⟨rfl, rfl⟩) | (go_at_call 161; refine (operation_any _ _).mono ?_; rintro e w' ⟨rfl, rfl⟩))
  refine bodyPost_ret (v := .tuple #[.agg #[.int .i64 (11), .int .i64 (d), .int .i64 (o)], .bool true]) (by simp [results, Tryz.results152, go_sem]) rfl ⟨⟨_, _, _, _, rfl, ?_⟩, ?_⟩
  · rw [unhide Hr]; rfl
  · repeat (first | exact Below.refl _ _ | refine Below.alloc ?_ (by simp) _ | refine Below.setCell ?_ (by simp) _)

set_option maxHeartbeats 1000000 in
theorem onward_7op (d o c : Int) (w : World) (hd0 : 0 ≤ d) (hd1 : d ≤ 18) (ho0 : 0 ≤ o) (ho1 : o ≤ 200) (hc : opB c = true) :
    Calls Tryz.prog 152 #[.agg #[.int .i64 7, .int .i64 d, .int .i64 o], .int .u8 c] w fun e w' => SpotR (onwS 7 d o c) e ∧ Below w.heap.size w w' := by
  have n32 := op_ne hc 32 rfl
  have n59 := op_ne hc 59 rfl
  have n41 := op_ne hc 41 rfl
  have hd := op_dig hc
  have Hr : Hid (onwS 7 d o c = some (6, d, o)) := by
    show _ = _
    unfold onwS
    simp (config := { decide := true }) [*]
  go_enter Tryz.func152, Tryz.ntmps152
  go_wp2_with (first | (go_at_call 158; refine (digit_any _ _).mono ?_; rintro e w' ⟨rfl, rfl⟩) | (go_at_call 161; refine (operation_any _ _).mono ?_; rintro e w' ⟨rfl, rfl⟩))
  refine bodyPost_ret (v := .tuple #[.agg #[.int .i64 (6), .int .i64 (d), .int .i64 (o)], .bool true]) (by simp [results, Tryz.results152, go_sem]) rfl ⟨⟨_, _, _, _, rfl, ?_⟩, ?_⟩
  · rw [unhide Hr]; rfl
  · repeat (first | exact Below.refl _ _ | refine Below.alloc ?_ (by simp) _ | refine Below.setCell ?_ (by simp) _)

set_option maxHeartbeats 1000000 in
theorem onward_7c59z (d o : Int) (w : World) (hd0 : 0 ≤ d) (hd1 : d ≤ 18) (ho0 : 0 ≤ o) (ho1 : o ≤ 200) (hz : (o == 0) = true) :
    Calls Tryz.prog 152 #[.agg #[.int .i64 7, .int .i64 d, .int .i64 o], .int .u8 59] w fun e w' => SpotR (onwS 7 d o 59) e ∧ Below w.heap.size w w' := by
  have edig : digB 59 = false := rfl
  have eop : opB 59 = false := rfl
  have Hr : Hid (onwS 7 d o 59 = some (6, d, o)) := by
    show _ = _
    unfold onwS
    simp (config := { decide := true }) [*]
  go_enter Tryz.func152, Tryz.ntmps152
  go_wp2_with (first | (go_at_call 158; refine (digit_any _ _).mono ?_; rintro e w' ⟨rfl, rfl⟩) | (go_at_call 161; refine (operation_any _ _).mono ?_; rintro e w' ⟨rfl, rfl⟩))
  refine bodyPost_ret (v := .tuple #[.agg #[.int .i64 (6), .int .i64 (d), .int .i64 (o)], .bool true]) (by simp [results, Tryz.results152, go_sem]) rfl ⟨⟨_, _, _, _, rfl, ?_⟩, ?_⟩
  · rw [unhide Hr]; rfl
  · repeat (first | exact Below.refl _ _ | refine Below.alloc ?_ (by simp) _ | refine Below.setCell ?_ (by simp) _)

set_option maxHeartbeats 1000000 in
theorem onward_7c59n (d o : Int) (w : World) (hd0 : 0 ≤ d) (hd1 : d ≤ 18) (ho0 : 0 ≤ o) (ho1 : o ≤ 200) (hz : (o == 0) = false) :
    Calls Tryz.prog 152 #[.agg #[.int .i64 7, .int .i64 d, .int .i64 o], .int .u8 59] w fun e w' => SpotR (onwS 7 d o 59) e ∧ Below w.heap.size w w' := by
  have edig : digB 59 = false := rfl
  have eop : opB 59 = false := rfl
  have Hr : Hid (onwS 7 d o 59 = none) := by
    show _ = _
    unfold onwS
    simp (config := { decide := true }) [*]
  go_enter Tryz.func152, Tryz.ntmps152
  go_wp2_with (first | (go_at_call 158; refine (digit_any _ _).mono ?_; rintro e w' ⟨rfl, rfl⟩) | (go_at_call 161; refine (operation_any _ _).mono ?_; rintro e w' ⟨rfl, rfl⟩))
  refine bodyPost_ret (v := .tuple #[.agg #[.int .i64 (7), .int .i64 (d), .int .i64 (o)], .bool false]) (by simp [results, Tryz.results152, go_sem]) rfl ⟨⟨_, _, _, _, rfl, ?_⟩, ?_⟩
  · rw [unhide Hr]; rfl
  · repeat (first | exact Below.refl _ _ | refine Below.alloc ?_ (by simp) _ | refine Below.setCell ?_ (by simp) _)

set_option maxHeartbeats 1000000 in
theorem onward_7c41p (d o : Int) (w : World) (hd0 : 0 ≤ d) (hd1 : d ≤ 18) (ho0 : 0 ≤ o) (ho1 : o ≤ 200) (hz : 0 < o) :
    Calls Tryz.prog 152 #[.agg #[.int .i64 7, .int .i64 d, .int .i64 o], .int .u8 41] w fun e w' => SpotR (onwS 7 d o 41) e ∧ Below w.heap.size w w' := by
  have edig : digB 41 = false := rfl
  have eop : opB 41 = false := rfl
  have Hr : Hid (onwS 7 d o 41 = some (11, d, o - 1)) := by
    show _ = _
    unfold onwS
    simp (config := { decide := true }) [*]
  go_enter Tryz.func152, Tryz.ntmps152
  go_wp2_with (first | (go_at_call 158; refine (digit_any _ _).mono ?_; rintro e w' ⟨rfl, rfl⟩) | (go_at_call 161; refine (operation_any _ _).mono ?_; rintro e w' ⟨rfl, rfl⟩))
  refine bodyPost_ret (v := .tuple #[.agg #[.int .i64 (11), .int .i64 (d), .int .i64 (o - 1)], .bool true]) (by simp [results, Tryz.results152, go_sem]) rfl ⟨⟨_, _, _, _, rfl, ?_⟩, ?_⟩
  · rw [unhide Hr]; rfl
  · repeat (first | exact Below.refl _ _ | refine Below.alloc ?_ (by simp) _ | refine Below.setCell ?_ (by simp) _)

set_option maxHeartbeats 1000000 in
theorem onward_7c41n (d o : Int) (w : World) (hd0 : 0 ≤ d) (hd1 : d ≤ 18) (ho0 : 0 ≤ o) (ho1 : o ≤ 200) (hz : ¬ 0 < o) :
    Calls Tryz.prog 152 #[.agg #[.int .i64 7, .int .i64 d, .int .i64 o], .int .u8 41] w fun e w' => SpotR (onwS 7 d o 41) e ∧ Below w.heap.size w w' := by
  have edig : digB 41 = false := rfl
  have eop : opB 41 = false := rfl
  have Hr : Hid (onwS 7 d o 41 = none) := by
    show _ = _
    unfold onwS
    simp (config := { decide := true }) [*]
  go_enter Tryz.func152, Tryz.ntmps152
  go_wp2_with (first | (go_at_call 158; refine (digit_any _ _).mono ?_; rintro e w' ⟨rfl, rfl⟩) | (go_at_call 161; refine (operation_any _ _).mono ?_; rintro e w' ⟨rfl, rfl⟩))
  refine bodyPost_ret (v := .tuple #[.agg #[.int .i64 (7), .int .i64 (d), .int .i64 (o)], .bool false]) (by simp [results, Tryz.results152, go_sem]) rfl ⟨⟨_, _, _, _, rfl, ?_⟩, ?_⟩
  · rw [unhide Hr]; rfl
  · repeat (first | exact Below.refl _ _ | refine Below.alloc ?_ (by simp) _ | refine Below.setCell ?_ (by simp) _)

set_option maxHeartbeats 1000000 in
theorem onward_7oth (d o c : Int) (w : World) (hd0 : 0 ≤ d) (hd1 : d ≤ 18) (ho0 : 0 ≤ o) (ho1 : o ≤ 200) (h32 : (c == 32) = false) (h59 : (c == 59) = false) (h41 : (c == 41) = false) (hd : digB c = false) (hp : opB c = false) :
    Calls Tryz.prog 152 #[.agg #[.int .i64 7, .int .i64 d, .int .i64 o], .int .u8 c] w fun e w' => SpotR (onwS 7 d o c) e ∧ Below w.heap.size w w' := by
  have Hr : Hid (onwS 7 d o c = none) := by
    show _ = _
    unfold onwS
    simp (config := { decide := true }) [*]
  go_enter Tryz.func152, Tryz.ntmps152
  go_wp2_with (first | (go_at_call 158; refine (digit_any _ _).mono ?_; rintro e w' ⟨rfl, rfl⟩) | (go_at_call 161; refine (operation_any _ _).mono ?_; rintro e w' ⟨rfl, rfl⟩))
  refine bodyPost_ret (v := .tuple #[.agg #[.int .i64 (7), .int .i64 (d), .int .i64 (o)], .bool false]) (by simp [results, Tryz.results152, go_sem]) rfl ⟨⟨_, _, _, _, rfl, ?_⟩, ?_⟩
  · rw [unhide Hr]; rfl
  · repeat (first | exact Below.refl _ _ | refine Below.alloc ?_ (by simp) _ | refine Below.setCell ?_ (by simp) _)

set_option maxHeartbeats 1000000 in
theorem onward_10dig (d o c : Int) (w : World) (hd0 : 0 ≤ d) (hd1 : d ≤ 18) (ho0 : 0 ≤ o) (ho1 : o ≤ 200) (hc : digB c = true) :
    Calls Tryz.prog 152 #[.agg #[.int .i64 10, .int .i64 d, .int .i64 o], .int .u8 c] w fun e w' => SpotR (onwS 10 d o c) e ∧ Below w.heap.size w w' := by
  have n32 := dig_ne hc 32 rfl
  have n59 := dig_ne hc 59 rfl
  have n41 := dig_ne hc 41 rfl
  have hp : opB c = false := by cases h : opB c with | false => rfl | true => rw [op_dig h] at hc; cases hc
  have Hr : Hid (onwS 10 d o c = some (11, d, o)) := by
    show _ = _
    unfold onwS
    simp (config := { decide := true }) [*]
  go_enter Tryz.func152, Tryz.ntmps152
  go_wp2_with (first | (go_at_call 158; refine (digit_any _ _).mono ?_; rintro e w' ⟨rfl, rfl⟩) | (go_at_call 161; refine (operation_any _ _).mono ?_; rintro e w' ⟨rfl, rfl⟩))
  refine bodyPost_ret (v := .tuple #[.agg #[.int .i64 (11), .int .i64 (d), .int .i64 (o)], .bool true]) (by simp [results, Tryz.results152, go_sem]) rfl ⟨⟨_, _, _, _, rfl, ?_⟩, ?_⟩
  · rw [unhide Hr]; rfl
  · repeat (first | exact Below.refl _ _ | refine Below.alloc ?_ (by simp) _ | refine Below.setCell ?_ (by simp) _)

set_option maxHeartbeats 1000000 in
theorem onward_10c32 (d o : Int) (w : World) (hd0 : 0 ≤ d) (hd1 : d ≤ 18) (ho0 : 0 ≤ o) (ho1 : o ≤ 200) :
    Calls Tryz.prog 152 #[.agg #[.int .i64 10, .int .i64 d, .int .i64 o], .int .u8 32] w fun e w' => SpotR (onwS 10 d o 32) e ∧ Below w.heap.size w w' := by
  have edig : digB 32 = false := rfl
  have eop : opB 32 = false := rfl
  have Hr : Hid (onwS 10 d o 32 = some (11, d, o)) := by
    show _ = _
    unfold onwS
    simp (config := { decide := true }) [*]
  go_enter Tryz.func152, Tryz.ntmps152
  go_wp2_with (first | (go_at_call 158; refine (digit_any _ _).mono ?_; rintro e w' ⟨rfl, rfl⟩) | (go_at_call 161; refine (operation_any _ _).mono ?_; rintro e w' ⟨rfl, rfl⟩))
  refine bodyPost_ret (v := .tuple #[.agg #[.int .i64 (11), .int .i64 (d), .int .i64 (o)], .bool true]) (by simp [results, Tryz.results152, go_sem]) rfl ⟨⟨_, _, _, _, rfl, ?_⟩, ?_⟩
  · rw [unhide Hr]; rfl
  · repeat (first | exact Below.refl _ _ | refine Below.alloc ?_ (by simp) _ | refine Below.setCell ?_ (by simp) _)

set_option maxHeartbeats 1000000 in
theorem onward_10op (d o c : Int) (w : World) (hd0 : 0 ≤ d) (hd1 : d ≤ 18) (ho0 : 0 ≤ o) (ho1 : o ≤ 200) (hc : opB c = true) :
    Calls Tryz.prog 152 #[.agg #[.int .i64 10, .int .i64 d, .int .i64 o], .int .u8 c] w fun e w' => SpotR (onwS 10 d o c) e ∧ Below w.heap.size w w' := by
  have n32 := op_ne hc 32 rfl
  have n59 := op_ne hc 59 rfl
  have n41 := op_ne hc 41 rfl
  have hd := op_dig hc
  have Hr : Hid (onwS 10 d o c = some (6, d, o)) := by
    show _ = _
    unfold onwS
    simp (config := { decide := true }) [*]
  go_enter Tryz.func152, Tryz.ntmps152
  go_wp2_with (first | (go_at_call 158; refine (digit_any _ _).mono ?_; rintro e w' ⟨rfl, rfl⟩) | (go_at_call 161; refine (operation_any _ _).mono ?_; rintro e w' ⟨rfl, rfl⟩))
  refine bodyPost_ret (v := .tuple #[.agg #[.int .i64 (6), .int .i64 (d), .int .i64 (o)], .bool true]) (by simp [results, Tryz.results152, go_sem]) rfl ⟨⟨_, _, _, _, rfl, ?_⟩, ?_⟩
  · rw [unhide Hr]; rfl
  · repeat (first | exact Below.refl _ _ | refine Below.alloc ?_ (by simp) _ | refine Below.setCell ?_ (by simp) _)

set_option maxHeartbeats 1000000 in
theorem onward_10c59z (d o : Int) (w : World) (hd0 : 0 ≤ d) (hd1 : d ≤ 18) (ho0 : 0 ≤ o) (ho1 : o ≤ 200) (hz : (o == 0) = true) :
    Calls Tryz.prog 152 #[.agg #[.int .i64 10, .int .i64 d, .int .i64 o], .int .u8 59] w fun e w' => SpotR (onwS 10 d o 59) e ∧ Below w.heap.size w w' := by
  have edig : digB 59 = false := rfl
  have eop : opB 59 = false := rfl
  have Hr : Hid (onwS 10 d o 59 = some (6, d, o)) := by
    show _ = _
    unfold onwS
    simp (config := { decide := true }) [*]
  go_enter Tryz.func152, Tryz.ntmps152
  go_wp2_with (first | (go_at_call 158; refine (digit_any _ _).mono ?_; rintro e w' ⟨rfl, rfl⟩) | (go_at_call 161; refine (operation_any _ _).mono ?_; rintro e w' ⟨rfl, rfl⟩))
  refine bodyPost_ret (v := .tuple #[.agg #[.int .i64 (6), .int .i64 (d), .int .i64 (o)], .bool true]) (by simp [results, Tryz.results152, go_sem]) rfl ⟨⟨_, _, _, _, rfl, ?_⟩, ?_⟩
  · rw [unhide Hr]; rfl
  · repeat (first | exact Below.refl _ _ | refine Below.alloc ?_ (by simp) _ | refine Below.setCell ?_ (by simp) _)

set_option maxHeartbeats 1000000 in
theorem onward_10c59n (d o : Int) (w : World) (hd0 : 0 ≤ d) (hd1 : d ≤ 18) (ho0 : 0 ≤ o) (ho1 : o ≤ 200) (hz : (o == 0) = false) :
    Calls Tryz.prog 152 #[.agg #[.int .i64 10, .int .i64 d, .int .i64 o], .int .u8 59] w fun e w' => SpotR (onwS 10 d o 59) e ∧ Below w.heap.size w w' := by
  have edig : digB 59 = false := rfl
  have eop : opB 59 = false := rfl
  have Hr : Hid (onwS 10 d o 59 = none) := by
    show _ = _
    unfold onwS
    simp (config := { decide := true }) [*]
  go_enter Tryz.func152, Tryz.ntmps152
  go_wp2_with (first | (go_at_call 158; refine (digit_any _ _).mono ?_; rintro e w' ⟨rfl, rfl⟩) | (go_at_call 161; refine (operation_any _ _).mono ?_; rintro e w' ⟨rfl, rfl⟩))
  refine bodyPost_ret (v := .tuple #[.agg #[.int .i64 (10), .int .i64 (d), .int .i64 (o)], .bool false]) (by simp [results, Tryz.results152, go_sem]) rfl ⟨⟨_, _, _, _, rfl, ?_⟩, ?_⟩
  · rw [unhide Hr]; rfl
  · repeat (first | exact Below.refl _ _ | refine Below.alloc ?_ (by simp) _ | refine Below.setCell ?_ (by simp) _)

set_option maxHeartbeats 1000000 in
theorem onward_10c41p (d o : Int) (w : World) (hd0 : 0 ≤ d) (hd1 : d ≤ 18) (ho0 : 0 ≤ o) (ho1 : o ≤ 200) (hz : 0 < o) :
    Calls Tryz.prog 152 #[.agg #[.int .i64 10, .int .i64 d, .int .i64 o], .int .u8 41] w fun e w' => SpotR (onwS 10 d o 41) e ∧ Below w.heap.size w w' := by
  have edig : digB 41 = false := rfl
  have eop : opB 41 = false := rfl
  have Hr : Hid (onwS 10 d o 41 = some (11, d, o - 1)) := by
    show _ = _
    unfold onwS
    simp (config := { decide := true }) [*]
  go_enter Tryz.func152, Tryz.ntmps152
  go_wp2_with (first | (go_at_call 158; refine (digit_any _ _).mono ?_; rintro e w' ⟨rfl, rfl⟩) | (go_at_call 161; refine (operation_any _ _).mono ?_; rintro e w' ⟨rfl, rfl⟩))
  refine bodyPost_ret (v := .tuple #[.agg #[.int .i64 (11), .int .i64 (d), .int .i64 (o - 1)], .bool true]) (by simp [results, Tryz.results152, go_sem]) rfl ⟨⟨_, _, _, _, rfl, ?_⟩, ?_⟩
  · rw [unhide Hr]; rfl
  · repeat (first | exact Below.refl _ _ | refine Below.alloc ?_ (by simp) _ | refine Below.setCell ?_ (by simp) _)

set_option maxHeartbeats 1000000 in
theorem onward_10c41n (d o : Int) (w : World) (hd0 : 0 ≤ d) (hd1 : d ≤ 18) (ho0 : 0 ≤ o) (ho1 : o ≤ 200) (hz : ¬ 0 < o) :
    Calls Tryz.prog 152 #[.agg #[.int .i64 10, .int .i64 d, .int .i64 o], .int .u8 41] w fun e w' => SpotR (onwS 10 d o 41) e ∧ Below w.heap.size w w' := by
  have edig : digB 41 = false := rfl
  have eop : opB 41 = false := rfl
  have Hr : Hid (onwS 10 d o 41 = none) := by
    show _ = _
    unfold onwS
    simp (config := { decide := true }) [*]
  go_enter Tryz.func152, Tryz.ntmps152
  go_wp2_with (first | (go_at_call 158; refine (digit_any _ _).mono ?_; rintro e w' ⟨rfl, rfl⟩) | (go_at_call 161; refine (operation_any _ _).mono ?_; rintro e w' ⟨rfl, rfl⟩))
  refine bodyPost_ret (v := .tuple #[.agg #[.int .i64 (10), .int .i64 (d), .int .i64 (o)], .bool false]) (by simp [results, Tryz.results152, go_sem]) rfl ⟨⟨_, _, _, _, rfl, ?_⟩, ?_⟩
  · rw [unhide Hr]; rfl
  · repeat (first | exact Below.refl _ _ | refine Below.alloc ?_ (by simp) _ | refine Below.setCell ?_ (by simp) _)

set_option maxHeartbeats 1000000 in
theorem onward_10oth (d o c : Int) (w : World) (hd0 : 0 ≤ d) (hd1 : d ≤ 18) (ho0 : 0 ≤ o) (ho1 : o ≤ 200) (h32 : (c == 32) = false) (h59 : (c == 59) = false) (h41 : (c == 41) = false) (hd : digB c = false) (hp : opB c = false) :
    Calls Tryz.prog 152 #[.agg #[.int .i64 10, .int .i64 d, .int .i64 o], .int .u8 c] w fun e w' => SpotR (onwS 10 d o c) e ∧ Below w.heap.size w w' := by
  have Hr : Hid (onwS 10 d o c = none) := by
    show _ = _
    unfold onwS
    simp (config := { decide := true }) [*]
  go_enter Tryz.func152, Tryz.ntmps152
  go_wp2_with (first | (go_at_call 158; refine (digit_any _ _).mono ?_; rintro e w' ⟨rfl, rfl⟩) | (go_at_call 161; refine (operation_any _ _).mono ?_; rintro e w' ⟨rfl, rfl⟩))
  refine bodyPost_ret (v := .tuple #[.agg #[.int .i64 (10), .int .i64 (d), .int .i64 (o)], .bool false]) (by simp [results, Tryz.results152, go_sem]) rfl ⟨⟨_, _, _, _, rfl, ?_⟩, ?_⟩
  · rw [unhide Hr]; rfl
  · repeat (first | exact Below.refl _ _ | refine Below.alloc ?_ (by simp) _ | refine Below.setCell ?_ (by simp) _)

set_option maxHeartbeats 1000000 in
theorem onward_11dig (d o c : Int) (w : World) (hd0 : 0 ≤ d) (hd1 : d ≤ 18) (ho0 : 0 ≤ o) (ho1 : o ≤ 200) (hc : digB c = true) :
    Calls Tryz.prog 152 #[.agg #[.int .i64 11, .int .i64 d, .int .i64 o], .int .u8 c] w fun e w' => SpotR (onwS 11 d o c) e ∧ Below w.heap.size w w' := by
  have n32 := dig_ne hc 32 rfl
  have n59 := dig_ne hc 59 rfl
  have n41 := dig_ne hc 41 rfl
  have hp : opB c = false := by cases h : opB c with | false => rfl | true => rw [op_dig h] at hc; cases hc
  have Hr : Hid (onwS 11 d o c = none) := by
    show _ = _
    unfold onwS
    simp (config := { decide := true }) [*]
  go_enter Tryz.func152, Tryz.ntmps152
  go_wp2_with (first | (go_at_call 158; refine (digit_any _ _).mono ?_; rintro e w' ⟨rfl, rfl⟩) | (go_at_call 161; refine (operation_any _ _).mono ?_; rintro e w' ⟨rfl, rfl⟩))
  refine bodyPost_ret (v := .tuple #[.agg #[.int .i64 (11), .int .i64 (d), .int .i64 (o)], .bool false]) (by simp [results, Tryz.results152, go_sem]) rfl ⟨⟨_, _, _, _, rfl, ?_⟩, ?_⟩
  · rw [unhide Hr]; rfl
  · repeat (first | exact Below.refl _ _ | refine Below.alloc ?_ (by simp) _ | refine Below.setCell ?_ (by simp) _)

set_option maxHeartbeats 1000000 in
theorem onward_11c32 (d o : Int) (w : World) (hd0 : 0 ≤ d) (hd1 : d ≤ 18) (ho0 : 0 ≤ o) (ho1 : o ≤ 200) :
    Calls Tryz.prog 152 #[.agg #[.int .i64 11, .int .i64 d, .int .i64 o], .int .u8 32] w fun e w' => SpotR (onwS 11 d o 32) e ∧ Below w.heap.size w w' := by
  have edig : digB 32 = false := rfl
  have eop : opB 32 = false := rfl
  have Hr : Hid (onwS 11 d o 32 = some (11, d, o)) := by
    show _ = _
    unfold onwS
    simp (config := { decide := true }) [*]
  go_enter Tryz.func152, Tryz.ntmps152
  go_wp2_with (first | (go_at_call 158; refine (digit_any _ _).mono ?_; rintro e w' ⟨rfl, rfl⟩) | (go_at_call 161; refine (operation_any _ _).mono ?_; rintro e w' ⟨rfl, rfl⟩))
  refine bodyPost_ret (v := .tuple #[.agg #[.int .i64 (11), .int .i64 (d), .int .i64 (o)], .bool true]) (by simp [results, Tryz.results152, go_sem]) rfl ⟨⟨_, _, _, _, rfl, ?_⟩, ?_⟩
  · rw [unhide Hr]; rfl
  · repeat (first | exact Below.refl _ _ | refine Below.alloc ?_ (by simp) _ | refine Below.setCell ?_ (by simp) _)

set_option maxHeartbeats 1000000 in
theorem onward_11op (d o c : Int) (w : World) (hd0 : 0 ≤ d) (hd1 : d ≤ 18) (ho0 : 0 ≤ o) (ho1 : o ≤ 200) (hc : opB c = true) :
    Calls Tryz.prog 152 #[.agg #[.int .i64 11, .int .i64 d, .int .i64 o], .int .u8 c] w fun e w' => SpotR (onwS 11 d o c) e ∧ Below w.heap.size w w' := by
  have n32 := op_ne hc 32 rfl
  have n59 := op_ne hc 59 rfl
  have n41 := op_ne hc 41 rfl
  have hd := op_dig hc
  have Hr : Hid (onwS 11 d o c = some (6, d, o)) := by
    show _ = _
    unfold onwS
    simp (config := { decide := true }) [*]
  go_enter Tryz.func152, Tryz.ntmps152
  go_wp2_with (first | (go_at_call 158; refine (digit_any _ _).mono ?_; rintro e w' ⟨rfl, rfl⟩) | (go_at_call 161; refine (operation_any _ _).mono ?_; rintro e w' ⟨rfl, rfl⟩))
  refine bodyPost_ret (v := .tuple #[.agg #[.int .i64 (6), .int .i64 (d), .int .i64 (o)], .bool true]) (by simp [results, Tryz.results152, go_sem]) rfl ⟨⟨_, _, _, _, rfl, ?_⟩, ?_⟩
  · rw [unhide Hr]; rfl
  · repeat (first | exact Below.refl _ _ | refine Below.alloc ?_ (by simp) _ | refine Below.setCell ?_ (by simp) _)

set_option maxHeartbeats 1000000 in
theorem onward_11c59z (d o : Int) (w : World) (hd0 : 0 ≤ d) (hd1 : d ≤ 18) (ho0 : 0 ≤ o) (ho1 : o ≤ 200) (hz : (o == 0) = true) :
    Calls Tryz.prog 152 #[.agg #[.int .i64 11, .int .i64 d, .int .i64 o], .int .u8 59] w fun e w' => SpotR (onwS 11 d o 59) e ∧ Below w.heap.size w w' := by
  have edig : digB 59 = false := rfl
  have eop : opB 59 = false := rfl
  have Hr : Hid (onwS 11 d o 59 = some (6, d, o)) := by
    show _ = _
    unfold onwS
    simp (config := { decide := true }) [*]
  go_enter Tryz.func152, Tryz.ntmps152
  go_wp2_with (first | (go_at_call 158; refine (digit_any _ _).mono ?_; rintro e w' ⟨rfl, rfl⟩) | (go_at_call 161; refine (operation_any _ _).mono ?_; rintro e w' ⟨rfl, rfl⟩))
  refine bodyPost_ret (v := .tuple #[.agg #[.int .i64 (6), .int .i64 (d), .int .i64 (o)], .bool true]) (by simp [results, Tryz.results152, go_sem]) rfl ⟨⟨_, _, _, _, rfl, ?_⟩, ?_⟩
  · rw [unhide Hr]; rfl
  · repeat (first | exact Below.refl _ _ | refine Below.alloc ?_ (by simp) _ | refine Below.setCell ?_ (by simp) _)

set_option maxHeartbeats 1000000 in
theorem onward_11c59n (d o : Int) (w : World) (hd0 : 0 ≤ d) (hd1 : d ≤ 18) (ho0 : 0 ≤ o) (ho1 : o ≤ 200) (hz : (o == 0) = false) :
    Calls Tryz.prog 152 #[.agg #[.int .i64 11, .int .i64 d, .int .i64 o], .int .u8 59] w fun e w' => SpotR (onwS 11 d o 59) e ∧ Below w.heap.size w w' := by
  have edig : digB 59 = false := rfl
  have eop : opB 59 = false := rfl
  have Hr : Hid (onwS 11 d o 59 = none) := by
    show _ = _
    unfold onwS
    simp (config := { decide := true }) [*]
  go_enter Tryz.func152, Tryz.ntmps152
  go_wp2_with (first | (go_at_call 158; refine (digit_any _ _).mono ?_; rintro e w' ⟨rfl, rfl⟩) | (go_at_call 161; refine (operation_any _ _).mono ?_; rintro e w' ⟨rfl, rfl⟩))
  refine bodyPost_ret (v := .tuple #[.agg #[.int .i64 (11), .int .i64 (d), .int .i64 (o)], .bool false]) (by simp [results, Tryz.results152, go_sem]) rfl ⟨⟨_, _, _, _, rfl, ?_⟩, ?_⟩
  · rw [unhide Hr]; rfl
  · repeat (first | exact Below.refl _ _ | refine Below.alloc ?_ (by simp) _ | refine Below.setCell ?_ (by simp) _)

set_option maxHeartbeats 1000000 in
theorem onward_11c41p (d o : Int) (w : World) (hd0 : 0 ≤ d) (hd1 : d ≤ 18) (ho0 : 0 ≤ o) (ho1 : o ≤ 200) (hz : 0 < o) :
    Calls Tryz.prog 152 #[.agg #[.int .i64 11, .int .i64 d, .int .i64 o], .int .u8 41] w fun e w' => SpotR (onwS 11 d o 41) e ∧ Below w.heap.size w w' := by
  have edig : digB 41 = false := rfl
  have eop : opB 41 = false := rfl
  have Hr : Hid (onwS 11 d o 41 = some (11, d, o - 1)) := by
    show _ = _
    unfold onwS
    simp (config := { decide := true }) [*]
  go_enter Tryz.func152, Tryz.ntmps152
  go_wp2_with (first | (go_at_call 158; refine (digit_any _ _).mono ?_; rintro e w' ⟨rfl, rfl⟩) | (go_at_call 161; refine (operation_any _ _).mono ?_; rintro e w' ⟨rfl, rfl⟩))
  refine bodyPost_ret (v := .tuple #[.agg #[.int .i64 (11), .int .i64 (d), .int .i64 (o - 1)], .bool true]) (by simp [results, Tryz.results152, go_sem]) rfl ⟨⟨_, _, _, _, rfl, ?_⟩, ?_⟩
  · rw [unhide Hr]; rfl
  · repeat (first | exact Below.refl _ _ | refine Below.alloc ?_ (by simp) _ | refine Below.setCell ?_ (by simp) _)

set_option maxHeartbeats 1000000 in
theorem onward_11c41n (d o : Int) (w : World) (hd0 : 0 ≤ d) (hd1 : d ≤ 18) (ho0 : 0 ≤ o) (ho1 : o ≤ 200) (hz : ¬ 0 < o) :
    Calls Tryz.prog 152 #[.agg #[.int .i64 11, .int .i64 d, .int .i64 o], .int .u8 41] w fun e w' => SpotR (onwS 11 d o 41) e ∧ Below w.heap.size w w' := by
  have edig : digB 41 = false := rfl
  have eop : opB 41 = false := rfl
  have Hr : Hid (onwS 11 d o 41 = none) := by
    show _ = _
    unfold onwS
    simp (config := { decide := true }) [*]
  go_enter Tryz.func152, Tryz.ntmps152
  go_wp2_with (first | (go_at_call 158; refine (digit_any _ _).mono ?_; rintro e w' ⟨rfl, rfl⟩) | (go_at_call 161; refine (operation_any _ _).mono ?_; rintro e w' ⟨rfl, rfl⟩))
  refine bodyPost_ret (v := .tuple #[.agg #[.int .i64 (11), .int .i64 (d), .int .i64 (o)], .bool false]) (by simp [results, Tryz.results152, go_sem]) rfl ⟨⟨_, _, _, _, rfl, ?_⟩, ?_⟩
  · rw [unhide Hr]; rfl
  · repeat (first | exact Below.refl _ _ | refine Below.alloc ?_ (by simp) _ | refine Below.setCell ?_ (by simp) _)

set_option maxHeartbeats 1000000 in
theorem onward_11oth (d o c : Int) (w : World) (hd0 : 0 ≤ d) (hd1 : d ≤ 18) (ho0 : 0 ≤ o) (ho1 : o ≤ 200) (h32 : (c == 32) = false) (h59 : (c == 59) = false) (h41 : (c == 41) = false) (hd : digB c = false) (hp : opB c = false) :
    Calls Tryz.prog 152 #[.agg #[.int .i64 11, .int .i64 d, .int .i64 o], .int .u8 c] w fun e w' => SpotR (onwS 11 d o c) e ∧ Below w.heap.size w w' := by
  have Hr : Hid (onwS 11 d o c = none) := by
    show _ = _
    unfold onwS
    simp (config := { decide := true }) [*]
  go_enter Tryz.func152, Tryz.ntmps152
  go_wp2_with (first | (go_at_call 158; refine (digit_any _ _).mono ?_; rintro e w' ⟨rfl, rfl⟩) | (go_at_call 161; refine (operation_any _ _).mono ?_; rintro e w' ⟨rfl, rfl⟩))
  refine bodyPost_ret (v := .tuple #[.agg #[.int .i64 (11), .int .i64 (d), .int .i64 (o)], .bool false]) (by simp [results, Tryz.results152, go_sem]) rfl ⟨⟨_, _, _, _, rfl, ?_⟩, ?_⟩
  · rw [unhide Hr]; rfl
  · repeat (first | exact Below.refl _ _ | refine Below.alloc ?_ (by simp) _ | refine Below.setCell ?_ (by simp) _)

theorem onward_any (a d o c : Int) (w : World) (ha : a = 7 ∨ a = 10 ∨ a = 11) (hd0 : 0 ≤ d) (hd1 : d ≤ 18) (ho0 : 0 ≤ o) (ho1 : o ≤ 200) :
    Calls Tryz.prog 152 #[.agg #[.int .i64 a, .int .i64 d, .int .i64 o], .int .u8 c] w fun e w' => SpotR (onwS a d o c) e ∧ Below w.heap.size w w' := by
  by_cases h32 : c = 32
  · subst h32
    rcases ha with rfl | rfl | rfl
    · exact onward_7c32 d o w hd0 hd1 ho0 ho1
    · exact onward_10c32 d o w hd0 hd1 ho0 ho1
    · exact onward_11c32 d o w hd0 hd1 ho0 ho1
  by_cases h59 : c = 59
  · subst h59
    cases hz : (o == 0) with
    | true =>
      rcases ha with rfl | rfl | rfl
      · exact onward_7c59z d o w hd0 hd1 ho0 ho1 hz
      · exact onward_10c59z d o w hd0 hd1 ho0 ho1 hz
      · exact onward_11c59z d o w hd0 hd1 ho0 ho1 hz
    | false =>
      rcases ha with rfl | rfl | rfl
      · exact onward_7c59n d o w hd0 hd1 ho0 ho1 hz
      · exact onward_10c59n d o w hd0 hd1 ho0 ho1 hz
      · exact onward_11c59n d o w hd0 hd1 ho0 ho1 hz
  by_cases h41 : c = 41
  · subst h41
    by_cases hz : 0 < o
    · rcases ha with rfl | rfl | rfl
      · exact onward_7c41p d o w hd0 hd1 ho0 ho1 hz
      · exact onward_10c41p d o w hd0 hd1 ho0 ho1 hz
      · exact onward_11c41p d o w hd0 hd1 ho0 ho1 hz
    · rcases ha with rfl | rfl | rfl
      · exact onward_7c41n d o w hd0 hd1 ho0 ho1 hz
      · exact onward_10c41n d o w hd0 hd1 ho0 ho1 hz
      · exact onward_11c41n d o w hd0 hd1 ho0 ho1 hz
  cases hdig : digB c with
  | true =>
    rcases ha with rfl | rfl | rfl
    · by_cases h18 : d < 18
      · exact onward_7dig d o c w hd0 hd1 ho0 ho1 hdig h18
      · exact onward_7dig18 d o c w hd0 hd1 ho0 ho1 hdig h18
    · exact onward_10dig d o c w hd0 hd1 ho0 ho1 hdig
    · exact onward_11dig d o c w hd0 hd1 ho0 ho1 hdig
  | false =>
  cases hop : opB c with
  | true =>
    rcases ha with rfl | rfl | rfl
    · exact onward_7op d o c w hd0 hd1 ho0 ho1 hop
    · exact onward_10op d o c w hd0 hd1 ho0 ho1 hop
    · exact onward_11op d o c w hd0 hd1 ho0 ho1 hop
  | false =>
  rcases ha with rfl | rfl | rfl
  · exact onward_7oth d o c w hd0 hd1 ho0 ho1 (beq_false_of h32) (beq_false_of h59) (beq_false_of h41) hdig hop
  · exact onward_10oth d o c w hd0 hd1 ho0 ho1 (beq_false_of h32) (beq_false_of h59) (beq_false_of h41) hdig hop
  · exact onward_11oth d o c w hd0 hd1 ho0 ho1 (beq_false_of h32) (beq_false_of h59) (beq_false_of h41) hdig hop

end Go.Proofs.YtdchbenfccofpaaGreatDoor
namespace Go.Proofs.YtdchbenfccofpaaGreatDoor
open Go.RowKit Db


theorem plc_at {s : ByteArray} {k : Nat} (h : k < s.size) {a d o : Int} {a' d' o' : Int} {ok : Bool} (hr : stepS a d o (s[k].toNat : Int) = if ok then some (a', d', o') else none) (hok : okS a d o k) :
    (ok = true → plc a d o k ((L s).drop k) = plc a' d' o' ((k + 1 : Nat) : Int) ((L s).drop (k + 1)) ∧ okS a' d' o' (k + 1)) ∧ (ok = false → plc a d o k ((L s).drop k) = k) := by
  refine ⟨?_, ?_⟩
  · rintro rfl
    rw [if_pos rfl] at hr
    refine ⟨?_, stepS_ok hok hr⟩
    rw [L_drop s k h, plc_step hr]; rfl
  · rintro rfl
    rw [if_neg (by simp)] at hr
    rw [L_drop s k h, plc_stop hr]
theorem step_days {a d o c : Int} (h : a < 6) : stepS a d o c = daysS a d o c := by unfold stepS; rw [if_pos h]
theorem step_fact {a d o c : Int} (h : a = 6 ∨ a = 8 ∨ a = 9) : stepS a d o c = factS a d o c := by
  unfold stepS; rw [if_neg (by omega), if_pos (by rcases h with rfl | rfl | rfl <;> rfl)]
theorem step_onw {a d o c : Int} (h : a = 7 ∨ a = 10 ∨ a = 11) : stepS a d o c = onwS a d o c := by
  unfold stepS; rw [if_neg (by omega), if_neg (by rcases h with rfl | rfl | rfl <;> decide)]

/-- The loop's relation: the spot lies in its block. -/
def SpotAt (w wr : World) (a d o : Int) : Prop := Blk wr w.heap.size #[.int .i64 a, .int .i64 d, .int .i64 o] 229 ∧ Below w.heap.size w wr
theorem SpotAt.next {w wr w1 : World} {a d o : Int} (h : SpotAt w wr a d o) (hb : Below wr.heap.size wr w1) (a1 d1 o1 : Int) :
    SpotAt w (((w1.setCell ⟨w.heap.size, 0, none⟩ (.int .i64 a1)).setCell ⟨w.heap.size, 1, none⟩ (.int .i64 d1)).setCell ⟨w.heap.size, 2, none⟩ (.int .i64 o1)) a1 d1 o1 := by
  refine ⟨?_, ?_⟩
  · have := ((((h.1.kept hb).set 0 (.int .i64 a1)).set 1 (.int .i64 d1)).set 2 (.int .i64 o1))
    simpa using this
  · exact (((h.2.then' h.2.size hb).setCell (by simp) _).setCell (by simp) _).setCell (by simp) _

set_option maxHeartbeats 2000000 in
theorem place_any (s : ByteArray) (w : World) (hs : s.size ≤ 200) :
    Calls Tryz.prog 109 #[.string s] w fun e w' => e = .returned (.int .i64 (plc 0 0 0 0 (L s))) ∧ Below w.heap.size w w' := by
  go_enter Tryz.func109, Tryz.ntmps109
  go_wp2
  go_loopw [4, 5] (fun ok i wr => ∃ k : Nat, ∃ a d o : Int, k ≤ s.size ∧ i = .int .i64 k ∧ ok = .bool true ∧ Hid (okS a d o k) ∧ Hid (SpotAt w wr a d o) ∧ 
      Hid (plc a d o k ((L s).drop k) = plc 0 0 0 0 (L s))) (fun _ i _ => s.size - (intOf i).toNat)
  case atStart => exact ⟨0, 0, 0, 0, by omega, rfl, rfl, ⟨by omega, by omega, by omega, by omega, by omega, by omega⟩, ⟨Blk.new _ _ _, (Below.refl _ _).alloc (Nat.le_refl _) _⟩, rfl⟩
  case round =>
    obtain ⟨k, a, d, o, hk, rfl, rfl, Hok, Hat, Hp⟩ := hrel
    obtain ⟨ha0, ha1, hd0, hd1, ho0, ho1⟩ := unhide Hok
    have hc0 := (unhide Hat).1.cell 0
    have hc1 := (unhide Hat).1.cell 1
    have hc2 := (unhide Hat).1.cell 2
    have hf0 := (unhide Hat).1.frozen 0
    have hf1 := (unhide Hat).1.frozen 1
    have hf2 := (unhide Hat).1.frozen 2
    have hsz := (unhide Hat).1.lt
    simp only [List.getElem?_toArray, List.getElem?_cons_zero, List.getElem?_cons_succ] at hc0 hc1 hc2
    by_cases hlt : k < s.size
    · by_cases h6 : a < 6
      · skip
        go_wp2_with fail
        go_region_with (go_at_call 150; refine (days_any a d o _ _ ha0 h6 hd0 hd1 ho0 (by omega)).mono ?_; rintro e w1 ⟨⟨a1, d1, o1, ok1, rfl, hr⟩, hb⟩; have Hr := hide hr; have Hb1 := hide hb.undrew; have c0 := (hb.cell (p := ⟨w.heap.size, 0, none⟩) hsz).trans hc0; have c1 := (hb.cell (p := ⟨w.heap.size, 1, none⟩) hsz).trans hc1; have c2 := (hb.cell (p := ⟨w.heap.size, 2, none⟩) hsz).trans hc2; have f0 := (hb.frozen (p := ⟨w.heap.size, 0, none⟩) hsz).trans hf0; have f1 := (hb.frozen (p := ⟨w.heap.size, 1, none⟩) hsz).trans hf1; have f2 := (hb.frozen (p := ⟨w.heap.size, 2, none⟩) hsz).trans hf2; clear hr hb)
        all_goals
          cases ok1
          · have Hx := hide ((plc_at hlt ((step_days h6).trans (unhide Hr)) (unhide Hok)).2 rfl)
            go_wp2
            go_ret
            exact ⟨ret_int (by rw [← unhide Hp, unhide Hx]), ((unhide Hat).next (unhide Hb1) a1 d1 o1).2⟩
          · have Hx := hide ((plc_at hlt ((step_days h6).trans (unhide Hr)) (unhide Hok)).1 rfl).1
            have Hy := hide ((plc_at hlt ((step_days h6).trans (unhide Hr)) (unhide Hok)).1 rfl).2
            go_wp2
            go_roundw
            case rel => exact ⟨k + 1, a1, d1, o1, by omega, by go_num, rfl, unhide Hy, (unhide Hat).next (unhide Hb1) a1 d1 o1, by show _ = _; rw [← unhide Hp, unhide Hx]⟩
            case measure => simp [intOf]; omega
      · have hc : (a = 6 ∨ a = 8 ∨ a = 9) ∨ (a = 7 ∨ a = 10 ∨ a = 11) := by omega
        rcases hc with hc | hc
        · rcases hc with hc | hc | hc
          · obtain rfl : a = 6 := by omega
            go_wp2_with fail
            go_region_with (go_at_call 151; refine (factor_any 6 d o _ _ (Or.inl rfl) hd0 hd1 ho0 (by omega)).mono ?_; rintro e w1 ⟨⟨a1, d1, o1, ok1, rfl, hr⟩, hb⟩; have Hr := hide hr; have Hb1 := hide hb.undrew; have c0 := (hb.cell (p := ⟨w.heap.size, 0, none⟩) hsz).trans hc0; have c1 := (hb.cell (p := ⟨w.heap.size, 1, none⟩) hsz).trans hc1; have c2 := (hb.cell (p := ⟨w.heap.size, 2, none⟩) hsz).trans hc2; have f0 := (hb.frozen (p := ⟨w.heap.size, 0, none⟩) hsz).trans hf0; have f1 := (hb.frozen (p := ⟨w.heap.size, 1, none⟩) hsz).trans hf1; have f2 := (hb.frozen (p := ⟨w.heap.size, 2, none⟩) hsz).trans hf2; clear hr hb)
            all_goals
              cases ok1
              · have Hx := hide ((plc_at hlt ((step_fact (Or.inl rfl)).trans (unhide Hr)) (unhide Hok)).2 rfl)
                go_wp2
                go_ret
                exact ⟨ret_int (by rw [← unhide Hp, unhide Hx]), ((unhide Hat).next (unhide Hb1) a1 d1 o1).2⟩
              · have Hx := hide ((plc_at hlt ((step_fact (Or.inl rfl)).trans (unhide Hr)) (unhide Hok)).1 rfl).1
                have Hy := hide ((plc_at hlt ((step_fact (Or.inl rfl)).trans (unhide Hr)) (unhide Hok)).1 rfl).2
                go_wp2
                go_roundw
                case rel => exact ⟨k + 1, a1, d1, o1, by omega, by go_num, rfl, unhide Hy, (unhide Hat).next (unhide Hb1) a1 d1 o1, by show _ = _; rw [← unhide Hp, unhide Hx]⟩
                case measure => simp [intOf]; omega
          · obtain rfl : a = 8 := by omega
            go_wp2_with fail
            go_region_with (go_at_call 151; refine (factor_any 8 d o _ _ (Or.inr (Or.inl rfl)) hd0 hd1 ho0 (by omega)).mono ?_; rintro e w1 ⟨⟨a1, d1, o1, ok1, rfl, hr⟩, hb⟩; have Hr := hide hr; have Hb1 := hide hb.undrew; have c0 := (hb.cell (p := ⟨w.heap.size, 0, none⟩) hsz).trans hc0; have c1 := (hb.cell (p := ⟨w.heap.size, 1, none⟩) hsz).trans hc1; have c2 := (hb.cell (p := ⟨w.heap.size, 2, none⟩) hsz).trans hc2; have f0 := (hb.frozen (p := ⟨w.heap.size, 0, none⟩) hsz).trans hf0; have f1 := (hb.frozen (p := ⟨w.heap.size, 1, none⟩) hsz).trans hf1; have f2 := (hb.frozen (p := ⟨w.heap.size, 2, none⟩) hsz).trans hf2; clear hr hb)
            all_goals
              cases ok1
              · have Hx := hide ((plc_at hlt ((step_fact (Or.inr (Or.inl rfl))).trans (unhide Hr)) (unhide Hok)).2 rfl)
                go_wp2
                go_ret
                exact ⟨ret_int (by rw [← unhide Hp, unhide Hx]), ((unhide Hat).next (unhide Hb1) a1 d1 o1).2⟩
              · have Hx := hide ((plc_at hlt ((step_fact (Or.inr (Or.inl rfl))).trans (unhide Hr)) (unhide Hok)).1 rfl).1
                have Hy := hide ((plc_at hlt ((step_fact (Or.inr (Or.inl rfl))).trans (unhide Hr)) (unhide Hok)).1 rfl).2
                go_wp2
                go_roundw
                case rel => exact ⟨k + 1, a1, d1, o1, by omega, by go_num, rfl, unhide Hy, (unhide Hat).next (unhide Hb1) a1 d1 o1, by show _ = _; rw [← unhide Hp, unhide Hx]⟩
                case measure => simp [intOf]; omega
          · obtain rfl : a = 9 := by omega
            go_wp2_with fail
            go_region_with (go_at_call 151; refine (factor_any 9 d o _ _ (Or.inr (Or.inr rfl)) hd0 hd1 ho0 (by omega)).mono ?_; rintro e w1 ⟨⟨a1, d1, o1, ok1, rfl, hr⟩, hb⟩; have Hr := hide hr; have Hb1 := hide hb.undrew; have c0 := (hb.cell (p := ⟨w.heap.size, 0, none⟩) hsz).trans hc0; have c1 := (hb.cell (p := ⟨w.heap.size, 1, none⟩) hsz).trans hc1; have c2 := (hb.cell (p := ⟨w.heap.size, 2, none⟩) hsz).trans hc2; have f0 := (hb.frozen (p := ⟨w.heap.size, 0, none⟩) hsz).trans hf0; have f1 := (hb.frozen (p := ⟨w.heap.size, 1, none⟩) hsz).trans hf1; have f2 := (hb.frozen (p := ⟨w.heap.size, 2, none⟩) hsz).trans hf2; clear hr hb)
            all_goals
              cases ok1
              · have Hx := hide ((plc_at hlt ((step_fact (Or.inr (Or.inr rfl))).trans (unhide Hr)) (unhide Hok)).2 rfl)
                go_wp2
                go_ret
                exact ⟨ret_int (by rw [← unhide Hp, unhide Hx]), ((unhide Hat).next (unhide Hb1) a1 d1 o1).2⟩
              · have Hx := hide ((plc_at hlt ((step_fact (Or.inr (Or.inr rfl))).trans (unhide Hr)) (unhide Hok)).1 rfl).1
                have Hy := hide ((plc_at hlt ((step_fact (Or.inr (Or.inr rfl))).trans (unhide Hr)) (unhide Hok)).1 rfl).2
                go_wp2
                go_roundw
                case rel => exact ⟨k + 1, a1, d1, o1, by omega, by go_num, rfl, unhide Hy, (unhide Hat).next (unhide Hb1) a1 d1 o1, by show _ = _; rw [← unhide Hp, unhide Hx]⟩
                case measure => simp [intOf]; omega
        · rcases hc with hc | hc | hc
          · obtain rfl : a = 7 := by omega
            go_wp2_with fail
            go_region_with (go_at_call 152; refine (onward_any 7 d o _ _ (Or.inl rfl) hd0 hd1 ho0 (by omega)).mono ?_; rintro e w1 ⟨⟨a1, d1, o1, ok1, rfl, hr⟩, hb⟩; have Hr := hide hr; have Hb1 := hide hb.undrew; have c0 := (hb.cell (p := ⟨w.heap.size, 0, none⟩) hsz).trans hc0; have c1 := (hb.cell (p := ⟨w.heap.size, 1, none⟩) hsz).trans hc1; have c2 := (hb.cell (p := ⟨w.heap.size, 2, none⟩) hsz).trans hc2; have f0 := (hb.frozen (p := ⟨w.heap.size, 0, none⟩) hsz).trans hf0; have f1 := (hb.frozen (p := ⟨w.heap.size, 1, none⟩) hsz).trans hf1; have f2 := (hb.frozen (p := ⟨w.heap.size, 2, none⟩) hsz).trans hf2; clear hr hb)
            all_goals
              cases ok1
              · have Hx := hide ((plc_at hlt ((step_onw (Or.inl rfl)).trans (unhide Hr)) (unhide Hok)).2 rfl)
                go_wp2
                go_ret
                exact ⟨ret_int (by rw [← unhide Hp, unhide Hx]), ((unhide Hat).next (unhide Hb1) a1 d1 o1).2⟩
              · have Hx := hide ((plc_at hlt ((step_onw (Or.inl rfl)).trans (unhide Hr)) (unhide Hok)).1 rfl).1
                have Hy := hide ((plc_at hlt ((step_onw (Or.inl rfl)).trans (unhide Hr)) (unhide Hok)).1 rfl).2
                go_wp2
                go_roundw
                case rel => exact ⟨k + 1, a1, d1, o1, by omega, by go_num, rfl, unhide Hy, (unhide Hat).next (unhide Hb1) a1 d1 o1, by show _ = _; rw [← unhide Hp, unhide Hx]⟩
                case measure => simp [intOf]; omega
          · obtain rfl : a = 10 := by omega
            go_wp2_with fail
            go_region_with (go_at_call 152; refine (onward_any 10 d o _ _ (Or.inr (Or.inl rfl)) hd0 hd1 ho0 (by omega)).mono ?_; rintro e w1 ⟨⟨a1, d1, o1, ok1, rfl, hr⟩, hb⟩; have Hr := hide hr; have Hb1 := hide hb.undrew; have c0 := (hb.cell (p := ⟨w.heap.size, 0, none⟩) hsz).trans hc0; have c1 := (hb.cell (p := ⟨w.heap.size, 1, none⟩) hsz).trans hc1; have c2 := (hb.cell (p := ⟨w.heap.size, 2, none⟩) hsz).trans hc2; have f0 := (hb.frozen (p := ⟨w.heap.size, 0, none⟩) hsz).trans hf0; have f1 := (hb.frozen (p := ⟨w.heap.size, 1, none⟩) hsz).trans hf1; have f2 := (hb.frozen (p := ⟨w.heap.size, 2, none⟩) hsz).trans hf2; clear hr hb)
            all_goals
              cases ok1
              · have Hx := hide ((plc_at hlt ((step_onw (Or.inr (Or.inl rfl))).trans (unhide Hr)) (unhide Hok)).2 rfl)
                go_wp2
                go_ret
                exact ⟨ret_int (by rw [← unhide Hp, unhide Hx]), ((unhide Hat).next (unhide Hb1) a1 d1 o1).2⟩
              · have Hx := hide ((plc_at hlt ((step_onw (Or.inr (Or.inl rfl))).trans (unhide Hr)) (unhide Hok)).1 rfl).1
                have Hy := hide ((plc_at hlt ((step_onw (Or.inr (Or.inl rfl))).trans (unhide Hr)) (unhide Hok)).1 rfl).2
                go_wp2
                go_roundw
                case rel => exact ⟨k + 1, a1, d1, o1, by omega, by go_num, rfl, unhide Hy, (unhide Hat).next (unhide Hb1) a1 d1 o1, by show _ = _; rw [← unhide Hp, unhide Hx]⟩
                case measure => simp [intOf]; omega
          · obtain rfl : a = 11 := by omega
            go_wp2_with fail
            go_region_with (go_at_call 152; refine (onward_any 11 d o _ _ (Or.inr (Or.inr rfl)) hd0 hd1 ho0 (by omega)).mono ?_; rintro e w1 ⟨⟨a1, d1, o1, ok1, rfl, hr⟩, hb⟩; have Hr := hide hr; have Hb1 := hide hb.undrew; have c0 := (hb.cell (p := ⟨w.heap.size, 0, none⟩) hsz).trans hc0; have c1 := (hb.cell (p := ⟨w.heap.size, 1, none⟩) hsz).trans hc1; have c2 := (hb.cell (p := ⟨w.heap.size, 2, none⟩) hsz).trans hc2; have f0 := (hb.frozen (p := ⟨w.heap.size, 0, none⟩) hsz).trans hf0; have f1 := (hb.frozen (p := ⟨w.heap.size, 1, none⟩) hsz).trans hf1; have f2 := (hb.frozen (p := ⟨w.heap.size, 2, none⟩) hsz).trans hf2; clear hr hb)
            all_goals
              cases ok1
              · have Hx := hide ((plc_at hlt ((step_onw (Or.inr (Or.inr rfl))).trans (unhide Hr)) (unhide Hok)).2 rfl)
                go_wp2
                go_ret
                exact ⟨ret_int (by rw [← unhide Hp, unhide Hx]), ((unhide Hat).next (unhide Hb1) a1 d1 o1).2⟩
              · have Hx := hide ((plc_at hlt ((step_onw (Or.inr (Or.inr rfl))).trans (unhide Hr)) (unhide Hok)).1 rfl).1
                have Hy := hide ((plc_at hlt ((step_onw (Or.inr (Or.inr rfl))).trans (unhide Hr)) (unhide Hok)).1 rfl).2
                go_wp2
                go_roundw
                case rel => exact ⟨k + 1, a1, d1, o1, by omega, by go_num, rfl, unhide Hy, (unhide Hat).next (unhide Hb1) a1 d1 o1, by show _ = _; rw [← unhide Hp, unhide Hx]⟩
                case measure => simp [intOf]; omega
    · have Hend := hide (L_drop_end s k (by omega))
      have hkk : (k : Int) = s.size := by omega
      have Hkk := hide hkk
      clear hkk
      have hcc : a = 0 ∨ a = 1 ∨ a = 2 ∨ a = 3 ∨ a = 4 ∨ a = 5 ∨ a = 6 ∨ a = 7 ∨ a = 8 ∨ a = 9 ∨ a = 10 ∨ a = 11 := by omega
      by_cases ho : 0 < o
      all_goals rcases hcc with rfl | rfl | rfl | rfl | rfl | rfl | rfl | rfl | rfl | rfl | rfl | rfl
      all_goals
        have Hval := unhide Hp
        rw [unhide Hend] at Hval
        simp [plc, ho] at Hval
        have Hv := hide Hval
        clear Hval
        go_wp2
        go_ret
        exact ⟨ret_int (by rw [← unhide Hv] <;> first | rfl | exact (unhide Hkk).symm), (unhide Hat).2⟩

end Go.Proofs.YtdchbenfccofpaaGreatDoor
