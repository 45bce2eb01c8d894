/- Walks of the document's answer: the spots, case by case (laid by genC.py). Walks of the document's answer: place. Walks of the document's answer: Read. Reports: the document's grid: the cell of an operand, of an expression. -/
import Derived.Test.YtdchbenfccofpaaGreatDoorC09
import Derived.Test.YtdchbenfccofpaaGreatDoorC01
import Derived.Test.YtdchbenfccofpaaGreatDoorC02
import Derived.Test.YtdchbenfccofpaaGreatDoorC10
import Derived.Deep.RegionWith
import Derived.Deep.DeepCutAuto
import Derived.Test.YtdchbenfccofpaaGreatDoorC03
set_option linter.unusedVariables false
namespace Go.Proofs.YtdchbenfccofpaaGreatDoor
open Go.RowKit Db
set_option maxHeartbeats 1000000 in
theorem onward_7dig (d o c : Int) (w : World) (hd0 : 0 ≤ d) (hd1 : d ≤ 18) (ho0 : 0 ≤ o) (ho1 : o ≤ 200) (hc : digB c = true) (h18 : d < 18) :
    Calls Tryz.prog 152 #[.agg #[.int .i64 7, .int .i64 d, .int .i64 o], .int .u8 c] w fun e w' => SpotR (onwS 7 d o c) e ∧ Below w.heap.size w w' := by
  have n32 := dig_ne hc 32 rfl
  have n59 := dig_ne hc 59 rfl
  have n41 := dig_ne hc 41 rfl
  have hp : opB c = false := by cases h : opB c with | false => rfl | true => rw [op_dig h] at hc; cases hc
  have Hr : Hid (onwS 7 d o c = some (7, d + 1, o)) := by
    show _ = _
    unfold onwS
    simp (config := { decide := true }) [*]
  go_enter Tryz.func152, Tryz.ntmps152
  go_wp2_with (first | (go_at_call 158; refine (digit_any _ _).mono ?_; rintro e w' ⟨rfl, rfl⟩) | (go_at_call 161; refine (operation_any _ _).mono ?_; rintro e w' ⟨rfl, rfl⟩))
  refine bodyPost_ret (v := .tuple #[.agg #[.int .i64 (7), .int .i64 (d + 1), .int .i64 (o)], .bool true]) (by simp [results, Tryz.results152, go_sem]) rfl ⟨⟨_, _, _, _, rfl, ?_⟩, ?_⟩
  · rw [unhide Hr]; rfl
  · repeat (first | exact Below.refl _ _ | refine Below.alloc ?_ (by simp) _ | refine Below.setCell ?_ (by simp) _)

set_option maxHeartbeats 1000000 in
theorem onward_7dig18 (d o c : Int) (w : World) (hd0 : 0 ≤ d) (hd1 : d ≤ 18) (ho0 : 0 ≤ o) (ho1 : o ≤ 200) (hc : digB c = true) (h18 : ¬ d < 18) :
    Calls Tryz.prog 152 #[.agg #[.int .i64 7, .int .i64 d, .int .i64 o], .int .u8 c] w fun e w' => SpotR (onwS 7 d o c) e ∧ Below w.heap.size w w' := by
  have n32 := dig_ne hc 32 rfl
  have n59 := dig_ne hc 59 rfl
  have n41 := dig_ne hc 41 rfl
  have hp : opB c = false := by cases h : opB c with | false => rfl | true => rw [op_dig h] at hc; cases hc
  have Hr : Hid (onwS 7 d o c = none) := by
    show _ = _
    unfold onwS
    simp (config := { decide := true }) [*]
  go_enter Tryz.func152, Tryz.ntmps152
  go_wp2_with (first | (go_at_call 158; refine (digit_any _ _).mono ?_; rintro e w' ⟨rfl, rfl⟩) | (go_at_call 161; refine (operation_any _ _).mono ?_; rintro e w' ⟨rfl, rfl⟩))
  refine bodyPost_ret (v := .tuple #[.agg #[.int .i64 (7), .int .i64 (d), .int .i64 (o)], .bool false]) (by simp [results, Tryz.results152, go_sem]) rfl ⟨⟨_, _, _, _, rfl, ?_⟩, ?_⟩
  · rw [unhide Hr]; rfl
  · repeat (first | exact Below.refl _ _ | refine Below.alloc ?_ (by simp) _ | refine Below.setCell ?_ (by simp) _)

set_option maxHeartbeats 1000000 in
theorem onward_7c32 (d o : Int) (w : World) (hd0 : 0 ≤ d) (hd1 : d ≤ 18) (ho0 : 0 ≤ o) (ho1 : o ≤ 200) :
    Calls Tryz.prog 152 #[.agg #[.int .i64 7, .int .i64 d, .int .i64 o], .int .u8 32] w fun e w' => SpotR (onwS 7 d o 32) e ∧ Below w.heap.size w w' := by
  have edig : digB 32 = false := rfl
  have eop : opB 32 = false := rfl
  have Hr : Hid (onwS 7 d o 32 = some (11, d, o)) := by
    show _ = _
    unfold onwS
    simp (config := { decide := true }) [*]
  go_enter Tryz.func152, Tryz.ntmps152
  go_wp2_with (first | (go_at_call 158; refine (digit_any _ _).mono ?_; rintro e w' ⟨rfl, rfl⟩) | (go_at_call 161; refine (operation_any _ _).mono ?_; rintro e w' ⟨rfl, rfl⟩))
  refine bodyPost_ret (v := .tuple #[.agg #[.int .i64 (11), .int .i64 (d), .int .i64 (o)], .bool true]) (by simp [results, Tryz.results152, go_sem]) rfl ⟨⟨_, _, _, _, rfl, ?_⟩, ?_⟩
  · rw [unhide Hr]; rfl
  · repeat (first | exact Below.refl _ _ | refine Below.alloc ?_ (by simp) _ | refine Below.setCell ?_ (by simp) _)

set_option maxHeartbeats 1000000 in
theorem onward_7op (d o c : Int) (w : World) (hd0 : 0 ≤ d) (hd1 : d ≤ 18) (ho0 : 0 ≤ o) (ho1 : o ≤ 200) (hc : opB c = true) :
    Calls Tryz.prog 152 #[.agg #[.int .i64 7, .int .i64 d, .int .i64 o], .int .u8 c] w fun e w' => SpotR (onwS 7 d o c) e ∧ Below w.heap.size w w' := by
  have n32 := op_ne hc 32 rfl
  have n59 := op_ne hc 59 rfl
  have n41 := op_ne hc 41 rfl
  have hd := op_dig hc
  have Hr : Hid (onwS 7 d o c = some (6, d, o)) := by
    show _ = _
    unfold onwS
    simp (config := { decide := true }) [*]
  go_enter Tryz.func152, Tryz.ntmps152
  go_wp2_with (first | (go_at_call 158; refine (digit_any _ _).mono ?_; rintro e w' ⟨rfl, rfl⟩) | (go_at_call 161; refine (operation_any _ _).mono ?_; rintro e w' ⟨rfl, rfl⟩))
  refine bodyPost_ret (v := .tuple #[.agg #[.int .i64 (6), .int .i64 (d), .int .i64 (o)], .bool true]) (by simp [results, Tryz.results152, go_sem]) rfl ⟨⟨_, _, _, _, rfl, ?_⟩, ?_⟩
  · rw [unhide Hr]; rfl
  · repeat (first | exact Below.refl _ _ | refine Below.alloc ?_ (by simp) _ | refine Below.setCell ?_ (by simp) _)

set_option maxHeartbeats 1000000 in
theorem onward_7c59z (d o : Int) (w : World) (hd0 : 0 ≤ d) (hd1 : d ≤ 18) (ho0 : 0 ≤ o) (ho1 : o ≤ 200) (hz : (o == 0) = true) :
    Calls Tryz.prog 152 #[.agg #[.int .i64 7, .int .i64 d, .int .i64 o], .int .u8 59] w fun e w' => SpotR (onwS 7 d o 59) e ∧ Below w.heap.size w w' := by
  have edig : digB 59 = false := rfl
  have eop : opB 59 = false := rfl
  have Hr : Hid (onwS 7 d o 59 = some (6, d, o)) := by
    show _ = _
    unfold onwS
    simp (config := { decide := true }) [*]
  go_enter Tryz.func152, Tryz.ntmps152
  go_wp2_with (first | (go_at_call 158; refine (digit_any _ _).mono ?_; rintro e w' ⟨rfl, rfl⟩) | (go_at_call 161; refine (operation_any _ _).mono ?_; rintro e w' ⟨rfl, rfl⟩))
  refine bodyPost_ret (v := .tuple #[.agg #[.int .i64 (6), .int .i64 (d), .int .i64 (o)], .bool true]) (by simp [results, Tryz.results152, go_sem]) rfl ⟨⟨_, _, _, _, rfl, ?_⟩, ?_⟩
  · rw [unhide Hr]; rfl
  · repeat (first | exact Below.refl _ _ | refine Below.alloc ?_ (by simp) _ | refine Below.setCell ?_ (by simp) _)

set_option maxHeartbeats 1000000 in
theorem onward_7c59n (d o : Int) (w : World) (hd0 : 0 ≤ d) (hd1 : d ≤ 18) (ho0 : 0 ≤ o) (ho1 : o ≤ 200) (hz : (o == 0) = false) :
    Calls Tryz.prog 152 #[.agg #[.int .i64 7, .int .i64 d, .int .i64 o], .int .u8 59] w fun e w' => SpotR (onwS 7 d o 59) e ∧ Below w.heap.size w w' := by
  have edig : digB 59 = false := rfl
  have eop : opB 59 = false := rfl
  have Hr : Hid (onwS 7 d o 59 = none) := by
    show _ = _
    unfold onwS
    simp (config := { decide := true }) [*]
  go_enter Tryz.func152, Tryz.ntmps152
  go_wp2_with (first | (go_at_call 158; refine (digit_any _ _).mono ?_; rintro e w' ⟨rfl, rfl⟩) | (go_at_call 161; refine (operation_any _ _).mono ?_; rintro e w' ⟨rfl, rfl⟩))
  refine bodyPost_ret (v := .tuple #[.agg #[.int .i64 (7), .int .i64 (d), .int .i64 (o)], .bool false]) (by simp [results, Tryz.results152, go_sem]) rfl ⟨⟨_, _, _, _, rfl, ?_⟩, ?_⟩
  · rw [unhide Hr]; rfl
  · repeat (first | exact Below.refl _ _ | refine Below.alloc ?_ (by simp) _ | refine Below.setCell ?_ (by simp) _)

set_option maxHeartbeats 1000000 in
theorem onward_7c41p (d o : Int) (w : World) (hd0 : 0 ≤ d) (hd1 : d ≤ 18) (ho0 : 0 ≤ o) (ho1 : o ≤ 200) (hz : 0 < o) :
    Calls Tryz.prog 152 #[.agg #[.int .i64 7, .int .i64 d, .int .i64 o], .int .u8 41] w fun e w' => SpotR (onwS 7 d o 41) e ∧ Below w.heap.size w w' := by
  have edig : digB 41 = false := rfl
  have eop : opB 41 = false := rfl
  have Hr : Hid (onwS 7 d o 41 = some (11, d, o - 1)) := by
    show _ = _
    unfold onwS
    simp (config := { decide := true }) [*]
  go_enter Tryz.func152, Tryz.ntmps152
  go_wp2_with (first | (go_at_call 158; refine (digit_any _ _).mono ?_; rintro e w' ⟨rfl, rfl⟩) | (go_at_call 161; refine (operation_any _ _).mono ?_; rintro e w' ⟨rfl, rfl⟩))
  refine bodyPost_ret (v := .tuple #[.agg #[.int .i64 (11), .int .i64 (d), .int .i64 (o - 1)], .bool true]) (by simp [results, Tryz.results152, go_sem]) rfl ⟨⟨_, _, _, _, rfl, ?_⟩, ?_⟩
  · rw [unhide Hr]; rfl
  · repeat (first | exact Below.refl _ _ | refine Below.alloc ?_ (by simp) _ | refine Below.setCell ?_ (by simp) _)

set_option maxHeartbeats 1000000 in
theorem onward_7c41n (d o : Int) (w : World) (hd0 : 0 ≤ d) (hd1 : d ≤ 18) (ho0 : 0 ≤ o) (ho1 : o ≤ 200) (hz : ¬ 0 < o) :
    Calls Tryz.prog 152 #[.agg #[.int .i64 7, .int .i64 d, .int .i64 o], .int .u8 41] w fun e w' => SpotR (onwS 7 d o 41) e ∧ Below w.heap.size w w' := by
  have edig : digB 41 = false := rfl
  have eop : opB 41 = false := rfl
  have Hr : Hid (onwS 7 d o 41 = none) := by
    show _ = _
    unfold onwS
    simp (config := { decide := true }) [*]
  go_enter Tryz.func152, Tryz.ntmps152
  go_wp2_with (first | (go_at_call 158; refine (digit_any _ _).mono ?_; rintro e w' ⟨rfl, rfl⟩) | (go_at_call 161; refine (operation_any _ _).mono ?_; rintro e w' ⟨rfl, rfl⟩))
  refine bodyPost_ret (v := .tuple #[.agg #[.int .i64 (7), .int .i64 (d), .int .i64 (o)], .bool false]) (by simp [results, Tryz.results152, go_sem]) rfl ⟨⟨_, _, _, _, rfl, ?_⟩, ?_⟩
  · rw [unhide Hr]; rfl
  · repeat (first | exact Below.refl _ _ | refine Below.alloc ?_ (by simp) _ | refine Below.setCell ?_ (by simp) _)

set_option maxHeartbeats 1000000 in
theorem onward_7oth (d o c : Int) (w : World) (hd0 : 0 ≤ d) (hd1 : d ≤ 18) (ho0 : 0 ≤ o) (ho1 : o ≤ 200) (h32 : (c == 32) = false) (h59 : (c == 59) = false) (h41 : (c == 41) = false) (hd : digB c = false) (hp : opB c = false) :
    Calls Tryz.prog 152 #[.agg #[.int .i64 7, .int .i64 d, .int .i64 o], .int .u8 c] w fun e w' => SpotR (onwS 7 d o c) e ∧ Below w.heap.size w w' := by
  have Hr : Hid (onwS 7 d o c = none) := by
    show _ = _
    unfold onwS
    simp (config := { decide := true }) [*]
  go_enter Tryz.func152, Tryz.ntmps152
  go_wp2_with (first | (go_at_call 158; refine (digit_any _ _).mono ?_; rintro e w' ⟨rfl, rfl⟩) | (go_at_call 161; refine (operation_any _ _).mono ?_; rintro e w' ⟨rfl, rfl⟩))
  refine bodyPost_ret (v := .tuple #[.agg #[.int .i64 (7), .int .i64 (d), .int .i64 (o)], .bool false]) (by simp [results, Tryz.results152, go_sem]) rfl ⟨⟨_, _, _, _, rfl, ?_⟩, ?_⟩
  · rw [unhide Hr]; rfl
  · repeat (first | exact Below.refl _ _ | refine Below.alloc ?_ (by simp) _ | refine Below.setCell ?_ (by simp) _)

set_option maxHeartbeats 1000000 in
theorem onward_10dig (d o c : Int) (w : World) (hd0 : 0 ≤ d) (hd1 : d ≤ 18) (ho0 : 0 ≤ o) (ho1 : o ≤ 200) (hc : digB c = true) :
    Calls Tryz.prog 152 #[.agg #[.int .i64 10, .int .i64 d, .int .i64 o], .int .u8 c] w fun e w' => SpotR (onwS 10 d o c) e ∧ Below w.heap.size w w' := by
  have n32 := dig_ne hc 32 rfl
  have n59 := dig_ne hc 59 rfl
  have n41 := dig_ne hc 41 rfl
  have hp : opB c = false := by cases h : opB c with | false => rfl | true => rw [op_dig h] at hc; cases hc
  have Hr : Hid (onwS 10 d o c = some (11, d, o)) := by
    show _ = _
    unfold onwS
    simp (config := { decide := true }) [*]
  go_enter Tryz.func152, Tryz.ntmps152
  go_wp2_with (first | (go_at_call 158; refine (digit_any _ _).mono ?_; rintro e w' ⟨rfl, rfl⟩) | (go_at_call 161; refine (operation_any _ _).mono ?_; rintro e w' ⟨rfl, rfl⟩))
  refine bodyPost_ret (v := .tuple #[.agg #[.int .i64 (11), .int .i64 (d), .int .i64 (o)], .bool true]) (by simp [results, Tryz.results152, go_sem]) rfl ⟨⟨_, _, _, _, rfl, ?_⟩, ?_⟩
  · rw [unhide Hr]; rfl
  · repeat (first | exact Below.refl _ _ | refine Below.alloc ?_ (by simp) _ | refine Below.setCell ?_ (by simp) _)

set_option maxHeartbeats 1000000 in
theorem onward_10c32 (d o : Int) (w : World) (hd0 : 0 ≤ d) (hd1 : d ≤ 18) (ho0 : 0 ≤ o) (ho1 : o ≤ 200) :
    Calls Tryz.prog 152 #[.agg #[.int .i64 10, .int .i64 d, .int .i64 o], .int .u8 32] w fun e w' => SpotR (onwS 10 d o 32) e ∧ Below w.heap.size w w' := by
  have edig : digB 32 = false := rfl
  have eop : opB 32 = false := rfl
  have Hr : Hid (onwS 10 d o 32 = some (11, d, o)) := by
    show _ = _
    unfold onwS
    simp (config := { decide := true }) [*]
  go_enter Tryz.func152, Tryz.ntmps152
  go_wp2_with (first | (go_at_call 158; refine (digit_any _ _).mono ?_; rintro e w' ⟨rfl, rfl⟩) | (go_at_call 161; refine (operation_any _ _).mono ?_; rintro e w' ⟨rfl, rfl⟩))
  refine bodyPost_ret (v := .tuple #[.agg #[.int .i64 (11), .int .i64 (d), .int .i64 (o)], .bool true]) (by simp [results, Tryz.results152, go_sem]) rfl ⟨⟨_, _, _, _, rfl, ?_⟩, ?_⟩
  · rw [unhide Hr]; rfl
  · repeat (first | exact Below.refl _ _ | refine Below.alloc ?_ (by simp) _ | refine Below.setCell ?_ (by simp) _)

set_option maxHeartbeats 1000000 in
theorem onward_10op (d o c : Int) (w : World) (hd0 : 0 ≤ d) (hd1 : d ≤ 18) (ho0 : 0 ≤ o) (ho1 : o ≤ 200) (hc : opB c = true) :
    Calls Tryz.prog 152 #[.agg #[.int .i64 10, .int .i64 d, .int .i64 o], .int .u8 c] w fun e w' => SpotR (onwS 10 d o c) e ∧ Below w.heap.size w w' := by
  have n32 := op_ne hc 32 rfl
  have n59 := op_ne hc 59 rfl
  have n41 := op_ne hc 41 rfl
  have hd := op_dig hc
  have Hr : Hid (onwS 10 d o c = some (6, d, o)) := by
    show _ = _
    unfold onwS
    simp (config := { decide := true }) [*]
  go_enter Tryz.func152, Tryz.ntmps152
  go_wp2_with (first | (go_at_call 158; refine (digit_any _ _).mono ?_; rintro e w' ⟨rfl, rfl⟩) | (go_at_call 161; refine (operation_any _ _).mono ?_; rintro e w' ⟨rfl, rfl⟩))
  refine bodyPost_ret (v := .tuple #[.agg #[.int .i64 (6), .int .i64 (d), .int .i64 (o)], .bool true]) (by simp [results, Tryz.results152, go_sem]) rfl ⟨⟨_, _, _, _, rfl, ?_⟩, ?_⟩
  · rw [unhide Hr]; rfl
  · repeat (first | exact Below.refl _ _ | refine Below.alloc ?_ (by simp) _ | refine Below.setCell ?_ (by simp) _)

set_option maxHeartbeats 1000000 in
theorem onward_10c59z (d o : Int) (w : World) (hd0 : 0 ≤ d) (hd1 : d ≤ 18) (ho0 : 0 ≤ o) (ho1 : o ≤ 200) (hz : (o == 0) = true) :
    Calls Tryz.prog 152 #[.agg #[.int .i64 10, .int .i64 d, .int .i64 o], .int .u8 59] w fun e w' => SpotR (onwS 10 d o 59) e ∧ Below w.heap.size w w' := by
  have edig : digB 59 = false := rfl
  have eop : opB 59 = false := rfl
  have Hr : Hid (onwS 10 d o 59 = some (6, d, o)) := by
    show _ = _
    unfold onwS
    simp (config := { decide := true }) [*]
  go_enter Tryz.func152, Tryz.ntmps152
  go_wp2_with (first | (go_at_call 158; refine (digit_any _ _).mono ?_; rintro e w' ⟨rfl, rfl⟩) | (go_at_call 161; refine (operation_any _ _).mono ?_; rintro e w' ⟨rfl, rfl⟩))
  refine bodyPost_ret (v := .tuple #[.agg #[.int .i64 (6), .int .i64 (d), .int .i64 (o)], .bool true]) (by simp [results, Tryz.results152, go_sem]) rfl ⟨⟨_, _, _, _, rfl, ?_⟩, ?_⟩
  · rw [unhide Hr]; rfl
  · repeat (first | exact Below.refl _ _ | refine Below.alloc ?_ (by simp) _ | refine Below.setCell ?_ (by simp) _)

set_option maxHeartbeats 1000000 in
theorem onward_10c59n (d o : Int) (w : World) (hd0 : 0 ≤ d) (hd1 : d ≤ 18) (ho0 : 0 ≤ o) (ho1 : o ≤ 200) (hz : (o == 0) = false) :
    Calls Tryz.prog 152 #[.agg #[.int .i64 10, .int .i64 d, .int .i64 o], .int .u8 59] w fun e w' => SpotR (onwS 10 d o 59) e ∧ Below w.heap.size w w' := by
  have edig : digB 59 = false := rfl
  have eop : opB 59 = false := rfl
  have Hr : Hid (onwS 10 d o 59 = none) := by
    show _ = _
    unfold onwS
    simp (config := { decide := true }) [*]
  go_enter Tryz.func152, Tryz.ntmps152
  go_wp2_with (first | (go_at_call 158; refine (digit_any _ _).mono ?_; rintro e w' ⟨rfl, rfl⟩) | (go_at_call 161; refine (operation_any _ _).mono ?_; rintro e w' ⟨rfl, rfl⟩))
  refine bodyPost_ret (v := .tuple #[.agg #[.int .i64 (10), .int .i64 (d), .int .i64 (o)], .bool false]) (by simp [results, Tryz.results152, go_sem]) rfl ⟨⟨_, _, _, _, rfl, ?_⟩, ?_⟩
  · rw [unhide Hr]; rfl
  · repeat (first | exact Below.refl _ _ | refine Below.alloc ?_ (by simp) _ | refine Below.setCell ?_ (by simp) _)

set_option maxHeartbeats 1000000 in
theorem onward_10c41p (d o : Int) (w : World) (hd0 : 0 ≤ d) (hd1 : d ≤ 18) (ho0 : 0 ≤ o) (ho1 : o ≤ 200) (hz : 0 < o) :
    Calls Tryz.prog 152 #[.agg #[.int .i64 10, .int .i64 d, .int .i64 o], .int .u8 41] w fun e w' => SpotR (onwS 10 d o 41) e ∧ Below w.heap.size w w' := by
  have edig : digB 41 = false := rfl
  have eop : opB 41 = false := rfl
  have Hr : Hid (onwS 10 d o 41 = some (11, d, o - 1)) := by
    show _ = _
    unfold onwS
    simp (config := { decide := true }) [*]
  go_enter Tryz.func152, Tryz.ntmps152
  go_wp2_with (first | (go_at_call 158; refine (digit_any _ _).mono ?_; rintro e w' ⟨rfl, rfl⟩) | (go_at_call 161; refine (operation_any _ _).mono ?_; rintro e w' ⟨rfl, rfl⟩))
  refine bodyPost_ret (v := .tuple #[.agg #[.int .i64 (11), .int .i64 (d), .int .i64 (o - 1)], .bool true]) (by simp [results, Tryz.results152, go_sem]) rfl ⟨⟨_, _, _, _, rfl, ?_⟩, ?_⟩
  · rw [unhide Hr]; rfl
  · repeat (first | exact Below.refl _ _ | refine Below.alloc ?_ (by simp) _ | refine Below.setCell ?_ (by simp) _)

set_option maxHeartbeats 1000000 in
theorem onward_10c41n (d o : Int) (w : World) (hd0 : 0 ≤ d) (hd1 : d ≤ 18) (ho0 : 0 ≤ o) (ho1 : o ≤ 200) (hz : ¬ 0 < o) :
    Calls Tryz.prog 152 #[.agg #[.int .i64 10, .int .i64 d, .int .i64 o], .int .u8 41] w fun e w' => SpotR (onwS 10 d o 41) e ∧ Below w.heap.size w w' := by
  have edig : digB 41 = false := rfl
  have eop : opB 41 = false := rfl
  have Hr : Hid (onwS 10 d o 41 = none) := by
    show _ = _
    unfold onwS
    simp (config := { decide := true }) [*]
  go_enter Tryz.func152, Tryz.ntmps152
  go_wp2_with (first | (go_at_call 158; refine (digit_any _ _).mono ?_; rintro e w' ⟨rfl, rfl⟩) | (go_at_call 161; refine (operation_any _ _).mono ?_; rintro e w' ⟨rfl, rfl⟩))
  refine bodyPost_ret (v := .tuple #[.agg #[.int .i64 (10), .int .i64 (d), .int .i64 (o)], .bool false]) (by simp [results, Tryz.results152, go_sem]) rfl ⟨⟨_, _, _, _, rfl, ?_⟩, ?_⟩
  · rw [unhide Hr]; rfl
  · repeat (first | exact Below.refl _ _ | refine Below.alloc ?_ (by simp) _ | refine Below.setCell ?_ (by simp) _)

set_option maxHeartbeats 1000000 in
theorem onward_10oth (d o c : Int) (w : World) (hd0 : 0 ≤ d) (hd1 : d ≤ 18) (ho0 : 0 ≤ o) (ho1 : o ≤ 200) (h32 : (c == 32) = false) (h59 : (c == 59) = false) (h41 : (c == 41) = false) (hd : digB c = false) (hp : opB c = false) :
    Calls Tryz.prog 152 #[.agg #[.int .i64 10, .int .i64 d, .int .i64 o], .int .u8 c] w fun e w' => SpotR (onwS 10 d o c) e ∧ Below w.heap.size w w' := by
  have Hr : Hid (onwS 10 d o c = none) := by
    show _ = _
    unfold onwS
    simp (config := { decide := true }) [*]
  go_enter Tryz.func152, Tryz.ntmps152
  go_wp2_with (first | (go_at_call 158; refine (digit_any _ _).mono ?_; rintro e w' ⟨rfl, rfl⟩) | (go_at_call 161; refine (operation_any _ _).mono ?_; rintro e w' ⟨rfl, rfl⟩))
  refine bodyPost_ret (v := .tuple #[.agg #[.int .i64 (10), .int .i64 (d), .int .i64 (o)], .bool false]) (by simp [results, Tryz.results152, go_sem]) rfl ⟨⟨_, _, _, _, rfl, ?_⟩, ?_⟩
  · rw [unhide Hr]; rfl
  · repeat (first | exact Below.refl _ _ | refine Below.alloc ?_ (by simp) _ | refine Below.setCell ?_ (by simp) _)

set_option maxHeartbeats 1000000 in
theorem onward_11dig (d o c : Int) (w : World) (hd0 : 0 ≤ d) (hd1 : d ≤ 18) (ho0 : 0 ≤ o) (ho1 : o ≤ 200) (hc : digB c = true) :
    Calls Tryz.prog 152 #[.agg #[.int .i64 11, .int .i64 d, .int .i64 o], .int .u8 c] w fun e w' => SpotR (onwS 11 d o c) e ∧ Below w.heap.size w w' := by
  have n32 := dig_ne hc 32 rfl
  have n59 := dig_ne hc 59 rfl
  have n41 := dig_ne hc 41 rfl
  have hp : opB c = false := by cases h : opB c with | false => rfl | true => rw [op_dig h] at hc; cases hc
  have Hr : Hid (onwS 11 d o c = none) := by
    show _ = _
    unfold onwS
    simp (config := { decide := true }) [*]
  go_enter Tryz.func152, Tryz.ntmps152
  go_wp2_with (first | (go_at_call 158; refine (digit_any _ _).mono ?_; rintro e w' ⟨rfl, rfl⟩) | (go_at_call 161; refine (operation_any _ _).mono ?_; rintro e w' ⟨rfl, rfl⟩))
  refine bodyPost_ret (v := .tuple #[.agg #[.int .i64 (11), .int .i64 (d), .int .i64 (o)], .bool false]) (by simp [results, Tryz.results152, go_sem]) rfl ⟨⟨_, _, _, _, rfl, ?_⟩, ?_⟩
  · rw [unhide Hr]; rfl
  · repeat (first | exact Below.refl _ _ | refine Below.alloc ?_ (by simp) _ | refine Below.setCell ?_ (by simp) _)

set_option maxHeartbeats 1000000 in
theorem onward_11c32 (d o : Int) (w : World) (hd0 : 0 ≤ d) (hd1 : d ≤ 18) (ho0 : 0 ≤ o) (ho1 : o ≤ 200) :
    Calls Tryz.prog 152 #[.agg #[.int .i64 11, .int .i64 d, .int .i64 o], .int .u8 32] w fun e w' => SpotR (onwS 11 d o 32) e ∧ Below w.heap.size w w' := by
  have edig : digB 32 = false := rfl
  have eop : opB 32 = false := rfl
  have Hr : Hid (onwS 11 d o 32 = some (11, d, o)) := by
    show _ = _
    unfold onwS
    simp (config := { decide := true }) [*]
  go_enter Tryz.func152, Tryz.ntmps152
  go_wp2_with (first | (go_at_call 158; refine (digit_any _ _).mono ?_; rintro e w' ⟨rfl, rfl⟩) | (go_at_call 161; refine (operation_any _ _).mono ?_; rintro e w' ⟨rfl, rfl⟩))
  refine bodyPost_ret (v := .tuple #[.agg #[.int .i64 (11), .int .i64 (d), .int .i64 (o)], .bool true]) (by simp [results, Tryz.results152, go_sem]) rfl ⟨⟨_, _, _, _, rfl, ?_⟩, ?_⟩
  · rw [unhide Hr]; rfl
  · repeat (first | exact Below.refl _ _ | refine Below.alloc ?_ (by simp) _ | refine Below.setCell ?_ (by simp) _)

set_option maxHeartbeats 1000000 in
theorem onward_11op (d o c : Int) (w : World) (hd0 : 0 ≤ d) (hd1 : d ≤ 18) (ho0 : 0 ≤ o) (ho1 : o ≤ 200) (hc : opB c = true) :
    Calls Tryz.prog 152 #[.agg #[.int .i64 11, .int .i64 d, .int .i64 o], .int .u8 c] w fun e w' => SpotR (onwS 11 d o c) e ∧ Below w.heap.size w w' := by
  have n32 := op_ne hc 32 rfl
  have n59 := op_ne hc 59 rfl
  have n41 := op_ne hc 41 rfl
  have hd := op_dig hc
  have Hr : Hid (onwS 11 d o c = some (6, d, o)) := by
    show _ = _
    unfold onwS
    simp (config := { decide := true }) [*]
  go_enter Tryz.func152, Tryz.ntmps152
  go_wp2_with (first | (go_at_call 158; refine (digit_any _ _).mono ?_; rintro e w' ⟨rfl, rfl⟩) | (go_at_call 161; refine (operation_any _ _).mono ?_; rintro e w' ⟨rfl, rfl⟩))
  refine bodyPost_ret (v := .tuple #[.agg #[.int .i64 (6), .int .i64 (d), .int .i64 (o)], .bool true]) (by simp [results, Tryz.results152, go_sem]) rfl ⟨⟨_, _, _, _, rfl, ?_⟩, ?_⟩
  · rw [unhide Hr]; rfl
  · repeat (first | exact Below.refl _ _ | refine Below.alloc ?_ (by simp) _ | refine Below.setCell ?_ (by simp) _)

set_option maxHeartbeats 1000000 in
theorem onward_11c59z (d o : Int) (w : World) (hd0 : 0 ≤ d) (hd1 : d ≤ 18) (ho0 : 0 ≤ o) (ho1 : o ≤ 200) (hz : (o == 0) = true) :
    Calls Tryz.prog 152 #[.agg #[.int .i64 11, .int .i64 d, .int .i64 o], .int .u8 59] w fun e w' => SpotR (onwS 11 d o 59) e ∧ Below w.heap.size w w' := by
  have edig : digB 59 = false := rfl
  have eop : opB 59 = false := rfl
  have Hr : Hid (onwS 11 d o 59 = some (6, d, o)) := by
    show _ = _
    unfold onwS
    simp (config := { decide := true }) [*]
  go_enter Tryz.func152, Tryz.ntmps152
  go_wp2_with (first | (go_at_call 158; refine (digit_any _ _).mono ?_; rintro e w' ⟨rfl, rfl⟩) | (go_at_call 161; refine (operation_any _ _).mono ?_; rintro e w' ⟨rfl, rfl⟩))
  refine bodyPost_ret (v := .tuple #[.agg #[.int .i64 (6), .int .i64 (d), .int .i64 (o)], .bool true]) (by simp [results, Tryz.results152, go_sem]) rfl ⟨⟨_, _, _, _, rfl, ?_⟩, ?_⟩
  · rw [unhide Hr]; rfl
  · repeat (first | exact Below.refl _ _ | refine Below.alloc ?_ (by simp) _ | refine Below.setCell ?_ (by simp) _)

set_option maxHeartbeats 1000000 in
theorem onward_11c59n (d o : Int) (w : World) (hd0 : 0 ≤ d) (hd1 : d ≤ 18) (ho0 : 0 ≤ o) (ho1 : o ≤ 200) (hz : (o == 0) = false) :
    Calls Tryz.prog 152 #[.agg #[.int .i64 11, .int .i64 d, .int .i64 o], .int .u8 59] w fun e w' => SpotR (onwS 11 d o 59) e ∧ Below w.heap.size w w' := by
  have edig : digB 59 = false := rfl
  have eop : opB 59 = false := rfl
  have Hr : Hid (onwS 11 d o 59 = none) := by
    show _ = _
    unfold onwS
    simp (config := { decide := true }) [*]
  go_enter Tryz.func152, Tryz.ntmps152
  go_wp2_with (first | (go_at_call 158; refine (digit_any _ _).mono ?_; rintro e w' ⟨rfl, rfl⟩) | (go_at_call 161; refine (operation_any _ _).mono ?_; rintro e w' ⟨rfl, rfl⟩))
  refine bodyPost_ret (v := .tuple #[.agg #[.int .i64 (11), .int .i64 (d), .int .i64 (o)], .bool false]) (by simp [results, Tryz.results152, go_sem]) rfl ⟨⟨_, _, _, _, rfl, ?_⟩, ?_⟩
  · rw [unhide Hr]; rfl
  · repeat (first | exact Below.refl _ _ | refine Below.alloc ?_ (by simp) _ | refine Below.setCell ?_ (by simp) _)

set_option maxHeartbeats 1000000 in
theorem onward_11c41p (d o : Int) (w : World) (hd0 : 0 ≤ d) (hd1 : d ≤ 18) (ho0 : 0 ≤ o) (ho1 : o ≤ 200) (hz : 0 < o) :
    Calls Tryz.prog 152 #[.agg #[.int .i64 11, .int .i64 d, .int .i64 o], .int .u8 41] w fun e w' => SpotR (onwS 11 d o 41) e ∧ Below w.heap.size w w' := by
  have edig : digB 41 = false := rfl
  have eop : opB 41 = false := rfl
  have Hr : Hid (onwS 11 d o 41 = some (11, d, o - 1)) := by
    show _ = _
    unfold onwS
    simp (config := { decide := true }) [*]
  go_enter Tryz.func152, Tryz.ntmps152
  go_wp2_with (first | (go_at_call 158; refine (digit_any _ _).mono ?_; rintro e w' ⟨rfl, rfl⟩) | (go_at_call 161; refine (operation_any _ _).mono ?_; rintro e w' ⟨rfl, rfl⟩))
  refine bodyPost_ret (v := .tuple #[.agg #[.int .i64 (11), .int .i64 (d), .int .i64 (o - 1)], .bool true]) (by simp [results, Tryz.results152, go_sem]) rfl ⟨⟨_, _, _, _, rfl, ?_⟩, ?_⟩
  · rw [unhide Hr]; rfl
  · repeat (first | exact Below.refl _ _ | refine Below.alloc ?_ (by simp) _ | refine Below.setCell ?_ (by simp) _)

set_option maxHeartbeats 1000000 in
theorem onward_11c41n (d o : Int) (w : World) (hd0 : 0 ≤ d) (hd1 : d ≤ 18) (ho0 : 0 ≤ o) (ho1 : o ≤ 200) (hz : ¬ 0 < o) :
    Calls Tryz.prog 152 #[.agg #[.int .i64 11, .int .i64 d, .int .i64 o], .int .u8 41] w fun e w' => SpotR (onwS 11 d o 41) e ∧ Below w.heap.size w w' := by
  have edig : digB 41 = false := rfl
  have eop : opB 41 = false := rfl
  have Hr : Hid (onwS 11 d o 41 = none) := by
    show _ = _
    unfold onwS
    simp (config := { decide := true }) [*]
  go_enter Tryz.func152, Tryz.ntmps152
  go_wp2_with (first | (go_at_call 158; refine (digit_any _ _).mono ?_; rintro e w' ⟨rfl, rfl⟩) | (go_at_call 161; refine (operation_any _ _).mono ?_; rintro e w' ⟨rfl, rfl⟩))
  refine bodyPost_ret (v := .tuple #[.agg #[.int .i64 (11), .int .i64 (d), .int .i64 (o)], .bool false]) (by simp [results, Tryz.results152, go_sem]) rfl ⟨⟨_, _, _, _, rfl, ?_⟩, ?_⟩
  · rw [unhide Hr]; rfl
  · repeat (first | exact Below.refl _ _ | refine Below.alloc ?_ (by simp) _ | refine Below.setCell ?_ (by simp) _)

set_option maxHeartbeats 1000000 in
theorem onward_11oth (d o c : Int) (w : World) (hd0 : 0 ≤ d) (hd1 : d ≤ 18) (ho0 : 0 ≤ o) (ho1 : o ≤ 200) (h32 : (c == 32) = false) (h59 : (c == 59) = false) (h41 : (c == 41) = false) (hd : digB c = false) (hp : opB c = false) :
    Calls Tryz.prog 152 #[.agg #[.int .i64 11, .int .i64 d, .int .i64 o], .int .u8 c] w fun e w' => SpotR (onwS 11 d o c) e ∧ Below w.heap.size w w' := by
  have Hr : Hid (onwS 11 d o c = none) := by
    show _ = _
    unfold onwS
    simp (config := { decide := true }) [*]
  go_enter Tryz.func152, Tryz.ntmps152
  go_wp2_with (first | (go_at_call 158; refine (digit_any _ _).mono ?_; rintro e w' ⟨rfl, rfl⟩) | (go_at_call 161; refine (operation_any _ _).mono ?_; rintro e w' ⟨rfl, rfl⟩))
  refine bodyPost_ret (v := .tuple #[.agg #[.int .i64 (11), .int .i64 (d), .int .i64 (o)], .bool false]) (by simp [results, Tryz.results152, go_sem]) rfl ⟨⟨_, _, _, _, rfl, ?_⟩, ?_⟩
  · rw [unhide Hr]; rfl
  · repeat (first | exact Below.refl _ _ | refine Below.alloc ?_ (by simp) _ | refine Below.setCell ?_ (by simp) _)

theorem onward_any (a d o c : Int) (w : World) (ha : a = 7 ∨ a = 10 ∨ a = 11) (hd0 : 0 ≤ d) (hd1 : d ≤ 18) (ho0 : 0 ≤ o) (ho1 : o ≤ 200) :
    Calls Tryz.prog 152 #[.agg #[.int .i64 a, .int .i64 d, .int .i64 o], .int .u8 c] w fun e w' => SpotR (onwS a d o c) e ∧ Below w.heap.size w w' := by
  by_cases h32 : c = 32
  · subst h32
    rcases ha with rfl | rfl | rfl
    · exact onward_7c32 d o w hd0 hd1 ho0 ho1
    · exact onward_10c32 d o w hd0 hd1 ho0 ho1
    · exact onward_11c32 d o w hd0 hd1 ho0 ho1
  by_cases h59 : c = 59
  · subst h59
    cases hz : (o == 0) with
    | true =>
      rcases ha with rfl | rfl | rfl
      · exact onward_7c59z d o w hd0 hd1 ho0 ho1 hz
      · exact onward_10c59z d o w hd0 hd1 ho0 ho1 hz
      · exact onward_11c59z d o w hd0 hd1 ho0 ho1 hz
    | false =>
      rcases ha with rfl | rfl | rfl
      · exact onward_7c59n d o w hd0 hd1 ho0 ho1 hz
      · exact onward_10c59n d o w hd0 hd1 ho0 ho1 hz
      · exact onward_11c59n d o w hd0 hd1 ho0 ho1 hz
  by_cases h41 : c = 41
  · subst h41
    by_cases hz : 0 < o
    · rcases ha with rfl | rfl | rfl
      · exact onward_7c41p d o w hd0 hd1 ho0 ho1 hz
      · exact onward_10c41p d o w hd0 hd1 ho0 ho1 hz
      · exact onward_11c41p d o w hd0 hd1 ho0 ho1 hz
    · rcases ha with rfl | rfl | rfl
      · exact onward_7c41n d o w hd0 hd1 ho0 ho1 hz
      · exact onward_10c41n d o w hd0 hd1 ho0 ho1 hz
      · exact onward_11c41n d o w hd0 hd1 ho0 ho1 hz
  cases hdig : digB c with
  | true =>
    rcases ha with rfl | rfl | rfl
    · by_cases h18 : d < 18
      · exact onward_7dig d o c w hd0 hd1 ho0 ho1 hdig h18
      · exact onward_7dig18 d o c w hd0 hd1 ho0 ho1 hdig h18
    · exact onward_10dig d o c w hd0 hd1 ho0 ho1 hdig
    · exact onward_11dig d o c w hd0 hd1 ho0 ho1 hdig
  | false =>
  cases hop : opB c with
  | true =>
    rcases ha with rfl | rfl | rfl
    · exact onward_7op d o c w hd0 hd1 ho0 ho1 hop
    · exact onward_10op d o c w hd0 hd1 ho0 ho1 hop
    · exact onward_11op d o c w hd0 hd1 ho0 ho1 hop
  | false =>
  rcases ha with rfl | rfl | rfl
  · exact onward_7oth d o c w hd0 hd1 ho0 ho1 (beq_false_of h32) (beq_false_of h59) (beq_false_of h41) hdig hop
  · exact onward_10oth d o c w hd0 hd1 ho0 ho1 (beq_false_of h32) (beq_false_of h59) (beq_false_of h41) hdig hop
  · exact onward_11oth d o c w hd0 hd1 ho0 ho1 (beq_false_of h32) (beq_false_of h59) (beq_false_of h41) hdig hop

end Go.Proofs.YtdchbenfccofpaaGreatDoor
namespace Go.Proofs.YtdchbenfccofpaaGreatDoor
open Go.RowKit Db


theorem plc_at {s : ByteArray} {k : Nat} (h : k < s.size) {a d o : Int} {a' d' o' : Int} {ok : Bool} (hr : stepS a d o (s[k].toNat : Int) = if ok then some (a', d', o') else none) (hok : okS a d o k) :
    (ok = true → plc a d o k ((L s).drop k) = plc a' d' o' ((k + 1 : Nat) : Int) ((L s).drop (k + 1)) ∧ okS a' d' o' (k + 1)) ∧ (ok = false → plc a d o k ((L s).drop k) = k) := by
  refine ⟨?_, ?_⟩
  · rintro rfl
    rw [if_pos rfl] at hr
    refine ⟨?_, stepS_ok hok hr⟩
    rw [L_drop s k h, plc_step hr]; rfl
  · rintro rfl
    rw [if_neg (by simp)] at hr
    rw [L_drop s k h, plc_stop hr]
theorem step_days {a d o c : Int} (h : a < 6) : stepS a d o c = daysS a d o c := by unfold stepS; rw [if_pos h]
theorem step_fact {a d o c : Int} (h : a = 6 ∨ a = 8 ∨ a = 9) : stepS a d o c = factS a d o c := by
  unfold stepS; rw [if_neg (by omega), if_pos (by rcases h with rfl | rfl | rfl <;> rfl)]
theorem step_onw {a d o c : Int} (h : a = 7 ∨ a = 10 ∨ a = 11) : stepS a d o c = onwS a d o c := by
  unfold stepS; rw [if_neg (by omega), if_neg (by rcases h with rfl | rfl | rfl <;> decide)]

/-- The loop's relation: the spot lies in its block. -/
def SpotAt (w wr : World) (a d o : Int) : Prop := Blk wr w.heap.size #[.int .i64 a, .int .i64 d, .int .i64 o] 229 ∧ Below w.heap.size w wr
theorem SpotAt.next {w wr w1 : World} {a d o : Int} (h : SpotAt w wr a d o) (hb : Below wr.heap.size wr w1) (a1 d1 o1 : Int) :
    SpotAt w (((w1.setCell ⟨w.heap.size, 0, none⟩ (.int .i64 a1)).setCell ⟨w.heap.size, 1, none⟩ (.int .i64 d1)).setCell ⟨w.heap.size, 2, none⟩ (.int .i64 o1)) a1 d1 o1 := by
  refine ⟨?_, ?_⟩
  · have := ((((h.1.kept hb).set 0 (.int .i64 a1)).set 1 (.int .i64 d1)).set 2 (.int .i64 o1))
    simpa using this
  · exact (((h.2.then' h.2.size hb).setCell (by simp) _).setCell (by simp) _).setCell (by simp) _

set_option maxHeartbeats 2000000 in
theorem place_any (s : ByteArray) (w : World) (hs : s.size ≤ 200) :
    Calls Tryz.prog 109 #[.string s] w fun e w' => e = .returned (.int .i64 (plc 0 0 0 0 (L s))) ∧ Below w.heap.size w w' := by
  go_enter Tryz.func109, Tryz.ntmps109
  go_wp2
  go_loopw [4, 5] (fun ok i wr => ∃ k : Nat, ∃ a d o : Int, k ≤ s.size ∧ i = .int .i64 k ∧ ok = .bool true ∧ Hid (okS a d o k) ∧ Hid (SpotAt w wr a d o) ∧ 
      Hid (plc a d o k ((L s).drop k) = plc 0 0 0 0 (L s))) (fun _ i _ => s.size - (intOf i).toNat)
  case atStart => exact ⟨0, 0, 0, 0, by omega, rfl, rfl, ⟨by omega, by omega, by omega, by omega, by omega, by omega⟩, ⟨Blk.new _ _ _, (Below.refl _ _).alloc (Nat.le_refl _) _⟩, rfl⟩
  case round =>
    obtain ⟨k, a, d, o, hk, rfl, rfl, Hok, Hat, Hp⟩ := hrel
    obtain ⟨ha0, ha1, hd0, hd1, ho0, ho1⟩ := unhide Hok
    have hc0 := (unhide Hat).1.cell 0
    have hc1 := (unhide Hat).1.cell 1
    have hc2 := (unhide Hat).1.cell 2
    have hf0 := (unhide Hat).1.frozen 0
    have hf1 := (unhide Hat).1.frozen 1
    have hf2 := (unhide Hat).1.frozen 2
    have hsz := (unhide Hat).1.lt
    simp only [List.getElem?_toArray, List.getElem?_cons_zero, List.getElem?_cons_succ] at hc0 hc1 hc2
    by_cases hlt : k < s.size
    · by_cases h6 : a < 6
      · skip
        go_wp2_with fail
        go_region_with (go_at_call 150; refine (days_any a d o _ _ ha0 h6 hd0 hd1 ho0 (by omega)).mono ?_; rintro e w1 ⟨⟨a1, d1, o1, ok1, rfl, hr⟩, hb⟩; have Hr := hide hr; have Hb1 := hide hb.undrew; have c0 := (hb.cell (p := ⟨w.heap.size, 0, none⟩) hsz).trans hc0; have c1 := (hb.cell (p := ⟨w.heap.size, 1, none⟩) hsz).trans hc1; have c2 := (hb.cell (p := ⟨w.heap.size, 2, none⟩) hsz).trans hc2; have f0 := (hb.frozen (p := ⟨w.heap.size, 0, none⟩) hsz).trans hf0; have f1 := (hb.frozen (p := ⟨w.heap.size, 1, none⟩) hsz).trans hf1; have f2 := (hb.frozen (p := ⟨w.heap.size, 2, none⟩) hsz).trans hf2; clear hr hb)
        all_goals
          cases ok1
          · have Hx := hide ((plc_at hlt ((step_days h6).trans (unhide Hr)) (unhide Hok)).2 rfl)
            go_wp2
            go_ret
            exact ⟨ret_int (by rw [← unhide Hp, unhide Hx]), ((unhide Hat).next (unhide Hb1) a1 d1 o1).2⟩
          · have Hx := hide ((plc_at hlt ((step_days h6).trans (unhide Hr)) (unhide Hok)).1 rfl).1
            have Hy := hide ((plc_at hlt ((step_days h6).trans (unhide Hr)) (unhide Hok)).1 rfl).2
            go_wp2
            go_roundw
            case rel => exact ⟨k + 1, a1, d1, o1, by omega, by go_num, rfl, unhide Hy, (unhide Hat).next (unhide Hb1) a1 d1 o1, by show _ = _; rw [← unhide Hp, unhide Hx]⟩
            case measure => simp [intOf]; omega
      · have hc : (a = 6 ∨ a = 8 ∨ a = 9) ∨ (a = 7 ∨ a = 10 ∨ a = 11) := by omega
        rcases hc with hc | hc
        · rcases hc with hc | hc | hc
          · obtain rfl : a = 6 := by omega
            go_wp2_with fail
            go_region_with (go_at_call 151; refine (factor_any 6 d o _ _ (Or.inl rfl) hd0 hd1 ho0 (by omega)).mono ?_; rintro e w1 ⟨⟨a1, d1, o1, ok1, rfl, hr⟩, hb⟩; have Hr := hide hr; have Hb1 := hide hb.undrew; have c0 := (hb.cell (p := ⟨w.heap.size, 0, none⟩) hsz).trans hc0; have c1 := (hb.cell (p := ⟨w.heap.size, 1, none⟩) hsz).trans hc1; have c2 := (hb.cell (p := ⟨w.heap.size, 2, none⟩) hsz).trans hc2; have f0 := (hb.frozen (p := ⟨w.heap.size, 0, none⟩) hsz).trans hf0; have f1 := (hb.frozen (p := ⟨w.heap.size, 1, none⟩) hsz).trans hf1; have f2 := (hb.frozen (p := ⟨w.heap.size, 2, none⟩) hsz).trans hf2; clear hr hb)
            all_goals
              cases ok1
              · have Hx := hide ((plc_at hlt ((step_fact (Or.inl rfl)).trans (unhide Hr)) (unhide Hok)).2 rfl)
                go_wp2
                go_ret
                exact ⟨ret_int (by rw [← unhide Hp, unhide Hx]), ((unhide Hat).next (unhide Hb1) a1 d1 o1).2⟩
              · have Hx := hide ((plc_at hlt ((step_fact (Or.inl rfl)).trans (unhide Hr)) (unhide Hok)).1 rfl).1
                have Hy := hide ((plc_at hlt ((step_fact (Or.inl rfl)).trans (unhide Hr)) (unhide Hok)).1 rfl).2
                go_wp2
                go_roundw
                case rel => exact ⟨k + 1, a1, d1, o1, by omega, by go_num, rfl, unhide Hy, (unhide Hat).next (unhide Hb1) a1 d1 o1, by show _ = _; rw [← unhide Hp, unhide Hx]⟩
                case measure => simp [intOf]; omega
          · obtain rfl : a = 8 := by omega
            go_wp2_with fail
            go_region_with (go_at_call 151; refine (factor_any 8 d o _ _ (Or.inr (Or.inl rfl)) hd0 hd1 ho0 (by omega)).mono ?_; rintro e w1 ⟨⟨a1, d1, o1, ok1, rfl, hr⟩, hb⟩; have Hr := hide hr; have Hb1 := hide hb.undrew; have c0 := (hb.cell (p := ⟨w.heap.size, 0, none⟩) hsz).trans hc0; have c1 := (hb.cell (p := ⟨w.heap.size, 1, none⟩) hsz).trans hc1; have c2 := (hb.cell (p := ⟨w.heap.size, 2, none⟩) hsz).trans hc2; have f0 := (hb.frozen (p := ⟨w.heap.size, 0, none⟩) hsz).trans hf0; have f1 := (hb.frozen (p := ⟨w.heap.size, 1, none⟩) hsz).trans hf1; have f2 := (hb.frozen (p := ⟨w.heap.size, 2, none⟩) hsz).trans hf2; clear hr hb)
            all_goals
              cases ok1
              · have Hx := hide ((plc_at hlt ((step_fact (Or.inr (Or.inl rfl))).trans (unhide Hr)) (unhide Hok)).2 rfl)
                go_wp2
                go_ret
                exact ⟨ret_int (by rw [← unhide Hp, unhide Hx]), ((unhide Hat).next (unhide Hb1) a1 d1 o1).2⟩
              · have Hx := hide ((plc_at hlt ((step_fact (Or.inr (Or.inl rfl))).trans (unhide Hr)) (unhide Hok)).1 rfl).1
                have Hy := hide ((plc_at hlt ((step_fact (Or.inr (Or.inl rfl))).trans (unhide Hr)) (unhide Hok)).1 rfl).2
                go_wp2
                go_roundw
                case rel => exact ⟨k + 1, a1, d1, o1, by omega, by go_num, rfl, unhide Hy, (unhide Hat).next (unhide Hb1) a1 d1 o1, by show _ = _; rw [← unhide Hp, unhide Hx]⟩
                case measure => simp [intOf]; omega
          · obtain rfl : a = 9 := by omega
            go_wp2_with fail
            go_region_with (go_at_call 151; refine (factor_any 9 d o _ _ (Or.inr (Or.inr rfl)) hd0 hd1 ho0 (by omega)).mono ?_; rintro e w1 ⟨⟨a1, d1, o1, ok1, rfl, hr⟩, hb⟩; have Hr := hide hr; have Hb1 := hide hb.undrew; have c0 := (hb.cell (p := ⟨w.heap.size, 0, none⟩) hsz).trans hc0; have c1 := (hb.cell (p := ⟨w.heap.size, 1, none⟩) hsz).trans hc1; have c2 := (hb.cell (p := ⟨w.heap.size, 2, none⟩) hsz).trans hc2; have f0 := (hb.frozen (p := ⟨w.heap.size, 0, none⟩) hsz).trans hf0; have f1 := (hb.frozen (p := ⟨w.heap.size, 1, none⟩) hsz).trans hf1; have f2 := (hb.frozen (p := ⟨w.heap.size, 2, none⟩) hsz).trans hf2; clear hr hb)
            all_goals
              cases ok1
              · have Hx := hide ((plc_at hlt ((step_fact (Or.inr (Or.inr rfl))).trans (unhide Hr)) (unhide Hok)).2 rfl)
                go_wp2
                go_ret
                exact ⟨ret_int (by rw [← unhide Hp, unhide Hx]), ((unhide Hat).next (unhide Hb1) a1 d1 o1).2⟩
              · have Hx := hide ((plc_at hlt ((step_fact (Or.inr (Or.inr rfl))).trans (unhide Hr)) (unhide Hok)).1 rfl).1
                have Hy := hide ((plc_at hlt ((step_fact (Or.inr (Or.inr rfl))).trans (unhide Hr)) (unhide Hok)).1 rfl).2
                go_wp2
                go_roundw
                case rel => exact ⟨k + 1, a1, d1, o1, by omega, by go_num, rfl, unhide Hy, (unhide Hat).next (unhide Hb1) a1 d1 o1, by show _ = _; rw [← unhide Hp, unhide Hx]⟩
                case measure => simp [intOf]; omega
        · rcases hc with hc | hc | hc
          · obtain rfl : a = 7 := by omega
            go_wp2_with fail
            go_region_with (go_at_call 152; refine (onward_any 7 d o _ _ (Or.inl rfl) hd0 hd1 ho0 (by omega)).mono ?_; rintro e w1 ⟨⟨a1, d1, o1, ok1, rfl, hr⟩, hb⟩; have Hr := hide hr; have Hb1 := hide hb.undrew; have c0 := (hb.cell (p := ⟨w.heap.size, 0, none⟩) hsz).trans hc0; have c1 := (hb.cell (p := ⟨w.heap.size, 1, none⟩) hsz).trans hc1; have c2 := (hb.cell (p := ⟨w.heap.size, 2, none⟩) hsz).trans hc2; have f0 := (hb.frozen (p := ⟨w.heap.size, 0, none⟩) hsz).trans hf0; have f1 := (hb.frozen (p := ⟨w.heap.size, 1, none⟩) hsz).trans hf1; have f2 := (hb.frozen (p := ⟨w.heap.size, 2, none⟩) hsz).trans hf2; clear hr hb)
            all_goals
              cases ok1
              · have Hx := hide ((plc_at hlt ((step_onw (Or.inl rfl)).trans (unhide Hr)) (unhide Hok)).2 rfl)
                go_wp2
                go_ret
                exact ⟨ret_int (by rw [← unhide Hp, unhide Hx]), ((unhide Hat).next (unhide Hb1) a1 d1 o1).2⟩
              · have Hx := hide ((plc_at hlt ((step_onw (Or.inl rfl)).trans (unhide Hr)) (unhide Hok)).1 rfl).1
                have Hy := hide ((plc_at hlt ((step_onw (Or.inl rfl)).trans (unhide Hr)) (unhide Hok)).1 rfl).2
                go_wp2
                go_roundw
                case rel => exact ⟨k + 1, a1, d1, o1, by omega, by go_num, rfl, unhide Hy, (unhide Hat).next (unhide Hb1) a1 d1 o1, by show _ = _; rw [← unhide Hp, unhide Hx]⟩
                case measure => simp [intOf]; omega
          · obtain rfl : a = 10 := by omega
            go_wp2_with fail
            go_region_with (go_at_call 152; refine (onward_any 10 d o _ _ (Or.inr (Or.inl rfl)) hd0 hd1 ho0 (by omega)).mono ?_; rintro e w1 ⟨⟨a1, d1, o1, ok1, rfl, hr⟩, hb⟩; have Hr := hide hr; have Hb1 := hide hb.undrew; have c0 := (hb.cell (p := ⟨w.heap.size, 0, none⟩) hsz).trans hc0; have c1 := (hb.cell (p := ⟨w.heap.size, 1, none⟩) hsz).trans hc1; have c2 := (hb.cell (p := ⟨w.heap.size, 2, none⟩) hsz).trans hc2; have f0 := (hb.frozen (p := ⟨w.heap.size, 0, none⟩) hsz).trans hf0; have f1 := (hb.frozen (p := ⟨w.heap.size, 1, none⟩) hsz).trans hf1; have f2 := (hb.frozen (p := ⟨w.heap.size, 2, none⟩) hsz).trans hf2; clear hr hb)
            all_goals
              cases ok1
              · have Hx := hide ((plc_at hlt ((step_onw (Or.inr (Or.inl rfl))).trans (unhide Hr)) (unhide Hok)).2 rfl)
                go_wp2
                go_ret
                exact ⟨ret_int (by rw [← unhide Hp, unhide Hx]), ((unhide Hat).next (unhide Hb1) a1 d1 o1).2⟩
              · have Hx := hide ((plc_at hlt ((step_onw (Or.inr (Or.inl rfl))).trans (unhide Hr)) (unhide Hok)).1 rfl).1
                have Hy := hide ((plc_at hlt ((step_onw (Or.inr (Or.inl rfl))).trans (unhide Hr)) (unhide Hok)).1 rfl).2
                go_wp2
                go_roundw
                case rel => exact ⟨k + 1, a1, d1, o1, by omega, by go_num, rfl, unhide Hy, (unhide Hat).next (unhide Hb1) a1 d1 o1, by show _ = _; rw [← unhide Hp, unhide Hx]⟩
                case measure => simp [intOf]; omega
          · obtain rfl : a = 11 := by omega
            go_wp2_with fail
            go_region_with (go_at_call 152; refine (onward_any 11 d o _ _ (Or.inr (Or.inr rfl)) hd0 hd1 ho0 (by omega)).mono ?_; rintro e w1 ⟨⟨a1, d1, o1, ok1, rfl, hr⟩, hb⟩; have Hr := hide hr; have Hb1 := hide hb.undrew; have c0 := (hb.cell (p := ⟨w.heap.size, 0, none⟩) hsz).trans hc0; have c1 := (hb.cell (p := ⟨w.heap.size, 1, none⟩) hsz).trans hc1; have c2 := (hb.cell (p := ⟨w.heap.size, 2, none⟩) hsz).trans hc2; have f0 := (hb.frozen (p := ⟨w.heap.size, 0, none⟩) hsz).trans hf0; have f1 := (hb.frozen (p := ⟨w.heap.size, 1, none⟩) hsz).trans hf1; have f2 := (hb.frozen (p := ⟨w.heap.size, 2, none⟩) hsz).trans hf2; clear hr hb)
            all_goals
              cases ok1
              · have Hx := hide ((plc_at hlt ((step_onw (Or.inr (Or.inr rfl))).trans (unhide Hr)) (unhide Hok)).2 rfl)
                go_wp2
                go_ret
                exact ⟨ret_int (by rw [← unhide Hp, unhide Hx]), ((unhide Hat).next (unhide Hb1) a1 d1 o1).2⟩
              · have Hx := hide ((plc_at hlt ((step_onw (Or.inr (Or.inr rfl))).trans (unhide Hr)) (unhide Hok)).1 rfl).1
                have Hy := hide ((plc_at hlt ((step_onw (Or.inr (Or.inr rfl))).trans (unhide Hr)) (unhide Hok)).1 rfl).2
                go_wp2
                go_roundw
                case rel => exact ⟨k + 1, a1, d1, o1, by omega, by go_num, rfl, unhide Hy, (unhide Hat).next (unhide Hb1) a1 d1 o1, by show _ = _; rw [← unhide Hp, unhide Hx]⟩
                case measure => simp [intOf]; omega
    · have Hend := hide (L_drop_end s k (by omega))
      have hkk : (k : Int) = s.size := by omega
      have Hkk := hide hkk
      clear hkk
      have hcc : a = 0 ∨ a = 1 ∨ a = 2 ∨ a = 3 ∨ a = 4 ∨ a = 5 ∨ a = 6 ∨ a = 7 ∨ a = 8 ∨ a = 9 ∨ a = 10 ∨ a = 11 := by omega
      by_cases ho : 0 < o
      all_goals rcases hcc with rfl | rfl | rfl | rfl | rfl | rfl | rfl | rfl | rfl | rfl | rfl | rfl
      all_goals
        have Hval := unhide Hp
        rw [unhide Hend] at Hval
        simp [plc, ho] at Hval
        have Hv := hide Hval
        clear Hval
        go_wp2
        go_ret
        exact ⟨ret_int (by rw [← unhide Hv] <;> first | rfl | exact (unhide Hkk).symm), (unhide Hat).2⟩

end Go.Proofs.YtdchbenfccofpaaGreatDoor
namespace Go.Proofs.YtdchbenfccofpaaGreatDoor
open Go.RowKit Db

theorem refRead_long (s : ByteArray) (w : World) (hs : 200 < s.size) (hm : s.size ≤ maxLen) :
    Calls Tryz.prog 76 #[.string s] w fun e w' => e = .returned (.tuple #[.agg #[.slice none 0 0, .slice none 0 0, .slice none 0 0], .int .i64 1, .int .i64 0]) ∧ Below w.heap.size w w' := by
  unfold maxLen at hm
  go_enter Tryz.func76, Tryz.ntmps76
  go_wp2_with fail
  refine bodyPost_ret (v := .tuple #[.agg #[.slice none 0 0, .slice none 0 0, .slice none 0 0], .int .i64 1, .int .i64 0]) (by simp [results, Tryz.results76, go_sem]) rfl ⟨rfl, ?_⟩
  exact (Below.refl _ _).alloc (Nat.le_refl _) _

set_option maxRecDepth 100000 in
set_option maxHeartbeats 1000000 in
theorem refRead_form (s : ByteArray) (w : World) (hs : s.size ≤ 200) (hp : 0 ≤ plc 0 0 0 0 (L s)) :
    Calls Tryz.prog 76 #[.string s] w fun e w' => e = .returned (.tuple #[.agg #[.slice none 0 0, .slice none 0 0, .slice none 0 0], .int .i64 2, .int .i64 (plc 0 0 0 0 (L s))]) ∧ Below w.heap.size w w' := by
  obtain ⟨p, hpp⟩ : ∃ p, plc 0 0 0 0 (L s) = p := ⟨_, rfl⟩
  rw [hpp] at hp ⊢
  have Hpp := hide hpp
  clear hpp
  go_enter Tryz.func76, Tryz.ntmps76
  go_wp2_with fail
  refine (place_any s _ hs).mono ?_
  rintro e w1 ⟨rfl, hb⟩
  rw [unhide Hpp]
  have HB0 : Hid (Blk w1 w.heap.size #[.slice none 0 0, .slice none 0 0, .slice none 0 0] 129) := (Blk.new _ _ _).kept hb
  have f0 := (unhide HB0).cell 0
  have f1 := (unhide HB0).cell 1
  have f2 := (unhide HB0).cell 2
  have z0 := (unhide HB0).frozen 0
  have z1 := (unhide HB0).frozen 1
  have z2 := (unhide HB0).frozen 2
  simp only [List.getElem?_toArray, List.getElem?_cons_zero, List.getElem?_cons_succ] at f0 f1 f2
  have Hb := hide hb
  clear hb
  go_wp2_with fail
  refine bodyPost_ret (v := .tuple #[.agg #[.slice none 0 0, .slice none 0 0, .slice none 0 0], .int .i64 2, .int .i64 p]) (by simp [results, Tryz.results76, go_sem, f0, f1, f2]) rfl ⟨rfl, ?_⟩
  exact (((((Below.refl _ _).alloc (Nat.le_refl _) _).then' (by simp) (unhide Hb)).setCell (by simp) _).setCell (by simp) _).setCell (by simp) _

/-- The sheet, as it is read: the values and where they lie. -/
structure SheetAt (w : World) (B : Nat) (vf vt vr : Value) (pd : List (List UInt8 × List UInt8)) (ss : List ByteArray) : Prop where
  rf : w.ownsRow B 3 1 vf pd.length (pd.map (fun p => .int .i64 (val p.1)))
  rt : w.ownsRow B 3 1 vt pd.length (pd.map (fun p => .int .i64 (val p.2)))
  rr : w.ownsRow B 9 1 vr ss.length (ss.map Value.string)

theorem SheetAt.drewN {w : World} {B : Nat} {vf vt vr : Value} {pd : List (List UInt8 × List UInt8)} {ss : List ByteArray} (h : SheetAt w B vf vt vr pd ss) (n : Nat) : SheetAt (w.drewN n) B vf vt vr pd ss := ⟨h.rf, h.rt, h.rr⟩
theorem SheetAt.kept {w w' : World} {B : Nat} {vf vt vr : Value} {pd : List (List UInt8 × List UInt8)} {ss : List ByteArray} (h : SheetAt w B vf vt vr pd ss) (hb : Below w.heap.size w w') : SheetAt w' B vf vt vr pd ss := ⟨ownsRow_below h.rf hb, ownsRow_below h.rt hb, ownsRow_below h.rr hb⟩
theorem SheetAt.alloc {w : World} {B : Nat} {vf vt vr : Value} {pd : List (List UInt8 × List UInt8)} {ss : List ByteArray} (h : SheetAt w B vf vt vr pd ss) (o : Obj) : SheetAt (w.alloc o) B vf vt vr pd ss := ⟨h.rf.alloc o, h.rt.alloc o, h.rr.alloc o⟩

/-- What Read answers to a report by its form. -/
def ReadR (w : World) (pd : List (List UInt8 × List UInt8)) (rows : List (List UInt8)) (pss : List (List Pt)) (e : Ending) (w' : World) : Prop :=
  ∃ a1 n1 c1 a2 n2 c2 a3 n3 c3 er pl, e = .returned (.tuple #[.agg #[.slice a1 n1 c1, .slice a2 n2 c2, .slice a3 n3 c3], .int .i64 er, .int .i64 pl]) ∧ outc (pdv pd) pss = (er, pl) ∧ Below w.heap.size w w' ∧
    (er = 0 → ∃ ss : List ByteArray, ss.map L = rows ∧ SheetAt w' w.heap.size (.slice a1 n1 c1) (.slice a2 n2 c2) (.slice a3 n3 c3) pd ss)

set_option maxRecDepth 100000 in
set_option maxHeartbeats 4000000 in
theorem refRead_ok (s : ByteArray) (w : World) (hs : s.size ≤ 200) (pd : List (List UInt8 × List UInt8)) (rows : List (List UInt8)) (pss : List (List Pt)) (hf : Db.Form (L s) pd rows pss) :
    Calls Tryz.prog 76 #[.string s] w fun e w' => ReadR w pd rows pss e w' := by
  obtain ⟨hplc, hsht, hlen, hrow⟩ := hf
  obtain ⟨ii, hi, hz0, hz1, hz2⟩ := info_parts info_int
  have Hplc := hide hplc
  have Hsht := hide hsht
  have Hlen := hide hlen
  have Hrow := hide hrow
  clear hplc hsht hlen hrow
  go_enter Tryz.func76, Tryz.ntmps76
  go_wp2_with fail
  refine (place_any s _ hs).mono ?_
  rintro e w1 ⟨rfl, hb1⟩
  rw [unhide Hplc]
  have HB1 : Hid (Blk w1 w.heap.size #[.slice none 0 0, .slice none 0 0, .slice none 0 0] 129) := (Blk.new _ _ _).kept hb1
  have Hb1 := hide hb1
  have hsz1 := hb1.size
  simp at hsz1
  clear hb1
  go_wp2_with fail
  refine (read_any s _ hs pd rows (unhide Hsht)).mono ?_
  rintro e w2 ⟨vf, vt, vr, ss, rfl, hss, hrf, hrt, hrr, hb2⟩
  have hsl : ss.length = rows.length := by have := congrArg List.length hss; simpa using this
  obtain ⟨aof, capf, rfl⟩ := ownsRow_form hrf
  obtain ⟨aot, capt, rfl⟩ := ownsRow_form hrt
  obtain ⟨aor, capr, rfl⟩ := ownsRow_form hrr
  have HS : Hid (SheetAt w2 w1.heap.size _ _ _ pd ss) := ⟨hrf, hrt, hrr⟩
  have HB2 := hide ((unhide HB1).kept hb2)
  have Hb2 := hide hb2
  have hsz2 := hb2.size
  have Hss := hide hss
  have hpdl : pd.length ≤ maxLen := by
    rcases hrf.2 with ⟨_, h0⟩ | ⟨g, cap, cur, h1, h2, h3, h4, h5, _⟩
    · simp [h0]
    · omega
  have hrl : ss.length ≤ maxLen := by
    rcases hrr.2 with ⟨_, h0⟩ | ⟨g, cap, cur, h1, h2, h3, h4, h5, _⟩
    · simp [h0]
    · omega
  unfold maxLen at hpdl hrl
  clear hss hrf hrt hrr hb2 HB1
  have g0 := (unhide HB2).cell 0
  have g1 := (unhide HB2).cell 1
  have g2 := (unhide HB2).cell 2
  have z0 := (unhide HB2).frozen 0
  have z1 := (unhide HB2).frozen 1
  have z2 := (unhide HB2).frozen 2
  simp only [List.getElem?_toArray, List.getElem?_cons_zero, List.getElem?_cons_succ] at g0 g1 g2
  have hlt2 := (unhide HB2).lt
  have Hsl := hide hsl
  clear hsl
  have d200 : decide ((200 : Int) < (s.size : Int)) = false := by simp; omega
  have Hb : Hid (Below w.heap.size w w2) := (((Below.refl _ _).alloc (Nat.le_refl _) _).then' (by simp) (unhide Hb1)).then' (by omega) (unhide Hb2)
  have Hpl : Hid (pss.length = ss.length) := by show _ = _; rw [unhide Hsl, unhide Hlen]
  by_cases h4 : 4 < pd.length
  · have Ho : Hid (outc (pdv pd) pss = (3, 0)) := by show _ = _; unfold outc; rw [if_pos (.inl (by simpa [pdv] using h4))]
    have d4 : decide ((4 : Int) < (pd.length : Int)) = true := by simp; omega
    go_wp2_with fail
    refine bodyPost_ret (v := .tuple #[.agg #[.slice none 0 0, .slice none 0 0, .slice none 0 0], .int .i64 3, .int .i64 0]) (by simp [results, Tryz.results76, go_sem, g0, g1, g2, hlt2]) rfl ⟨_, _, _, _, _, _, _, _, _, 3, 0, rfl, unhide Ho, ?_, fun h => by omega⟩
    (repeat (first | refine Below.setCell ?_ (by simp) _ | refine Below.alloc ?_ (by first | omega | (simp [World.setCell]; omega)) _ | exact unhide Hb | refine Below.drewN ?_ _))
  have d4 : decide ((4 : Int) < (pd.length : Int)) = false := by simp; omega
  by_cases h8 : 8 < ss.length
  · have Ho : Hid (outc (pdv pd) pss = (3, 0)) := by show _ = _; unfold outc; rw [if_pos (.inr (by rw [unhide Hpl]; exact h8))]
    have d8 : decide ((8 : Int) < (ss.length : Int)) = true := by simp; omega
    go_wp2_with fail
    refine bodyPost_ret (v := .tuple #[.agg #[.slice none 0 0, .slice none 0 0, .slice none 0 0], .int .i64 3, .int .i64 0]) (by simp [results, Tryz.results76, go_sem, g0, g1, g2, hlt2]) rfl ⟨_, _, _, _, _, _, _, _, _, 3, 0, rfl, unhide Ho, ?_, fun h => by omega⟩
    (repeat (first | refine Below.setCell ?_ (by simp) _ | refine Below.alloc ?_ (by first | omega | (simp [World.setCell]; omega)) _ | exact unhide Hb | refine Below.drewN ?_ _))
  have d8 : decide ((8 : Int) < (ss.length : Int)) = false := by simp; omega
  have Hsm : Hid (¬ (4 < (pdv pd).length ∨ 8 < pss.length)) := by show ¬ _; rw [unhide Hpl]; simp [pdv]; omega
  go_wp2_with fail
  go_loopw [7] (fun i wr => ∃ k n : Nat, k ≤ pd.length ∧ i = .int .i64 k ∧ wr = (w2.alloc (.cells #[.slice aof pd.length capf, .slice aot pd.length capt, .slice aor ss.length capr] 129)).drewN n ∧
      Hid (badP k ((pdv pd).drop k) = badP 0 (pdv pd))) (fun i _ => pd.length - (intOf i).toNat)
  case atStart => exact ⟨0, 0, by omega, rfl, rfl, rfl⟩
  case round =>
    obtain ⟨k, n, hk, rfl, rfl, Hbp⟩ := hrel
    by_cases hlt : k < pd.length
    · obtain ⟨pk, hpk⟩ : ∃ pk, pd[k]? = some pk := ⟨pd[k], List.getElem?_eq_getElem hlt⟩
      have hpv : (pdv pd)[k]? = some (val pk.1, val pk.2) := by simp [pdv, hpk]
      have Hst := hide (badP_step hpv)
      obtain ⟨gf, _, e1, hgf, hgf'⟩ := ownsRow_some (unhide HS).rf (by omega)
      obtain ⟨gt, _, e2, hgt, hgt'⟩ := ownsRow_some (unhide HS).rt (by omega)
      simp only [Value.slice.injEq, true_and] at e1 e2
      obtain ⟨rfl, rfl⟩ := e1
      obtain ⟨rfl, rfl⟩ := e2
      have c1 := ownsRow_cell (unhide HS).rf (j := k) (u := .int .i64 (val pk.1)) (by simp [hpk])
      have c2 := ownsRow_cell (unhide HS).rt (j := k) (u := .int .i64 (val pk.2)) (by simp [hpk])
      obtain ⟨x1, hx1⟩ : ∃ x1, val pk.1 = x1 := ⟨_, rfl⟩
      obtain ⟨x2, hx2⟩ : ∃ x2, val pk.2 = x2 := ⟨_, rfl⟩
      rw [hx1] at c1
      rw [hx2] at c2
      have Hst' : Hid (badP k ((pdv pd).drop k) = if x2 < x1 then (k : Int) else badP ((k + 1 : Nat) : Int) ((pdv pd).drop (k + 1))) := by show _ = _; rw [unhide Hst, hx1, hx2]
      clear hpv hpk hx1 hx2 Hst
      by_cases hbad : x2 < x1
      · have Ho : Hid (outc (pdv pd) pss = (4, (k : Int))) := by
          show _ = _
          have : badP 0 (pdv pd) = k := by rw [← unhide Hbp, unhide Hst', if_pos hbad]
          unfold outc; rw [if_neg (unhide Hsm), this, if_pos (by omega)]
        go_wp2_with fail
        go_quiet (fail)
        go_wp2_with fail
        refine bodyPost_ret (v := .tuple #[.agg #[.slice none 0 0, .slice none 0 0, .slice none 0 0], .int .i64 4, .int .i64 k]) (by simp [results, Tryz.results76, go_sem, g0, g1, g2, hlt2]) rfl ⟨_, _, _, _, _, _, _, _, _, 4, k, rfl, unhide Ho, ?_, fun h => by omega⟩
        (repeat (first | refine Below.setCell ?_ (by simp) _ | refine Below.alloc ?_ (by first | omega | (simp [World.setCell]; omega)) _ | exact unhide Hb | refine Below.drewN ?_ _))
      · have Hst2 : Hid (badP k ((pdv pd).drop k) = badP ((k + 1 : Nat) : Int) ((pdv pd).drop (k + 1))) := by show _ = _; rw [unhide Hst', if_neg hbad]
        go_wp2_with fail
        go_quiet (fail)
        go_wp2_with fail
        go_roundw
        case rel => exact ⟨k + 1, _, by omega, by go_num, rfl, by show _ = _; rw [← unhide Hbp, unhide Hst2]⟩
        case measure => simp [intOf]; omega
    · obtain rfl : k = pd.length := by omega
      have Hp0 : Hid (badP 0 (pdv pd) < 0) := by
        show _ < _
        rw [← unhide Hbp, List.drop_eq_nil_of_le (by simp [pdv])]
        exact (by decide : (-1 : Int) < 0)
      clear Hbp hk hlt
      go_wp2_with fail
      go_loopw [8] (fun i wr => ∃ k m : Nat, k ≤ ss.length ∧ i = .int .i64 k ∧ wr = (w2.alloc (.cells #[.slice aof pd.length capf, .slice aot pd.length capt, .slice aor ss.length capr] 129)).drewN m ∧
          Hid (badN k (pss.drop k) = badN 0 pss)) (fun i _ => ss.length - (intOf i).toNat)
      case atStart => exact ⟨0, _, by omega, rfl, rfl, rfl⟩
      case round =>
        obtain ⟨k, m, hk, rfl, rfl, Hbn⟩ := hrel
        by_cases hlt : k < ss.length
        · obtain ⟨sk, hsk⟩ : ∃ sk, ss[k]? = some sk := ⟨ss[k], List.getElem?_eq_getElem hlt⟩
          obtain ⟨pk, hpk⟩ : ∃ pk, pss[k]? = some pk := ⟨pss[k]'(by rw [unhide Hpl]; exact hlt), List.getElem?_eq_getElem _⟩
          have hro := unhide Hrow k (L sk) pk (by rw [← unhide Hss]; simp [hsk]) hpk
          have hskz : sk.size ≤ 200 := by rw [← L_length]; exact hro.len
          have Hst := hide (badN_step hpk)
          obtain ⟨gr, _, e1, hgr, hgr'⟩ := ownsRow_some (unhide HS).rr (by omega)
          simp only [Value.slice.injEq, true_and] at e1
          obtain ⟨rfl, rfl⟩ := e1
          have c1 := ownsRow_cell (unhide HS).rr (j := k) (u := .string sk) (by simp [hsk])
          have Hro := hide hro
          clear hsk hpk hro
          go_wp2_with fail
          refine (reaches_any sk k _ hskz (unhide Hro).old).mono ?_
          rintro e w' ⟨rfl, rfl⟩
          rw [(unhide Hro).rch]
          cases hnb : nameB k pk with
          | true =>
            have Ho : Hid (outc (pdv pd) pss = (5, (k : Int))) := by
              show _ = _
              have : badN 0 pss = k := by rw [← unhide Hbn, unhide Hst, hnb]; rfl
              unfold outc; rw [if_neg (unhide Hsm), if_neg (by have := unhide Hp0; omega), this, if_pos (by omega)]
            clear hnb
            go_wp2_with fail
            refine bodyPost_ret (v := .tuple #[.agg #[.slice none 0 0, .slice none 0 0, .slice none 0 0], .int .i64 5, .int .i64 k]) (by simp [results, Tryz.results76, go_sem, g0, g1, g2, hlt2]) rfl ⟨_, _, _, _, _, _, _, _, _, 5, k, rfl, unhide Ho, ?_, fun h => by omega⟩
            (repeat (first | refine Below.setCell ?_ (by simp) _ | refine Below.alloc ?_ (by first | omega | (simp [World.setCell]; omega)) _ | exact unhide Hb | refine Below.drewN ?_ _))
          | false =>
            have Hst2 : Hid (badN k (pss.drop k) = badN ((k + 1 : Nat) : Int) (pss.drop (k + 1))) := by show _ = _; rw [unhide Hst, hnb]; rfl
            clear hnb
            go_wp2_with fail
            go_roundw
            case rel => exact ⟨k + 1, _, by omega, by go_num, rfl, by show _ = _; rw [← unhide Hbn, unhide Hst2]⟩
            case measure => simp [intOf]; omega
        · obtain rfl : k = ss.length := by omega
          have Hn0 : Hid (badN 0 pss < 0) := by
            show _ < _
            rw [← unhide Hbn, List.drop_eq_nil_of_le (by rw [unhide Hpl]; exact Nat.le_refl _)]
            exact (by decide : (-1 : Int) < 0)
          clear Hbn hk hlt
          go_wp2_with fail
          go_loopw [10, 11] (fun vk i wr => ∃ k : Nat, ∃ kinds : List Int, k ≤ ss.length ∧ i = .int .i64 k ∧ Hid (kinds.length = k) ∧ Hid (∀ x ∈ kinds, 0 ≤ x ∧ x ≤ 2) ∧ Hid (badK k kinds (pss.drop k) = badK 0 [] pss) ∧
              Hid (wr.ownsRow (w2.heap.size + 1) 3 1 vk k (kinds.map (.int .i64))) ∧ Hid (Below (w2.heap.size + 1) (w2.alloc (.cells #[.slice aof pd.length capf, .slice aot pd.length capt, .slice aor ss.length capr] 129)) wr)) (fun _ i _ => ss.length - (intOf i).toNat)
          case atStart => exact ⟨0, [], by omega, rfl, rfl, by simp [Hid], rfl, World.ownsRow_nil _ _ _ _, by exact (Below.refl _ _).drewN _⟩
          case round =>
            obtain ⟨k, kinds, hk, rfl, Hkl, Hkb, Hbk, Hkr, Hbel⟩ := hrel
            obtain ⟨aok, capk, hvk⟩ := ownsRow_form (unhide Hkr)
            subst hvk
            have HBs : Hid (Blk wr w2.heap.size #[.slice aof pd.length capf, .slice aot pd.length capt, .slice aor ss.length capr] 129) := (Blk.new _ _ _).below (unhide Hbel) (by omega)
            have HB0 : Hid (Blk wr w.heap.size #[.slice none 0 0, .slice none 0 0, .slice none 0 0] 129) := ((unhide HB2).alloc _).below (unhide Hbel) (by omega)
            have HSr : Hid (SheetAt wr w1.heap.size (.slice aof pd.length capf) (.slice aot pd.length capt) (.slice aor ss.length capr) pd ss) := ((unhide HS).alloc _).kept (by have := unhide Hbel; simpa using this)
            have s0 := (unhide HBs).cell 0
            have s1 := (unhide HBs).cell 1
            have s2 := (unhide HBs).cell 2
            have y0 := (unhide HB0).cell 0
            have y1 := (unhide HB0).cell 1
            have y2 := (unhide HB0).cell 2
            have u0 := (unhide HB0).frozen 0
            have u1 := (unhide HB0).frozen 1
            have u2 := (unhide HB0).frozen 2
            have hlw := (unhide HB0).lt
            simp only [List.getElem?_toArray, List.getElem?_cons_zero, List.getElem?_cons_succ] at s0 s1 s2 y0 y1 y2
            have hszr := (unhide Hbel).size
            simp at hszr
            have Hbw : Hid (Below w.heap.size w wr) := ((unhide Hb).alloc (by omega) _).trans ((unhide Hbel).mono (by omega))
            by_cases hlt : k < ss.length
            · obtain ⟨sk, hsk⟩ : ∃ sk, ss[k]? = some sk := ⟨ss[k], List.getElem?_eq_getElem hlt⟩
              obtain ⟨pk, hpk⟩ : ∃ pk, pss[k]? = some pk := ⟨pss[k]'(by rw [unhide Hpl]; exact hlt), List.getElem?_eq_getElem _⟩
              have hro := unhide Hrow k (L sk) pk (by rw [← unhide Hss]; simp [hsk]) hpk
              have hskz : sk.size ≤ 200 := by rw [← L_length]; exact hro.len
              have Hst := hide (badK_step kinds hpk)
              have hnm := badN_all pss 0 (by omega) (unhide Hn0) k pk hpk
              rw [Int.zero_add] at hnm
              have Hlt := hide (nameB_lt hnm hro.pos kinds.length (by rw [unhide Hkl]))
              obtain ⟨nf, hwf⟩ := hro.wf
              have Hwf := hide hwf
              obtain ⟨gr, _, e1, hgr, hgr'⟩ := ownsRow_some (unhide HSr).rr (by omega)
              simp only [Value.slice.injEq, true_and] at e1
              obtain ⟨rfl, rfl⟩ := e1
              have c1 := ownsRow_cell (unhide HSr).rr (j := k) (u := .string sk) (by simp [hsk])
              have Hkr' : Hid (wr.ownsRow (w2.heap.size + 1) 3 1 (.slice aok k capk) kinds.length (kinds.map (.int .i64))) := by show World.ownsRow _ _ _ _ _ _ _; rw [unhide Hkl]; exact unhide Hkr
              clear hsk hpk hro hnm hwf
              go_wp2_with fail
              refine (kind_any nf sk pk kinds _ (w2.heap.size + 1) _ hskz (unhide Hwf) (unhide Hlt) (unhide Hkb) (by exact unhide Hkr')).mono ?_
              rintro e w' ⟨kk, rfl, hkk, mm, rfl⟩
              have Hkk := hide (kindP_of hkk.2.2)
              have hkk0 := hkk.1
              have hkk2 := hkk.2.1
              clear hkk
              by_cases hz : (kk == 0) = true
              · have Ho : Hid (outc (pdv pd) pss = (6, (k : Int))) := by
                  show _ = _
                  have : badK 0 [] pss = k := by rw [← unhide Hbk, unhide Hst, unhide Hkk, hz]; rfl
                  unfold outc; rw [if_neg (unhide Hsm), if_neg (by have := unhide Hp0; omega), if_neg (by have := unhide Hn0; omega), this, if_pos (by omega)]
                go_wp2_with fail
                refine bodyPost_ret (v := .tuple #[.agg #[.slice none 0 0, .slice none 0 0, .slice none 0 0], .int .i64 6, .int .i64 k]) (by simp [results, Tryz.results76, go_sem, y0, y1, y2]) rfl ⟨_, _, _, _, _, _, _, _, _, 6, k, rfl, unhide Ho, ?_, fun h => by omega⟩
                (repeat (first | refine Below.setCell ?_ (by simp) _ | exact unhide Hbw | refine Below.drewN ?_ _))
              · have hz' : (kk == 0) = false := by simpa using hz
                have Hst2 : Hid (badK k kinds (pss.drop k) = badK ((k + 1 : Nat) : Int) (kinds ++ [kk]) (pss.drop (k + 1))) := by show _ = _; rw [unhide Hst, unhide Hkk, hz']; rfl
                clear hz
                go_wp2_with (first
                  | (at_builtin; refine wpList_append_own _ rfl _ _ 28 rfl (w2.heap.size + 1) 3 ii (.int .i64 0) 1 8 Tryz.underlying28 hi hz0 hz1 hz2 rfl (by decide) _ _ _ rfl (World.ownsRow.alloc (by exact unhide Hkr) _) ⟨wr.heap.size, 0, none⟩ 1 1 [.int .i64 kk] rfl rfl (cell_one_new' _ _ rfl _ _) (fun x hx => by simp at hx; subst hx; rfl) (by unfold maxLen; omega) (by omega) (by simp; omega) ?_; intro vk' w5 hown5 hgr5 _))
                have Hown5 := hide hown5
                have Hgr5 := hide hgr5
                clear hown5 hgr5
                go_wp2_with fail
                go_roundw
                case rel =>
                  refine ⟨k + 1, kinds ++ [kk], by omega, by go_num, ?_, ?_, ?_, ?_, ?_⟩
                  · show _ = _
                    simp [unhide Hkl]
                  · intro x hx
                    simp at hx
                    rcases hx with hx | rfl
                    · exact unhide Hkb x hx
                    · exact ⟨hkk0, hkk2⟩
                  · show _ = _
                    rw [← unhide Hbk, unhide Hst2]
                  · show World.ownsRow _ _ _ _ _ _ _
                    simpa using unhide Hown5
                  · exact (((unhide Hbel).drewN _).alloc (by simpa using hszr) _).grown (unhide Hgr5) (by simp; omega) (fun g hg => ((unhide Hkr).lt g hg).1)
                case measure => simp [intOf]; omega
            · obtain rfl : k = ss.length := by omega
              have Ho : Hid (outc (pdv pd) pss = (0, 0)) := by
                show _ = _
                have : badK 0 [] pss = -1 := by rw [← unhide Hbk, List.drop_eq_nil_of_le (by rw [unhide Hpl]; exact Nat.le_refl _)]; rfl
                unfold outc; rw [if_neg (unhide Hsm), if_neg (by have := unhide Hp0; omega), if_neg (by have := unhide Hn0; omega), this, if_neg (by omega)]
              go_wp2_with fail
              refine bodyPost_ret (v := .tuple #[.agg #[.slice aof pd.length capf, .slice aot pd.length capt, .slice aor ss.length capr], .int .i64 0, .int .i64 0]) (by simp [results, Tryz.results76, go_sem, y0, y1, y2]) rfl ⟨_, _, _, _, _, _, _, _, _, 0, 0, rfl, unhide Ho, ?_, fun _ => ⟨ss, unhide Hss, ?_⟩⟩
              · (repeat (first | refine Below.setCell ?_ (by simp) _ | exact unhide Hbw | refine Below.drewN ?_ _))
              · have hsr := unhide HSr
                refine ⟨?_, ?_, ?_⟩
                · exact ownsRow_base (ownsRow_setCell_below (ownsRow_setCell_below (ownsRow_setCell_below hsr.rf (by simp; omega) _) (by simp; omega) _) (by simp; omega) _) (fun g hg => by have := (hsr.rf.lt g hg).1; omega)
                · exact ownsRow_base (ownsRow_setCell_below (ownsRow_setCell_below (ownsRow_setCell_below hsr.rt (by simp; omega) _) (by simp; omega) _) (by simp; omega) _) (fun g hg => by have := (hsr.rt.lt g hg).1; omega)
                · exact ownsRow_base (ownsRow_setCell_below (ownsRow_setCell_below (ownsRow_setCell_below hsr.rr (by simp; omega) _) (by simp; omega) _) (by simp; omega) _) (fun g hg => by have := (hsr.rr.lt g hg).1; omega)

end Go.Proofs.YtdchbenfccofpaaGreatDoor
namespace Go.Proofs.YtdchbenfccofpaaGreatDoor
open Go.RowKit Db

def cellsC (l : List Cl) : List Value := l.flatMap fun c => [.int .i64 c.1, .int .u8 c.2]
theorem cellsC_snoc (l : List Cl) (c : Cl) : cellsC (l ++ [c]) = cellsC l ++ [.int .i64 c.1, .int .u8 c.2] := by simp [cellsC]
theorem cellsC_length (p : List Cl) : (cellsC p).length = p.length * 2 := by
  induction p with
  | nil => rfl
  | cons x t ih => show (_ :: _ :: cellsC t).length = _; simp [ih]; omega
/-- Rows of cells as they lie. -/
structure CellsAt (w : World) (B : Nat) (vc : Value) (vs : List Value) (cells : List (List Cl)) : Prop where
  own : w.ownsRow B 141 1 vc vs.length vs
  len : vs.length = cells.length
  row : ∀ (i : Nat) v c, vs[i]? = some v → cells[i]? = some c → w.ownsRow B 139 2 v c.length (cellsC c)
theorem CellsAt.kept {w w' : World} {B : Nat} {vc : Value} {vs : List Value} {cells : List (List Cl)} (h : CellsAt w B vc vs cells) (hb : Below w.heap.size w w') : CellsAt w' B vc vs cells :=
  ⟨ownsRow_below h.own hb, h.len, fun i v c h1 h2 => ownsRow_below (h.row i v c h1 h2) hb⟩
theorem CellsAt.nil (w : World) (B : Nat) : CellsAt w B (.slice none 0 0) [] [] := ⟨World.ownsRow_nil _ _ _ _, rfl, by intro i v c h; simp at h⟩
/-- The grid, as it lies at g: the book at pb, the sheet, the cells so far. -/
structure GridAt (w : World) (g : Nat) (s : Bk) (pd : List (List UInt8 × List UInt8)) (cells : List (List Cl)) (pb B : Nat) (vf vt vr vc : Value) (ss : List ByteArray) (vs : List Value) : Prop where
  blk : Blk w g #[.pointer (some ⟨pb, 0, none⟩), vf, vt, vr, vc] 136
  bk : ∃ B', Rfd w B' pb s
  sh : SheetAt w B vf vt vr pd ss
  cs : CellsAt w (g + 1) vc vs cells
  wid : ∀ row ∈ cells, row.length = pd.length
  few : pd.length ≤ 4 ∧ cells.length ≤ 8
  ok : ∀ row ∈ cells, ∀ c ∈ row, ClOk c
theorem Rfd.kept {w w' : World} {B p : Nat} {s : Bk} (h : Rfd w B p s) (hb : Below w.heap.size w w') : Rfd w' B p s := by
  obtain ⟨a, b, c, d, h⟩ := h
  exact ⟨a, b, c, d, h.kept hb⟩
theorem GridAt.kept {w w' : World} {g : Nat} {s : Bk} {pd : List (List UInt8 × List UInt8)} {cells : List (List Cl)} {pb B : Nat} {vf vt vr vc : Value} {ss : List ByteArray} {vs : List Value} (h : GridAt w g s pd cells pb B vf vt vr vc ss vs) (hb : Below w.heap.size w w') : GridAt w' g s pd cells pb B vf vt vr vc ss vs :=
  ⟨h.blk.kept hb, (let ⟨B', hr⟩ := h.bk; ⟨B', hr.kept hb⟩), h.sh.kept hb, h.cs.kept hb, h.wid, h.few, h.ok⟩
/-- What the document gives for an operand. -/
def gE (s : Bk) (pd : List (List UInt8 × List UInt8)) (cells : List (List Cl)) (k : Nat) : Pt → Cl := opE s (pdv pd) cells k

theorem five_cells {W : World} {n : Nat} {a b c d e : Value} {T : TypeId} (B : Blk W n #[a, b, c, d, e] T) : W.cell? ⟨n, 0, none⟩ = some a ∧ W.cell? ⟨n, 1, none⟩ = some b ∧ W.cell? ⟨n, 2, none⟩ = some c ∧ W.cell? ⟨n, 3, none⟩ = some d ∧ W.cell? ⟨n, 4, none⟩ = some e := by
  refine ⟨?_, ?_, ?_, ?_, ?_⟩ <;> rw [B.cell] <;> rfl
theorem row_get {w : World} {g : Nat} {s : Bk} {pd : List (List UInt8 × List UInt8)} {cells : List (List Cl)} {pb B : Nat} {vf vt vr vc : Value} {ss : List ByteArray} {vs : List Value} (h : GridAt w g s pd cells pb B vf vt vr vc ss vs) {n k : Nat} (hn : n < cells.length) (hk : k < pd.length) :
    ∃ gc capc a gr capr x y, vc = .slice (some ⟨gc, 0, none⟩) cells.length capc ∧ w.cell? ⟨gc, n, none⟩ = some (.slice (some ⟨gr, 0, none⟩) pd.length capr) ∧ a = gr ∧ w.cell? ⟨gr, k * 2, none⟩ = some (.int .i64 x) ∧ w.cell? ⟨gr, k * 2 + 1, none⟩ = some (.int .u8 y) ∧ (cells.getD n []).getD k (0, 0) = (x, y) ∧ gc < w.heap.size ∧ gr < w.heap.size := by
  obtain ⟨v, hv⟩ : ∃ v, vs[n]? = some v := ⟨vs[n]'(by rw [h.cs.len]; exact hn), List.getElem?_eq_getElem _⟩
  obtain ⟨c, hc⟩ : ∃ c, cells[n]? = some c := ⟨cells[n], List.getElem?_eq_getElem hn⟩
  have hr := h.cs.row n v c hv hc
  have hcl := h.wid c (List.mem_of_getElem? hc)
  obtain ⟨gc, capc, rfl, hg, hg'⟩ := ownsRow_some h.cs.own (by rw [h.cs.len]; omega)
  obtain ⟨gr, capr, rfl, hr1, hr2⟩ := ownsRow_some hr (by omega)
  obtain ⟨x, hx⟩ : ∃ x, c[k]? = some x := ⟨c[k]'(by omega), List.getElem?_eq_getElem _⟩
  have h2 := two_get (fun c : Cl => Value.int .i64 c.1) (fun c => Value.int .u8 c.2) c k x hx
  have d0 := ownsRow_cell h.cs.own (j := n) hv
  have d1 := ownsRow_cell hr (j := k * 2) h2.1
  have d2 := ownsRow_cell hr (j := k * 2 + 1) h2.2
  refine ⟨gc, capc, gr, gr, capr, x.1, x.2, by rw [h.cs.len], by rw [d0, hcl], rfl, d1, d2, ?_, hg', hr2⟩
  have e1 : cells.getD n [] = c := by rw [List.getD_eq_getElem?_getD, hc, Option.getD_some]
  rw [e1, List.getD_eq_getElem?_getD, hx, Option.getD_some]
end Go.Proofs.YtdchbenfccofpaaGreatDoor
