/- Own texts of the theorem in YtdchbenfccofpaaGreatDoorWAlY, part 09. -/
import Derived.Test.YtdchbenfccofpaaGreatDoorJ08
set_option maxHeartbeats 1000000
set_option linter.unusedVariables false
namespace Go.Proofs.YtdchbenfccofpaaGreatDoor
open Go.RowKit Db
theorem days_0dig (d o c : Int) (w : World) (hd0 : 0 ≤ d) (hd1 : d ≤ 18) (ho0 : 0 ≤ o) (ho1 : o ≤ 200) (hc : digB c = true) :
  Calls Tryz.prog 150 #[.agg #[.int .i64 0, .int .i64 d, .int .i64 o], .int .u8 c] w fun e w' => SpotR (daysS 0 d o c) e ∧ Below w.heap.size w w' := by
 have n32 := dig_ne hc 32 rfl
 have n45 := dig_ne hc 45 rfl
 have n44 := dig_ne hc 44 rfl
 have n124 := dig_ne hc 124 rfl
 have Hr : Hid (daysS 0 d o c = some (1, 1, o)) := by
  show _ = _
  unfold daysS
  simp +decide [*]
 go_enter Tryz.func150, Tryz.ntmps150
 go_wp2_with (first | (go_at_call 158; refine (dgt _ _).mono ?_; rintro e w' ⟨rfl, rfl⟩))
 refine bodyPost_ret (v := .tuple #[.agg #[.int .i64 (1), .int .i64 (1), .int .i64 (o)], .bool true]) (by simp [results, Tryz.results150, go_sem]) rfl ⟨⟨_, _, _, _, rfl, ?_⟩, ?_⟩
 ·rw [Hr.u]; rfl
 ·repeat (first | exact Below.refl _ _ | refine Below.alloc ?_ (by simp) _ | refine Below.setCell ?_ (by simp) _)
theorem days_0c32 (d o : Int) (w : World) (hd0 : 0 ≤ d) (hd1 : d ≤ 18) (ho0 : 0 ≤ o) (ho1 : o ≤ 200) :
  Calls Tryz.prog 150 #[.agg #[.int .i64 0, .int .i64 d, .int .i64 o], .int .u8 32] w fun e w' => SpotR (daysS 0 d o 32) e ∧ Below w.heap.size w w' := by
 have e : digB 32 = false := rfl
 have Hr : Hid (daysS 0 d o 32 = some (0, d, o)) := by
  show _ = _
  unfold daysS
  simp +decide [*]
 go_enter Tryz.func150, Tryz.ntmps150
 go_wp2_with (first | (go_at_call 158; refine (dgt _ _).mono ?_; rintro e w' ⟨rfl, rfl⟩))
 refine bodyPost_ret (v := .tuple #[.agg #[.int .i64 (0), .int .i64 (d), .int .i64 (o)], .bool true]) (by simp [results, Tryz.results150, go_sem]) rfl ⟨⟨_, _, _, _, rfl, ?_⟩, ?_⟩
 ·rw [Hr.u]; rfl
 ·repeat (first | exact Below.refl _ _ | refine Below.alloc ?_ (by simp) _ | refine Below.setCell ?_ (by simp) _)
theorem days_0c45 (d o : Int) (w : World) (hd0 : 0 ≤ d) (hd1 : d ≤ 18) (ho0 : 0 ≤ o) (ho1 : o ≤ 200) :
  Calls Tryz.prog 150 #[.agg #[.int .i64 0, .int .i64 d, .int .i64 o], .int .u8 45] w fun e w' => SpotR (daysS 0 d o 45) e ∧ Below w.heap.size w w' := by
 have e : digB 45 = false := rfl
 have Hr : Hid (daysS 0 d o 45 = none) := by
  show _ = _
  unfold daysS
  simp +decide [*]
 go_enter Tryz.func150, Tryz.ntmps150
 go_wp2_with (first | (go_at_call 158; refine (dgt _ _).mono ?_; rintro e w' ⟨rfl, rfl⟩))
 refine bodyPost_ret (v := .tuple #[.agg #[.int .i64 (0), .int .i64 (d), .int .i64 (o)], .bool false]) (by simp [results, Tryz.results150, go_sem]) rfl ⟨⟨_, _, _, _, rfl, ?_⟩, ?_⟩
 ·rw [Hr.u]; rfl
 ·repeat (first | exact Below.refl _ _ | refine Below.alloc ?_ (by simp) _ | refine Below.setCell ?_ (by simp) _)
theorem days_0c44 (d o : Int) (w : World) (hd0 : 0 ≤ d) (hd1 : d ≤ 18) (ho0 : 0 ≤ o) (ho1 : o ≤ 200) :
  Calls Tryz.prog 150 #[.agg #[.int .i64 0, .int .i64 d, .int .i64 o], .int .u8 44] w fun e w' => SpotR (daysS 0 d o 44) e ∧ Below w.heap.size w w' := by
 have e : digB 44 = false := rfl
 have Hr : Hid (daysS 0 d o 44 = none) := by
  show _ = _
  unfold daysS
  simp +decide [*]
 go_enter Tryz.func150, Tryz.ntmps150
 go_wp2_with (first | (go_at_call 158; refine (dgt _ _).mono ?_; rintro e w' ⟨rfl, rfl⟩))
 refine bodyPost_ret (v := .tuple #[.agg #[.int .i64 (0), .int .i64 (d), .int .i64 (o)], .bool false]) (by simp [results, Tryz.results150, go_sem]) rfl ⟨⟨_, _, _, _, rfl, ?_⟩, ?_⟩
 ·rw [Hr.u]; rfl
 ·repeat (first | exact Below.refl _ _ | refine Below.alloc ?_ (by simp) _ | refine Below.setCell ?_ (by simp) _)
theorem days_0c124 (d o : Int) (w : World) (hd0 : 0 ≤ d) (hd1 : d ≤ 18) (ho0 : 0 ≤ o) (ho1 : o ≤ 200) :
  Calls Tryz.prog 150 #[.agg #[.int .i64 0, .int .i64 d, .int .i64 o], .int .u8 124] w fun e w' => SpotR (daysS 0 d o 124) e ∧ Below w.heap.size w w' := by
 have e : digB 124 = false := rfl
 have Hr : Hid (daysS 0 d o 124 = none) := by
  show _ = _
  unfold daysS
  simp +decide [*]
 go_enter Tryz.func150, Tryz.ntmps150
 go_wp2_with (first | (go_at_call 158; refine (dgt _ _).mono ?_; rintro e w' ⟨rfl, rfl⟩))
 refine bodyPost_ret (v := .tuple #[.agg #[.int .i64 (0), .int .i64 (d), .int .i64 (o)], .bool false]) (by simp [results, Tryz.results150, go_sem]) rfl ⟨⟨_, _, _, _, rfl, ?_⟩, ?_⟩
 ·rw [Hr.u]; rfl
 ·repeat (first | exact Below.refl _ _ | refine Below.alloc ?_ (by simp) _ | refine Below.setCell ?_ (by simp) _)
theorem days_0oth (d o c : Int) (w : World) (hd0 : 0 ≤ d) (hd1 : d ≤ 18) (ho0 : 0 ≤ o) (ho1 : o ≤ 200) (h32 : (c == 32) = false) (h45 : (c == 45) = false) (h44 : (c == 44) = false) (h124 : (c == 124) = false) (hc : digB c = false) :
  Calls Tryz.prog 150 #[.agg #[.int .i64 0, .int .i64 d, .int .i64 o], .int .u8 c] w fun e w' => SpotR (daysS 0 d o c) e ∧ Below w.heap.size w w' := by
 have Hr : Hid (daysS 0 d o c = none) := by
  show _ = _
  unfold daysS
  simp +decide [*]
 go_enter Tryz.func150, Tryz.ntmps150
 go_wp2_with (first | (go_at_call 158; refine (dgt _ _).mono ?_; rintro e w' ⟨rfl, rfl⟩))
 refine bodyPost_ret (v := .tuple #[.agg #[.int .i64 (0), .int .i64 (d), .int .i64 (o)], .bool false]) (by simp [results, Tryz.results150, go_sem]) rfl ⟨⟨_, _, _, _, rfl, ?_⟩, ?_⟩
 ·rw [Hr.u]; rfl
 ·repeat (first | exact Below.refl _ _ | refine Below.alloc ?_ (by simp) _ | refine Below.setCell ?_ (by simp) _)
theorem days_1dig (d o c : Int) (w : World) (hd0 : 0 ≤ d) (hd1 : d ≤ 18) (ho0 : 0 ≤ o) (ho1 : o ≤ 200) (hc : digB c = true) (h3 : d < 3) :
  Calls Tryz.prog 150 #[.agg #[.int .i64 1, .int .i64 d, .int .i64 o], .int .u8 c] w fun e w' => SpotR (daysS 1 d o c) e ∧ Below w.heap.size w w' := by
 have n32 := dig_ne hc 32 rfl
 have n45 := dig_ne hc 45 rfl
 have n44 := dig_ne hc 44 rfl
 have n124 := dig_ne hc 124 rfl
 have Hr : Hid (daysS 1 d o c = some (1, d + 1, o)) := by
  show _ = _
  unfold daysS
  simp +decide [*]
 go_enter Tryz.func150, Tryz.ntmps150
 go_wp2_with (first | (go_at_call 158; refine (dgt _ _).mono ?_; rintro e w' ⟨rfl, rfl⟩))
 refine bodyPost_ret (v := .tuple #[.agg #[.int .i64 (1), .int .i64 (d + 1), .int .i64 (o)], .bool true]) (by simp [results, Tryz.results150, go_sem]) rfl ⟨⟨_, _, _, _, rfl, ?_⟩, ?_⟩
 ·rw [Hr.u]; rfl
 ·repeat (first | exact Below.refl _ _ | refine Below.alloc ?_ (by simp) _ | refine Below.setCell ?_ (by simp) _)
theorem days_1dig3 (d o c : Int) (w : World) (hd0 : 0 ≤ d) (hd1 : d ≤ 18) (ho0 : 0 ≤ o) (ho1 : o ≤ 200) (hc : digB c = true) (h3 : ¬ d < 3) :
  Calls Tryz.prog 150 #[.agg #[.int .i64 1, .int .i64 d, .int .i64 o], .int .u8 c] w fun e w' => SpotR (daysS 1 d o c) e ∧ Below w.heap.size w w' := by
 have n32 := dig_ne hc 32 rfl
 have n45 := dig_ne hc 45 rfl
 have n44 := dig_ne hc 44 rfl
 have n124 := dig_ne hc 124 rfl
 have Hr : Hid (daysS 1 d o c = none) := by
  show _ = _
  unfold daysS
  simp +decide [*]
 go_enter Tryz.func150, Tryz.ntmps150
 go_wp2_with (first | (go_at_call 158; refine (dgt _ _).mono ?_; rintro e w' ⟨rfl, rfl⟩))
 refine bodyPost_ret (v := .tuple #[.agg #[.int .i64 (1), .int .i64 (d), .int .i64 (o)], .bool false]) (by simp [results, Tryz.results150, go_sem]) rfl ⟨⟨_, _, _, _, rfl, ?_⟩, ?_⟩
 ·rw [Hr.u]; rfl
 ·repeat (first | exact Below.refl _ _ | refine Below.alloc ?_ (by simp) _ | refine Below.setCell ?_ (by simp) _)
theorem days_1c32 (d o : Int) (w : World) (hd0 : 0 ≤ d) (hd1 : d ≤ 18) (ho0 : 0 ≤ o) (ho1 : o ≤ 200) :
  Calls Tryz.prog 150 #[.agg #[.int .i64 1, .int .i64 d, .int .i64 o], .int .u8 32] w fun e w' => SpotR (daysS 1 d o 32) e ∧ Below w.heap.size w w' := by
 have e : digB 32 = false := rfl
 have Hr : Hid (daysS 1 d o 32 = some (2, d, o)) := by
  show _ = _
  unfold daysS
  simp +decide [*]
 go_enter Tryz.func150, Tryz.ntmps150
 go_wp2_with (first | (go_at_call 158; refine (dgt _ _).mono ?_; rintro e w' ⟨rfl, rfl⟩))
 refine bodyPost_ret (v := .tuple #[.agg #[.int .i64 (2), .int .i64 (d), .int .i64 (o)], .bool true]) (by simp [results, Tryz.results150, go_sem]) rfl ⟨⟨_, _, _, _, rfl, ?_⟩, ?_⟩
 ·rw [Hr.u]; rfl
 ·repeat (first | exact Below.refl _ _ | refine Below.alloc ?_ (by simp) _ | refine Below.setCell ?_ (by simp) _)
theorem days_1c45 (d o : Int) (w : World) (hd0 : 0 ≤ d) (hd1 : d ≤ 18) (ho0 : 0 ≤ o) (ho1 : o ≤ 200) :
  Calls Tryz.prog 150 #[.agg #[.int .i64 1, .int .i64 d, .int .i64 o], .int .u8 45] w fun e w' => SpotR (daysS 1 d o 45) e ∧ Below w.heap.size w w' := by
 have e : digB 45 = false := rfl
 have Hr : Hid (daysS 1 d o 45 = some (3, d, o)) := by
  show _ = _
  unfold daysS
  simp +decide [*]
 go_enter Tryz.func150, Tryz.ntmps150
 go_wp2_with (first | (go_at_call 158; refine (dgt _ _).mono ?_; rintro e w' ⟨rfl, rfl⟩))
 refine bodyPost_ret (v := .tuple #[.agg #[.int .i64 (3), .int .i64 (d), .int .i64 (o)], .bool true]) (by simp [results, Tryz.results150, go_sem]) rfl ⟨⟨_, _, _, _, rfl, ?_⟩, ?_⟩
 ·rw [Hr.u]; rfl
 ·repeat (first | exact Below.refl _ _ | refine Below.alloc ?_ (by simp) _ | refine Below.setCell ?_ (by simp) _)
theorem days_1c44 (d o : Int) (w : World) (hd0 : 0 ≤ d) (hd1 : d ≤ 18) (ho0 : 0 ≤ o) (ho1 : o ≤ 200) :
  Calls Tryz.prog 150 #[.agg #[.int .i64 1, .int .i64 d, .int .i64 o], .int .u8 44] w fun e w' => SpotR (daysS 1 d o 44) e ∧ Below w.heap.size w w' := by
 have e : digB 44 = false := rfl
 have Hr : Hid (daysS 1 d o 44 = none) := by
  show _ = _
  unfold daysS
  simp +decide [*]
 go_enter Tryz.func150, Tryz.ntmps150
 go_wp2_with (first | (go_at_call 158; refine (dgt _ _).mono ?_; rintro e w' ⟨rfl, rfl⟩))
 refine bodyPost_ret (v := .tuple #[.agg #[.int .i64 (1), .int .i64 (d), .int .i64 (o)], .bool false]) (by simp [results, Tryz.results150, go_sem]) rfl ⟨⟨_, _, _, _, rfl, ?_⟩, ?_⟩
 ·rw [Hr.u]; rfl
 ·repeat (first | exact Below.refl _ _ | refine Below.alloc ?_ (by simp) _ | refine Below.setCell ?_ (by simp) _)
theorem days_1c124 (d o : Int) (w : World) (hd0 : 0 ≤ d) (hd1 : d ≤ 18) (ho0 : 0 ≤ o) (ho1 : o ≤ 200) :
  Calls Tryz.prog 150 #[.agg #[.int .i64 1, .int .i64 d, .int .i64 o], .int .u8 124] w fun e w' => SpotR (daysS 1 d o 124) e ∧ Below w.heap.size w w' := by
 have e : digB 124 = false := rfl
 have Hr : Hid (daysS 1 d o 124 = none) := by
  show _ = _
  unfold daysS
  simp +decide [*]
 go_enter Tryz.func150, Tryz.ntmps150
 go_wp2_with (first | (go_at_call 158; refine (dgt _ _).mono ?_; rintro e w' ⟨rfl, rfl⟩))
 refine bodyPost_ret (v := .tuple #[.agg #[.int .i64 (1), .int .i64 (d), .int .i64 (o)], .bool false]) (by simp [results, Tryz.results150, go_sem]) rfl ⟨⟨_, _, _, _, rfl, ?_⟩, ?_⟩
 ·rw [Hr.u]; rfl
 ·repeat (first | exact Below.refl _ _ | refine Below.alloc ?_ (by simp) _ | refine Below.setCell ?_ (by simp) _)
theorem days_1oth (d o c : Int) (w : World) (hd0 : 0 ≤ d) (hd1 : d ≤ 18) (ho0 : 0 ≤ o) (ho1 : o ≤ 200) (h32 : (c == 32) = false) (h45 : (c == 45) = false) (h44 : (c == 44) = false) (h124 : (c == 124) = false) (hc : digB c = false) :
  Calls Tryz.prog 150 #[.agg #[.int .i64 1, .int .i64 d, .int .i64 o], .int .u8 c] w fun e w' => SpotR (daysS 1 d o c) e ∧ Below w.heap.size w w' := by
 have Hr : Hid (daysS 1 d o c = none) := by
  show _ = _
  unfold daysS
  simp +decide [*]
 go_enter Tryz.func150, Tryz.ntmps150
 go_wp2_with (first | (go_at_call 158; refine (dgt _ _).mono ?_; rintro e w' ⟨rfl, rfl⟩))
 refine bodyPost_ret (v := .tuple #[.agg #[.int .i64 (1), .int .i64 (d), .int .i64 (o)], .bool false]) (by simp [results, Tryz.results150, go_sem]) rfl ⟨⟨_, _, _, _, rfl, ?_⟩, ?_⟩
 ·rw [Hr.u]; rfl
 ·repeat (first | exact Below.refl _ _ | refine Below.alloc ?_ (by simp) _ | refine Below.setCell ?_ (by simp) _)
theorem days_2dig (d o c : Int) (w : World) (hd0 : 0 ≤ d) (hd1 : d ≤ 18) (ho0 : 0 ≤ o) (ho1 : o ≤ 200) (hc : digB c = true) :
  Calls Tryz.prog 150 #[.agg #[.int .i64 2, .int .i64 d, .int .i64 o], .int .u8 c] w fun e w' => SpotR (daysS 2 d o c) e ∧ Below w.heap.size w w' := by
 have n32 := dig_ne hc 32 rfl
 have n45 := dig_ne hc 45 rfl
 have n44 := dig_ne hc 44 rfl
 have n124 := dig_ne hc 124 rfl
 have Hr : Hid (daysS 2 d o c = none) := by
  show _ = _
  unfold daysS
  simp +decide [*]
 go_enter Tryz.func150, Tryz.ntmps150
 go_wp2_with (first | (go_at_call 158; refine (dgt _ _).mono ?_; rintro e w' ⟨rfl, rfl⟩))
 refine bodyPost_ret (v := .tuple #[.agg #[.int .i64 (2), .int .i64 (d), .int .i64 (o)], .bool false]) (by simp [results, Tryz.results150, go_sem]) rfl ⟨⟨_, _, _, _, rfl, ?_⟩, ?_⟩
 ·rw [Hr.u]; rfl
 ·repeat (first | exact Below.refl _ _ | refine Below.alloc ?_ (by simp) _ | refine Below.setCell ?_ (by simp) _)
theorem days_2c32 (d o : Int) (w : World) (hd0 : 0 ≤ d) (hd1 : d ≤ 18) (ho0 : 0 ≤ o) (ho1 : o ≤ 200) :
  Calls Tryz.prog 150 #[.agg #[.int .i64 2, .int .i64 d, .int .i64 o], .int .u8 32] w fun e w' => SpotR (daysS 2 d o 32) e ∧ Below w.heap.size w w' := by
 have e : digB 32 = false := rfl
 have Hr : Hid (daysS 2 d o 32 = some (2, d, o)) := by
  show _ = _
  unfold daysS
  simp +decide [*]
 go_enter Tryz.func150, Tryz.ntmps150
 go_wp2_with (first | (go_at_call 158; refine (dgt _ _).mono ?_; rintro e w' ⟨rfl, rfl⟩))
 refine bodyPost_ret (v := .tuple #[.agg #[.int .i64 (2), .int .i64 (d), .int .i64 (o)], .bool true]) (by simp [results, Tryz.results150, go_sem]) rfl ⟨⟨_, _, _, _, rfl, ?_⟩, ?_⟩
 ·rw [Hr.u]; rfl
 ·repeat (first | exact Below.refl _ _ | refine Below.alloc ?_ (by simp) _ | refine Below.setCell ?_ (by simp) _)
theorem days_2c45 (d o : Int) (w : World) (hd0 : 0 ≤ d) (hd1 : d ≤ 18) (ho0 : 0 ≤ o) (ho1 : o ≤ 200) :
  Calls Tryz.prog 150 #[.agg #[.int .i64 2, .int .i64 d, .int .i64 o], .int .u8 45] w fun e w' => SpotR (daysS 2 d o 45) e ∧ Below w.heap.size w w' := by
 have e : digB 45 = false := rfl
 have Hr : Hid (daysS 2 d o 45 = some (3, d, o)) := by
  show _ = _
  unfold daysS
  simp +decide [*]
 go_enter Tryz.func150, Tryz.ntmps150
 go_wp2_with (first | (go_at_call 158; refine (dgt _ _).mono ?_; rintro e w' ⟨rfl, rfl⟩))
 refine bodyPost_ret (v := .tuple #[.agg #[.int .i64 (3), .int .i64 (d), .int .i64 (o)], .bool true]) (by simp [results, Tryz.results150, go_sem]) rfl ⟨⟨_, _, _, _, rfl, ?_⟩, ?_⟩
 ·rw [Hr.u]; rfl
 ·repeat (first | exact Below.refl _ _ | refine Below.alloc ?_ (by simp) _ | refine Below.setCell ?_ (by simp) _)
theorem days_2c44 (d o : Int) (w : World) (hd0 : 0 ≤ d) (hd1 : d ≤ 18) (ho0 : 0 ≤ o) (ho1 : o ≤ 200) :
  Calls Tryz.prog 150 #[.agg #[.int .i64 2, .int .i64 d, .int .i64 o], .int .u8 44] w fun e w' => SpotR (daysS 2 d o 44) e ∧ Below w.heap.size w w' := by
 have e : digB 44 = false := rfl
 have Hr : Hid (daysS 2 d o 44 = none) := by
  show _ = _
  unfold daysS
  simp +decide [*]
 go_enter Tryz.func150, Tryz.ntmps150
 go_wp2_with (first | (go_at_call 158; refine (dgt _ _).mono ?_; rintro e w' ⟨rfl, rfl⟩))
 refine bodyPost_ret (v := .tuple #[.agg #[.int .i64 (2), .int .i64 (d), .int .i64 (o)], .bool false]) (by simp [results, Tryz.results150, go_sem]) rfl ⟨⟨_, _, _, _, rfl, ?_⟩, ?_⟩
 ·rw [Hr.u]; rfl
 ·repeat (first | exact Below.refl _ _ | refine Below.alloc ?_ (by simp) _ | refine Below.setCell ?_ (by simp) _)
theorem days_2c124 (d o : Int) (w : World) (hd0 : 0 ≤ d) (hd1 : d ≤ 18) (ho0 : 0 ≤ o) (ho1 : o ≤ 200) :
  Calls Tryz.prog 150 #[.agg #[.int .i64 2, .int .i64 d, .int .i64 o], .int .u8 124] w fun e w' => SpotR (daysS 2 d o 124) e ∧ Below w.heap.size w w' := by
 have e : digB 124 = false := rfl
 have Hr : Hid (daysS 2 d o 124 = none) := by
  show _ = _
  unfold daysS
  simp +decide [*]
 go_enter Tryz.func150, Tryz.ntmps150
 go_wp2_with (first | (go_at_call 158; refine (dgt _ _).mono ?_; rintro e w' ⟨rfl, rfl⟩))
 refine bodyPost_ret (v := .tuple #[.agg #[.int .i64 (2), .int .i64 (d), .int .i64 (o)], .bool false]) (by simp [results, Tryz.results150, go_sem]) rfl ⟨⟨_, _, _, _, rfl, ?_⟩, ?_⟩
 ·rw [Hr.u]; rfl
 ·repeat (first | exact Below.refl _ _ | refine Below.alloc ?_ (by simp) _ | refine Below.setCell ?_ (by simp) _)
theorem days_2oth (d o c : Int) (w : World) (hd0 : 0 ≤ d) (hd1 : d ≤ 18) (ho0 : 0 ≤ o) (ho1 : o ≤ 200) (h32 : (c == 32) = false) (h45 : (c == 45) = false) (h44 : (c == 44) = false) (h124 : (c == 124) = false) (hc : digB c = false) :
  Calls Tryz.prog 150 #[.agg #[.int .i64 2, .int .i64 d, .int .i64 o], .int .u8 c] w fun e w' => SpotR (daysS 2 d o c) e ∧ Below w.heap.size w w' := by
 have Hr : Hid (daysS 2 d o c = none) := by
  show _ = _
  unfold daysS
  simp +decide [*]
 go_enter Tryz.func150, Tryz.ntmps150
 go_wp2_with (first | (go_at_call 158; refine (dgt _ _).mono ?_; rintro e w' ⟨rfl, rfl⟩))
 refine bodyPost_ret (v := .tuple #[.agg #[.int .i64 (2), .int .i64 (d), .int .i64 (o)], .bool false]) (by simp [results, Tryz.results150, go_sem]) rfl ⟨⟨_, _, _, _, rfl, ?_⟩, ?_⟩
 ·rw [Hr.u]; rfl
 ·repeat (first | exact Below.refl _ _ | refine Below.alloc ?_ (by simp) _ | refine Below.setCell ?_ (by simp) _)
theorem days_3dig (d o c : Int) (w : World) (hd0 : 0 ≤ d) (hd1 : d ≤ 18) (ho0 : 0 ≤ o) (ho1 : o ≤ 200) (hc : digB c = true) :
  Calls Tryz.prog 150 #[.agg #[.int .i64 3, .int .i64 d, .int .i64 o], .int .u8 c] w fun e w' => SpotR (daysS 3 d o c) e ∧ Below w.heap.size w w' := by
 have n32 := dig_ne hc 32 rfl
 have n45 := dig_ne hc 45 rfl
 have n44 := dig_ne hc 44 rfl
 have n124 := dig_ne hc 124 rfl
 have Hr : Hid (daysS 3 d o c = some (4, 1, o)) := by
  show _ = _
  unfold daysS
  simp +decide [*]
 go_enter Tryz.func150, Tryz.ntmps150
 go_wp2_with (first | (go_at_call 158; refine (dgt _ _).mono ?_; rintro e w' ⟨rfl, rfl⟩))
 refine bodyPost_ret (v := .tuple #[.agg #[.int .i64 (4), .int .i64 (1), .int .i64 (o)], .bool true]) (by simp [results, Tryz.results150, go_sem]) rfl ⟨⟨_, _, _, _, rfl, ?_⟩, ?_⟩
 ·rw [Hr.u]; rfl
 ·repeat (first | exact Below.refl _ _ | refine Below.alloc ?_ (by simp) _ | refine Below.setCell ?_ (by simp) _)
theorem days_3c32 (d o : Int) (w : World) (hd0 : 0 ≤ d) (hd1 : d ≤ 18) (ho0 : 0 ≤ o) (ho1 : o ≤ 200) :
  Calls Tryz.prog 150 #[.agg #[.int .i64 3, .int .i64 d, .int .i64 o], .int .u8 32] w fun e w' => SpotR (daysS 3 d o 32) e ∧ Below w.heap.size w w' := by
 have e : digB 32 = false := rfl
 have Hr : Hid (daysS 3 d o 32 = some (3, d, o)) := by
  show _ = _
  unfold daysS
  simp +decide [*]
 go_enter Tryz.func150, Tryz.ntmps150
 go_wp2_with (first | (go_at_call 158; refine (dgt _ _).mono ?_; rintro e w' ⟨rfl, rfl⟩))
 refine bodyPost_ret (v := .tuple #[.agg #[.int .i64 (3), .int .i64 (d), .int .i64 (o)], .bool true]) (by simp [results, Tryz.results150, go_sem]) rfl ⟨⟨_, _, _, _, rfl, ?_⟩, ?_⟩
 ·rw [Hr.u]; rfl
 ·repeat (first | exact Below.refl _ _ | refine Below.alloc ?_ (by simp) _ | refine Below.setCell ?_ (by simp) _)
theorem days_3c45 (d o : Int) (w : World) (hd0 : 0 ≤ d) (hd1 : d ≤ 18) (ho0 : 0 ≤ o) (ho1 : o ≤ 200) :
  Calls Tryz.prog 150 #[.agg #[.int .i64 3, .int .i64 d, .int .i64 o], .int .u8 45] w fun e w' => SpotR (daysS 3 d o 45) e ∧ Below w.heap.size w w' := by
 have e : digB 45 = false := rfl
 have Hr : Hid (daysS 3 d o 45 = none) := by
  show _ = _
  unfold daysS
  simp +decide [*]
 go_enter Tryz.func150, Tryz.ntmps150
 go_wp2_with (first | (go_at_call 158; refine (dgt _ _).mono ?_; rintro e w' ⟨rfl, rfl⟩))
 refine bodyPost_ret (v := .tuple #[.agg #[.int .i64 (3), .int .i64 (d), .int .i64 (o)], .bool false]) (by simp [results, Tryz.results150, go_sem]) rfl ⟨⟨_, _, _, _, rfl, ?_⟩, ?_⟩
 ·rw [Hr.u]; rfl
 ·repeat (first | exact Below.refl _ _ | refine Below.alloc ?_ (by simp) _ | refine Below.setCell ?_ (by simp) _)
theorem days_3c44 (d o : Int) (w : World) (hd0 : 0 ≤ d) (hd1 : d ≤ 18) (ho0 : 0 ≤ o) (ho1 : o ≤ 200) :
  Calls Tryz.prog 150 #[.agg #[.int .i64 3, .int .i64 d, .int .i64 o], .int .u8 44] w fun e w' => SpotR (daysS 3 d o 44) e ∧ Below w.heap.size w w' := by
 have e : digB 44 = false := rfl
 have Hr : Hid (daysS 3 d o 44 = none) := by
  show _ = _
  unfold daysS
  simp +decide [*]
 go_enter Tryz.func150, Tryz.ntmps150
 go_wp2_with (first | (go_at_call 158; refine (dgt _ _).mono ?_; rintro e w' ⟨rfl, rfl⟩))
 refine bodyPost_ret (v := .tuple #[.agg #[.int .i64 (3), .int .i64 (d), .int .i64 (o)], .bool false]) (by simp [results, Tryz.results150, go_sem]) rfl ⟨⟨_, _, _, _, rfl, ?_⟩, ?_⟩
 ·rw [Hr.u]; rfl
 ·repeat (first | exact Below.refl _ _ | refine Below.alloc ?_ (by simp) _ | refine Below.setCell ?_ (by simp) _)
theorem days_3c124 (d o : Int) (w : World) (hd0 : 0 ≤ d) (hd1 : d ≤ 18) (ho0 : 0 ≤ o) (ho1 : o ≤ 200) :
  Calls Tryz.prog 150 #[.agg #[.int .i64 3, .int .i64 d, .int .i64 o], .int .u8 124] w fun e w' => SpotR (daysS 3 d o 124) e ∧ Below w.heap.size w w' := by
 have e : digB 124 = false := rfl
 have Hr : Hid (daysS 3 d o 124 = none) := by
  show _ = _
  unfold daysS
  simp +decide [*]
 go_enter Tryz.func150, Tryz.ntmps150
 go_wp2_with (first | (go_at_call 158; refine (dgt _ _).mono ?_; rintro e w' ⟨rfl, rfl⟩))
 refine bodyPost_ret (v := .tuple #[.agg #[.int .i64 (3), .int .i64 (d), .int .i64 (o)], .bool false]) (by simp [results, Tryz.results150, go_sem]) rfl ⟨⟨_, _, _, _, rfl, ?_⟩, ?_⟩
 ·rw [Hr.u]; rfl
 ·repeat (first | exact Below.refl _ _ | refine Below.alloc ?_ (by simp) _ | refine Below.setCell ?_ (by simp) _)
theorem days_3oth (d o c : Int) (w : World) (hd0 : 0 ≤ d) (hd1 : d ≤ 18) (ho0 : 0 ≤ o) (ho1 : o ≤ 200) (h32 : (c == 32) = false) (h45 : (c == 45) = false) (h44 : (c == 44) = false) (h124 : (c == 124) = false) (hc : digB c = false) :
  Calls Tryz.prog 150 #[.agg #[.int .i64 3, .int .i64 d, .int .i64 o], .int .u8 c] w fun e w' => SpotR (daysS 3 d o c) e ∧ Below w.heap.size w w' := by
 have Hr : Hid (daysS 3 d o c = none) := by
  show _ = _
  unfold daysS
  simp +decide [*]
 go_enter Tryz.func150, Tryz.ntmps150
 go_wp2_with (first | (go_at_call 158; refine (dgt _ _).mono ?_; rintro e w' ⟨rfl, rfl⟩))
 refine bodyPost_ret (v := .tuple #[.agg #[.int .i64 (3), .int .i64 (d), .int .i64 (o)], .bool false]) (by simp [results, Tryz.results150, go_sem]) rfl ⟨⟨_, _, _, _, rfl, ?_⟩, ?_⟩
 ·rw [Hr.u]; rfl
 ·repeat (first | exact Below.refl _ _ | refine Below.alloc ?_ (by simp) _ | refine Below.setCell ?_ (by simp) _)
theorem days_4dig (d o c : Int) (w : World) (hd0 : 0 ≤ d) (hd1 : d ≤ 18) (ho0 : 0 ≤ o) (ho1 : o ≤ 200) (hc : digB c = true) (h3 : d < 3) :
  Calls Tryz.prog 150 #[.agg #[.int .i64 4, .int .i64 d, .int .i64 o], .int .u8 c] w fun e w' => SpotR (daysS 4 d o c) e ∧ Below w.heap.size w w' := by
 have n32 := dig_ne hc 32 rfl
 have n45 := dig_ne hc 45 rfl
 have n44 := dig_ne hc 44 rfl
 have n124 := dig_ne hc 124 rfl
 have Hr : Hid (daysS 4 d o c = some (4, d + 1, o)) := by
  show _ = _
  unfold daysS
  simp +decide [*]
 go_enter Tryz.func150, Tryz.ntmps150
 go_wp2_with (first | (go_at_call 158; refine (dgt _ _).mono ?_; rintro e w' ⟨rfl, rfl⟩))
 refine bodyPost_ret (v := .tuple #[.agg #[.int .i64 (4), .int .i64 (d + 1), .int .i64 (o)], .bool true]) (by simp [results, Tryz.results150, go_sem]) rfl ⟨⟨_, _, _, _, rfl, ?_⟩, ?_⟩
 ·rw [Hr.u]; rfl
 ·repeat (first | exact Below.refl _ _ | refine Below.alloc ?_ (by simp) _ | refine Below.setCell ?_ (by simp) _)
theorem days_4dig3 (d o c : Int) (w : World) (hd0 : 0 ≤ d) (hd1 : d ≤ 18) (ho0 : 0 ≤ o) (ho1 : o ≤ 200) (hc : digB c = true) (h3 : ¬ d < 3) :
  Calls Tryz.prog 150 #[.agg #[.int .i64 4, .int .i64 d, .int .i64 o], .int .u8 c] w fun e w' => SpotR (daysS 4 d o c) e ∧ Below w.heap.size w w' := by
 have n32 := dig_ne hc 32 rfl
 have n45 := dig_ne hc 45 rfl
 have n44 := dig_ne hc 44 rfl
 have n124 := dig_ne hc 124 rfl
 have Hr : Hid (daysS 4 d o c = none) := by
  show _ = _
  unfold daysS
  simp +decide [*]
 go_enter Tryz.func150, Tryz.ntmps150
 go_wp2_with (first | (go_at_call 158; refine (dgt _ _).mono ?_; rintro e w' ⟨rfl, rfl⟩))
 refine bodyPost_ret (v := .tuple #[.agg #[.int .i64 (4), .int .i64 (d), .int .i64 (o)], .bool false]) (by simp [results, Tryz.results150, go_sem]) rfl ⟨⟨_, _, _, _, rfl, ?_⟩, ?_⟩
 ·rw [Hr.u]; rfl
 ·repeat (first | exact Below.refl _ _ | refine Below.alloc ?_ (by simp) _ | refine Below.setCell ?_ (by simp) _)
theorem days_4c32 (d o : Int) (w : World) (hd0 : 0 ≤ d) (hd1 : d ≤ 18) (ho0 : 0 ≤ o) (ho1 : o ≤ 200) :
  Calls Tryz.prog 150 #[.agg #[.int .i64 4, .int .i64 d, .int .i64 o], .int .u8 32] w fun e w' => SpotR (daysS 4 d o 32) e ∧ Below w.heap.size w w' := by
 have e : digB 32 = false := rfl
 have Hr : Hid (daysS 4 d o 32 = some (5, d, o)) := by
  show _ = _
  unfold daysS
  simp +decide [*]
 go_enter Tryz.func150, Tryz.ntmps150
 go_wp2_with (first | (go_at_call 158; refine (dgt _ _).mono ?_; rintro e w' ⟨rfl, rfl⟩))
 refine bodyPost_ret (v := .tuple #[.agg #[.int .i64 (5), .int .i64 (d), .int .i64 (o)], .bool true]) (by simp [results, Tryz.results150, go_sem]) rfl ⟨⟨_, _, _, _, rfl, ?_⟩, ?_⟩
 ·rw [Hr.u]; rfl
 ·repeat (first | exact Below.refl _ _ | refine Below.alloc ?_ (by simp) _ | refine Below.setCell ?_ (by simp) _)
theorem days_4c45 (d o : Int) (w : World) (hd0 : 0 ≤ d) (hd1 : d ≤ 18) (ho0 : 0 ≤ o) (ho1 : o ≤ 200) :
  Calls Tryz.prog 150 #[.agg #[.int .i64 4, .int .i64 d, .int .i64 o], .int .u8 45] w fun e w' => SpotR (daysS 4 d o 45) e ∧ Below w.heap.size w w' := by
 have e : digB 45 = false := rfl
 have Hr : Hid (daysS 4 d o 45 = none) := by
  show _ = _
  unfold daysS
  simp +decide [*]
 go_enter Tryz.func150, Tryz.ntmps150
 go_wp2_with (first | (go_at_call 158; refine (dgt _ _).mono ?_; rintro e w' ⟨rfl, rfl⟩))
 refine bodyPost_ret (v := .tuple #[.agg #[.int .i64 (4), .int .i64 (d), .int .i64 (o)], .bool false]) (by simp [results, Tryz.results150, go_sem]) rfl ⟨⟨_, _, _, _, rfl, ?_⟩, ?_⟩
 ·rw [Hr.u]; rfl
 ·repeat (first | exact Below.refl _ _ | refine Below.alloc ?_ (by simp) _ | refine Below.setCell ?_ (by simp) _)
theorem days_4c44 (d o : Int) (w : World) (hd0 : 0 ≤ d) (hd1 : d ≤ 18) (ho0 : 0 ≤ o) (ho1 : o ≤ 200) :
  Calls Tryz.prog 150 #[.agg #[.int .i64 4, .int .i64 d, .int .i64 o], .int .u8 44] w fun e w' => SpotR (daysS 4 d o 44) e ∧ Below w.heap.size w w' := by
 have e : digB 44 = false := rfl
 have Hr : Hid (daysS 4 d o 44 = some (0, d, o)) := by
  show _ = _
  unfold daysS
  simp +decide [*]
 go_enter Tryz.func150, Tryz.ntmps150
 go_wp2_with (first | (go_at_call 158; refine (dgt _ _).mono ?_; rintro e w' ⟨rfl, rfl⟩))
 refine bodyPost_ret (v := .tuple #[.agg #[.int .i64 (0), .int .i64 (d), .int .i64 (o)], .bool true]) (by simp [results, Tryz.results150, go_sem]) rfl ⟨⟨_, _, _, _, rfl, ?_⟩, ?_⟩
 ·rw [Hr.u]; rfl
 ·repeat (first | exact Below.refl _ _ | refine Below.alloc ?_ (by simp) _ | refine Below.setCell ?_ (by simp) _)
theorem days_4c124 (d o : Int) (w : World) (hd0 : 0 ≤ d) (hd1 : d ≤ 18) (ho0 : 0 ≤ o) (ho1 : o ≤ 200) :
  Calls Tryz.prog 150 #[.agg #[.int .i64 4, .int .i64 d, .int .i64 o], .int .u8 124] w fun e w' => SpotR (daysS 4 d o 124) e ∧ Below w.heap.size w w' := by
 have e : digB 124 = false := rfl
 have Hr : Hid (daysS 4 d o 124 = some (6, d, o)) := by
  show _ = _
  unfold daysS
  simp +decide [*]
 go_enter Tryz.func150, Tryz.ntmps150
 go_wp2_with (first | (go_at_call 158; refine (dgt _ _).mono ?_; rintro e w' ⟨rfl, rfl⟩))
 refine bodyPost_ret (v := .tuple #[.agg #[.int .i64 (6), .int .i64 (d), .int .i64 (o)], .bool true]) (by simp [results, Tryz.results150, go_sem]) rfl ⟨⟨_, _, _, _, rfl, ?_⟩, ?_⟩
 ·rw [Hr.u]; rfl
 ·repeat (first | exact Below.refl _ _ | refine Below.alloc ?_ (by simp) _ | refine Below.setCell ?_ (by simp) _)
theorem days_4oth (d o c : Int) (w : World) (hd0 : 0 ≤ d) (hd1 : d ≤ 18) (ho0 : 0 ≤ o) (ho1 : o ≤ 200) (h32 : (c == 32) = false) (h45 : (c == 45) = false) (h44 : (c == 44) = false) (h124 : (c == 124) = false) (hc : digB c = false) :
  Calls Tryz.prog 150 #[.agg #[.int .i64 4, .int .i64 d, .int .i64 o], .int .u8 c] w fun e w' => SpotR (daysS 4 d o c) e ∧ Below w.heap.size w w' := by
 have Hr : Hid (daysS 4 d o c = none) := by
  show _ = _
  unfold daysS
  simp +decide [*]
 go_enter Tryz.func150, Tryz.ntmps150
 go_wp2_with (first | (go_at_call 158; refine (dgt _ _).mono ?_; rintro e w' ⟨rfl, rfl⟩))
 refine bodyPost_ret (v := .tuple #[.agg #[.int .i64 (4), .int .i64 (d), .int .i64 (o)], .bool false]) (by simp [results, Tryz.results150, go_sem]) rfl ⟨⟨_, _, _, _, rfl, ?_⟩, ?_⟩
 ·rw [Hr.u]; rfl
 ·repeat (first | exact Below.refl _ _ | refine Below.alloc ?_ (by simp) _ | refine Below.setCell ?_ (by simp) _)
theorem days_5dig (d o c : Int) (w : World) (hd0 : 0 ≤ d) (hd1 : d ≤ 18) (ho0 : 0 ≤ o) (ho1 : o ≤ 200) (hc : digB c = true) :
  Calls Tryz.prog 150 #[.agg #[.int .i64 5, .int .i64 d, .int .i64 o], .int .u8 c] w fun e w' => SpotR (daysS 5 d o c) e ∧ Below w.heap.size w w' := by
 have n32 := dig_ne hc 32 rfl
 have n45 := dig_ne hc 45 rfl
 have n44 := dig_ne hc 44 rfl
 have n124 := dig_ne hc 124 rfl
 have Hr : Hid (daysS 5 d o c = none) := by
  show _ = _
  unfold daysS
  simp +decide [*]
 go_enter Tryz.func150, Tryz.ntmps150
 go_wp2_with (first | (go_at_call 158; refine (dgt _ _).mono ?_; rintro e w' ⟨rfl, rfl⟩))
 refine bodyPost_ret (v := .tuple #[.agg #[.int .i64 (5), .int .i64 (d), .int .i64 (o)], .bool false]) (by simp [results, Tryz.results150, go_sem]) rfl ⟨⟨_, _, _, _, rfl, ?_⟩, ?_⟩
 ·rw [Hr.u]; rfl
 ·repeat (first | exact Below.refl _ _ | refine Below.alloc ?_ (by simp) _ | refine Below.setCell ?_ (by simp) _)
theorem days_5c32 (d o : Int) (w : World) (hd0 : 0 ≤ d) (hd1 : d ≤ 18) (ho0 : 0 ≤ o) (ho1 : o ≤ 200) :
  Calls Tryz.prog 150 #[.agg #[.int .i64 5, .int .i64 d, .int .i64 o], .int .u8 32] w fun e w' => SpotR (daysS 5 d o 32) e ∧ Below w.heap.size w w' := by
 have e : digB 32 = false := rfl
 have Hr : Hid (daysS 5 d o 32 = some (5, d, o)) := by
  show _ = _
  unfold daysS
  simp +decide [*]
 go_enter Tryz.func150, Tryz.ntmps150
 go_wp2_with (first | (go_at_call 158; refine (dgt _ _).mono ?_; rintro e w' ⟨rfl, rfl⟩))
 refine bodyPost_ret (v := .tuple #[.agg #[.int .i64 (5), .int .i64 (d), .int .i64 (o)], .bool true]) (by simp [results, Tryz.results150, go_sem]) rfl ⟨⟨_, _, _, _, rfl, ?_⟩, ?_⟩
 ·rw [Hr.u]; rfl
 ·repeat (first | exact Below.refl _ _ | refine Below.alloc ?_ (by simp) _ | refine Below.setCell ?_ (by simp) _)
theorem days_5c45 (d o : Int) (w : World) (hd0 : 0 ≤ d) (hd1 : d ≤ 18) (ho0 : 0 ≤ o) (ho1 : o ≤ 200) :
  Calls Tryz.prog 150 #[.agg #[.int .i64 5, .int .i64 d, .int .i64 o], .int .u8 45] w fun e w' => SpotR (daysS 5 d o 45) e ∧ Below w.heap.size w w' := by
 have e : digB 45 = false := rfl
 have Hr : Hid (daysS 5 d o 45 = none) := by
  show _ = _
  unfold daysS
  simp +decide [*]
 go_enter Tryz.func150, Tryz.ntmps150
 go_wp2_with (first | (go_at_call 158; refine (dgt _ _).mono ?_; rintro e w' ⟨rfl, rfl⟩))
 refine bodyPost_ret (v := .tuple #[.agg #[.int .i64 (5), .int .i64 (d), .int .i64 (o)], .bool false]) (by simp [results, Tryz.results150, go_sem]) rfl ⟨⟨_, _, _, _, rfl, ?_⟩, ?_⟩
 ·rw [Hr.u]; rfl
 ·repeat (first | exact Below.refl _ _ | refine Below.alloc ?_ (by simp) _ | refine Below.setCell ?_ (by simp) _)
theorem days_5c44 (d o : Int) (w : World) (hd0 : 0 ≤ d) (hd1 : d ≤ 18) (ho0 : 0 ≤ o) (ho1 : o ≤ 200) :
  Calls Tryz.prog 150 #[.agg #[.int .i64 5, .int .i64 d, .int .i64 o], .int .u8 44] w fun e w' => SpotR (daysS 5 d o 44) e ∧ Below w.heap.size w w' := by
 have e : digB 44 = false := rfl
 have Hr : Hid (daysS 5 d o 44 = some (0, d, o)) := by
  show _ = _
  unfold daysS
  simp +decide [*]
 go_enter Tryz.func150, Tryz.ntmps150
 go_wp2_with (first | (go_at_call 158; refine (dgt _ _).mono ?_; rintro e w' ⟨rfl, rfl⟩))
 refine bodyPost_ret (v := .tuple #[.agg #[.int .i64 (0), .int .i64 (d), .int .i64 (o)], .bool true]) (by simp [results, Tryz.results150, go_sem]) rfl ⟨⟨_, _, _, _, rfl, ?_⟩, ?_⟩
 ·rw [Hr.u]; rfl
 ·repeat (first | exact Below.refl _ _ | refine Below.alloc ?_ (by simp) _ | refine Below.setCell ?_ (by simp) _)
theorem days_5c124 (d o : Int) (w : World) (hd0 : 0 ≤ d) (hd1 : d ≤ 18) (ho0 : 0 ≤ o) (ho1 : o ≤ 200) :
  Calls Tryz.prog 150 #[.agg #[.int .i64 5, .int .i64 d, .int .i64 o], .int .u8 124] w fun e w' => SpotR (daysS 5 d o 124) e ∧ Below w.heap.size w w' := by
 have e : digB 124 = false := rfl
 have Hr : Hid (daysS 5 d o 124 = some (6, d, o)) := by
  show _ = _
  unfold daysS
  simp +decide [*]
 go_enter Tryz.func150, Tryz.ntmps150
 go_wp2_with (first | (go_at_call 158; refine (dgt _ _).mono ?_; rintro e w' ⟨rfl, rfl⟩))
 refine bodyPost_ret (v := .tuple #[.agg #[.int .i64 (6), .int .i64 (d), .int .i64 (o)], .bool true]) (by simp [results, Tryz.results150, go_sem]) rfl ⟨⟨_, _, _, _, rfl, ?_⟩, ?_⟩
 ·rw [Hr.u]; rfl
 ·repeat (first | exact Below.refl _ _ | refine Below.alloc ?_ (by simp) _ | refine Below.setCell ?_ (by simp) _)
theorem days_5oth (d o c : Int) (w : World) (hd0 : 0 ≤ d) (hd1 : d ≤ 18) (ho0 : 0 ≤ o) (ho1 : o ≤ 200) (h32 : (c == 32) = false) (h45 : (c == 45) = false) (h44 : (c == 44) = false) (h124 : (c == 124) = false) (hc : digB c = false) :
  Calls Tryz.prog 150 #[.agg #[.int .i64 5, .int .i64 d, .int .i64 o], .int .u8 c] w fun e w' => SpotR (daysS 5 d o c) e ∧ Below w.heap.size w w' := by
 have Hr : Hid (daysS 5 d o c = none) := by
  show _ = _
  unfold daysS
  simp +decide [*]
 go_enter Tryz.func150, Tryz.ntmps150
 go_wp2_with (first | (go_at_call 158; refine (dgt _ _).mono ?_; rintro e w' ⟨rfl, rfl⟩))
 refine bodyPost_ret (v := .tuple #[.agg #[.int .i64 (5), .int .i64 (d), .int .i64 (o)], .bool false]) (by simp [results, Tryz.results150, go_sem]) rfl ⟨⟨_, _, _, _, rfl, ?_⟩, ?_⟩
 ·rw [Hr.u]; rfl
 ·repeat (first | exact Below.refl _ _ | refine Below.alloc ?_ (by simp) _ | refine Below.setCell ?_ (by simp) _)
theorem days_any (a d o c : Int) (w : World) (ha0 : 0 ≤ a) (ha : a < 6) (hd0 : 0 ≤ d) (hd1 : d ≤ 18) (ho0 : 0 ≤ o) (ho1 : o ≤ 200) :
  Calls Tryz.prog 150 #[.agg #[.int .i64 a, .int .i64 d, .int .i64 o], .int .u8 c] w fun e w' => SpotR (daysS a d o c) e ∧ Below w.heap.size w w' := by
 have hc : a = 0 ∨ a = 1 ∨ a = 2 ∨ a = 3 ∨ a = 4 ∨ a = 5 := by omega
 cases hdig : digB c with
 | true =>
  by_cases h3 : d < 3
  ·rcases hc with rfl | rfl | rfl | rfl | rfl | rfl
   ·exact days_0dig d o c w hd0 hd1 ho0 ho1 hdig
   ·exact days_1dig d o c w hd0 hd1 ho0 ho1 hdig h3
   ·exact days_2dig d o c w hd0 hd1 ho0 ho1 hdig
   ·exact days_3dig d o c w hd0 hd1 ho0 ho1 hdig
   ·exact days_4dig d o c w hd0 hd1 ho0 ho1 hdig h3
   ·exact days_5dig d o c w hd0 hd1 ho0 ho1 hdig
  ·rcases hc with rfl | rfl | rfl | rfl | rfl | rfl
   ·exact days_0dig d o c w hd0 hd1 ho0 ho1 hdig
   ·exact days_1dig3 d o c w hd0 hd1 ho0 ho1 hdig h3
   ·exact days_2dig d o c w hd0 hd1 ho0 ho1 hdig
   ·exact days_3dig d o c w hd0 hd1 ho0 ho1 hdig
   ·exact days_4dig3 d o c w hd0 hd1 ho0 ho1 hdig h3
   ·exact days_5dig d o c w hd0 hd1 ho0 ho1 hdig
 | false =>
  by_cases h32 : c = 32
  ·subst h32
   rcases hc with rfl | rfl | rfl | rfl | rfl | rfl
   ·exact days_0c32 d o w hd0 hd1 ho0 ho1
   ·exact days_1c32 d o w hd0 hd1 ho0 ho1
   ·exact days_2c32 d o w hd0 hd1 ho0 ho1
   ·exact days_3c32 d o w hd0 hd1 ho0 ho1
   ·exact days_4c32 d o w hd0 hd1 ho0 ho1
   ·exact days_5c32 d o w hd0 hd1 ho0 ho1
  by_cases h45 : c = 45
  ·subst h45
   rcases hc with rfl | rfl | rfl | rfl | rfl | rfl
   ·exact days_0c45 d o w hd0 hd1 ho0 ho1
   ·exact days_1c45 d o w hd0 hd1 ho0 ho1
   ·exact days_2c45 d o w hd0 hd1 ho0 ho1
   ·exact days_3c45 d o w hd0 hd1 ho0 ho1
   ·exact days_4c45 d o w hd0 hd1 ho0 ho1
   ·exact days_5c45 d o w hd0 hd1 ho0 ho1
  by_cases h44 : c = 44
  ·subst h44
   rcases hc with rfl | rfl | rfl | rfl | rfl | rfl
   ·exact days_0c44 d o w hd0 hd1 ho0 ho1
   ·exact days_1c44 d o w hd0 hd1 ho0 ho1
   ·exact days_2c44 d o w hd0 hd1 ho0 ho1
   ·exact days_3c44 d o w hd0 hd1 ho0 ho1
   ·exact days_4c44 d o w hd0 hd1 ho0 ho1
   ·exact days_5c44 d o w hd0 hd1 ho0 ho1
  by_cases h124 : c = 124
  ·subst h124
   rcases hc with rfl | rfl | rfl | rfl | rfl | rfl
   ·exact days_0c124 d o w hd0 hd1 ho0 ho1
   ·exact days_1c124 d o w hd0 hd1 ho0 ho1
   ·exact days_2c124 d o w hd0 hd1 ho0 ho1
   ·exact days_3c124 d o w hd0 hd1 ho0 ho1
   ·exact days_4c124 d o w hd0 hd1 ho0 ho1
   ·exact days_5c124 d o w hd0 hd1 ho0 ho1
  rcases hc with rfl | rfl | rfl | rfl | rfl | rfl
  ·exact days_0oth d o c w hd0 hd1 ho0 ho1 (beq_false_of h32) (beq_false_of h45) (beq_false_of h44) (beq_false_of h124) hdig
  ·exact days_1oth d o c w hd0 hd1 ho0 ho1 (beq_false_of h32) (beq_false_of h45) (beq_false_of h44) (beq_false_of h124) hdig
  ·exact days_2oth d o c w hd0 hd1 ho0 ho1 (beq_false_of h32) (beq_false_of h45) (beq_false_of h44) (beq_false_of h124) hdig
  ·exact days_3oth d o c w hd0 hd1 ho0 ho1 (beq_false_of h32) (beq_false_of h45) (beq_false_of h44) (beq_false_of h124) hdig
  ·exact days_4oth d o c w hd0 hd1 ho0 ho1 (beq_false_of h32) (beq_false_of h45) (beq_false_of h44) (beq_false_of h124) hdig
  ·exact days_5oth d o c w hd0 hd1 ho0 ho1 (beq_false_of h32) (beq_false_of h45) (beq_false_of h44) (beq_false_of h124) hdig
end Go.Proofs.YtdchbenfccofpaaGreatDoor
