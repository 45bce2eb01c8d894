/- Own texts of the theorem in YtdchbenfccofpaaGreatDoorWAlY, part 11. -/
import Derived.Test.YtdchbenfccofpaaGreatDoorJ08
set_option maxHeartbeats 1000000
set_option linter.unusedVariables false
namespace Go.Proofs.YtdchbenfccofpaaGreatDoor
open Go.RowKit Db
theorem onward_7dig (d o c : Int) (w : World) (hd0 : 0 ≤ d) (hd1 : d ≤ 18) (ho0 : 0 ≤ o) (ho1 : o ≤ 200) (hc : digB c = true) (h18 : d < 18) :
  Calls Tryz.prog 152 #[.agg #[.int .i64 7, .int .i64 d, .int .i64 o], .int .u8 c] w fun e w' => SpotR (onwS 7 d o c) e ∧ Below w.heap.size w w' := by
 have n32 := dig_ne hc 32 rfl
 have n59 := dig_ne hc 59 rfl
 have n41 := dig_ne hc 41 rfl
 have hp : opB c = false := by cases h : opB c with | false => rfl | true => rw [op_dig h] at hc; cases hc
 have Hr : Hid (onwS 7 d o c = some (7, d + 1, o)) := by
  show _ = _
  unfold onwS
  simp +decide [*]
 go_enter Tryz.func152, Tryz.ntmps152
 go_wp2_with (first | (go_at_call 158; refine (dgt _ _).mono ?_; rintro e w' ⟨rfl, rfl⟩) | (go_at_call 161; refine (opr _ _).mono ?_; rintro e w' ⟨rfl, rfl⟩))
 refine bodyPost_ret (v := .tuple #[.agg #[.int .i64 (7), .int .i64 (d + 1), .int .i64 (o)], .bool true]) (by simp [results, Tryz.results152, go_sem]) rfl ⟨⟨_, _, _, _, rfl, ?_⟩, ?_⟩
 ·rw [Hr.u]; rfl
 ·repeat (first | exact Below.refl _ _ | refine Below.alloc ?_ (by simp) _ | refine Below.setCell ?_ (by simp) _)
theorem onward_7dig18 (d o c : Int) (w : World) (hd0 : 0 ≤ d) (hd1 : d ≤ 18) (ho0 : 0 ≤ o) (ho1 : o ≤ 200) (hc : digB c = true) (h18 : ¬ d < 18) :
  Calls Tryz.prog 152 #[.agg #[.int .i64 7, .int .i64 d, .int .i64 o], .int .u8 c] w fun e w' => SpotR (onwS 7 d o c) e ∧ Below w.heap.size w w' := by
 have n32 := dig_ne hc 32 rfl
 have n59 := dig_ne hc 59 rfl
 have n41 := dig_ne hc 41 rfl
 have hp : opB c = false := by cases h : opB c with | false => rfl | true => rw [op_dig h] at hc; cases hc
 have Hr : Hid (onwS 7 d o c = none) := by
  show _ = _
  unfold onwS
  simp +decide [*]
 go_enter Tryz.func152, Tryz.ntmps152
 go_wp2_with (first | (go_at_call 158; refine (dgt _ _).mono ?_; rintro e w' ⟨rfl, rfl⟩) | (go_at_call 161; refine (opr _ _).mono ?_; rintro e w' ⟨rfl, rfl⟩))
 refine bodyPost_ret (v := .tuple #[.agg #[.int .i64 (7), .int .i64 (d), .int .i64 (o)], .bool false]) (by simp [results, Tryz.results152, go_sem]) rfl ⟨⟨_, _, _, _, rfl, ?_⟩, ?_⟩
 ·rw [Hr.u]; rfl
 ·repeat (first | exact Below.refl _ _ | refine Below.alloc ?_ (by simp) _ | refine Below.setCell ?_ (by simp) _)
theorem onward_7c32 (d o : Int) (w : World) (hd0 : 0 ≤ d) (hd1 : d ≤ 18) (ho0 : 0 ≤ o) (ho1 : o ≤ 200) :
  Calls Tryz.prog 152 #[.agg #[.int .i64 7, .int .i64 d, .int .i64 o], .int .u8 32] w fun e w' => SpotR (onwS 7 d o 32) e ∧ Below w.heap.size w w' := by
 have edig : digB 32 = false := rfl
 have eop : opB 32 = false := rfl
 have Hr : Hid (onwS 7 d o 32 = some (11, d, o)) := by
  show _ = _
  unfold onwS
  simp +decide [*]
 go_enter Tryz.func152, Tryz.ntmps152
 go_wp2_with (first | (go_at_call 158; refine (dgt _ _).mono ?_; rintro e w' ⟨rfl, rfl⟩) | (go_at_call 161; refine (opr _ _).mono ?_; rintro e w' ⟨rfl, rfl⟩))
 refine bodyPost_ret (v := .tuple #[.agg #[.int .i64 (11), .int .i64 (d), .int .i64 (o)], .bool true]) (by simp [results, Tryz.results152, go_sem]) rfl ⟨⟨_, _, _, _, rfl, ?_⟩, ?_⟩
 ·rw [Hr.u]; rfl
 ·repeat (first | exact Below.refl _ _ | refine Below.alloc ?_ (by simp) _ | refine Below.setCell ?_ (by simp) _)
theorem onward_7op (d o c : Int) (w : World) (hd0 : 0 ≤ d) (hd1 : d ≤ 18) (ho0 : 0 ≤ o) (ho1 : o ≤ 200) (hc : opB c = true) :
  Calls Tryz.prog 152 #[.agg #[.int .i64 7, .int .i64 d, .int .i64 o], .int .u8 c] w fun e w' => SpotR (onwS 7 d o c) e ∧ Below w.heap.size w w' := by
 have n32 := op_ne hc 32 rfl
 have n59 := op_ne hc 59 rfl
 have n41 := op_ne hc 41 rfl
 have hd := op_dig hc
 have Hr : Hid (onwS 7 d o c = some (6, d, o)) := by
  show _ = _
  unfold onwS
  simp +decide [*]
 go_enter Tryz.func152, Tryz.ntmps152
 go_wp2_with (first | (go_at_call 158; refine (dgt _ _).mono ?_; rintro e w' ⟨rfl, rfl⟩) | (go_at_call 161; refine (opr _ _).mono ?_; rintro e w' ⟨rfl, rfl⟩))
 refine bodyPost_ret (v := .tuple #[.agg #[.int .i64 (6), .int .i64 (d), .int .i64 (o)], .bool true]) (by simp [results, Tryz.results152, go_sem]) rfl ⟨⟨_, _, _, _, rfl, ?_⟩, ?_⟩
 ·rw [Hr.u]; rfl
 ·repeat (first | exact Below.refl _ _ | refine Below.alloc ?_ (by simp) _ | refine Below.setCell ?_ (by simp) _)
theorem onward_7c59z (d o : Int) (w : World) (hd0 : 0 ≤ d) (hd1 : d ≤ 18) (ho0 : 0 ≤ o) (ho1 : o ≤ 200) (hz : (o == 0) = true) :
  Calls Tryz.prog 152 #[.agg #[.int .i64 7, .int .i64 d, .int .i64 o], .int .u8 59] w fun e w' => SpotR (onwS 7 d o 59) e ∧ Below w.heap.size w w' := by
 have edig : digB 59 = false := rfl
 have eop : opB 59 = false := rfl
 have Hr : Hid (onwS 7 d o 59 = some (6, d, o)) := by
  show _ = _
  unfold onwS
  simp +decide [*]
 go_enter Tryz.func152, Tryz.ntmps152
 go_wp2_with (first | (go_at_call 158; refine (dgt _ _).mono ?_; rintro e w' ⟨rfl, rfl⟩) | (go_at_call 161; refine (opr _ _).mono ?_; rintro e w' ⟨rfl, rfl⟩))
 refine bodyPost_ret (v := .tuple #[.agg #[.int .i64 (6), .int .i64 (d), .int .i64 (o)], .bool true]) (by simp [results, Tryz.results152, go_sem]) rfl ⟨⟨_, _, _, _, rfl, ?_⟩, ?_⟩
 ·rw [Hr.u]; rfl
 ·repeat (first | exact Below.refl _ _ | refine Below.alloc ?_ (by simp) _ | refine Below.setCell ?_ (by simp) _)
theorem onward_7c59n (d o : Int) (w : World) (hd0 : 0 ≤ d) (hd1 : d ≤ 18) (ho0 : 0 ≤ o) (ho1 : o ≤ 200) (hz : (o == 0) = false) :
  Calls Tryz.prog 152 #[.agg #[.int .i64 7, .int .i64 d, .int .i64 o], .int .u8 59] w fun e w' => SpotR (onwS 7 d o 59) e ∧ Below w.heap.size w w' := by
 have edig : digB 59 = false := rfl
 have eop : opB 59 = false := rfl
 have Hr : Hid (onwS 7 d o 59 = none) := by
  show _ = _
  unfold onwS
  simp +decide [*]
 go_enter Tryz.func152, Tryz.ntmps152
 go_wp2_with (first | (go_at_call 158; refine (dgt _ _).mono ?_; rintro e w' ⟨rfl, rfl⟩) | (go_at_call 161; refine (opr _ _).mono ?_; rintro e w' ⟨rfl, rfl⟩))
 refine bodyPost_ret (v := .tuple #[.agg #[.int .i64 (7), .int .i64 (d), .int .i64 (o)], .bool false]) (by simp [results, Tryz.results152, go_sem]) rfl ⟨⟨_, _, _, _, rfl, ?_⟩, ?_⟩
 ·rw [Hr.u]; rfl
 ·repeat (first | exact Below.refl _ _ | refine Below.alloc ?_ (by simp) _ | refine Below.setCell ?_ (by simp) _)
theorem onward_7c41p (d o : Int) (w : World) (hd0 : 0 ≤ d) (hd1 : d ≤ 18) (ho0 : 0 ≤ o) (ho1 : o ≤ 200) (hz : 0 < o) :
  Calls Tryz.prog 152 #[.agg #[.int .i64 7, .int .i64 d, .int .i64 o], .int .u8 41] w fun e w' => SpotR (onwS 7 d o 41) e ∧ Below w.heap.size w w' := by
 have edig : digB 41 = false := rfl
 have eop : opB 41 = false := rfl
 have Hr : Hid (onwS 7 d o 41 = some (11, d, o - 1)) := by
  show _ = _
  unfold onwS
  simp +decide [*]
 go_enter Tryz.func152, Tryz.ntmps152
 go_wp2_with (first | (go_at_call 158; refine (dgt _ _).mono ?_; rintro e w' ⟨rfl, rfl⟩) | (go_at_call 161; refine (opr _ _).mono ?_; rintro e w' ⟨rfl, rfl⟩))
 refine bodyPost_ret (v := .tuple #[.agg #[.int .i64 (11), .int .i64 (d), .int .i64 (o - 1)], .bool true]) (by simp [results, Tryz.results152, go_sem]) rfl ⟨⟨_, _, _, _, rfl, ?_⟩, ?_⟩
 ·rw [Hr.u]; rfl
 ·repeat (first | exact Below.refl _ _ | refine Below.alloc ?_ (by simp) _ | refine Below.setCell ?_ (by simp) _)
theorem onward_7c41n (d o : Int) (w : World) (hd0 : 0 ≤ d) (hd1 : d ≤ 18) (ho0 : 0 ≤ o) (ho1 : o ≤ 200) (hz : ¬ 0 < o) :
  Calls Tryz.prog 152 #[.agg #[.int .i64 7, .int .i64 d, .int .i64 o], .int .u8 41] w fun e w' => SpotR (onwS 7 d o 41) e ∧ Below w.heap.size w w' := by
 have edig : digB 41 = false := rfl
 have eop : opB 41 = false := rfl
 have Hr : Hid (onwS 7 d o 41 = none) := by
  show _ = _
  unfold onwS
  simp +decide [*]
 go_enter Tryz.func152, Tryz.ntmps152
 go_wp2_with (first | (go_at_call 158; refine (dgt _ _).mono ?_; rintro e w' ⟨rfl, rfl⟩) | (go_at_call 161; refine (opr _ _).mono ?_; rintro e w' ⟨rfl, rfl⟩))
 refine bodyPost_ret (v := .tuple #[.agg #[.int .i64 (7), .int .i64 (d), .int .i64 (o)], .bool false]) (by simp [results, Tryz.results152, go_sem]) rfl ⟨⟨_, _, _, _, rfl, ?_⟩, ?_⟩
 ·rw [Hr.u]; rfl
 ·repeat (first | exact Below.refl _ _ | refine Below.alloc ?_ (by simp) _ | refine Below.setCell ?_ (by simp) _)
theorem onward_7oth (d o c : Int) (w : World) (hd0 : 0 ≤ d) (hd1 : d ≤ 18) (ho0 : 0 ≤ o) (ho1 : o ≤ 200) (h32 : (c == 32) = false) (h59 : (c == 59) = false) (h41 : (c == 41) = false) (hd : digB c = false) (hp : opB c = false) :
  Calls Tryz.prog 152 #[.agg #[.int .i64 7, .int .i64 d, .int .i64 o], .int .u8 c] w fun e w' => SpotR (onwS 7 d o c) e ∧ Below w.heap.size w w' := by
 have Hr : Hid (onwS 7 d o c = none) := by
  show _ = _
  unfold onwS
  simp +decide [*]
 go_enter Tryz.func152, Tryz.ntmps152
 go_wp2_with (first | (go_at_call 158; refine (dgt _ _).mono ?_; rintro e w' ⟨rfl, rfl⟩) | (go_at_call 161; refine (opr _ _).mono ?_; rintro e w' ⟨rfl, rfl⟩))
 refine bodyPost_ret (v := .tuple #[.agg #[.int .i64 (7), .int .i64 (d), .int .i64 (o)], .bool false]) (by simp [results, Tryz.results152, go_sem]) rfl ⟨⟨_, _, _, _, rfl, ?_⟩, ?_⟩
 ·rw [Hr.u]; rfl
 ·repeat (first | exact Below.refl _ _ | refine Below.alloc ?_ (by simp) _ | refine Below.setCell ?_ (by simp) _)
theorem onward_10dig (d o c : Int) (w : World) (hd0 : 0 ≤ d) (hd1 : d ≤ 18) (ho0 : 0 ≤ o) (ho1 : o ≤ 200) (hc : digB c = true) :
  Calls Tryz.prog 152 #[.agg #[.int .i64 10, .int .i64 d, .int .i64 o], .int .u8 c] w fun e w' => SpotR (onwS 10 d o c) e ∧ Below w.heap.size w w' := by
 have n32 := dig_ne hc 32 rfl
 have n59 := dig_ne hc 59 rfl
 have n41 := dig_ne hc 41 rfl
 have hp : opB c = false := by cases h : opB c with | false => rfl | true => rw [op_dig h] at hc; cases hc
 have Hr : Hid (onwS 10 d o c = some (11, d, o)) := by
  show _ = _
  unfold onwS
  simp +decide [*]
 go_enter Tryz.func152, Tryz.ntmps152
 go_wp2_with (first | (go_at_call 158; refine (dgt _ _).mono ?_; rintro e w' ⟨rfl, rfl⟩) | (go_at_call 161; refine (opr _ _).mono ?_; rintro e w' ⟨rfl, rfl⟩))
 refine bodyPost_ret (v := .tuple #[.agg #[.int .i64 (11), .int .i64 (d), .int .i64 (o)], .bool true]) (by simp [results, Tryz.results152, go_sem]) rfl ⟨⟨_, _, _, _, rfl, ?_⟩, ?_⟩
 ·rw [Hr.u]; rfl
 ·repeat (first | exact Below.refl _ _ | refine Below.alloc ?_ (by simp) _ | refine Below.setCell ?_ (by simp) _)
theorem onward_10c32 (d o : Int) (w : World) (hd0 : 0 ≤ d) (hd1 : d ≤ 18) (ho0 : 0 ≤ o) (ho1 : o ≤ 200) :
  Calls Tryz.prog 152 #[.agg #[.int .i64 10, .int .i64 d, .int .i64 o], .int .u8 32] w fun e w' => SpotR (onwS 10 d o 32) e ∧ Below w.heap.size w w' := by
 have edig : digB 32 = false := rfl
 have eop : opB 32 = false := rfl
 have Hr : Hid (onwS 10 d o 32 = some (11, d, o)) := by
  show _ = _
  unfold onwS
  simp +decide [*]
 go_enter Tryz.func152, Tryz.ntmps152
 go_wp2_with (first | (go_at_call 158; refine (dgt _ _).mono ?_; rintro e w' ⟨rfl, rfl⟩) | (go_at_call 161; refine (opr _ _).mono ?_; rintro e w' ⟨rfl, rfl⟩))
 refine bodyPost_ret (v := .tuple #[.agg #[.int .i64 (11), .int .i64 (d), .int .i64 (o)], .bool true]) (by simp [results, Tryz.results152, go_sem]) rfl ⟨⟨_, _, _, _, rfl, ?_⟩, ?_⟩
 ·rw [Hr.u]; rfl
 ·repeat (first | exact Below.refl _ _ | refine Below.alloc ?_ (by simp) _ | refine Below.setCell ?_ (by simp) _)
theorem onward_10op (d o c : Int) (w : World) (hd0 : 0 ≤ d) (hd1 : d ≤ 18) (ho0 : 0 ≤ o) (ho1 : o ≤ 200) (hc : opB c = true) :
  Calls Tryz.prog 152 #[.agg #[.int .i64 10, .int .i64 d, .int .i64 o], .int .u8 c] w fun e w' => SpotR (onwS 10 d o c) e ∧ Below w.heap.size w w' := by
 have n32 := op_ne hc 32 rfl
 have n59 := op_ne hc 59 rfl
 have n41 := op_ne hc 41 rfl
 have hd := op_dig hc
 have Hr : Hid (onwS 10 d o c = some (6, d, o)) := by
  show _ = _
  unfold onwS
  simp +decide [*]
 go_enter Tryz.func152, Tryz.ntmps152
 go_wp2_with (first | (go_at_call 158; refine (dgt _ _).mono ?_; rintro e w' ⟨rfl, rfl⟩) | (go_at_call 161; refine (opr _ _).mono ?_; rintro e w' ⟨rfl, rfl⟩))
 refine bodyPost_ret (v := .tuple #[.agg #[.int .i64 (6), .int .i64 (d), .int .i64 (o)], .bool true]) (by simp [results, Tryz.results152, go_sem]) rfl ⟨⟨_, _, _, _, rfl, ?_⟩, ?_⟩
 ·rw [Hr.u]; rfl
 ·repeat (first | exact Below.refl _ _ | refine Below.alloc ?_ (by simp) _ | refine Below.setCell ?_ (by simp) _)
theorem onward_10c59z (d o : Int) (w : World) (hd0 : 0 ≤ d) (hd1 : d ≤ 18) (ho0 : 0 ≤ o) (ho1 : o ≤ 200) (hz : (o == 0) = true) :
  Calls Tryz.prog 152 #[.agg #[.int .i64 10, .int .i64 d, .int .i64 o], .int .u8 59] w fun e w' => SpotR (onwS 10 d o 59) e ∧ Below w.heap.size w w' := by
 have edig : digB 59 = false := rfl
 have eop : opB 59 = false := rfl
 have Hr : Hid (onwS 10 d o 59 = some (6, d, o)) := by
  show _ = _
  unfold onwS
  simp +decide [*]
 go_enter Tryz.func152, Tryz.ntmps152
 go_wp2_with (first | (go_at_call 158; refine (dgt _ _).mono ?_; rintro e w' ⟨rfl, rfl⟩) | (go_at_call 161; refine (opr _ _).mono ?_; rintro e w' ⟨rfl, rfl⟩))
 refine bodyPost_ret (v := .tuple #[.agg #[.int .i64 (6), .int .i64 (d), .int .i64 (o)], .bool true]) (by simp [results, Tryz.results152, go_sem]) rfl ⟨⟨_, _, _, _, rfl, ?_⟩, ?_⟩
 ·rw [Hr.u]; rfl
 ·repeat (first | exact Below.refl _ _ | refine Below.alloc ?_ (by simp) _ | refine Below.setCell ?_ (by simp) _)
theorem onward_10c59n (d o : Int) (w : World) (hd0 : 0 ≤ d) (hd1 : d ≤ 18) (ho0 : 0 ≤ o) (ho1 : o ≤ 200) (hz : (o == 0) = false) :
  Calls Tryz.prog 152 #[.agg #[.int .i64 10, .int .i64 d, .int .i64 o], .int .u8 59] w fun e w' => SpotR (onwS 10 d o 59) e ∧ Below w.heap.size w w' := by
 have edig : digB 59 = false := rfl
 have eop : opB 59 = false := rfl
 have Hr : Hid (onwS 10 d o 59 = none) := by
  show _ = _
  unfold onwS
  simp +decide [*]
 go_enter Tryz.func152, Tryz.ntmps152
 go_wp2_with (first | (go_at_call 158; refine (dgt _ _).mono ?_; rintro e w' ⟨rfl, rfl⟩) | (go_at_call 161; refine (opr _ _).mono ?_; rintro e w' ⟨rfl, rfl⟩))
 refine bodyPost_ret (v := .tuple #[.agg #[.int .i64 (10), .int .i64 (d), .int .i64 (o)], .bool false]) (by simp [results, Tryz.results152, go_sem]) rfl ⟨⟨_, _, _, _, rfl, ?_⟩, ?_⟩
 ·rw [Hr.u]; rfl
 ·repeat (first | exact Below.refl _ _ | refine Below.alloc ?_ (by simp) _ | refine Below.setCell ?_ (by simp) _)
theorem onward_10c41p (d o : Int) (w : World) (hd0 : 0 ≤ d) (hd1 : d ≤ 18) (ho0 : 0 ≤ o) (ho1 : o ≤ 200) (hz : 0 < o) :
  Calls Tryz.prog 152 #[.agg #[.int .i64 10, .int .i64 d, .int .i64 o], .int .u8 41] w fun e w' => SpotR (onwS 10 d o 41) e ∧ Below w.heap.size w w' := by
 have edig : digB 41 = false := rfl
 have eop : opB 41 = false := rfl
 have Hr : Hid (onwS 10 d o 41 = some (11, d, o - 1)) := by
  show _ = _
  unfold onwS
  simp +decide [*]
 go_enter Tryz.func152, Tryz.ntmps152
 go_wp2_with (first | (go_at_call 158; refine (dgt _ _).mono ?_; rintro e w' ⟨rfl, rfl⟩) | (go_at_call 161; refine (opr _ _).mono ?_; rintro e w' ⟨rfl, rfl⟩))
 refine bodyPost_ret (v := .tuple #[.agg #[.int .i64 (11), .int .i64 (d), .int .i64 (o - 1)], .bool true]) (by simp [results, Tryz.results152, go_sem]) rfl ⟨⟨_, _, _, _, rfl, ?_⟩, ?_⟩
 ·rw [Hr.u]; rfl
 ·repeat (first | exact Below.refl _ _ | refine Below.alloc ?_ (by simp) _ | refine Below.setCell ?_ (by simp) _)
theorem onward_10c41n (d o : Int) (w : World) (hd0 : 0 ≤ d) (hd1 : d ≤ 18) (ho0 : 0 ≤ o) (ho1 : o ≤ 200) (hz : ¬ 0 < o) :
  Calls Tryz.prog 152 #[.agg #[.int .i64 10, .int .i64 d, .int .i64 o], .int .u8 41] w fun e w' => SpotR (onwS 10 d o 41) e ∧ Below w.heap.size w w' := by
 have edig : digB 41 = false := rfl
 have eop : opB 41 = false := rfl
 have Hr : Hid (onwS 10 d o 41 = none) := by
  show _ = _
  unfold onwS
  simp +decide [*]
 go_enter Tryz.func152, Tryz.ntmps152
 go_wp2_with (first | (go_at_call 158; refine (dgt _ _).mono ?_; rintro e w' ⟨rfl, rfl⟩) | (go_at_call 161; refine (opr _ _).mono ?_; rintro e w' ⟨rfl, rfl⟩))
 refine bodyPost_ret (v := .tuple #[.agg #[.int .i64 (10), .int .i64 (d), .int .i64 (o)], .bool false]) (by simp [results, Tryz.results152, go_sem]) rfl ⟨⟨_, _, _, _, rfl, ?_⟩, ?_⟩
 ·rw [Hr.u]; rfl
 ·repeat (first | exact Below.refl _ _ | refine Below.alloc ?_ (by simp) _ | refine Below.setCell ?_ (by simp) _)
theorem onward_10oth (d o c : Int) (w : World) (hd0 : 0 ≤ d) (hd1 : d ≤ 18) (ho0 : 0 ≤ o) (ho1 : o ≤ 200) (h32 : (c == 32) = false) (h59 : (c == 59) = false) (h41 : (c == 41) = false) (hd : digB c = false) (hp : opB c = false) :
  Calls Tryz.prog 152 #[.agg #[.int .i64 10, .int .i64 d, .int .i64 o], .int .u8 c] w fun e w' => SpotR (onwS 10 d o c) e ∧ Below w.heap.size w w' := by
 have Hr : Hid (onwS 10 d o c = none) := by
  show _ = _
  unfold onwS
  simp +decide [*]
 go_enter Tryz.func152, Tryz.ntmps152
 go_wp2_with (first | (go_at_call 158; refine (dgt _ _).mono ?_; rintro e w' ⟨rfl, rfl⟩) | (go_at_call 161; refine (opr _ _).mono ?_; rintro e w' ⟨rfl, rfl⟩))
 refine bodyPost_ret (v := .tuple #[.agg #[.int .i64 (10), .int .i64 (d), .int .i64 (o)], .bool false]) (by simp [results, Tryz.results152, go_sem]) rfl ⟨⟨_, _, _, _, rfl, ?_⟩, ?_⟩
 ·rw [Hr.u]; rfl
 ·repeat (first | exact Below.refl _ _ | refine Below.alloc ?_ (by simp) _ | refine Below.setCell ?_ (by simp) _)
theorem onward_11dig (d o c : Int) (w : World) (hd0 : 0 ≤ d) (hd1 : d ≤ 18) (ho0 : 0 ≤ o) (ho1 : o ≤ 200) (hc : digB c = true) :
  Calls Tryz.prog 152 #[.agg #[.int .i64 11, .int .i64 d, .int .i64 o], .int .u8 c] w fun e w' => SpotR (onwS 11 d o c) e ∧ Below w.heap.size w w' := by
 have n32 := dig_ne hc 32 rfl
 have n59 := dig_ne hc 59 rfl
 have n41 := dig_ne hc 41 rfl
 have hp : opB c = false := by cases h : opB c with | false => rfl | true => rw [op_dig h] at hc; cases hc
 have Hr : Hid (onwS 11 d o c = none) := by
  show _ = _
  unfold onwS
  simp +decide [*]
 go_enter Tryz.func152, Tryz.ntmps152
 go_wp2_with (first | (go_at_call 158; refine (dgt _ _).mono ?_; rintro e w' ⟨rfl, rfl⟩) | (go_at_call 161; refine (opr _ _).mono ?_; rintro e w' ⟨rfl, rfl⟩))
 refine bodyPost_ret (v := .tuple #[.agg #[.int .i64 (11), .int .i64 (d), .int .i64 (o)], .bool false]) (by simp [results, Tryz.results152, go_sem]) rfl ⟨⟨_, _, _, _, rfl, ?_⟩, ?_⟩
 ·rw [Hr.u]; rfl
 ·repeat (first | exact Below.refl _ _ | refine Below.alloc ?_ (by simp) _ | refine Below.setCell ?_ (by simp) _)
theorem onward_11c32 (d o : Int) (w : World) (hd0 : 0 ≤ d) (hd1 : d ≤ 18) (ho0 : 0 ≤ o) (ho1 : o ≤ 200) :
  Calls Tryz.prog 152 #[.agg #[.int .i64 11, .int .i64 d, .int .i64 o], .int .u8 32] w fun e w' => SpotR (onwS 11 d o 32) e ∧ Below w.heap.size w w' := by
 have edig : digB 32 = false := rfl
 have eop : opB 32 = false := rfl
 have Hr : Hid (onwS 11 d o 32 = some (11, d, o)) := by
  show _ = _
  unfold onwS
  simp +decide [*]
 go_enter Tryz.func152, Tryz.ntmps152
 go_wp2_with (first | (go_at_call 158; refine (dgt _ _).mono ?_; rintro e w' ⟨rfl, rfl⟩) | (go_at_call 161; refine (opr _ _).mono ?_; rintro e w' ⟨rfl, rfl⟩))
 refine bodyPost_ret (v := .tuple #[.agg #[.int .i64 (11), .int .i64 (d), .int .i64 (o)], .bool true]) (by simp [results, Tryz.results152, go_sem]) rfl ⟨⟨_, _, _, _, rfl, ?_⟩, ?_⟩
 ·rw [Hr.u]; rfl
 ·repeat (first | exact Below.refl _ _ | refine Below.alloc ?_ (by simp) _ | refine Below.setCell ?_ (by simp) _)
theorem onward_11op (d o c : Int) (w : World) (hd0 : 0 ≤ d) (hd1 : d ≤ 18) (ho0 : 0 ≤ o) (ho1 : o ≤ 200) (hc : opB c = true) :
  Calls Tryz.prog 152 #[.agg #[.int .i64 11, .int .i64 d, .int .i64 o], .int .u8 c] w fun e w' => SpotR (onwS 11 d o c) e ∧ Below w.heap.size w w' := by
 have n32 := op_ne hc 32 rfl
 have n59 := op_ne hc 59 rfl
 have n41 := op_ne hc 41 rfl
 have hd := op_dig hc
 have Hr : Hid (onwS 11 d o c = some (6, d, o)) := by
  show _ = _
  unfold onwS
  simp +decide [*]
 go_enter Tryz.func152, Tryz.ntmps152
 go_wp2_with (first | (go_at_call 158; refine (dgt _ _).mono ?_; rintro e w' ⟨rfl, rfl⟩) | (go_at_call 161; refine (opr _ _).mono ?_; rintro e w' ⟨rfl, rfl⟩))
 refine bodyPost_ret (v := .tuple #[.agg #[.int .i64 (6), .int .i64 (d), .int .i64 (o)], .bool true]) (by simp [results, Tryz.results152, go_sem]) rfl ⟨⟨_, _, _, _, rfl, ?_⟩, ?_⟩
 ·rw [Hr.u]; rfl
 ·repeat (first | exact Below.refl _ _ | refine Below.alloc ?_ (by simp) _ | refine Below.setCell ?_ (by simp) _)
theorem onward_11c59z (d o : Int) (w : World) (hd0 : 0 ≤ d) (hd1 : d ≤ 18) (ho0 : 0 ≤ o) (ho1 : o ≤ 200) (hz : (o == 0) = true) :
  Calls Tryz.prog 152 #[.agg #[.int .i64 11, .int .i64 d, .int .i64 o], .int .u8 59] w fun e w' => SpotR (onwS 11 d o 59) e ∧ Below w.heap.size w w' := by
 have edig : digB 59 = false := rfl
 have eop : opB 59 = false := rfl
 have Hr : Hid (onwS 11 d o 59 = some (6, d, o)) := by
  show _ = _
  unfold onwS
  simp +decide [*]
 go_enter Tryz.func152, Tryz.ntmps152
 go_wp2_with (first | (go_at_call 158; refine (dgt _ _).mono ?_; rintro e w' ⟨rfl, rfl⟩) | (go_at_call 161; refine (opr _ _).mono ?_; rintro e w' ⟨rfl, rfl⟩))
 refine bodyPost_ret (v := .tuple #[.agg #[.int .i64 (6), .int .i64 (d), .int .i64 (o)], .bool true]) (by simp [results, Tryz.results152, go_sem]) rfl ⟨⟨_, _, _, _, rfl, ?_⟩, ?_⟩
 ·rw [Hr.u]; rfl
 ·repeat (first | exact Below.refl _ _ | refine Below.alloc ?_ (by simp) _ | refine Below.setCell ?_ (by simp) _)
theorem onward_11c59n (d o : Int) (w : World) (hd0 : 0 ≤ d) (hd1 : d ≤ 18) (ho0 : 0 ≤ o) (ho1 : o ≤ 200) (hz : (o == 0) = false) :
  Calls Tryz.prog 152 #[.agg #[.int .i64 11, .int .i64 d, .int .i64 o], .int .u8 59] w fun e w' => SpotR (onwS 11 d o 59) e ∧ Below w.heap.size w w' := by
 have edig : digB 59 = false := rfl
 have eop : opB 59 = false := rfl
 have Hr : Hid (onwS 11 d o 59 = none) := by
  show _ = _
  unfold onwS
  simp +decide [*]
 go_enter Tryz.func152, Tryz.ntmps152
 go_wp2_with (first | (go_at_call 158; refine (dgt _ _).mono ?_; rintro e w' ⟨rfl, rfl⟩) | (go_at_call 161; refine (opr _ _).mono ?_; rintro e w' ⟨rfl, rfl⟩))
 refine bodyPost_ret (v := .tuple #[.agg #[.int .i64 (11), .int .i64 (d), .int .i64 (o)], .bool false]) (by simp [results, Tryz.results152, go_sem]) rfl ⟨⟨_, _, _, _, rfl, ?_⟩, ?_⟩
 ·rw [Hr.u]; rfl
 ·repeat (first | exact Below.refl _ _ | refine Below.alloc ?_ (by simp) _ | refine Below.setCell ?_ (by simp) _)
theorem onward_11c41p (d o : Int) (w : World) (hd0 : 0 ≤ d) (hd1 : d ≤ 18) (ho0 : 0 ≤ o) (ho1 : o ≤ 200) (hz : 0 < o) :
  Calls Tryz.prog 152 #[.agg #[.int .i64 11, .int .i64 d, .int .i64 o], .int .u8 41] w fun e w' => SpotR (onwS 11 d o 41) e ∧ Below w.heap.size w w' := by
 have edig : digB 41 = false := rfl
 have eop : opB 41 = false := rfl
 have Hr : Hid (onwS 11 d o 41 = some (11, d, o - 1)) := by
  show _ = _
  unfold onwS
  simp +decide [*]
 go_enter Tryz.func152, Tryz.ntmps152
 go_wp2_with (first | (go_at_call 158; refine (dgt _ _).mono ?_; rintro e w' ⟨rfl, rfl⟩) | (go_at_call 161; refine (opr _ _).mono ?_; rintro e w' ⟨rfl, rfl⟩))
 refine bodyPost_ret (v := .tuple #[.agg #[.int .i64 (11), .int .i64 (d), .int .i64 (o - 1)], .bool true]) (by simp [results, Tryz.results152, go_sem]) rfl ⟨⟨_, _, _, _, rfl, ?_⟩, ?_⟩
 ·rw [Hr.u]; rfl
 ·repeat (first | exact Below.refl _ _ | refine Below.alloc ?_ (by simp) _ | refine Below.setCell ?_ (by simp) _)
theorem onward_11c41n (d o : Int) (w : World) (hd0 : 0 ≤ d) (hd1 : d ≤ 18) (ho0 : 0 ≤ o) (ho1 : o ≤ 200) (hz : ¬ 0 < o) :
  Calls Tryz.prog 152 #[.agg #[.int .i64 11, .int .i64 d, .int .i64 o], .int .u8 41] w fun e w' => SpotR (onwS 11 d o 41) e ∧ Below w.heap.size w w' := by
 have edig : digB 41 = false := rfl
 have eop : opB 41 = false := rfl
 have Hr : Hid (onwS 11 d o 41 = none) := by
  show _ = _
  unfold onwS
  simp +decide [*]
 go_enter Tryz.func152, Tryz.ntmps152
 go_wp2_with (first | (go_at_call 158; refine (dgt _ _).mono ?_; rintro e w' ⟨rfl, rfl⟩) | (go_at_call 161; refine (opr _ _).mono ?_; rintro e w' ⟨rfl, rfl⟩))
 refine bodyPost_ret (v := .tuple #[.agg #[.int .i64 (11), .int .i64 (d), .int .i64 (o)], .bool false]) (by simp [results, Tryz.results152, go_sem]) rfl ⟨⟨_, _, _, _, rfl, ?_⟩, ?_⟩
 ·rw [Hr.u]; rfl
 ·repeat (first | exact Below.refl _ _ | refine Below.alloc ?_ (by simp) _ | refine Below.setCell ?_ (by simp) _)
theorem onward_11oth (d o c : Int) (w : World) (hd0 : 0 ≤ d) (hd1 : d ≤ 18) (ho0 : 0 ≤ o) (ho1 : o ≤ 200) (h32 : (c == 32) = false) (h59 : (c == 59) = false) (h41 : (c == 41) = false) (hd : digB c = false) (hp : opB c = false) :
  Calls Tryz.prog 152 #[.agg #[.int .i64 11, .int .i64 d, .int .i64 o], .int .u8 c] w fun e w' => SpotR (onwS 11 d o c) e ∧ Below w.heap.size w w' := by
 have Hr : Hid (onwS 11 d o c = none) := by
  show _ = _
  unfold onwS
  simp +decide [*]
 go_enter Tryz.func152, Tryz.ntmps152
 go_wp2_with (first | (go_at_call 158; refine (dgt _ _).mono ?_; rintro e w' ⟨rfl, rfl⟩) | (go_at_call 161; refine (opr _ _).mono ?_; rintro e w' ⟨rfl, rfl⟩))
 refine bodyPost_ret (v := .tuple #[.agg #[.int .i64 (11), .int .i64 (d), .int .i64 (o)], .bool false]) (by simp [results, Tryz.results152, go_sem]) rfl ⟨⟨_, _, _, _, rfl, ?_⟩, ?_⟩
 ·rw [Hr.u]; rfl
 ·repeat (first | exact Below.refl _ _ | refine Below.alloc ?_ (by simp) _ | refine Below.setCell ?_ (by simp) _)
theorem onward_any (a d o c : Int) (w : World) (ha : a = 7 ∨ a = 10 ∨ a = 11) (hd0 : 0 ≤ d) (hd1 : d ≤ 18) (ho0 : 0 ≤ o) (ho1 : o ≤ 200) :
  Calls Tryz.prog 152 #[.agg #[.int .i64 a, .int .i64 d, .int .i64 o], .int .u8 c] w fun e w' => SpotR (onwS a d o c) e ∧ Below w.heap.size w w' := by
 by_cases h32 : c = 32
 ·subst h32
  rcases ha with rfl | rfl | rfl
  ·exact onward_7c32 d o w hd0 hd1 ho0 ho1
  ·exact onward_10c32 d o w hd0 hd1 ho0 ho1
  ·exact onward_11c32 d o w hd0 hd1 ho0 ho1
 by_cases h59 : c = 59
 ·subst h59
  cases hz : (o == 0) with
  | true =>
   rcases ha with rfl | rfl | rfl
   ·exact onward_7c59z d o w hd0 hd1 ho0 ho1 hz
   ·exact onward_10c59z d o w hd0 hd1 ho0 ho1 hz
   ·exact onward_11c59z d o w hd0 hd1 ho0 ho1 hz
  | false =>
   rcases ha with rfl | rfl | rfl
   ·exact onward_7c59n d o w hd0 hd1 ho0 ho1 hz
   ·exact onward_10c59n d o w hd0 hd1 ho0 ho1 hz
   ·exact onward_11c59n d o w hd0 hd1 ho0 ho1 hz
 by_cases h41 : c = 41
 ·subst h41
  by_cases hz : 0 < o
  ·rcases ha with rfl | rfl | rfl
   ·exact onward_7c41p d o w hd0 hd1 ho0 ho1 hz
   ·exact onward_10c41p d o w hd0 hd1 ho0 ho1 hz
   ·exact onward_11c41p d o w hd0 hd1 ho0 ho1 hz
  ·rcases ha with rfl | rfl | rfl
   ·exact onward_7c41n d o w hd0 hd1 ho0 ho1 hz
   ·exact onward_10c41n d o w hd0 hd1 ho0 ho1 hz
   ·exact onward_11c41n d o w hd0 hd1 ho0 ho1 hz
 cases hdig : digB c with
 | true =>
  rcases ha with rfl | rfl | rfl
  ·by_cases h18 : d < 18
   ·exact onward_7dig d o c w hd0 hd1 ho0 ho1 hdig h18
   ·exact onward_7dig18 d o c w hd0 hd1 ho0 ho1 hdig h18
  ·exact onward_10dig d o c w hd0 hd1 ho0 ho1 hdig
  ·exact onward_11dig d o c w hd0 hd1 ho0 ho1 hdig
 | false =>
 cases hop : opB c with
 | true =>
  rcases ha with rfl | rfl | rfl
  ·exact onward_7op d o c w hd0 hd1 ho0 ho1 hop
  ·exact onward_10op d o c w hd0 hd1 ho0 ho1 hop
  ·exact onward_11op d o c w hd0 hd1 ho0 ho1 hop
 | false =>
 rcases ha with rfl | rfl | rfl
 ·exact onward_7oth d o c w hd0 hd1 ho0 ho1 (beq_false_of h32) (beq_false_of h59) (beq_false_of h41) hdig hop
 ·exact onward_10oth d o c w hd0 hd1 ho0 ho1 (beq_false_of h32) (beq_false_of h59) (beq_false_of h41) hdig hop
 ·exact onward_11oth d o c w hd0 hd1 ho0 ho1 (beq_false_of h32) (beq_false_of h59) (beq_false_of h41) hdig hop
end Go.Proofs.YtdchbenfccofpaaGreatDoor
