/- Walks of the small functions on bytes (nothing is said of the program beyond them). -/
import Derived.Test.YtpcdkhmahbecaaaGreatDoorRows
import Derived.Test.YtpcdkhmahbecaaaGreatDoorCore
import Derived.WalkKit
import Derived.WalkSpells
import Derived.WalkLawsBesides
import Derived.Deep.QuietTactic
import Derived.BigQuiet
namespace Go.Proofs.YtpcdkhmahbecaaaGreatDoor
open Go.RowKit Db

theorem hide {p : Prop} (h : p) : Hid p := h
theorem unhide {p : Prop} (h : Hid p) : p := h
set_option maxHeartbeats 400000 in
theorem digit_any (c : Int) (w : World) :
    Calls Tryz.prog 89 #[.int .u8 c] w fun e w' => e = .returned (.bool (digB c)) ∧ w' = w := by
  by_cases h1 : 48 ≤ c <;> by_cases h2 : c ≤ 57
  all_goals
    go_enter Tryz.func89, Tryz.ntmps89
    go_wp2
    go_ret
    exact ⟨by simp [digB] <;> omega, rfl⟩

set_option maxHeartbeats 400000 in
theorem selector_any (c : Int) (w : World) :
    Calls Tryz.prog 91 #[.int .u8 c] w fun e w' => e = .returned (.bool (selB c)) ∧ w' = w := by
  by_cases h1 : (c == 64) = true <;> by_cases h2 : (c == 33) = true
  all_goals
    go_enter Tryz.func91, Tryz.ntmps91
    go_wp2
    go_ret
    exact ⟨by simp_all [selB], rfl⟩

set_option maxHeartbeats 400000 in
theorem older_any (c : Int) (w : World) :
    Calls Tryz.prog 86 #[.int .u8 c] w fun e w' => e = .returned (.bool (oldB c)) ∧ w' = w := by
  by_cases h1 : (c == 36) = true
  all_goals
    go_enter Tryz.func86, Tryz.ntmps86
    go_wp2
    go_ret
    exact ⟨by simp_all [oldB], rfl⟩

set_option maxHeartbeats 400000 in
theorem operation_any (c : Int) (w : World) :
    Calls Tryz.prog 92 #[.int .u8 c] w fun e w' => e = .returned (.bool (opB c)) ∧ w' = w := by
  by_cases h1 : (c == 43) = true <;> by_cases h2 : (c == 45) = true <;> by_cases h3 : (c == 42) = true
  all_goals
    go_enter Tryz.func92, Tryz.ntmps92
    go_wp2
    go_ret
    exact ⟨by simp_all [opB], rfl⟩

end Go.Proofs.YtpcdkhmahbecaaaGreatDoor
