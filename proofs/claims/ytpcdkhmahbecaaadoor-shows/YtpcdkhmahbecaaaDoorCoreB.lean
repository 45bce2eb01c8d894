/- Facts on the steps of a spot. -/
import Derived.Test.YtpcdkhmahbecaaaDoorCore
namespace Db
theorem plc_step {a d o i : Int} {c : UInt8} {r : List UInt8} {a' d' o' : Int} (h : stepS a d o c.toNat = some (a', d', o')) : plc a d o i (c :: r) = plc a' d' o' (i + 1) r := by
  simp only [plc, h]
theorem plc_stop {a d o i : Int} {c : UInt8} {r : List UInt8} (h : stepS a d o c.toNat = none) : plc a d o i (c :: r) = i := by
  simp only [plc, h]
theorem stepS_ok {a d o c : Int} {n : Nat} {a' d' o' : Int} (h : okS a d o n) (hs : stepS a d o c = some (a', d', o')) : okS a' d' o' (n + 1) := by
  obtain ⟨h1, h2, h3, h4, h5, h6⟩ := h
  have key : ∀ x : Option (Int × Int × Int), x = some (a', d', o') → (∀ p, x = some p → okS p.1 p.2.1 p.2.2 (n + 1)) → okS a' d' o' (n + 1) := fun x hx hp => hp _ hx
  refine key _ hs ?_
  intro p hp
  unfold stepS at hp
  split at hp
  · unfold daysS at hp
    repeat' split at hp
    all_goals first | (cases hp; done) | (obtain rfl := Option.some.inj hp; refine ⟨?_, ?_, ?_, ?_, ?_, ?_⟩ <;> (try simp_all) <;> omega)
  · split at hp
    · unfold factS at hp
      repeat' split at hp
      all_goals first | (cases hp; done) | (obtain rfl := Option.some.inj hp; refine ⟨?_, ?_, ?_, ?_, ?_, ?_⟩ <;> (try simp_all) <;> omega)
    · unfold onwS at hp
      repeat' split at hp
      all_goals first | (cases hp; done) | (obtain rfl := Option.some.inj hp; refine ⟨?_, ?_, ?_, ?_, ?_, ?_⟩ <;> (try simp_all) <;> omega)
end Db
