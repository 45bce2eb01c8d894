/- Texts with a sign between each two. -/
import Derived.Test.YtpcdkhmahbecaaaGreatDoorCore
namespace Db

def jn (sep : UInt8) : List (List UInt8) → List UInt8
  | [] => []
  | x :: r => x ++ r.flatMap (fun y => sep :: y)
theorem jn_one {sep : UInt8} {l : List (List UInt8)} {x : List UInt8} (h : l[0]? = some x) : jn sep (l.take 1) = x := by
  cases l with
  | nil => simp at h
  | cons y r => simp at h; subst h; simp [jn]
theorem jn_more {sep : UInt8} {l : List (List UInt8)} {i : Nat} {x : List UInt8} (hi : 0 < i) (h : l[i]? = some x) : jn sep (l.take (i + 1)) = jn sep (l.take i) ++ sep :: x := by
  cases l with
  | nil => simp at h
  | cons y r =>
    obtain ⟨k, rfl⟩ : ∃ k, i = k + 1 := ⟨i - 1, by omega⟩
    simp only [List.getElem?_cons_succ] at h
    simp only [List.take_succ_cons, jn]
    rw [List.take_add_one, h]
    simp
end Db
