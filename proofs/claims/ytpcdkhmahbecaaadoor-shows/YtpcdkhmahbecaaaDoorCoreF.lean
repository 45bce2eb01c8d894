/- The pile: how many it holds; kinds of the program and of the document. -/
import Derived.Test.YtpcdkhmahbecaaaDoorCoreE
namespace Db

/-- How many are on the pile; none: too few. -/
def dpt : List Pt → Nat → Option Nat
  | [], c => some c
  | p :: r, c => if opdB p.1 then dpt r (c + 1) else if p.1 == 126 then (if 1 ≤ c then dpt r c else none) else if opB p.1 && decide (2 ≤ c) then dpt r (c - 1) else none
theorem opnd_opd {e : List UInt8} {ps : List Pt} (h : Opnd e ps) : ∃ p, ps = [p] ∧ opdB p.1 = true := by
  rcases h with ⟨_, _, _, rfl⟩ | ⟨c, ds, _, _, _, hs, rfl⟩
  · exact ⟨_, rfl, rfl⟩
  · refine ⟨_, rfl, ?_⟩
    unfold opdB
    rcases hs with ⟨hs, _⟩ | ⟨hs, _⟩ <;> simp [hs]
theorem wf_dpt {n : Nat} : ∀ {e : List UInt8} {ps : List Pt}, Wf n e ps → ∀ q c, dpt (ps ++ q) c = dpt q (c + 1) := by
  induction n with
  | zero => intro e ps h; exact absurd h (by simp [Wf])
  | succ n ih =>
    intro e ps h q c
    rcases h with ⟨_, h⟩ | ⟨_, h2⟩ | ⟨_, p, h2, rfl⟩ | ⟨h1, p, r, h2, h3, rfl⟩
    · obtain ⟨p, rfl, hp⟩ := opnd_opd h
      simp [dpt, hp]
    · exact ih h2 q c
    · rw [List.append_assoc, ih h2]
      show dpt ((126, 0) :: q) (c + 1) = _
      simp [dpt, opdB, selB, oldB]
    · rw [List.append_assoc, List.append_assoc, ih h2, ih h3]
      have := opd_op h1
      show dpt (((cut e).1, 0) :: q) (c + 1 + 1) = _
      simp [dpt, this.1, this.2, h1]
theorem wf_kind {n : Nat} (rows : List Int) : ∀ {e : List UInt8} {ps : List Pt}, Wf n e ps → ∃ k, ∀ q st, kEval rows (ps ++ q) st = kEval rows q (k :: st) := by
  induction n with
  | zero => intro e ps h; exact absurd h (by simp [Wf])
  | succ n ih =>
    intro e ps h
    rcases h with ⟨_, h⟩ | ⟨_, h2⟩ | ⟨_, p, h2, rfl⟩ | ⟨h1, p, r, h2, h3, rfl⟩
    · obtain ⟨p, rfl, hp⟩ := opnd_opd h
      exact ⟨_, fun q st => kEval_leaf rows p q st hp⟩
    · exact ih h2
    · obtain ⟨k, hk⟩ := ih h2
      exact ⟨k, fun q st => kEval_neg rows p q k hk st⟩
    · obtain ⟨a, ha⟩ := ih h2
      obtain ⟨b, hb⟩ := ih h3
      exact ⟨_, fun q st => kEval_bin rows _ h1 p r q a b ha hb st⟩
/-- What takes what it does not take stays so. -/
theorem zero_stays (rows : List Int) (ps : List Pt) : ∀ st, (0 : Int) ∈ st → (0 : Int) ∈ kEval rows ps st := by
  induction ps with
  | nil => intro st h; exact h
  | cons p r ih =>
    intro st h
    unfold kEval
    split
    · exact ih _ (by simp [h])
    · split
      · exact ih _ h
      · match st, h with
        | [], h => exact h
        | [x], h => exact h
        | y :: x :: t, h =>
          refine ih _ ?_
          simp at h ⊢
          rcases h with h | h | h
          · left; subst h; simp [joinK]
          · left; subst h; simp [joinK]
          · right; exact h
/-- The document's kind of a kind of the program (0: a number, 1: money). -/
def toR (k : Int) : Int := 2 - k
/-- What joinKinds answers. -/
def jk (o l r : Int) : Int × Bool :=
  if o == 42 then (if l == 1 && r == 1 then (0, false) else if l == 1 || r == 1 then (1, true) else (0, true))
  else if o == 47 then (if l == 0 && r == 1 then (0, false) else if l == 1 && r == 0 then (1, true) else (0, true))
  else if l != r then (0, false) else (l, true)
theorem jk_join (o l r : Int) (ho : opB o = true) (hl : l = 0 ∨ l = 1) (hr : r = 0 ∨ r = 1) : joinK o (toR l) (toR r) = (if (jk o l r).2 then toR (jk o l r).1 else 0) ∧ ((jk o l r).1 = 0 ∨ (jk o l r).1 = 1) := by
  simp [opB] at ho
  rcases ho with ((rfl | rfl) | rfl) | rfl <;> rcases hl with rfl | rfl <;> rcases hr with rfl | rfl <;> decide

end Db
