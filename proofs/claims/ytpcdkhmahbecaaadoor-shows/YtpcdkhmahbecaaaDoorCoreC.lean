/- Rows: their parts, their kinds; what the document's cutting makes of them. -/
import Derived.Test.YtpcdkhmahbecaaaDoorCoreB
namespace Db

/-- The kind of what comes of an operation: 0 none, 1 money, 2 number. -/
def joinK (o a b : Int) : Int :=
  if a == 0 || b == 0 then 0
  else if o == 43 || o == 45 then (if a == b then a else 0)
  else if o == 42 && a == 1 && b == 1 then 0
  else if o == 42 && (a == 1 || b == 1) then 1
  else if o == 47 && a == 1 && b == 2 then 1
  else if o == 47 && a == 2 && b == 1 then 0
  else 2
theorem joinK_bd (o a b : Int) (ha : 0 ≤ a ∧ a ≤ 2) : 0 ≤ joinK o a b ∧ joinK o a b ≤ 2 := by
  unfold joinK; repeat' split
  all_goals omega

/-- A part: its sign, its number. (48: a number; 126: a - ahead.) -/
abbrev Pt := Int × Int
def opdB (s : Int) : Bool := s == 48 || selB s || oldB s
def leafK (rows : List Int) (p : Pt) : Int := if p.1 == 64 || p.1 == 33 then 1 else if oldB p.1 then rows.getD p.2.toNat 0 else 2
/-- The kinds on the pile. -/
def kEval (rows : List Int) : List Pt → List Int → List Int
  | [], st => st
  | p :: r, st => if opdB p.1 then kEval rows r (leafK rows p :: st) else if p.1 == 126 then kEval rows r st else
    match st with
    | y :: x :: t => kEval rows r (joinK p.1 x y :: t)
    | _ => st

/-- An operand and its part. -/
def Opnd (e : List UInt8) (ps : List Pt) : Prop :=
  (1 ≤ e.length ∧ e.length ≤ 18 ∧ (∀ c ∈ e, digB c.toNat = true) ∧ ps = [(48, val e)]) ∨
  ∃ c ds, e = c :: ds ∧ 1 ≤ ds.length ∧ (∀ x ∈ ds, digB x.toNat = true) ∧ ((selB c.toNat = true ∧ ds.length ≤ 2) ∨ (oldB c.toNat = true ∧ ds.length = 1)) ∧ ps = [((c.toNat : Int), val ds)]

/-- e, cut again and again, comes to these parts. -/
def Wf : Nat → List UInt8 → List Pt → Prop
  | 0, _, _ => False
  | n + 1, e, ps => (cut e = (0, [], e) ∧ Opnd e ps) ∨ ((cut e).1 = 40 ∧ Wf n (cut e).2.2 ps) ∨ ((cut e).1 = 126 ∧ ∃ p, Wf n (cut e).2.2 p ∧ ps = p ++ [(126, 0)]) ∨
      (opB (cut e).1 = true ∧ ∃ p q, Wf n (cut e).2.1 p ∧ Wf n (cut e).2.2 q ∧ ps = p ++ q ++ [((cut e).1, 0)])

/-- Names a row a row that is not ahead of it? -/
def rch (row : Int) : List UInt8 → Bool
  | [] => false
  | c :: r => (oldB c.toNat && (match r with | [] => false | d :: _ => decide (row ≤ (d.toNat : Int) - 48))) || rch row r
/-- Behind $ and < a digit stands. -/
def oldDig : List UInt8 → Prop
  | [] => True
  | c :: r => (oldB c.toNat = true → match r with | [] => True | d :: _ => digB d.toNat = true) ∧ oldDig r

theorem opd_op {o : Int} (h : opB o = true) : opdB o = false ∧ (o == 126) = false := by
  simp [opB] at h; rcases h with ((rfl | rfl) | rfl) | rfl <;> exact ⟨rfl, rfl⟩

theorem cut_le (l : List UInt8) : (cut l).2.1.length ≤ l.length ∧ (cut l).2.2.length ≤ l.length := by
  unfold cut
  split
  · exact ⟨by simp; omega, by simp⟩
  · split
    · exact ⟨by simp, by simp⟩
    · split
      · exact ⟨by simp, by simp; omega⟩
      · exact ⟨by simp, by simp⟩
theorem kEval_leaf (rows : List Int) (p : Pt) (q : List Pt) (st : List Int) (h : opdB p.1 = true) : kEval rows ([p] ++ q) st = kEval rows q (leafK rows p :: st) := by
  simp [kEval, h]
theorem kEval_neg (rows : List Int) (p q : List Pt) (k : Int) (h : ∀ q st, kEval rows (p ++ q) st = kEval rows q (k :: st)) (st : List Int) : kEval rows (p ++ [(126, 0)] ++ q) st = kEval rows q (k :: st) := by
  rw [List.append_assoc, h]; rfl
theorem kEval_bin (rows : List Int) (o : Int) (ho : opB o = true) (p q r : List Pt) (a b : Int) (hp : ∀ q st, kEval rows (p ++ q) st = kEval rows q (a :: st)) (hq : ∀ r st, kEval rows (q ++ r) st = kEval rows r (b :: st)) (st : List Int) :
    kEval rows (p ++ q ++ [(o, 0)] ++ r) st = kEval rows r (joinK o a b :: st) := by
  rw [List.append_assoc, List.append_assoc, hp, hq]
  have := opd_op ho
  simp [kEval, this.1, this.2]

end Db
