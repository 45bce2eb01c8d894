/- Plain functions on lists of bytes: what the document's answer (the text package) does, said without the program; and facts on them. -/
import Derived.KernelRfl
namespace Db

/-- The bytes of a string. -/
def L (s : ByteArray) : List UInt8 := s.data.toList
theorem L_length (s : ByteArray) : (L s).length = s.size := by unfold L; rw [Array.length_toList]; rfl
theorem L_get (s : ByteArray) (k : Nat) (h : k < s.size) : (L s)[k]'(by rw [L_length]; exact h) = s[k] := by simp [L]; rfl
theorem L_get? (s : ByteArray) (k : Nat) (h : k < s.size) : (L s)[k]? = some s[k] := by
  rw [List.getElem?_eq_getElem (by rw [L_length]; exact h), L_get]
theorem L_drop (s : ByteArray) (k : Nat) (h : k < s.size) : (L s).drop k = s[k] :: (L s).drop (k + 1) := by
  rw [List.drop_eq_getElem_cons (by rw [L_length]; exact h), L_get]
theorem L_drop_end (s : ByteArray) (k : Nat) (h : s.size ≤ k) : (L s).drop k = [] := List.drop_eq_nil_of_le (by rw [L_length]; exact h)
theorem L_append (s t : ByteArray) : L (s ++ t) = L s ++ L t := by simp [L]
theorem L_extract (s : ByteArray) (a b : Nat) : L (s.extract a b) = ((L s).drop a).take (b - a) := by
  simp [L, ByteArray.data_extract, List.extract_eq_take_drop]
theorem L_inj {s t : ByteArray} (h : L s = L t) : s = t := by
  cases s; cases t; simp [L] at h; rw [h]

theorem L_take_succ (s : ByteArray) (k : Nat) (h : k < s.size) : (L s).take (k + 1) = (L s).take k ++ [s[k]] := by
  rw [List.take_succ_eq_append_getElem (by rw [L_length]; exact h), L_get]
theorem L_take_end (s : ByteArray) (k : Nat) (h : s.size ≤ k) : (L s).take k = L s := List.take_of_length_le (by rw [L_length]; exact h)
theorem L_one (s : ByteArray) (k : Nat) (h : k < s.size) : L (s.extract k (k + 1)) = [s[k]] := by
  rw [L_extract, L_drop s k h]; simp
theorem L_empty : L ⟨#[]⟩ = [] := rfl

/-- The value of digits, from n on. -/
def valGo (n : Int) : List UInt8 → Int
  | [] => n
  | c :: r => valGo (10 * n + ((c.toNat : Int) - 48)) r
def val (l : List UInt8) : Int := valGo 0 l
def isDig (c : UInt8) : Prop := 48 ≤ c.toNat ∧ c.toNat ≤ 57

/-- A text without its blanks. -/
def bare (l : List UInt8) : List UInt8 := l.filter fun c => c.toNat != 32

theorem bare_append (a b : List UInt8) : bare (a ++ b) = bare a ++ bare b := by simp [bare]
theorem bare_blank {c : UInt8} (h : c.toNat = 32) : bare [c] = [] := by simp [bare, h]
theorem bare_other {c : UInt8} (h : ¬ c.toNat = 32) : bare [c] = [c] := by simp [bare, h]
theorem bare_le (a : List UInt8) : (bare a).length ≤ a.length := List.length_filter_le _ _

/-- The parts of a text between the bytes c. -/
def splitGo (c : UInt8) (acc : List (List UInt8)) (cur : List UInt8) : List UInt8 → List (List UInt8)
  | [] => acc ++ [cur]
  | x :: r => if x = c then splitGo c (acc ++ [cur]) [] r else splitGo c acc (cur ++ [x]) r
def split (l : List UInt8) (c : UInt8) : List (List UInt8) := splitGo c [] [] l

/-- A byte (as a number) is a digit; one of @ ! #; one of $ <; one of + - * /. -/
def digB (c : Int) : Bool := decide (48 ≤ c) && decide (c ≤ 57)
def selB (c : Int) : Bool := c == 64 || c == 33 || c == 35
def oldB (c : Int) : Bool := c == 36 || c == 60
def opB (c : Int) : Bool := c == 43 || c == 45 || c == 42 || c == 47

/-- Stands an operation between two operands at c, when p stands ahead of it (-1: nothing)? -/
def binB (p c : Int) : Bool := opB c && (digB p || p == 41)
def dep (k c : Int) : Int := if c == 40 then k + 1 else if c == 41 then k - 1 else k
def hit (a b p k at_ i c : Int) : Int := if binB p c && k == 0 && (c == a || c == b) then i else at_

/-- Where the operation a or b stands that is worked out last. -/
def finGo (a b : Int) (p k at_ i : Int) : List UInt8 → Int
  | [] => at_
  | c :: r => finGo a b c.toNat (dep k c.toNat) (hit a b p (dep k c.toNat) at_ i c.toNat) (i + 1) r
def fin (l : List UInt8) (a b : Int) : Int := finGo a b (-1) 0 (-1) 0 l

theorem finGo_lt (a b : Int) (l : List UInt8) : ∀ p k at_ i : Int, at_ < i → finGo a b p k at_ i l < i + l.length := by
  induction l with
  | nil => intro p k at_ i h; simpa [finGo] using h
  | cons c r ih =>
    intro p k at_ i h
    have := ih c.toNat (dep k c.toNat) (hit a b p (dep k c.toNat) at_ i c.toNat) (i + 1) (by unfold hit; split <;> omega)
    simp only [finGo, List.length_cons]
    omega
theorem fin_lt (l : List UInt8) (a b : Int) : fin l a b < l.length := by
  have := finGo_lt a b l (-1) 0 (-1) 0 (by omega)
  unfold fin; omega

/-- Where an expression is cut; -1: nowhere. -/
def cutAt (l : List UInt8) : Int := if fin l 43 45 < 0 then fin l 42 47 else fin l 43 45
theorem cutAt_lt (l : List UInt8) : cutAt l < l.length := by
  unfold cutAt; split
  · exact fin_lt _ _ _
  · exact fin_lt _ _ _
/-- The sign, what stands left, what stands right. -/
def cut (l : List UInt8) : Int × List UInt8 × List UInt8 :=
  if 0 < cutAt l then (((l.getD (cutAt l).toNat 0).toNat : Int), l.take (cutAt l).toNat, l.drop ((cutAt l).toNat + 1))
  else if 1 < l.length ∧ ((l.getD 0 0).toNat : Int) = 45 then (126, [], l.drop 1)
  else if 2 < l.length ∧ ((l.getD 0 0).toNat : Int) = 40 then (40, [], (l.drop 1).take (l.length - 2))
  else (0, [], l)

/-- The next spot within the periods: state, digits, open brackets; none: the byte cannot stand there. -/
def daysS (a d o c : Int) : Option (Int × Int × Int) :=
  if digB c && (a == 0 || a == 3) then some (a + 1, 1, o)
  else if digB c && (a == 1 || a == 4) && decide (d < 3) then some (a, d + 1, o)
  else if c == 32 && (a == 1 || a == 4) then some (a + 1, d, o)
  else if c == 32 then some (a, d, o)
  else if c == 45 && (a == 1 || a == 2) then some (3, d, o)
  else if c == 44 && (a == 4 || a == 5) then some (0, d, o)
  else if c == 124 && (a == 4 || a == 5) then some (6, d, o)
  else none
/-- The next spot ahead of a factor or within an operand that is not complete. -/
def factS (a d o c : Int) : Option (Int × Int × Int) :=
  if a == 6 && (c == 32 || c == 45) then some (a, d, o)
  else if a == 6 && c == 40 then some (a, d, o + 1)
  else if a == 6 && digB c then some (7, 1, o)
  else if a == 6 && selB c then some (8, d, o)
  else if a == 6 && oldB c then some (9, d, o)
  else if a == 8 && digB c then some (10, d, o)
  else if a == 9 && digB c then some (11, d, o)
  else none
/-- The next spot behind an operand that is, or may be, complete. -/
def onwS (a d o c : Int) : Option (Int × Int × Int) :=
  if a == 7 && digB c && decide (d < 18) then some (a, d + 1, o)
  else if (a == 10 && digB c) || c == 32 then some (11, d, o)
  else if opB c || (c == 59 && o == 0) then some (6, d, o)
  else if c == 41 && decide (0 < o) then some (11, d, o - 1)
  else none
def stepS (a d o c : Int) : Option (Int × Int × Int) :=
  if a < 6 then daysS a d o c else if a == 6 || a == 8 || a == 9 then factS a d o c else onwS a d o c
/-- The place of the first byte that cannot stand there, or the end; -1: a report by its form. -/
def plc (a d o i : Int) : List UInt8 → Int
  | [] => if (a == 7 || a == 10 || a == 11) && !decide (0 < o) then -1 else i
  | c :: r => match stepS a d o c.toNat with
    | none => i
    | some (a', d', o') => plc a' d' o' (i + 1) r
/-- A spot as it is met. -/
def okS (a d o : Int) (n : Nat) : Prop := 0 ≤ a ∧ a ≤ 11 ∧ 0 ≤ d ∧ d ≤ 18 ∧ 0 ≤ o ∧ o ≤ n

end Db
